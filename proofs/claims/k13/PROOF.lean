import PyProof.Rows.All
import Wide.All
import OpenK.AllK
import Wide.FinOn
import HandS.ForMost
import HandS.More
import HandS.Wide
import HandS.WideBits
import HandS.Defaults
import HandS.IsInst
import HandS.Gcd
import HandS.Star
import HandS.ClsMeth
import HandS.Property
import HandS.DictComp
import HandS.StrMore
import HandS.FStr
import KE.KCallOwn
import HandS.Codes
import HandS.Walk
import HandS.Style
import PySem.Challenge.RW_calledmidway_k13_what_is_a_number_or_a_n
set_option Elab.async false
set_option linter.all false
set_option maxRecDepth 100000

/-! ## KG -/
section
/-! A layer of our own over the hand layer: defs whose calls know that no repr is under way. -/
namespace KG
open PySem PySem.Spec PyProof.Rows L2

/-- the positional promise of a def, where nothing is being shown around it -/
def FnG (P : Program) (w : World) (K : PySem.W.Frag) (mg : Str → Option Value) (base : Heap)
    (k : Nat) (f : Addr) (sp : Sp) : Prop :=
  ∀ (A : Around) (outer : List Env) (s : Shared) (H : Hp) (us : List Value) (vs : List V) (Q : VK) (E : XK),
    Room k A → A.guards = some [] → Env0 P w K mg base A outer s H → Vals vs us → sp vs H Q E →
      codeAny (model P w) A (.call (.ref f) ⟨us, []⟩) (CR CX0 outer P w H s Q E) s

theorem FnG.ofR {P : Program} {w : World} {K : PySem.W.Frag} {mg : Str → Option Value} {base : Heap}
    {k : Nat} {f : Addr} {sp : Sp} (F : FnR P w K mg base CX0 k f sp) : FnG P w K mg base k f sp :=
  fun A outer s H us vs Q E hr _ e r h => F A outer s H us vs Q E hr e r h

/-- a def's promise by its body, the guards being known -/
theorem fnG_of {P : Program} {w : World} {K : PySem.W.Frag} {mg : Str → Option Value} {base : Heap}
    {x qual : Str} {st : Stmt} {f : Addr} {fd : FuncData} {N ps : List Str} {k : Nat} {sp : Sp}
    (F : Fun K x qual st f fd) (S : FnScope N ps (defScope st)) (B : Binds K fd ps [])
    (len : ∀ vs H Q E, sp vs H Q E → vs.length = ps.length)
    (body : ∀ (cdv : Value) (A : Around) (outer : List Env) (s : Shared) (H : Hp) (vs : List V) (Q : VK) (E : XK),
      Room k (A.deeper (envOfC qual (defScope st) s.heap.objs.size f cdv)) → A.guards = some [] → sp vs H Q E →
      ∃ t, PSs (cxOf CX0 P w K mg base N qual (defScope st) f cdv A outer s H E).nox (defBody st) t ∧
        t { nx := fun _ H' => Q .non H', rt := Q } (start N vs) H) : FnG P w K mg base (k + 1) f sp := by
  intro A outer s H us vs Q E hr hg e0 r hsp
  obtain ⟨oc, od, kV, doc, pm, an, cdv, ct, osl, efd, lk, hcd⟩ := F.ex
  have inK : K.In s.heap := e0.mod.kin.keeps fun b o e => (e0.bs b o e).1
  have noLim : s.heap.NoLimit := e0.mod.nolimit.keeps fun b o e => (e0.bs b o e).1
  have hlen : us.length = ps.length := by rw [← r.length]; exact len _ _ _ _ hsp
  have hb := B s us inK (by simpa using hlen)
  rw [List.append_nil] at hb
  subst efd
  have kinds : ∀ y ∈ ps.zip us, (defScope st).names.lookup y.1 = some .local ∨
      ((defScope st).names.lookup y.1 = some .cell ∧
        ((cellsFrom (s.heap.objs.size + 1) (defScope st).names []).lookup y.1).isSome = true) := by
    rintro ⟨n, v⟩ hy
    cases S.par n (List.of_mem_zip hy).1 with
    | inl q => exact .inl q
    | inr q => exact .inr ⟨q, PySem.W.cellsFrom_some _ _ _ (.inl q)⟩
  refine codeAny_call_function hr.depth (inK _ _ lk) rfl S.co S.gen rfl (PySem.W.codeRec_of inK hcd)
    (hb _ _ _ _ ?_)
  refine wpAny_newFunctionEnv_cells S.kind kinds ?_
  rintro env rfl s1 y
  refine ⟨noLim.keeps y.toInCall.keep, codeAny_func ?_⟩
  obtain ⟨t, ht, hq⟩ := body cdv A outer s H vs Q E (hr.deeper _) hg hsp
  have J := inv_start (CX := CX0) (E := E) S hr.hd e0 (len _ _ _ _ hsp) r y
  refine wpAny_mono (ht.nox.run [] s1 (start N vs) H _ J hq) ?_ (fun _ _ z => z)
  intro fl s' done
  cases fl with
  | ret u =>
    obtain ⟨v, σ', H', I', rv, q⟩ := done
    exact ⟨v, H', I'.os, I'.bare, I'.base, I'.hok, rv, q⟩
  | next =>
    obtain ⟨σ', H', I', q⟩ := done
    exact ⟨V.non, H', I'.os, I'.bare, I'.base, I'.hok, rfl, q⟩
  | brk => exact done.elim fun _ z => z.elim fun _ z => z.2.elim
  | cont => exact done.elim fun _ z => z.elim fun _ z => z.2.elim

section
variable {X : Cx} {k : Nat} {f : Addr} {sp : Sp} {x : Str} {p pos : Pos} {e : Expr} {es : List Expr} {t : TA}

theorem run_fnG {pins : List (Addr × Obj)} {σ : L2.St} {H : Hp} {s : Shared} {Q : VK} {us : List Value} {vs : List V}
    (F : FnG X.prog X.w X.K X.mg X.base k f sp) (hr : Room k X.A) (hg : X.A.guards = some [])
    (I : Inv X pins σ H s) (r : Vals vs us) (h : sp vs H Q E0) :
    wpAny (model X.prog X.w) X.A (call (.ref f) us) (EP X pins σ Q) X.xe s := by
  refine wpAny_call (codeAny_mono (F X.A X.stack s H us vs Q E0 hr hg I.env0 r h) ?_)
  intro res s' q
  cases res with
  | error e => exact q.elim
  | ok fl =>
    cases fl with
    | ret u => exact I.after q
    | next => exact q.elim
    | brk => exact q.elim
    | cont => exact q.elim

/-- a def's promise asked of the values of t -/
def tK (sp : Sp) (t : TA) : TE := fun σ H Q => t σ H fun vs H1 => sp vs H1 Q E0
/-- f(e, ..) of such a def -/
theorem pe_callG (F : FnG X.prog X.w X.K X.mg X.base k f sp) (hr : Room k X.A) (hg : X.A.guards = some [])
    (gl : Gl X x) (hm : X.mg x = some (.ref f)) (hk : PySem.W.keepIn X.K (.ref f) = true) (ha : PA X (e :: es) t)
    (hdb : (x == ("__debug__" : Str)) = false := by decide)
    (he : starEach (e :: es) X.env = (false, eval e X.env) :: starEach es X.env := by rfl)
    (hpl : (backTo pos (starEach es X.env)).any (·.1) = false := by rfl) :
    PE X (.Call (.Name x p) (e :: es) [] pos) (tK sp t) := by
  constructor
  intro pins s σ H Q I h
  refine wpAny_Call_Name_kw (ld_glob I gl hm ?_ hdb)
  refine PySem.W.callWith_K (h₀ := X.base) I.ok.mod.kin hk ?_ he hpl
  refine thn (ha.run pos pins s σ H _ I h) ?_
  rintro us s1 ⟨vs, H1, I1, r, q⟩
  exact ⟨I1.kIn, run_fnG F hr hg I1 r q⟩

/-- repr of a list or tuple of plain data -/
theorem call_reprD (hg : X.A.guards = some []) (hu : X.A.units + 64 < cLine) :
    CallR X (.builtin "repr") (fun xs H Q => ∃ (a : Addr) (d : PyData), xs = [.ref a] ∧ Dp X.K H (.ref a) d ∧
      d.showable = true ∧ d.hasDict = false ∧ d.depth ≤ 62 ∧ d.shown.length ≤ sizeLine ∧ Q (.str d.shown) H) := by
  intro pins s σ H xs us Q I r h
  obtain ⟨a, d, rfl, hd, hs, hn, hdp, hz, q⟩ := h
  obtain ⟨u, rfl, ru⟩ := vals1 r
  obtain ⟨as, rd⟩ := Dp.reads I d _ _ hd ru
  cases ru
  exact repr_of_reads' rd hs (PyData.noDict_hsm hn) hg (by omega) (fun _ _ z => z)
    (fun h' u tk kp => ⟨.str _, H, I.kept (t' := tk) kp, ⟨_, rfl⟩, q⟩) hz
end
end KG
end

/-! ## KG2 -/
section
namespace KG
open PySem PySem.Spec PyProof.Rows L2

theorem guards_caller : (callerA).guards = some [] := by rfl

/-- the promise of the law's def, met at the head's heap under the tracking H -/
theorem lawG_core {P : Program} {w : World} {K : PySem.W.Frag} {mg mb : Str → Option Value} {k : Nat} {fa a : Addr}
    {sp : Sp} {s1 : Shared} {vs : List Value} {H : Hp}
    (inK : K.In s1.heap) (gl : s1.heap.Ns mainGlobals mg) (bl : s1.heap.Ns builtinsNs mb)
    (bb : ∀ y : Str, y ≠ "__name__" → mb y = bootBuiltins y) (nl : s1.heap.NoLimit) (g0 : s1.gens = #[])
    (at_ : s1.heap.get? a = some { cls := .type "list", data := .seq vs.toArray }) (rm : Room k callerA)
    (F : ∀ base : Heap, K.In base → base.Ns mainGlobals mg → FnG P w K mg base k fa sp)
    (only : Only H) (one : ∀ b u, H b = some u → b = a) (nK : ∀ u, H a = some u → K.lookup a = none) (ok : HOk P w H s1.heap)
    (say : sp [.ref a] H (fun v _ => v = .bl true) E0) :
    codeAny (model P w) callerA (.call (.ref fa) ⟨[.ref a], []⟩)
      (fun r s2 => r = .ok (.ret (.bool true)) ∧ OldK s1.heap s2.heap ∧ s2.os = s1.os ∧ AllBare s2.gens) s1 := by
  have dictFree : ∀ {b : Addr} {o : Obj} {es : Array DictEntry} {ep : Nat},
      s1.heap.get? b = some o → o.data = .dict es ep → H b = none := by
    intro b o es ep eo ed
    cases hb : H b with
    | none => rfl
    | some u =>
      have eb := one b u hb
      rw [eb, at_] at eo
      injection eo with eo
      rw [← eo] at ed
      exact absurd ed (by intro z; cases z)
  have nsB : ∀ {b : Addr} {m : Str → Option Value}, s1.heap.Ns b m → (hidT s1.heap H).Ns b m := by
    rintro b m ⟨o, es, ep, eo, ed, rest⟩
    exact ⟨o, es, ep, hidT_get eo (dictFree eo ed), ed, rest⟩
  have inB : K.In (hidT s1.heap H) := by
    intro b o eb
    refine hidT_get (inK b o eb) ?_
    cases hb : H b with
    | none => rfl
    | some u =>
      have e1 := one b u hb
      subst e1
      rw [nK u hb] at eb
      cases eb
  have modB : Mod K mg (hidT s1.heap H) := by
    obtain ⟨mc, c1, c2⟩ := nl
    exact ⟨inB, nsB gl, ⟨mb, nsB bl, bb⟩, mc, nsB c1, c2⟩
  have env : Env0 P w K mg (hidT s1.heap H) callerA [] s1 H := by
    refine ⟨rfl, modB, fun b o z => of_hidT z, Nat.le_of_eq (hidT_size _ _), trivial, ?_, ok, .of_eq g0⟩
    intro b hb
    cases (show b ∈ ([] : List Addr) from hb)
  refine codeAny_mono (F _ inB (nsB gl) callerA [] s1 H [.ref a] [.ref a] _ E0 rm guards_caller env (.cons rfl .nil) say) ?_
  intro r s2 z
  cases r with
  | error e => exact z.elim
  | ok fl =>
    cases fl with
    | next => exact z.elim
    | brk => exact z.elim
    | cont => exact z.elim
    | ret u =>
      obtain ⟨v, H2, eos, bare, un, ok2, rv, ev⟩ := z
      have ev' : v = .bl true := ev
      subst ev'
      cases rv
      refine ⟨rfl, OldK.of_keep ?_, eos, bare⟩
      intro b o eo
      cases hb : H b with
      | none =>
        refine un.keep b o eo hb ?_ ?_
        · intro z; cases (show b ∈ ([] : List Addr) from z)
        · intro z; cases z
      | some u2 =>
        cases only b with
        | inl z => rw [hb] at z; cases z
        | inr z =>
          obtain ⟨ob, xs, z⟩ := z
          have m1 := (ok b _ z).1
          have m2 := (ok2 b _ (un.frzs b ob _ z)).1
          rw [eo] at m1
          injection m1 with m1
          rw [m1]
          exact m2

theorem lawG {P : Program} {w : World} {K : PySem.W.Frag} {mg mb : Str → Option Value} {k : Nat} {fa a : Addr}
    {sp : Sp} {s1 : Shared} {vs : List Value} {ns : List Int}
    (inK : K.In s1.heap) (gl : s1.heap.Ns mainGlobals mg) (bl : s1.heap.Ns builtinsNs mb)
    (bb : ∀ y : Str, y ≠ "__name__" → mb y = bootBuiltins y) (nl : s1.heap.NoLimit) (g0 : s1.gens = #[])
    (at_ : s1.heap.get? a = some { cls := .type "list", data := .seq vs.toArray }) (hi : IntsAre vs ns)
    (hz : ns.length ≤ sizeLine) (rm : Room k callerA)
    (F : ∀ base : Heap, K.In base → base.Ns mainGlobals mg → FnG P w K mg base k fa sp)
    (say : ∀ H : Hp, Only H → SqL K H a (ns.map V.int) → sp [.ref a] H (fun v _ => v = .bl true) E0) :
    codeAny (model P w) callerA (.call (.ref fa) ⟨[.ref a], []⟩)
      (fun r s2 => r = .ok (.ret (.bool true)) ∧ OldK s1.heap s2.heap ∧ s2.os = s1.os ∧ AllBare s2.gens) s1 := by
  have rv := vals_ints hi
  have same := hi.length
  cases hk : K.lookup a with
  | some o =>
    have eo := inK a o hk
    rw [at_] at eo
    injection eo with eo
    subst eo
    have none_ : Only (fun _ => none) := fun _ => .inl rfl
    refine lawG_core inK gl bl bb nl g0 at_ rm F (H := fun _ => none) none_ (fun b u z => by cases z) (fun u z => by cases z) (fun b u z => by cases z) (say _ none_ ?_)
    refine .inr ⟨_, vs.toArray, _, hk, rfl, rfl, rfl, ?_, ?_⟩
    · rw [List.size_toArray, same]; exact hz
    · simpa using rv
  | none =>
    let fr : HO := .frz { cls := .type "list", data := .seq vs.toArray } (.lst (ns.map V.int))
    let H1 : Hp := fun b => if b = a then some fr else none
    have hA : H1 a = some fr := if_pos rfl
    have hO : ∀ b u, H1 b = some u → b = a ∧ u = fr := by
      intro b u z
      by_cases e : b = a
      · refine ⟨e, ?_⟩
        have z2 := (if_pos e).symm.trans z
        injection z2 with z2
        exact z2.symm
      · have z2 := (if_neg e).symm.trans z
        cases z2
    have only : Only H1 := by
      intro b
      by_cases e : b = a
      · exact .inr ⟨_, _, if_pos e⟩
      · exact .inl (if_neg e)
    refine lawG_core inK gl bl bb nl g0 at_ rm F only (fun b u z => (hO b u z).1) (fun _ _ => hk) ?_ (say H1 only (.inl (.inr ⟨_, hA⟩)))
    intro b u z
    obtain ⟨e1, e2⟩ := hO b u z
    subst e1
    subst e2
    exact ⟨at_, by rw [List.length_map]; exact hz, vs, _, rv, at_⟩

theorem walk_ofG {l : PySem.W.OpenLaw} {n k : Nat} {q : Program} {loose : List Str}
    {XP : (Str → Option Value) → Heap → Prop} {YP : World → Heap → Prop} {d : DefRec} {K : Params → PySem.W.Frag} {sp : PySem.W.Frag → Sp}
    (hn : l.most = some n) (hn2 : n ≤ sizeLine) (hdf : d.params.defaults = []) (rm : Room k callerA)
    (hY : ∀ (w : World) (h : Heap), YP w h → (K w.params).In h)
    (F : ∀ (w : World) (mg : Str → Option Value) (fa : Addr) (h : Heap), (K w.params).In h → h.Ns mainGlobals mg →
      mg d.name = some (.ref fa) → ∀ base : Heap, (K w.params).In base → base.Ns mainGlobals mg →
        FnG l.prog w (K w.params) mg base k fa (sp (K w.params)))
    (say : ∀ (K : PySem.W.Frag) (H : Hp) (a : Addr) (ns : List Int), ns.length ≤ n → Only H →
      SqL K H a (ns.map V.int) → sp K [.ref a] H (fun v _ => v = .bl true) E0) :
    PySem.W.WalkO q loose XP YP l.row.toRowW d [] (fun f vs => PySem.call f vs) := by
  refine Att.attach_call hn hdf ?_
  intro w s0 s1 mg mb fa o pm cd doc a vs ns G Y ho hd hcd hmg hobj hints hlen hg
  have inK := hY w _ Y
  exact lawG inK G.T.g G.T.b G.T.builtins G.T.nolimit hg hobj hints (Nat.le_trans hlen hn2) rm
    (F w mg fa _ inK G.T.g hmg) fun H h1 h2 => say _ H a ns hlen h1 h2
end KG
end

/-! ## Dr -/
section
namespace Cm
open PySem PySem.Spec PyProof.Rows L2 KG

def top (i : Nat) : Stmt := PySem.Challenge.pw_calledmidway_k13_what_is_a_number_or_a_n.main.body.getD i (.Pass ⟨0, 0, 0, 0⟩)
abbrev sJar : Stmt := top 21
abbrev sDip : Stmt := top 22
abbrev sChoice : Stmt := top 23
abbrev sInteger : Stmt := top 24
abbrev sParts : Stmt := top 25

/-- a jar of draws -/
def JarAt (H : Hp) (p : Addr) : Prop := ∃ c s : Int, H p = some (.lst [.int c, .int s]) ∧ 0 ≤ c ∧ 0 ≤ s ∧ s ≤ 2147483648
/-- all that was tracked, but the jar, is as it was -/
def Kp (p : Addr) (H H' : Hp) : Prop := ∀ b o, H b = some o → b ≠ p → H' b = some o
theorem Kp.refl (p : Addr) (H : Hp) : Kp p H H := fun _ _ h _ => h
theorem Kp.trans {p : Addr} {H H1 H2 : Hp} (a : Kp p H H1) (b : Kp p H1 H2) : Kp p H H2 := fun c o h n => b c o (a c o h n) n
theorem Kp.same {p : Addr} {H H1 : Hp} (a : Same H H1) : Kp p H H1 := fun c o h _ => a c o h
theorem JarAt.keep {H H' : Hp} {p : Addr} (j : JarAt H p) (k : Same H H') : JarAt H' p := by
  obtain ⟨c, s, e, r⟩ := j
  exact ⟨c, s, k _ _ e, r⟩
theorem Same.upd_new {H : Hp} {p : Addr} {o : HO} (h : H p = none) : Same H (upd H p o) := fun b u e => by
  rw [upd_ne (ne_of_none e h)]
  exact e

theorem Kp.free {p t : Addr} {H H' : Hp} (k : Kp p H H') (j : JarAt H' p) (h : H' t = none) : H t = none := by
  cases e : H t with
  | none => rfl
  | some o =>
    by_cases tp : t = p
    · subst tp
      obtain ⟨_, _, e2, _⟩ := j
      rw [h] at e2
      cases e2
    · rw [k _ _ e tp] at h
      cases h

structure Txt (mg : Str → Option Value) : Prop where
  len : mg "len" = none
  abs : mg "abs" = none
  max : mg "max" = none
  min : mg "min" = none
  int : mg "int" = none
  divmod : mg "divmod" = none
  range : mg "range" = none
  all : mg "all" = none

/-- a def that may be called by its name, every parameter given -/
structure Cl (P : Program) (w : World) (K : PySem.W.Frag) (mg : Str → Option Value) (base : Heap) (k : Nat) (x : Str) (ps : List Str) (sp : Sp) : Prop where
  ex : ∃ (f : Addr) (fd : FuncData), FnOk P w K mg base CX0 k f fd ps sp ∧ mg x = some (.ref f) ∧ PySem.W.keepIn K (.ref f) = true ∧ Binds K fd ps []
section
variable {X : Cx} {k j : Nat} {x : Str} {ps : List Str} {sp : Sp} {p pos : Pos} {e : Expr} {es : List Expr} {t : TA} {te : TE}
theorem pe_k (c : Cl X.prog X.w X.K X.mg X.base k x ps sp) (hr : Room j X.A) (hk : k ≤ j) (gl : Gl X x) (ha : PA X (e :: es) t)
    (hdb : (x == ("__debug__" : Str)) = false := by decide)
    (he : starEach (e :: es) X.env = (false, eval e X.env) :: starEach es X.env := by rfl)
    (hpl : (backTo pos (starEach es X.env)).any (·.1) = false := by rfl) :
    PE X (.Call (.Name x p) (e :: es) [] pos) (tK sp t) := by
  obtain ⟨f, fd, F, hm, hkp, hb⟩ := c.ex
  constructor
  intro pins s σ H Q I h
  refine (pe_call (p := p) F (hr.mono hk) gl hm hkp hb .nil pass0 ha hdb he hpl).run pins s σ H Q I ?_
  show t σ H fun vs H1 => sp (vs ++ []) H1 Q E0
  simp only [List.append_nil]
  exact h
/-- a word about a part's value: what follows is shown once, from Mid -/
def tMid (t : TE) : TE := fun σ H Q => ∃ Mid : V → Hp → Prop, t σ H Mid ∧ ∀ v H', Mid v H' → Q v H'
theorem pe_mid (h : PE X e te) : PE X e (tMid te) := by
  constructor
  rintro pins s σ H Q I ⟨Mid, hm, hu⟩
  refine thn (h.run pins s σ H Mid I hm) ?_
  rintro u s1 ⟨x, H1, I1, r, q⟩
  exact ⟨x, H1, I1, r, hu _ _ q⟩
end

def spJar (K : PySem.W.Frag) : Sp := fun vs H Q _ => ∃ (a : Addr) (ns : List Int) (k : Nat), vs = [.ref a, .int (k : Int)] ∧ SqL K H a (ns.map V.int) ∧ ns.length ≤ 63 ∧ k ≤ 63 ∧
  ∀ (H' : Hp) (p : Addr), Same H H' → H p = none → JarAt H' p → Q (.ref p) H'
theorem Kp.seq {K : PySem.W.Frag} {H H' : Hp} {p a : Addr} {xs : List V} (k : Kp p H H') (n : a ≠ p) (h : SqL K H a xs) : SqL K H' a xs := by
  rcases h with (h | ⟨o, h⟩) | h
  · exact .inl (.inl (k _ _ h n))
  · exact .inl (.inr ⟨o, k _ _ h n⟩)
  · exact .inr h
/-- a list or a text to choose from, apart from the jar -/
def spChoice (K : PySem.W.Frag) : Sp := fun vs H Q _ => ∃ (p : Addr) (x : V), vs = [.ref p, x] ∧ JarAt H p ∧
  ((∃ (a : Addr) (xs : List V), x = .ref a ∧ a ≠ p ∧ SqL K H a xs ∧ 0 < xs.length ∧ xs.length < 1000 ∧
      ∀ (H' : Hp) (j : Nat) (v : V), JarAt H' p → Kp p H H' → xs[j]? = some v → Q v H') ∨
   (∃ z : Str, x = .str z ∧ 0 < z.length ∧ z.length < 1000 ∧ ∀ (H' : Hp) (c : Nat), JarAt H' p → Kp p H H' → c ∈ z.cps.toList → Q (.str ⟨#[c]⟩) H'))
def spInteger : Sp := fun vs H Q _ => ∃ (p : Addr), vs = [.ref p] ∧ JarAt H p ∧
  ∀ (H' : Hp) (n : Int), JarAt H' p → Kp p H H' → n.natAbs < 2 ^ 100 → Q (.int n) H'
def spParts : Sp := fun vs H Q _ => ∃ (p : Addr), vs = [.ref p] ∧ JarAt H p ∧
  ∀ (H' : Hp) (t : Addr) (n m : Int), JarAt H' p → Kp p H H' → H t = none → H' t = some (.tup [.int n, .int m]) → n.natAbs < 2 ^ 100 → m.natAbs < 2 ^ 100 → m ≠ 0 → Q (.ref t) H'
def spDip : Sp := fun vs H Q _ => ∃ (p : Addr) (m : Int), vs = [.ref p, .int m] ∧ JarAt H p ∧ 0 < m ∧ m < 2 ^ 200 ∧
  ∀ (H' : Hp) (r : Int), JarAt H' p → Kp p H H' → 0 ≤ r → r < m → Q (.int r) H'

/-- the end of the jar's def -/
theorem jar_tail {H : Hp} {Q : VK} {a : Addr} {k : Nat} {z : Int} (hz : 0 ≤ z) (hk : k ≤ 63)
    (q : ∀ (H' : Hp) (p : Addr), Same H H' → H p = none → JarAt H' p → Q (V.ref p) H') :
    tRet (tLst (tCons
        (tCB (fun xs H Q => ∃ i j, xs = [V.int i, V.int j] ∧ Q (V.int (if j > i then j else i)) H)
          (tCons (tC (V.int 0)) (tCons (tOp (rI0 fun i j => V.int (i - j)) (tVar 2) (tOp (rI CPow fun i j => V.int (i ^ j.toNat)) (tC (V.int 10)) (tC (V.int 18)))) tNil)))
        (tCons (tOp (rI0 fun i j => V.int (i + j)) (tOp (rI (fun x j => 0 < j) fun i j => V.int (i % j))
          (tCB (fun xs H Q => (∃ i, xs = [V.int i] ∧ Q (V.int i) H) ∨ ∃ k, xs = [V.bl k] ∧ Q (V.int (if k = true then 1 else 0)) H)
            (tCons (tOp (rI0 fun i j => V.int (i + j)) (tOp (rI0 fun i j => V.int (i + j))
              (tOp (rI CMul fun i j => V.int (i * j)) (tOp (rI (fun x j => 0 < j) fun i j => V.int (i % j))
                (tCB (fun xs H Q => (∃ i, xs = [V.int i] ∧ Q (V.int i) H) ∨ ∃ k, xs = [V.bl k] ∧ Q (V.int (if k = true then 1 else 0)) H) (tCons (tVar 2) tNil)) (tC (V.int 2147483489))) (tC (V.int 40699)))
              (tOp (rI CMul fun i j => V.int (i * j)) (tC (V.int 52711)) (tVar 1))) (tC (V.int 17))) tNil)) (tC (V.int 2147483423))) (tC (V.int 1))) tNil)))
      { nx := fun _ H' => Q V.non H', rt := Q } [some (.ref a), some (.int (k : Int)), some (.int z)] H := by
  refine ⟨_, rfl, _, _, rfl, rfl, ⟨by decide, by decide, by decide⟩, _, _, rfl, rfl, _, _, rfl, ?_⟩
  refine ⟨_, rfl, .inl ⟨_, rfl, _, _, rfl, rfl, (by show (0 : Int) < 2147483489; decide), _, _, rfl, rfl, .inr ⟨by decide, by decide⟩, _, rfl, _, _, rfl, rfl, .inl ⟨by decide, by decide⟩, _, _, rfl, rfl, _, _, rfl, rfl, .inl ⟨_, rfl, _, _, rfl, rfl, (by show (0 : Int) < 2147483423; decide), _, _, rfl, rfl, ?_⟩⟩⟩
  refine ⟨(by show 2 ≤ sizeLine; decide), fun p hp => ?_⟩
  refine q _ p (Same.upd_new hp) hp ⟨_, _, upd_same, ?_, ?_, ?_⟩
  · split <;> omega
  · have := Int.emod_nonneg (((z % 2147483489 * 40699 + 52711 * (k : Int)) + 17)) (show (2147483423 : Int) ≠ 0 by decide)
    omega
  · have := Int.emod_lt_of_pos (((z % 2147483489 * 40699 + 52711 * (k : Int)) + 17)) (show (0 : Int) < 2147483423 by decide)
    omega

section
variable {P : Program} {w : World} {K : PySem.W.Frag} {mg : Str → Option Value} {base : Heap}

theorem scJar : FnScope ["_law_script", "_law_k", "_law_cell"] ["_law_script", "_law_k"] (defScope sJar) := ⟨rfl, rfl, rfl, by decide +kernel, rfl, by decide +kernel, by decide +kernel⟩
theorem ok_jar {f : Addr} {fd : FuncData} (F : Fun K "_law_jar" "_law_jar" sJar f fd) (T : Txt mg) : FnOk P w K mg base CX0 1 f fd ["_law_script", "_law_k"] (spJar K) := by
  refine F.ok scJar (fun vs H Q E h => ?_) (fun cdv A outer s H vs Q E hr h => ?_)
  · obtain ⟨a, ns, k, rfl, _⟩ := h
    rfl
  · obtain ⟨a, ns, k, rfl, hS, hlen, hk, q⟩ := h
    refine ⟨_, pss_cons (ps_set (i := 2) scJar.nd rfl (Or.inl rfl)
        (pe_ifExp (pt_cmpR op_lt (pv 1) (pe_callB call_len (by rfl) T.len PySem.boot_len (pa_cons (pv 0) pa_nil)) (nomark _))
          (pe_callB call_abs (by rfl) T.abs (by decide +kernel) (pa_cons (pe_ix ix_list (pv 0) (pv 1) (fun _ _ => rfl)) pa_nil))
          (pe_op op_add (pe_op op_mul pe_int (pv 1)) pe_int)))
      (pss_one (ps_ret (pe_lst (pa_cons
          (pe_callB (call_max2 rfl) (by rfl) T.max (by decide +kernel) (pa_cons pe_int (pa_cons (pe_op op_sub (pv 2) (pe_op op_pow pe_int pe_int)) pa_nil)))
        (pa_cons (pe_op op_add (pe_op op_mod (pe_callTy call_int1 (by rfl) T.int (by decide +kernel) (pa_cons
            (pe_op op_add (pe_op op_add (pe_op op_mul (pe_op op_mod (pe_callTy call_int1 (by rfl) T.int (by decide +kernel) (pa_cons (pv 2) pa_nil)) pe_int) pe_int) (pe_op op_mul pe_int (pv 1))) pe_int) pa_nil)) pe_int) pe_int) pa_nil))))), ?_⟩
    refine ⟨_, rfl, _, rfl, _, _, rfl, .inl ⟨_, hS, rfl⟩, _, _, rfl, rfl, _, rfl, ?_⟩
    refine ite2 (fun c => ?_) (fun c => ?_)
    · have c1 : k < ns.length := by
        have c2 := of_decide_eq_true c
        rw [List.length_map] at c2
        omega
      refine ⟨_, rfl, _, rfl, a, _, _, V.int ns[k], rfl, rfl, hS, atI_nat (by rw [List.getElem?_map, List.getElem?_eq_getElem c1]; rfl), _, rfl, ?_⟩
      refine jar_tail (z := if ns[k] < 0 then -ns[k] else ns[k]) (by split <;> omega) hk q
    · refine ⟨_, rfl, _, _, rfl, rfl, .inl ⟨by decide, by decide⟩, _, _, rfl, rfl, ?_⟩
      refine jar_tail (z := 23 * (k : Int) + 9) (by omega) hk q

theorem scDip : FnScope ["_law_jar_here", "_law_many", "_law_digit"] ["_law_jar_here", "_law_many"] (defScope sDip) := ⟨rfl, rfl, rfl, by decide +kernel, rfl, by decide +kernel, by decide +kernel⟩
theorem divp_of {i j : Int} (h : 0 < j) (hb : j < 2 ^ 200) : CDivP i j := by
  refine ⟨h, PyProof.noPylong_of_log2 ?_⟩
  have h1 : j.natAbs < 2 ^ 200 := by omega
  have := PySem.Flt.log2_lt_of (show 0 < 200 by decide) h1
  omega
theorem ok_dip {f : Addr} {fd : FuncData} (F : Fun K "_law_dip" "_law_dip" sDip f fd) (T : Txt mg) : FnOk P w K mg base CX0 1 f fd ["_law_jar_here", "_law_many"] spDip := by
  refine F.ok scDip (fun vs H Q E h => ?_) (fun cdv A outer s H vs Q E hr h => ?_)
  · obtain ⟨p, m, rfl, _⟩ := h
    rfl
  · obtain ⟨p, m, rfl, ⟨c, z, hp, hc0, hz0, hz1⟩, hm, hm2, q⟩ := h
    refine ⟨_, pss_cons (ps_if (pt_cmpR op_gt (pe_ix ix_list (pv 0) pe_int (fun _ _ => rfl)) pe_int (nomark _))
        (pss_cons (ps_asg (pe_callB call_divmodW (by rfl) T.divmod (by decide +kernel) (pa_cons (pe_ix ix_list (pv 0) pe_int (fun _ _ => rfl)) (pa_cons (pv 1) pa_nil)))
            (pg_tup rfl (pgs_cons (pg_sub (pv 0) pe_int set_list) (pgs_cons (pg_name (i := 2) scDip.nd rfl (Or.inl rfl)) pgs_nil))))
          (pss_one (ps_ret (pv 2)))) pss_nil)
      (pss_cons (ps_asg (pe_op op_mod (pe_callTy call_int1 (by rfl) T.int (by decide +kernel) (pa_cons
            (pe_op op_add (pe_op op_mul (pe_ix ix_list (pv 0) pe_int (fun _ _ => rfl)) pe_int) pe_int) pa_nil)) pe_int) (pg_sub (pv 0) pe_int set_list))
        (pss_one (ps_ret (pe_op op_mod (pe_callTy call_int1 (by rfl) T.int (by decide +kernel) (pa_cons (pe_op op_fdiv (pe_op op_mod
            (pe_callTy call_int1 (by rfl) T.int (by decide +kernel) (pa_cons (pe_op op_mul (pe_ix ix_list (pv 0) pe_int (fun _ _ => rfl)) (pe_ix ix_list (pv 0) pe_int (fun _ _ => rfl))) pa_nil)) pe_int) pe_int) pa_nil)) (pv 1))))), ?_⟩
    refine ⟨_, rfl, p, _, _, _, rfl, rfl, SqL.of hp, rfl, _, _, rfl, rfl, _, rfl, ?_⟩
    refine ite2 (fun h1 => ?_) (fun h1 => ?_)
    · have h2 : 0 < c := of_decide_eq_true h1
      refine ⟨_, rfl, p, _, _, _, rfl, rfl, SqL.of hp, rfl, _, rfl, _, _, rfl, divp_of hm hm2, fun d hd => ?_⟩
      have np : p ≠ d := ne_of_none hp hd
      refine ⟨d, _, rfl, SqT.of upd_same, rfl, _, _, rfl, _, rfl, p, _, _, 0, rfl, rfl, (by rw [upd_ne np]; exact hp), rfl, _, _, rfl, rfl, ?_⟩
      refine ⟨_, rfl, q _ _ ⟨_, _, upd_same, Int.ediv_nonneg hc0 (by omega), hz0, hz1⟩ (fun b o e hb => ?_) (Int.emod_nonneg _ (by omega)) (Int.emod_lt_of_pos _ hm)⟩
      rw [upd_ne hb, upd_ne (ne_of_none e hd)]
      exact e
    · refine ⟨_, rfl, p, _, _, _, rfl, rfl, SqL.of hp, rfl, _, _, rfl, rfl, .inr ⟨by decide, by decide⟩, _, _, rfl, rfl, .inl ⟨_, rfl, _, _, rfl, rfl, (by show (0 : Int) < 2147483563; decide), ?_⟩⟩
      refine ⟨_, rfl, p, _, _, 1, rfl, rfl, hp, rfl, ?_⟩
      have g0 := Int.emod_nonneg (z * 44497 + 27011) (show (2147483563 : Int) ≠ 0 by decide)
      have g1 := Int.emod_lt_of_pos (z * 44497 + 27011) (show (0 : Int) < 2147483563 by decide)
      refine ⟨_, rfl, p, _, _, _, rfl, rfl, SqL.of upd_same, rfl, _, rfl, p, _, _, _, rfl, rfl, SqL.of upd_same, rfl, _, _, rfl, rfl, .inl ⟨by omega, by omega⟩, .inl ⟨_, rfl, _, _, rfl, rfl, (by show (0 : Int) < 2147483497; decide), _, _, rfl, rfl, ⟨by decide, by decide⟩, .inl ⟨_, rfl, _, rfl, _, _, rfl, rfl, hm, ?_⟩⟩⟩
      refine q _ _ ⟨_, _, upd_same, hc0, g0, by omega⟩ (fun b o e hb => by rw [upd_ne hb]; exact e) (Int.emod_nonneg _ (by omega)) (Int.emod_lt_of_pos _ hm)

theorem scChoice : FnScope ["_law_jar_here", "_law_some"] ["_law_jar_here", "_law_some"] (defScope sChoice) := ⟨rfl, rfl, rfl, by decide +kernel, rfl, by decide +kernel, by decide +kernel⟩
theorem ok_choice {f : Addr} {fd : FuncData} (F : Fun K "_law_choice" "_law_choice" sChoice f fd) (T : Txt mg) (cD : Cl P w K mg base 1 "_law_dip" ["_law_jar_here", "_law_many"] spDip) : FnOk P w K mg base CX0 2 f fd ["_law_jar_here", "_law_some"] (spChoice K) := by
  refine F.ok scChoice (fun vs H Q E h => ?_) (fun cdv A outer s H vs Q E hr h => ?_)
  · obtain ⟨p, x, rfl, _⟩ := h
    rfl
  · obtain ⟨p, x, rfl, J, h⟩ := h
    refine ⟨_, pss_one (ps_ret (pe_ix ix_seq (pv 1) (pe_k cD hr (Nat.le_refl _) rfl (pa_cons (pv 0) (pa_cons (pe_callB call_len (by rfl) T.len PySem.boot_len (pa_cons (pv 1) pa_nil)) pa_nil))) (fun _ _ => rfl))), ?_⟩
    rcases h with ⟨a, xs, rfl, na, hS, h0, h1, q⟩ | ⟨z, rfl, h0, h1, q⟩
    · refine ⟨_, rfl, _, rfl, _, rfl, _, _, rfl, .inl ⟨_, hS, rfl⟩, p, _, rfl, J, by omega, by omega, fun H' r J' k r0 r1 => ?_⟩
      obtain ⟨j, rfl⟩ : ∃ j : Nat, r = (j : Int) := ⟨r.toNat, by omega⟩
      have hj : j < xs.length := by omega
      exact .inl ⟨a, xs, _, xs[j], rfl, rfl, k.seq na hS, atI_nat (List.getElem?_eq_getElem hj), q H' j _ J' k (List.getElem?_eq_getElem hj)⟩
    · have hz : z.length ≤ sizeLine := Nat.le_trans (Nat.le_of_lt h1) (by decide)
      refine ⟨_, rfl, _, rfl, _, rfl, _, _, rfl, ⟨hz, rfl⟩, p, _, rfl, J, by omega, by omega, fun H' r J' k r0 r1 => ?_⟩
      obtain ⟨j, rfl⟩ : ∃ j : Nat, r = (j : Int) := ⟨r.toNat, by omega⟩
      have hj : j < z.cps.toList.length := by
        have : z.cps.toList.length = z.length := by simp [Str.length]
        omega
      exact .inr (.inr ⟨z, _, z.cps.toList[j], rfl, rfl, hz, atI_nat (List.getElem?_eq_getElem hj), q H' _ J' k (List.getElem_mem hj)⟩)

theorem scInteger : FnScope ["_law_jar_here", "_law_size", "_law_found"] ["_law_jar_here"] (defScope sInteger) := ⟨rfl, rfl, rfl, by decide +kernel, rfl, by decide +kernel, by decide +kernel⟩
theorem ok_integer {f : Addr} {fd : FuncData} (F : Fun K "_law_integer" "_law_integer" sInteger f fd) (T : Txt mg) (cD : Cl P w K mg base 1 "_law_dip" ["_law_jar_here", "_law_many"] spDip)
    (cC : Cl P w K mg base 2 "_law_choice" ["_law_jar_here", "_law_some"] (spChoice K)) : FnOk P w K mg base CX0 3 f fd ["_law_jar_here"] spInteger := by
  refine F.ok scInteger (fun vs H Q E h => ?_) (fun cdv A outer s H vs Q E hr h => ?_)
  · obtain ⟨p, rfl, _⟩ := h
    rfl
  · obtain ⟨p, rfl, J, q⟩ := h
    have hr1 : Room 1 _ := hr.mono (by decide)
    refine ⟨_, pss_cons (ps_set (i := 1) scInteger.nd rfl (Or.inl rfl) (pe_k cC hr (Nat.le_refl _) rfl (pa_cons (pv 0) (pa_cons (pe_lst (pa_cons pe_int (pa_cons pe_int (pa_cons pe_int (pa_cons pe_int
          (pa_cons (pe_op op_pow pe_int pe_int) (pa_cons (pe_op op_pow pe_int pe_int) (pa_cons (pe_op op_pow pe_int pe_int) pa_nil)))))))) pa_nil))))
      (pss_cons (ps_set (i := 2) scInteger.nd rfl (Or.inl rfl) (pe_k cD hr1 (Nat.le_refl _) rfl (pa_cons (pv 0) (pa_cons (pv 1) pa_nil))))
      (C8.pss_cut (ps_if (PW.pt (pw_and (pt_cmpR op_eq (pv 1) (pe_op op_pow pe_int pe_int) (nomark _)) (pw_and1 (pt_cmpR op_lt (pv 2) (pe_op op_pow pe_int pe_int) (nomark _)))))
          (pss_one (ps_set (i := 2) scInteger.nd rfl (Or.inl rfl) (pe_op op_add (pe_op op_add (pe_op op_mul (pv 2) (pe_op op_pow pe_int pe_int))
            (pe_op op_mul (pe_k cD hr1 (Nat.le_refl _) rfl (pa_cons (pv 0) (pa_cons (pe_op op_pow pe_int pe_int) pa_nil))) (pe_op op_pow pe_int pe_int)))
            (pe_k cD hr1 (Nat.le_refl _) rfl (pa_cons (pv 0) (pa_cons (pe_op op_pow pe_int pe_int) pa_nil)))))) pss_nil)
      (pss_one (ps_ret (pe_ifExp (pt_cmpR op_eq (pe_k cD hr1 (Nat.le_refl _) rfl (pa_cons (pv 0) (pa_cons pe_int pa_nil))) pe_int (nomark _)) (pe_un un_neg (pv 2)) (pv 2)))))), ?_⟩
    have e9 : (10 : Int) ^ (9 : Int).toNat = 1000000000 := by decide
    have e10 : (10 : Int) ^ (10 : Int).toNat = 10000000000 := by decide
    have e19 : (10 : Int) ^ (19 : Int).toNat = 10000000000000000000 := by decide
    have cp : ∀ j : Int, 0 ≤ j → j ≤ 1000 → CPow 10 j := fun j h0 h1 => ⟨h0, by omega, by decide⟩
    refine ⟨_, rfl, _, _, rfl, rfl, cp _ (by decide) (by decide), _, _, rfl, rfl, cp _ (by decide) (by decide), _, _, rfl, rfl, cp _ (by decide) (by decide), (by show 7 ≤ sizeLine; decide), fun l hl => ?_⟩
    have s0 : ∀ o, Same H (upd H l o) := fun _ => Same.upd_new hl
    have nlp : l ≠ p := by
      obtain ⟨c, z, e, _⟩ := J
      exact (ne_of_none e hl).symm
    refine ⟨p, _, rfl, J.keep (s0 _), .inl ⟨l, _, rfl, nlp, SqL.of upd_same, (by decide), (by decide), fun H1 j v J1 k1 hv => ?_⟩⟩
    obtain ⟨m, rfl, m0, m1⟩ : ∃ m : Int, v = V.int m ∧ 0 < m ∧ m ≤ 100000000000000000000000000000 := by
      have hm := List.mem_of_getElem? hv
      simp only [List.mem_cons, List.not_mem_nil, or_false] at hm
      rcases hm with rfl | rfl | rfl | rfl | rfl | rfl | rfl <;> exact ⟨_, rfl, by decide, by decide⟩
    refine ⟨_, rfl, _, rfl, p, _, rfl, J1, m0, by omega, fun H2 r J2 k2 r0 r1 => ?_⟩
    have k02 : Kp p H H2 := ((Kp.same (s0 _)).trans k1).trans k2
    refine ⟨fun σ H' => ∃ n : Int, σ = [some (.ref p), some (.int m), some (.int n)] ∧ JarAt H' p ∧ Kp p H H' ∧ n.natAbs < 2 ^ 100, ?_, ?_⟩
    · have base : ∃ n : Int, [some (V.ref p), some (V.int m), some (V.int r)] = [some (.ref p), some (.int m), some (.int n)] ∧ JarAt H2 p ∧ Kp p H H2 ∧ n.natAbs < 2 ^ 100 := ⟨r, rfl, J2, k02, by omega⟩
      refine ⟨_, rfl, _, _, rfl, rfl, cp _ (by decide) (by decide), rfl, _, rfl, ?_⟩
      refine ite2 (fun _ => ?_) (fun _ => iteF base)
      refine ⟨_, rfl, _, _, rfl, rfl, cp _ (by decide) (by decide), _, _, rfl, rfl, _, rfl, ?_⟩
      refine ite2 (fun h1 => ?_) (fun _ => base)
      have h2 : r < 10 ^ (10 : Int).toNat := of_decide_eq_true h1
      rw [e10] at h2
      refine ⟨_, rfl, _, _, rfl, rfl, cp _ (by decide) (by decide), _, _, rfl, rfl, .inl ⟨by omega, by omega⟩, _, rfl, _, _, rfl, rfl, cp _ (by decide) (by decide), p, _, rfl, J2, (by decide), (by decide), fun H3 r3 J3 k3 a3 b3 => ?_⟩
      rw [e10] at b3
      refine ⟨_, _, rfl, rfl, cp _ (by decide) (by decide), _, _, rfl, rfl, .inl ⟨by omega, by omega⟩, _, _, rfl, rfl, _, rfl, _, _, rfl, rfl, cp _ (by decide) (by decide), p, _, rfl, J3, (by decide), (by decide), fun H4 r4 J4 k4 a4 b4 => ?_⟩
      rw [e9] at b4
      refine ⟨_, _, rfl, rfl, _, rfl, J4, (k02.trans k3).trans k4, ?_⟩
      rw [e19, e9]
      omega
    · rintro σ H5 ⟨n, rfl, J5, k5, hn⟩
      refine ⟨_, rfl, p, _, rfl, J5, (by decide), (by decide), fun H6 r6 J6 k6 a6 b6 => ?_⟩
      refine ⟨rfl, _, rfl, ?_⟩
      refine ite2 (fun _ => ?_) (fun _ => ?_)
      · exact ⟨_, rfl, _, rfl, q _ _ J6 (k5.trans k6) (by omega)⟩
      · exact ⟨_, rfl, q _ _ J6 (k5.trans k6) hn⟩

theorem scParts : FnScope ["_law_jar_here", "_law_up", "_law_low"] ["_law_jar_here"] (defScope sParts) := ⟨rfl, rfl, rfl, by decide +kernel, rfl, by decide +kernel, by decide +kernel⟩
theorem ok_parts {f : Addr} {fd : FuncData} (F : Fun K "_law_parts" "_law_parts" sParts f fd) (cI : Cl P w K mg base 3 "_law_integer" ["_law_jar_here"] spInteger) : FnOk P w K mg base CX0 4 f fd ["_law_jar_here"] spParts := by
  refine F.ok scParts (fun vs H Q E h => ?_) (fun cdv A outer s H vs Q E hr h => ?_)
  · obtain ⟨p, rfl, _⟩ := h
    rfl
  · obtain ⟨p, rfl, J, q⟩ := h
    refine ⟨_, pss_cons (ps_par (i := 1) (j := 2) (by rfl) scParts.nd rfl rfl (by decide) rfl rfl (pa_cons (pe_k cI hr (Nat.le_refl _) rfl (pa_cons (pv 0) pa_nil)) (pa_cons (pe_k cI hr (Nat.le_refl _) rfl (pa_cons (pv 0) pa_nil)) pa_nil)) (by rfl))
      (pss_one (ps_ret (pe_tup (pa_cons (pv 1) (pa_cons (pe_ifExp (pt_cmpR op_ne (pv 2) pe_int (nomark _)) (pv 2) pe_int) pa_nil))))), ?_⟩
    refine ⟨_, rfl, p, rfl, J, fun H1 n J1 k1 hn => ?_⟩
    refine ⟨_, rfl, p, rfl, J1, fun H2 m J2 k2 hm => ?_⟩
    have k02 := k1.trans k2
    refine ⟨_, _, rfl, _, rfl, _, rfl, rfl, _, rfl, ?_⟩
    have fin : ∀ m' : Int, m'.natAbs < 2 ^ 100 → m' ≠ 0 → ∀ t, H2 t = none → Q (.ref t) (upd H2 t (.tup [.int n, .int m'])) := fun m' h1 h2 t ht => by
      exact q _ t n m' (J2.keep (Same.upd_new ht)) (k02.trans (Kp.same (Same.upd_new ht))) (k02.free J2 ht) upd_same hn h1 h2
    refine ite2 (fun hc => ?_) (fun hc => ?_)
    · have hm0 : m ≠ 0 := fun z => by
        subst z
        exact absurd hc (by decide)
      exact ⟨_, rfl, (by show 2 ≤ sizeLine; decide), fun t ht => fin m hm hm0 t ht⟩
    · exact ⟨(by show 2 ≤ sizeLine; decide), fun t ht => fin 1 (by decide) (by decide) t ht⟩
end
end Cm
end

/-! ## Nm -/
section
namespace Cm
open PySem PySem.Spec PyProof.Rows L2 KG

abbrev sIsInt : Stmt := top 11
abbrev sIsNum : Stmt := top 12
abbrev sIsName : Stmt := top 13
abbrev sAsRatio : Stmt := top 14

/-- a def that may be called by its name with its parameters' names, too -/
structure ClK (P : Program) (w : World) (K : PySem.W.Frag) (mg : Str → Option Value) (base : Heap) (k : Nat) (x : Str) (ps : List Str) (sp : Sp) : Prop where
  ex : ∃ (f : Addr) (fd : FuncData), FnOk P w K mg base CX0 k f fd ps sp ∧ mg x = some (.ref f) ∧ PySem.W.keepIn K (.ref f) = true ∧ Binds K fd ps [] ∧
    ∀ (s : Shared) (ws : List Value), ws.length = ps.length → BindsTo s fd ⟨[], ps.zip ws⟩ (ps.zip ws)
theorem ClK.cl {P : Program} {w : World} {K : PySem.W.Frag} {mg : Str → Option Value} {base : Heap} {k : Nat} {x : Str} {ps : List Str} {sp : Sp} (c : ClK P w K mg base k x ps sp) : Cl P w K mg base k x ps sp := by
  obtain ⟨f, fd, a, b, c, d, _⟩ := c.ex
  exact ⟨f, fd, a, b, c, d⟩
section
variable {X : Cx} {k j : Nat} {x : Str} {ps : List Str} {sp : Sp} {p pos : Pos} {kws : List Keyword} {tk : TA}
theorem pe_kk (c : ClK X.prog X.w X.K X.mg X.base k x ps sp) (hr : Room j X.A) (hj : k ≤ j) (gl : Gl X x) (hkw : PK X kws tk)
    (hall : (backToKw pos (keywordEach kws X.env)).all (·.1.isSome) = true := by rfl) (hks : (backToKw pos (keywordEach kws X.env)).filterMap (·.1) = ps := by rfl)
    (hdb : (x == ("__debug__" : Str)) = false := by decide)
    (hpl : ((backTo pos (starEach [] X.env)).any (·.1) || (backToKw pos (keywordEach kws X.env)).any (·.1.isNone)) = false := by rfl) :
    PE X (.Call (.Name x p) [] kws pos) (tK sp tk) := by
  obtain ⟨f, fd, F, hm, hkp, _, hb⟩ := c.ex
  constructor
  intro pins s σ H Q I h
  refine wpAny_Call_Name_kw (ld_glob I gl hm ?_ hdb)
  refine PySem.W.callWith_KW0 (h₀ := X.base) I.ok.mod.kin hkp hall ?_ hpl
  refine thn (hkw.run pos pins s σ H _ I h) ?_
  rintro ws s2 ⟨zs, H2, I2, rz, q2⟩
  refine ⟨I2.kIn, ?_⟩
  rw [hks]
  have hl : ws.length = ps.length := by rw [← rz.length]; exact F.len _ _ _ _ q2
  refine wpAny_call (codeAny_mono (F.run X.A X.stack s2 H2 ⟨[], ps.zip ws⟩ ws zs Q E0 (hr.mono hj) I2.env0 (hb s2 ws hl) rz q2) ?_)
  intro res s' q
  cases res with
  | error e => exact q.elim
  | ok fl =>
    cases fl with
    | ret u => exact I2.after q
    | next => exact q.elim
    | brk => exact q.elim
    | cont => exact q.elim
end

/-- what isinstance says of a value -/
def Kind (K : PySem.W.Frag) (CR : Addr) (H : Hp) (x : V) (bi bb bs br : Bool) : Prop := ∃ t : Value, TyX K H x t ∧ PySem.W.kitOne K t (.type "int") = some bi ∧ PySem.W.kitOne K t (.type "bool") = some bb ∧
  PySem.W.kitOne K t (.type "str") = some bs ∧ PySem.W.kitOne K t (.ref CR) = some br

structure TxtN (mg : Str → Option Value) (CR : Addr) : Prop where
  isi : mg "isinstance" = none
  int : mg "int" = none
  bool : mg "bool" = none
  str : mg "str" = none
  len : mg "len" = none
  ratio : mg "Ratio" = some (.ref CR)
  most : ∃ t, mg "LONGEST_NAME" = some (.int 8 t)

/-- a name by the program's own look -/
def nameOk (z : Str) : Bool := decide (z.length ≤ 8) && (Txt.isascii z && (Txt.isalpha z && Txt.islower z))

def spIsInt (K : PySem.W.Frag) (CR : Addr) : Sp := fun vs H Q _ => ∃ (x : V) (bi bb bs br : Bool), vs = [x] ∧ Kind K CR H x bi bb bs br ∧ Q (.bl (bi && !bb)) H
def spIsNum (K : PySem.W.Frag) (CR : Addr) : Sp := fun vs H Q _ => ∃ (x : V) (bi bb bs br : Bool), vs = [x] ∧ Kind K CR H x bi bb bs br ∧ Q (.bl (br || (bi && !bb))) H
def spIsName (K : PySem.W.Frag) (CR : Addr) : Sp := fun vs H Q _ => ∃ (x : V), vs = [x] ∧
  ((∃ (bi bb br : Bool), Kind K CR H x bi bb false br ∧ Q (.bl false) H) ∨ ∃ (z : Str) (bi bb br : Bool), x = .str z ∧ Kind K CR H x bi bb true br ∧ z.length ≤ sizeLine ∧ Q (.bl (nameOk z)) H)

section
variable {P : Program} {w : World} {K : PySem.W.Frag} {mg : Str → Option Value} {base : Heap} {CR : Addr}

theorem scIsInt : FnScope ["value"] ["value"] (defScope sIsInt) := ⟨rfl, rfl, rfl, by decide +kernel, rfl, by decide +kernel, by decide +kernel⟩
theorem ok_isInt {f : Addr} {fd : FuncData} (F : Fun K "is_integer" "is_integer" sIsInt f fd) (T : TxtN mg CR) : FnOk P w K mg base CX0 1 f fd ["value"] (spIsInt K CR) := by
  refine F.ok scIsInt (fun vs H Q E h => ?_) (fun cdv A outer s H vs Q E hr h => ?_)
  · obtain ⟨x, _, _, _, _, rfl, _⟩ := h
    rfl
  · obtain ⟨x, bi, bb, bs, br, rfl, ⟨t, ty, k1, k2, k3, k4⟩, q⟩ := h
    refine ⟨_, pss_one (ps_ret (pe_and (pe_callB call_isi (by rfl) T.isi (by decide +kernel) (pa_cons (pv 0) (pa_cons (pe_bltn (v := .ty "int") (by rfl) T.int (by decide +kernel) rfl) pa_nil)))
      (pe_one (pe_not (pe_callB call_isi (by rfl) T.isi (by decide +kernel) (pa_cons (pv 0) (pa_cons (pe_bltn (v := .ty "bool") (by rfl) T.bool (by decide +kernel) rfl) pa_nil))))))), ?_⟩
    refine ⟨_, rfl, _, _, t, _, _, rfl, .ty _, ty, k1, _, rfl, ?_⟩
    cases bi with
    | false => exact iteF q
    | true => exact iteT ⟨_, rfl, _, _, t, _, _, rfl, .ty _, ty, k2, _, rfl, q⟩

theorem scIsNum : FnScope ["value"] ["value"] (defScope sIsNum) := ⟨rfl, rfl, rfl, by decide +kernel, rfl, by decide +kernel, by decide +kernel⟩
theorem ok_isNum {f : Addr} {fd : FuncData} (F : Fun K "is_number" "is_number" sIsNum f fd) (T : TxtN mg CR) (cI : Cl P w K mg base 1 "is_integer" ["value"] (spIsInt K CR)) : FnOk P w K mg base CX0 2 f fd ["value"] (spIsNum K CR) := by
  refine F.ok scIsNum (fun vs H Q E h => ?_) (fun cdv A outer s H vs Q E hr h => ?_)
  · obtain ⟨x, _, _, _, _, rfl, _⟩ := h
    rfl
  · obtain ⟨x, bi, bb, bs, br, rfl, ⟨t, ty, k1, k2, k3, k4⟩, q⟩ := h
    refine ⟨_, pss_one (ps_ret (pe_or (pe_callB call_isi (by rfl) T.isi (by decide +kernel) (pa_cons (pv 0) (pa_cons (pe_glob (v := .ref CR) (by rfl) T.ratio rfl) pa_nil)))
      (pe_one (pe_k cI hr (Nat.le_refl _) (by rfl) (pa_cons (pv 0) pa_nil))))), ?_⟩
    refine ⟨_, rfl, _, _, t, _, _, rfl, .own _, ty, k4, _, rfl, ?_⟩
    cases br with
    | true => exact iteT q
    | false => exact iteF ⟨_, rfl, _, bi, bb, bs, _, rfl, ⟨t, ty, k1, k2, k3, k4⟩, q⟩

theorem scIsName : FnScope ["value"] ["value"] (defScope sIsName) := ⟨rfl, rfl, rfl, by decide +kernel, rfl, by decide +kernel, by decide +kernel⟩
theorem ok_isName {f : Addr} {fd : FuncData} (F : Fun K "is_name" "is_name" sIsName f fd) (T : TxtN mg CR) : FnOk P w K mg base CX0 1 f fd ["value"] (spIsName K CR) := by
  obtain ⟨t8, m8⟩ := T.most
  refine F.ok scIsName (fun vs H Q E h => ?_) (fun cdv A outer s H vs Q E hr h => ?_)
  · obtain ⟨x, rfl, _⟩ := h
    rfl
  · obtain ⟨x, rfl, h⟩ := h
    refine ⟨_, pss_cons (ps_if (PW.pt (pw_or (pt_not (pt_val (pe_callB call_isi (by rfl) T.isi (by decide +kernel) (pa_cons (pv 0) (pa_cons (pe_bltn (v := .ty "str") (by rfl) T.str (by decide +kernel) rfl) pa_nil)))))
          (pw_or1 (pt_cmpR op_gt (pe_callB call_len_str (by rfl) T.len PySem.boot_len (pa_cons (pv 0) pa_nil)) (pe_glob (v := .int 8) (by rfl) m8 ⟨_, rfl⟩) (nomark _)))))
        (pss_one (ps_ret pe_bl)) pss_nil)
      (pss_one (ps_ret (pe_and (pe_bm0 PySem.F.plainAttrs_str PySem.F.slot_str_isascii PySem.F.type_str_isascii mt_isascii (pv 0))
        (pe_and (pe_bm0 PySem.F.plainAttrs_str PySem.F.slot_str_isalpha PySem.F.type_str_isalpha mt_isalpha (pv 0))
          (pe_one (pe_bm0 PySem.F.plainAttrs_str PySem.F.slot_str_islower PySem.F.type_str_islower mt_islower (pv 0))))))), ?_⟩
    rcases h with ⟨bi, bb, br, ⟨t, ty, k1, k2, k3, k4⟩, q⟩ | ⟨z, bi, bb, br, rfl, ⟨t, ty, k1, k2, k3, k4⟩, hz, q⟩
    · refine ⟨_, rfl, _, _, t, _, _, rfl, .ty _, ty, k3, _, rfl, ?_⟩
      exact iteT (iteT q)
    · refine ⟨_, rfl, _, _, t, _, _, rfl, .ty _, ty, k3, _, rfl, ?_⟩
      refine iteF ⟨_, rfl, _, rfl, hz, _, _, rfl, rfl, _, rfl, ?_⟩
      unfold nameOk at q
      refine ite2 (fun h1 => ?_) (fun h1 => ?_)
      · have h2 : ¬ z.length ≤ 8 := by
          have h3 : (8 : Int) < (z.length : Int) := of_decide_eq_true h1
          omega
        rw [decide_eq_false h2] at q
        exact q
      · have h2 : z.length ≤ 8 := by
          have h3 : ¬ (8 : Int) < (z.length : Int) := fun y => h1 (decide_eq_true y)
          omega
        rw [decide_eq_true h2, Bool.true_and] at q
        refine ⟨_, rfl, rfl, _, rfl, rfl, trivial, _, rfl, ?_⟩
        revert q
        cases Txt.isascii z with
        | false => exact fun q => iteF q
        | true =>
          intro q
          rw [Bool.true_and] at q
          refine iteT ⟨_, rfl, rfl, _, rfl, rfl, trivial, _, rfl, ?_⟩
          revert q
          cases Txt.isalpha z with
          | false => exact fun q => iteF q
          | true =>
            intro q
            rw [Bool.true_and] at q
            exact iteT ⟨_, rfl, rfl, _, rfl, rfl, trivial, q⟩
end

/-! ### the law's own look at a name -/
abbrev sLawName : Stmt := top 28
abbrev sTold : Stmt := top 29
def abc : Str := "abcdefghijklmnopqrstuvwxyz"
def lo (c : Nat) : Bool := decide (c ∈ abc.cps.toList)
theorem lo_iff (c : Nat) : lo c = true ↔ 97 ≤ c ∧ c ≤ 122 := by
  have e : abc.cps.toList = [97, 98, 99, 100, 101, 102, 103, 104, 105, 106, 107, 108, 109, 110, 111, 112, 113, 114, 115, 116, 117, 118, 119, 120, 121, 122] := by decide +kernel
  unfold lo
  rw [e, decide_eq_true_eq]
  simp only [List.mem_cons, List.not_mem_nil, or_false]
  omega
theorem ascii_alpha : ∀ c : _root_.Fin 128, Unicode.isAlpha c.val = true → Unicode.isUpper c.val = false → lo c.val = true := by decide +kernel
theorem lo_all : ∀ c : _root_.Fin 128, lo c.val = true → Unicode.isAlpha c.val = true ∧ Unicode.isLower c.val = true ∧ Unicode.isUpper c.val = false ∧ Unicode.isTitle c.val = false := by decide +kernel
theorem filter_len {p : Nat → Bool} : ∀ l : List Nat, (l.filter p).length = l.length → ∀ c ∈ l, p c = true := by
  intro l h
  have h2 : l.filter p = l := List.Sublist.eq_of_length List.filter_sublist h
  intro c hc
  rw [← h2] at hc
  exact (List.mem_filter.mp hc).2
theorem name_eq (z : Str) : (decide ((1 : Int) ≤ (z.length : Int)) && (decide ((z.length : Int) ≤ 8) && decide ((((z.cps.toList.filter lo).length : Nat) : Int) = (z.length : Int)))) = nameOk z := by
  have hz : z.cps.toList.length = z.length := by simp [Str.length]
  by_cases h : z.cps.toList.all lo = true
  · have h' : ∀ c ∈ z.cps.toList, lo c = true := List.all_eq_true.mp h
    have e1 : z.cps.toList.filter lo = z.cps.toList := List.filter_eq_self.mpr h'
    rw [e1, hz]
    have lt : ∀ c ∈ z.cps.toList, c < 128 := fun c hc => by
      have := (lo_iff c).mp (h' c hc)
      omega
    have a1 : Txt.isascii z = true := by
      unfold Txt.isascii
      rw [← Array.all_toList, List.all_eq_true]
      intro c hc
      exact decide_eq_true (lt c hc)
    have a2 : Txt.isalpha z = decide (0 < z.length) := by
      unfold Txt.isalpha
      have : z.cps.all Unicode.isAlpha = true := by
        rw [← Array.all_toList, List.all_eq_true]
        intro c hc
        exact (lo_all ⟨c, lt c hc⟩ (h' c hc)).1
      rw [this, Bool.and_true]
    have a3 : Txt.islower z = decide (0 < z.length) := by
      unfold Txt.islower
      have n1 : (z.cps.any fun c => Unicode.isUpper c || Unicode.isTitle c) = false := by
        rw [← Array.any_toList, List.any_eq_false]
        intro c hc
        have q := lo_all ⟨c, lt c hc⟩ (h' c hc)
        simp [q.2.2.1, q.2.2.2]
      rw [n1, Bool.not_false, Bool.and_true]
      cases e : z.cps.toList with
      | nil =>
        rw [e] at hz
        have : z.length = 0 := by simpa using hz.symm
        rw [this, ← Array.any_toList, e]
        rfl
      | cons c l =>
        have hc : c ∈ z.cps.toList := by rw [e]; exact List.mem_cons_self
        have q := lo_all ⟨c, lt c hc⟩ (h' c hc)
        have : 0 < z.length := by rw [← hz, e]; exact Nat.succ_pos _
        rw [decide_eq_true this, ← Array.any_toList, List.any_eq_true]
        exact ⟨c, hc, q.2.1⟩
    unfold nameOk
    rw [a1, a2, a3]
    by_cases c1 : 0 < z.length
    · by_cases c2 : z.length ≤ 8
      · simp [c1, c2]; omega
      · simp [c1, c2]; omega
    · simp [c1]; omega
  · have e1 : ¬ ((((z.cps.toList.filter lo).length : Nat) : Int) = (z.length : Int)) := fun e => by
      refine h (List.all_eq_true.mpr (filter_len _ ?_))
      rw [hz]
      omega
    rw [decide_eq_false e1, Bool.and_false, Bool.and_false]
    symm
    unfold nameOk
    cases b1 : Txt.isascii z with
    | false => simp
    | true =>
      cases b2 : Txt.isalpha z with
      | false => simp
      | true =>
        cases b3 : Txt.islower z with
        | false => simp
        | true =>
          exfalso
          apply h
          rw [List.all_eq_true]
          intro c hc
          unfold Txt.isascii at b1
          rw [← Array.all_toList, List.all_eq_true] at b1
          have c1 : c < 128 := of_decide_eq_true (b1 c hc)
          unfold Txt.isalpha at b2
          rw [Bool.and_eq_true, ← Array.all_toList, List.all_eq_true] at b2
          have c2 := b2.2 c hc
          unfold Txt.islower at b3
          rw [Bool.and_eq_true, Bool.not_eq_true', ← Array.any_toList (p := fun c => Unicode.isUpper c || Unicode.isTitle c), List.any_eq_false] at b3
          have c3 := b3.2 c hc
          refine ascii_alpha ⟨c, c1⟩ c2 ?_
          cases e : Unicode.isUpper c with
          | false => rfl
          | true => simp [e] at c3
end Cm
end

/-! ## Tl -/
section
namespace Cm
open PySem PySem.Spec PyProof.Rows L2 KG

def spLawName : Sp := fun vs H Q _ => ∃ z : Str, vs = [.str z] ∧ z.length ≤ 1000 ∧ ∀ H' : Hp, Same H H' → Q (.bl (nameOk z)) H'

theorem TyX.keep {K : PySem.W.Frag} {H H' : Hp} {x : V} {t : Value} (e : Same H H') (h : TyX K H x t) : TyX K H' x t := by
  cases h with
  | base h =>
    refine .base ?_
    cases h with
    | non => exact .non
    | bl b => exact .bl b
    | int i => exact .int i
    | str z => exact .str z
    | flt b => exact .flt b
    | lst h => exact .lst (e _ _ h)
    | frz h => exact .frz (e _ _ h)
    | tup h => exact .tup (e _ _ h)
    | dK h => exact .dK (e _ _ h)
    | dT h => exact .dT (e _ _ h)
    | ins h a b c d f => exact .ins (e _ _ h) a b c d f
  | byt b => exact .byt b
  | set h => exact .set (e _ _ h)
  | kList a b => exact .kList a b
  | kTuple a b => exact .kTuple a b
  | kDict a b => exact .kDict a b
  | fTuple h => exact .fTuple (e _ _ h)
  | fDict h => exact .fDict (e _ _ h)
theorem Kind.keep {K : PySem.W.Frag} {CR : Addr} {H H' : Hp} {x : V} {bi bb bs br : Bool} (e : Same H H') (h : Kind K CR H x bi bb bs br) : Kind K CR H' x bi bb bs br := by
  obtain ⟨t, ty, r⟩ := h
  exact ⟨t, TyX.keep e ty, r⟩

/-- what the three looks tell of a value -/
def Tells (K : PySem.W.Frag) (CR : Addr) (H : Hp) (x : V) (b1 b2 b3 : Bool) : Prop := ∃ bi bb bs br : Bool, Kind K CR H x bi bb bs br ∧ b1 = (bi && !bb) ∧ b2 = (br || (bi && !bb)) ∧
  ((bs = false ∧ b3 = false) ∨ ∃ z : Str, bs = true ∧ x = .str z ∧ z.length ≤ sizeLine ∧ b3 = nameOk z)
theorem Tells.keep {K : PySem.W.Frag} {CR : Addr} {H H' : Hp} {x : V} {b1 b2 b3 : Bool} (e : Same H H') (h : Tells K CR H x b1 b2 b3) : Tells K CR H' x b1 b2 b3 := by
  obtain ⟨bi, bb, bs, br, k, r⟩ := h
  exact ⟨bi, bb, bs, br, k.keep e, r⟩
def spTold (K : PySem.W.Frag) (CR : Addr) : Sp := fun vs H Q _ => ∃ (x : V) (d : Addr) (b1 b2 b3 : Bool), vs = [x, .ref d] ∧ Tells K CR H x b1 b2 b3 ∧ H d = some (.lst [.bl b1, .bl b2, .bl b3]) ∧
  ∀ H' : Hp, Same H H' → Q (.bl true) H'

structure TxtT (mg : Str → Option Value) : Prop where
  len : mg "len" = none
  repr : mg "repr" = none

theorem dec_int (a b : Int) : decide (V.int a = V.int b) = decide (a = b) := by
  by_cases e : a = b
  · subst e
    simp
  · have h : ¬ V.int a = V.int b := fun q => e (V.int.inj q)
    rw [decide_eq_false h, decide_eq_false e]
theorem depth_le (b1 b2 b3 : Bool) : (PyData.list [.bool b1, .bool b2, .bool b3]).depth ≤ 62 := by
  cases b1 <;> cases b2 <;> cases b3 <;> decide +kernel
theorem shown_len (b1 b2 b3 : Bool) : (PyData.list [.bool b1, .bool b2, .bool b3]).shown.length ≤ sizeLine := by
  cases b1 <;> cases b2 <;> cases b3 <;> decide +kernel

section
variable {P : Program} {w : World} {K : PySem.W.Frag} {mg : Str → Option Value} {base : Heap} {CR : Addr}

theorem scLawName : FnScope ["_law_word_here", "_law_letters", "_law_sign"] ["_law_word_here"] (defScope sLawName) := ⟨rfl, rfl, rfl, by decide +kernel, rfl, by decide +kernel, by decide +kernel⟩
theorem ok_lawName {f : Addr} {fd : FuncData} (F : Fun K "_law_is_name" "_law_is_name" sLawName f fd) (T : TxtT mg) : FnOk P w K mg base CX0 1 f fd ["_law_word_here"] spLawName := by
  refine F.ok scLawName (fun vs H Q E h => ?_) (fun cdv A outer s H vs Q E hr h => ?_)
  · obtain ⟨z, rfl, _⟩ := h
    rfl
  · obtain ⟨z, rfl, hz, q⟩ := h
    have hzl : z.length ≤ sizeLine := Nat.le_trans hz (by decide)
    refine ⟨_, pss_cons (ps_setLc (i := 1) (own := [("_law_sign", 2)]) (g := gName 2) (by rfl) scLawName.nd rfl rfl (sw_true rfl rfl rfl (by decide +kernel)) (pi_str (pv 0))
        (blkOk_by (own := [("_law_sign", 2)]) (N := ["_law_word_here", "_law_letters", "_law_sign"]) (sc := defScope sLawName) (by decide +kernel))
        (fun _ _ _ _ _ => pg_name (i := 2) scLawName.nd rfl (Or.inl rfl)) (fun _ _ _ _ _ => pts_one (pt_cmpR op_in_sign (pv 2) pe_str (by rfl))) (fun _ _ _ _ _ => pv 2))
      (pss_one (ps_ret (pe_and (pe_chain op_le op_le pe_int (pe_callB call_len (by rfl) T.len PySem.boot_len (pa_cons (pv 0) pa_nil)) pe_int)
        (pe_one (pe_cmpR op_eq (pe_callB call_len (by rfl) T.len PySem.boot_len (pa_cons (pv 1) pa_nil)) (pe_callB call_len (by rfl) T.len PySem.boot_len (pa_cons (pv 0) pa_nil)) (nomark _)))))), ?_⟩
    refine ⟨_, rfl, z, rfl, fun D hD => ?_⟩
    refine lc_it walk_str (fun i H' => Kp D H H' ∧ ∃ acc : List V, H' D = some (.lst acc) ∧ acc.length = ((z.cps.toList.take i).filter lo).length) ?_ (fun _ _ _ _ => trivial) ?_ ?_
    · exact ⟨fun b o e hb => by rw [upd_ne hb]; exact e, [], upd_same, by simp⟩
    · rintro i x H1 H2 hi ⟨k1, acc, hacc, hl⟩ ⟨rfl, c, hc, rfl⟩
      have hi2 : i < z.cps.toList.length := by simpa using hi
      have hc2 : z.cps.toList[i] = c := by
        have := Array.getElem?_eq_some_iff.mp hc
        obtain ⟨h1, h2⟩ := this
        simpa using h2
      have e3 : z.cps.toList.take (i + 1) = z.cps.toList.take i ++ [c] := by
        rw [List.take_succ_eq_append_getElem hi2, hc2]
      refine ⟨rfl, _, rfl, c, _, rfl, rfl, _, rfl, ?_⟩
      refine ite2 (fun h1 => ?_) (fun h1 => ?_)
      · have h2 : lo c = true := h1
        refine ⟨_, rfl, acc, hacc, ?_, fun b o e hb => by rw [upd_ne hb]; exact k1 b o e hb, _, upd_same, ?_⟩
        · have h3 : ((z.cps.toList.take i).filter lo).length ≤ (z.cps.toList.take i).length := List.length_filter_le _ _
          have h4 : (z.cps.toList.take i).length ≤ z.cps.toList.length := by rw [List.length_take]; omega
          have h5 : z.cps.toList.length = z.length := by simp [Str.length]
          have h6 : (1000 : Nat) < sizeLine := by decide
          omega
        · rw [e3, List.filter_append, List.length_append, List.length_append, hl]
          simp [h2]
      · have h2 : lo c = false := Bool.eq_false_iff.mpr h1
        refine ⟨k1, acc, hacc, ?_⟩
        rw [e3, List.filter_append, List.length_append, hl]
        simp [h2]
    · rintro H1 ⟨k1, acc, hacc, hl⟩
      have e4 : z.cps.toList.take z.cps.size = z.cps.toList := by
        rw [List.take_of_length_le]
        simp
      rw [e4] at hl
      have sm : Same H H1 := fun b o e => k1 b o e (ne_of_none e hD)
      have q' := q H1 sm
      rw [← name_eq z, ← hl] at q'
      refine ⟨_, rfl, _, _, rfl, ⟨hzl, rfl⟩, _, _, rfl, rfl, _, rfl, ?_⟩
      refine ite2 (fun h1 => ?_) (fun h1 => ?_)
      · rw [show decide ((1 : Int) ≤ (z.length : Int)) = true from h1, Bool.true_and] at q'
        refine ⟨_, _, rfl, rfl, _, rfl, ?_⟩
        refine ite2 (fun h2 => ?_) (fun h2 => ?_)
        · rw [show decide ((z.length : Int) ≤ 8) = true from h2, Bool.true_and] at q'
          refine ⟨_, rfl, _, _, rfl, .inl ⟨_, SqL.of hacc, rfl⟩, _, rfl, _, _, rfl, ⟨hzl, rfl⟩, rfl, ?_⟩
          show Q (V.bl (decide (V.int (acc.length : Int) = V.int (z.length : Int)))) H1
          rw [dec_int]
          exact q'
        · rw [show decide ((z.length : Int) ≤ 8) = false from Bool.eq_false_iff.mpr h2, Bool.false_and] at q'
          exact q'
      · rw [show decide ((1 : Int) ≤ (z.length : Int)) = false from Bool.eq_false_iff.mpr h1, Bool.false_and] at q'
        exact ⟨_, rfl, iteF q'⟩

theorem scTold : FnScope ["_law_odd", "_law_due", "_law_told_here", "_law_again"] ["_law_odd", "_law_due"] (defScope sTold) := ⟨rfl, rfl, rfl, by decide +kernel, rfl, by decide +kernel, by decide +kernel⟩
theorem ok_told {f : Addr} {fd : FuncData} (F : Fun K "_law_told" "_law_told" sTold f fd) (B : Binds K fd ["_law_odd", "_law_due"] []) (T : TxtT mg)
    (cI : ClK P w K mg base 1 "is_integer" ["value"] (spIsInt K CR)) (cN : ClK P w K mg base 2 "is_number" ["value"] (spIsNum K CR)) (cW : ClK P w K mg base 1 "is_name" ["value"] (spIsName K CR)) :
    FnG P w K mg base 3 f (spTold K CR) := by
  refine fnG_of F scTold B (fun vs H Q E h => ?_) (fun cdv A outer s H vs Q E hr hg h => ?_)
  · obtain ⟨x, d, _, _, _, rfl, _⟩ := h
    rfl
  · obtain ⟨x, d, b1, b2, b3, rfl, hT, hd, q⟩ := h
    refine ⟨_, pss_cons (ps_set (i := 2) scTold.nd rfl (Or.inl rfl) (pe_lst (pa_cons (pe_k cI.cl hr (by decide) (by rfl) (pa_cons (pv 0) pa_nil))
          (pa_cons (pe_k cN.cl hr (by decide) (by rfl) (pa_cons (pv 0) pa_nil)) (pa_cons (pe_k cW.cl hr (by decide) (by rfl) (pa_cons (pv 0) pa_nil)) pa_nil)))))
      (pss_cons (ps_set (i := 3) scTold.nd rfl (Or.inl rfl) (pe_lst (pa_cons (pe_kk cI hr (by decide) (by rfl) (pk_cons (pv 0) pk_nil))
          (pa_cons (pe_kk cN hr (by decide) (by rfl) (pk_cons (pv 0) pk_nil)) (pa_cons (pe_kk cW hr (by decide) (by rfl) (pk_cons (pv 0) pk_nil)) pa_nil)))))
      (pss_one (ps_ret (pe_chain op_eq op_eq (pe_callB (call_reprD hg hr.units) (by rfl) T.repr (by decide +kernel) (pa_cons (pv 2) pa_nil)) (pe_callB (call_reprD hg hr.units) (by rfl) T.repr (by decide +kernel) (pa_cons (pv 1) pa_nil))
        (pe_callB (call_reprD hg hr.units) (by rfl) T.repr (by decide +kernel) (pa_cons (pv 3) pa_nil)))))), ?_⟩
    obtain ⟨bi, bb, bs, br, hK, rfl, rfl, hN⟩ := id hT
    have nm : ∀ (H1 : Hp) (Q1 : VK), Same H H1 → Q1 (.bl b3) H1 → spIsName K CR [x] H1 Q1 E0 := by
      intro H1 Q1 e q1
      rcases hN with ⟨e1, e2⟩ | ⟨z, e1, e2, hz, e3⟩
      · subst e1
        subst e2
        exact ⟨x, rfl, .inl ⟨bi, bb, br, hK.keep e, q1⟩⟩
      · subst e1
        subst e3
        exact ⟨x, rfl, .inr ⟨z, bi, bb, br, e2, hK.keep e, hz, q1⟩⟩
    refine ⟨_, rfl, _, _, _, _, _, rfl, hK, _, rfl, _, _, _, _, _, rfl, hK, _, rfl, ?_⟩
    dsimp only [tK, tNil]
    refine nm H _ (Same.refl H) ?_
    refine ⟨(by show 3 ≤ sizeLine; decide), fun l hl => ?_⟩
    have s1 : ∀ o, Same H (upd H l o) := fun _ => Same.upd_new hl
    refine ⟨_, rfl, _, _, _, _, _, rfl, hK.keep (s1 _), _, rfl, _, _, _, _, _, rfl, hK.keep (s1 _), _, rfl, ?_⟩
    dsimp only [tK, tNil]
    refine nm _ _ (s1 _) ?_
    refine ⟨(by show 3 ≤ sizeLine; decide), fun m hm => ?_⟩
    have nlm : l ≠ m := fun e => by
      rw [← e, upd_same] at hm
      cases hm
    have s2 : ∀ o, Same (upd H l (.lst [.bl (bi && !bb), .bl (br || (bi && !bb)), .bl b3])) (upd (upd H l (.lst [.bl (bi && !bb), .bl (br || (bi && !bb)), .bl b3])) m o) := fun _ => Same.upd_new hm
    have dp : ∀ {H1 : Hp} {a : Addr}, H1 a = some (.lst [.bl (bi && !bb), .bl (br || (bi && !bb)), .bl b3]) → Dp K H1 (.ref a) (.list [.bool (bi && !bb), .bool (br || (bi && !bb)), .bool b3]) := fun e =>
      .lst (SqL.of e) (.cons (.bl _) (.cons (.bl _) (.cons (.bl _) .nil)))
    refine ⟨_, rfl, l, _, rfl, dp (s2 _ _ _ upd_same), rfl, rfl, depth_le _ _ _, shown_len _ _ _, _, rfl, d, _, rfl, dp (s2 _ _ _ (s1 _ _ _ hd)), rfl, rfl, depth_le _ _ _, shown_len _ _ _, rfl, _, rfl, ?_⟩
    refine ite2 (fun _ => ?_) (fun h1 => absurd (decide_eq_true rfl) h1)
    refine ⟨_, rfl, m, _, rfl, dp upd_same, rfl, rfl, depth_le _ _ _, shown_len _ _ _, rfl, ?_⟩
    simp only [eq_self, decide_true]
    exact q _ ((s1 _).trans (s2 _))
end
end Cm
end

/-! ## Wd -/
section
namespace Cm
open PySem PySem.Spec PyProof.Rows L2 KG
abbrev sWord : Stmt := top 26
abbrev sSpoilt : Stmt := top 27

theorem join_len (ys : List Str) : (Txt.join Str.empty ys).length ≤ (ys.map (·.length)).sum := by
  unfold Txt.join
  rw [StrLaws.glued_eq_join]
  have e0 : Str.empty.length = 0 := by decide
  induction ys with
  | nil => decide
  | cons y ys ih =>
    cases ys with
    | nil => simp [Str.join]
    | cons y2 r =>
      show ((y ++ Str.empty) ++ Str.join Str.empty (y2 :: r)).length ≤ _
      rw [Str.length_append, Str.length_append, e0, List.map_cons, List.sum_cons]
      omega
theorem sum_ones : ∀ ys : List Str, (∀ y ∈ ys, y.length = 1) → (ys.map (·.length)).sum = ys.length
  | [], _ => rfl
  | y :: ys, h => by
    rw [List.map_cons, List.sum_cons, h y List.mem_cons_self, sum_ones ys fun z hz => h z (List.mem_cons_of_mem _ hz), List.length_cons]
    omega

def spWord : Sp := fun vs H Q _ => ∃ (p : Addr), vs = [.ref p] ∧ JarAt H p ∧ ∀ (H' : Hp) (z : Str), JarAt H' p → Kp p H H' → z.length ≤ 10 → Q (.str z) H'
def spSpoilt : Sp := fun vs H Q _ => ∃ (p : Addr) (z : Str), vs = [.ref p, .str z] ∧ JarAt H p ∧ z.length ≤ 10 ∧ ∀ (H' : Hp) (y : Str), JarAt H' p → Kp p H H' → y.length ≤ 100 → Q (.str y) H'

section
variable {P : Program} {w : World} {K : PySem.W.Frag} {mg : Str → Option Value} {base : Heap} {CR : Addr}

theorem scWord : FnScope ["_law_jar_here", "_law_letters", "_law_turn"] ["_law_jar_here"] (defScope sWord) := ⟨rfl, rfl, rfl, by decide +kernel, rfl, by decide +kernel, by decide +kernel⟩
theorem ok_word {f : Addr} {fd : FuncData} (F : Fun K "_law_word" "_law_word" sWord f fd) (T : Txt mg) (cD : Cl P w K mg base 1 "_law_dip" ["_law_jar_here", "_law_many"] spDip)
    (cC : Cl P w K mg base 2 "_law_choice" ["_law_jar_here", "_law_some"] (spChoice K)) : FnOk P w K mg base CX0 3 f fd ["_law_jar_here"] spWord := by
  refine F.ok scWord (fun vs H Q E h => ?_) (fun cdv A outer s H vs Q E hr h => ?_)
  · obtain ⟨p, rfl, _⟩ := h
    rfl
  · obtain ⟨p, rfl, J, q⟩ := h
    have hr1 : Room 1 _ := hr.mono (by decide)
    refine ⟨_, pss_cons (ps_set (i := 1) scWord.nd rfl (Or.inr rfl) pe_str)
      (pss_one (ps_ret (pe_join pe_str (pe_lc (own := [("_law_turn", 2)]) (g := gName 2) (by rfl) scWord.nd
        (pi_range1 rfl T.range (pa_cons (pe_k cC hr (Nat.le_refl _) (by rfl) (pa_cons (pv 0) (pa_cons (pe_lst (pa_cons pe_int (pa_cons pe_int (pa_cons pe_int (pa_cons pe_int (pa_cons pe_int (pa_cons pe_int (pa_cons pe_int (pa_cons pe_int (pa_cons pe_int (pa_cons pe_int pa_nil))))))))))) pa_nil))) pa_nil))
        (blkOk_by (own := [("_law_turn", 2)]) (N := ["_law_jar_here", "_law_letters", "_law_turn"]) (sc := defScope sWord) (by decide +kernel))
        (fun _ _ _ _ _ => pg_name (i := 2) scWord.nd rfl (Or.inl rfl)) (fun _ _ _ _ _ => pts_nil)
        (fun _ _ _ _ _ => pe_ix ix_str (pv 1) (pe_k cD hr1 (Nat.le_refl _) (by rfl) (pa_cons (pv 0) (pa_cons pe_int pa_nil))) (fun _ _ => rfl)))))), ?_⟩
    refine ⟨⟨_, rfl⟩, _, rfl, (by show 10 ≤ sizeLine; decide), fun l hl => ?_⟩
    have s0 : ∀ o, Same H (upd H l o) := fun _ => Same.upd_new hl
    have nlp : l ≠ p := by
      obtain ⟨c, z, e, _⟩ := J
      exact (ne_of_none e hl).symm
    refine ⟨p, _, rfl, J.keep (s0 _), .inl ⟨l, _, rfl, nlp, SqL.of upd_same, (by decide), (by decide), fun H1 j v J1 k1 hv => ?_⟩⟩
    obtain ⟨m, rfl, m0, m1⟩ : ∃ m : Int, v = V.int m ∧ 0 ≤ m ∧ m ≤ 10 := by
      have hm := List.mem_of_getElem? hv
      simp only [List.mem_cons, List.not_mem_nil, or_false] at hm
      rcases hm with rfl | rfl | rfl | rfl | rfl | rfl | rfl | rfl | rfl | rfl <;> exact ⟨_, rfl, by decide, by decide⟩
    have k01 : Kp p H H1 := (Kp.same (s0 _)).trans k1
    refine ⟨m, rfl, by omega, by omega, fun D hD => ?_⟩
    have nDp : D ≠ p := by
      obtain ⟨c, z, e, _⟩ := J1
      exact (ne_of_none e hD).symm
    refine lc_range (lo := 0) (n := m.toNat) (fun i H' => JarAt H' p ∧ Kp p H1 H' ∧ ∃ ys : List Str, H' D = some (.lst (ys.map V.str)) ∧ ys.length = i ∧ ∀ y ∈ ys, y.length = 1) ?_ ?_ ?_
    · exact ⟨J1.keep (Same.upd_new hD), Kp.same (Same.upd_new hD), [], upd_same, rfl, fun y h => absurd h List.not_mem_nil⟩
    · rintro i H2 hi ⟨J2, k2, ys, hys, hl2, h1⟩
      refine ⟨rfl, _, rfl, _, rfl, p, _, rfl, J2, (by decide), (by decide), fun H3 r J3 k3 r0 r1 => ?_⟩
      obtain ⟨j, rfl⟩ : ∃ j : Nat, r = (j : Int) := ⟨r.toNat, by omega⟩
      have hj : j < abc.cps.toList.length := by
        have e : abc.cps.toList.length = 26 := by decide +kernel
        omega
      have hD3 := k3 D _ hys nDp
      refine ⟨abc, _, _, rfl, rfl, (by decide +kernel), atI_nat (List.getElem?_eq_getElem hj), ys.map V.str, hD3, ?_, ?_⟩
      · rw [List.length_map]
        exact Nat.lt_of_le_of_lt (show ys.length ≤ 10 by omega) (by decide)
      · refine ⟨?_, ?_, ys ++ [⟨#[abc.cps.toList[j]]⟩], ?_, ?_, ?_⟩
        · obtain ⟨c, z, e, r⟩ := J3
          exact ⟨c, z, by rw [upd_ne nDp.symm]; exact e, r⟩
        · intro b o e hb
          have e2 := (k2.trans k3) b o e hb
          rw [upd_ne (ne_of_none e hD)]
          exact e2
        · rw [upd_same, List.map_append]
          rfl
        · rw [List.length_append, hl2]
          rfl
        · intro y hy
          rcases List.mem_append.mp hy with hy | hy
          · exact h1 y hy
          · rw [List.mem_singleton.mp hy]
            rfl
    · rintro H2 ⟨J2, k2, ys, hys, hl2, h1⟩
      have hs := sum_ones ys h1
      refine ⟨Str.empty, D, ys, rfl, rfl, .inl (SqL.of hys), ?_, q H2 _ J2 (k01.trans k2) ?_⟩
      · have e0 : Str.empty.length = 0 := by decide
        rw [hs, e0]
        omega
      · have := join_len ys
        omega

theorem scSpoilt : FnScope ["_law_jar_here", "_law_word_here", "_law_signs", "_law_way", "_law_at", "_law_sign"] ["_law_jar_here", "_law_word_here"] (defScope sSpoilt) := ⟨rfl, rfl, rfl, by decide +kernel, rfl, by decide +kernel, by decide +kernel⟩
theorem ok_spoilt {f : Addr} {fd : FuncData} (F : Fun K "_law_spoilt" "_law_spoilt" sSpoilt f fd) (T : Txt mg) (cD : Cl P w K mg base 1 "_law_dip" ["_law_jar_here", "_law_many"] spDip)
    (cC : Cl P w K mg base 2 "_law_choice" ["_law_jar_here", "_law_some"] (spChoice K)) : FnOk P w K mg base CX0 3 f fd ["_law_jar_here", "_law_word_here"] spSpoilt := by
  refine F.ok scSpoilt (fun vs H Q E h => ?_) (fun cdv A outer s H vs Q E hr h => ?_)
  · obtain ⟨p, z, rfl, _⟩ := h
    rfl
  · obtain ⟨p, z, rfl, J, hz, q⟩ := h
    have hr1 : Room 1 _ := hr.mono (by decide)
    have hzl : z.length ≤ sizeLine := Nat.le_trans hz (by decide)
    refine ⟨_, pss_cons (ps_set (i := 2) scSpoilt.nd rfl (Or.inl rfl) pe_str)
      (pss_cons (ps_par3 (i := 3) (j := 4) (l := 5) (by rfl) scSpoilt.nd rfl rfl rfl (by decide) (by decide) (by decide) rfl rfl rfl
        (pa_cons (pe_k cD hr1 (Nat.le_refl _) (by rfl) (pa_cons (pv 0) (pa_cons pe_int pa_nil)))
          (pa_cons (pe_k cD hr1 (Nat.le_refl _) (by rfl) (pa_cons (pv 0) (pa_cons (pe_op op_add (pe_callB call_len_str (by rfl) T.len PySem.boot_len (pa_cons (pv 1) pa_nil)) pe_int) pa_nil)))
            (pa_cons (pe_k cC hr (Nat.le_refl _) (by rfl) (pa_cons (pv 0) (pa_cons (pv 2) pa_nil))) pa_nil))) (by rfl))
      (pss_cons (ps_if (pt_cmpR op_lt (pv 3) pe_int (nomark _)) (pss_one (ps_ret (pv 1))) pss_nil)
      (pss_one (ps_ret (pe_op op_add_str (pe_op op_add_str (pe_slice sl_str (pv 1) po_none (po_some (pv 4))) (pv 5))
        (pe_slice sl_str (pv 1) (po_some (pe_op op_sub (pe_op op_add (pv 4) (pv 3)) pe_int)) po_none)))))), ?_⟩
    refine ⟨_, rfl, p, _, rfl, J, (by decide), (by decide), fun H1 r1 J1 k1 a1 b1 => ?_⟩
    refine ⟨_, rfl, _, rfl, _, rfl, hzl, _, _, rfl, rfl, p, _, rfl, J1, (by omega), (by omega), fun H2 r2 J2 k2 a2 b2 => ?_⟩
    refine ⟨_, rfl, _, rfl, p, _, rfl, J2, .inr ⟨_, rfl, (by decide +kernel), (by decide +kernel), fun H3 c J3 k3 hc => ?_⟩⟩
    have k03 := (k1.trans k2).trans k3
    refine ⟨_, _, _, rfl, _, rfl, _, _, rfl, rfl, _, rfl, ?_⟩
    refine ite2 (fun h1 => ?_) (fun h1 => ?_)
    · exact ⟨_, rfl, q H3 z J3 k03 (by omega)⟩
    · have c1 := cutS_length z none (some r2)
      have c2 := cutS_length z (some (r2 + r1 - 2)) none
      have c3 : (⟨#[c]⟩ : Str).length = 1 := rfl
      refine ⟨_, rfl, _, rfl, _, rfl, z, rfl, hzl, _, rfl, _, _, rfl, rfl, ?_, ?_⟩
      · have : (30 : Nat) < sizeLine := by decide
        omega
      · refine ⟨_, rfl, _, rfl, _, rfl, _, _, rfl, rfl, _, _, rfl, rfl, _, rfl, z, rfl, hzl, _, _, rfl, rfl, ?_, ?_⟩
        · rw [Str.length_append]
          have : (30 : Nat) < sizeLine := by decide
          omega
        · refine q H3 _ J3 k03 ?_
          rw [Str.length_append, Str.length_append]
          omega
end
end Cm
end

/-! ## Ra -/
section
namespace Cm
open PySem PySem.Spec PyProof.Rows L2 KG
abbrev sRInit : Stmt := inClass (top 15) 0
abbrev sRSign : Stmt := inClass (top 15) 3
abbrev sRStr : Stmt := inClass (top 15) 15

/-! ### texts of numbers are no names -/
theorem name_no {z : Str} {c : Nat} (hc : c ∈ z.cps.toList) (h : lo c = false) : nameOk z = false := by
  rw [← name_eq z]
  have hz : z.cps.toList.length = z.length := by simp [Str.length]
  have e1 : ¬ ((((z.cps.toList.filter lo).length : Nat) : Int) = (z.length : Int)) := fun e => by
    have := filter_len (p := lo) z.cps.toList (by rw [hz]; omega) c hc
    rw [h] at this
    cases this
  rw [decide_eq_false e1, Bool.and_false, Bool.and_false]
theorem lo_small {c : Nat} (h : c < 97) : lo c = false := by
  cases e : lo c with
  | false => rfl
  | true =>
    have := (lo_iff c).mp e
    omega
theorem int_sign (n : Int) : ∃ c ∈ (Str.ofString (toString n)).cps.toList, lo c = false := by
  cases n with
  | ofNat m =>
    have e : (Str.ofString (toString (Int.ofNat m))).cps.toList = TL.numL m := TL.tl_num m
    rw [e]
    cases h : TL.numL m with
    | nil => exact absurd h (TL.numL_ne m)
    | cons c l =>
      refine ⟨c, List.mem_cons_self, lo_small ?_⟩
      have := TL.numL_digits m c (by rw [h]; exact List.mem_cons_self)
      omega
  | negSucc m =>
    have e : toString (Int.negSucc m) = "-" ++ toString (m + 1) := rfl
    refine ⟨45, ?_, lo_small (by decide)⟩
    rw [e]
    rw [Str.ofString_eq_toList, String.toList_append, List.map_append]
    exact List.mem_append_left _ (by decide)

/-! ### str(o) of an own instance with a def for it -/
section
variable {X : Cx} {k : Nat} {C f : Addr} {fd : FuncData} {ps : List Str} {sp : Sp}
theorem call_strO (F : FnOk X.prog X.w X.K X.mg X.base CX0 k f fd ps sp) (hr : Room (k + 2) X.A) (hb : Binds X.K fd ps []) (hs : PySem.W.findIn X.K (.ref C) "__str__" = some (some (.ref f))) (hf : PySem.W.isFn X.K (.ref f) = true) :
    CallR X (.type "str") (fun xs H Q => ∃ a dx fs, xs = [.ref a] ∧ H a = some (.ins C dx fs) ∧ sp [.ref a] H (fun v H' => ∃ z, v = .str z ∧ Q v H') E0) := by
  intro pins s σ H xs us Q I r h
  obtain ⟨a, dx, fs, rfl, ha, q⟩ := h
  obtain ⟨u, rfl, ru⟩ := vals1 r
  cases ru
  obtain ⟨mA, O, _⟩ := ins_get I.hok ha
  obtain ⟨od, J, _⟩ := O.look
  have hu : X.A.in1.in1.units < cLine := by
    have := hr.un
    show X.A.units + 1 + 1 < cLine
    omega
  refine PySem.W.kso_call hu I.kIn J hs hf ?_
  have rv : Vals [V.ref a] [Value.ref a] := .cons rfl .nil
  have hl : [Value.ref a].length = ps.length := by
    have := F.len _ _ _ _ q
    simpa using this
  have b := hb s [.ref a] I.kIn (by simpa using hl)
  rw [List.append_nil] at b
  refine wpAny_call (codeAny_mono (F.run X.A.in1.in1 X.stack s H ⟨[.ref a], []⟩ [.ref a] [.ref a] _ E0 (hr.in1.in1) I.env0.in1.in1 b rv q) ?_)
  intro res s' z
  cases res with
  | error e => exact z.elim
  | ok fl =>
    cases fl with
    | next => exact z.elim
    | brk => exact z.elim
    | cont => exact z.elim
    | ret u =>
      obtain ⟨v, H2, I2, rv2, y, rfl, q2⟩ := I.after z
      obtain ⟨t, rfl⟩ := rv2
      exact ⟨.str y, H2, I2, ⟨t, rfl⟩, q2⟩
end

/-! ### floor division by a divisor of either sign -/
def CDivZ (_ j : Int) : Prop := j ≠ 0 ∧ j.natAbs.log2 < 9000
theorem op_fdivZ {X : Cx} : OpR X (binaryOp .FloorDiv) (rI CDivZ fun i j => .int (i.fdiv j)) := opI fun _ _ _ _ _ _ _ hc q => floordiv_int hc.1 q (.inl (PyProof.noPylong_of_log2 hc.2))

/-! ### a ratio's attributes -/
theorem tb_ne : ¬ (("_top" : Str) = "_bottom") := by decide +kernel
def rf (x y : Int) : List (Str × V) := putF "_bottom" (.int y) (putF "_top" (.int x) [])
theorem rf_eq (x y : Int) : rf x y = ([("_top", V.int x), ("_bottom", V.int y)] : List (Str × V)) := by
  show (if ("_top" : Str) = "_bottom" then [(("_top" : Str), V.int y)] else (("_top" : Str), V.int x) :: putF "_bottom" (V.int y) []) = ([("_top", V.int x), ("_bottom", V.int y)] : List (Str × V))
  rw [if_neg tb_ne]
  all_goals rfl
theorem rf_top (x y : Int) : (rf x y).lookup ("_top" : Str) = some (.int x) := by
  unfold rf
  rw [lookup_putF, if_neg tb_ne, lookup_putF, if_pos rfl]
theorem rf_bot (x y : Int) : (rf x y).lookup ("_bottom" : Str) = some (.int y) := by
  unfold rf
  rw [lookup_putF, if_pos rfl]
theorem rf_no (x y : Int) {m : Str} (h1 : ¬ m = "_bottom") (h2 : ¬ m = "_top") : (rf x y).lookup m = none := by
  unfold rf
  rw [lookup_putF, if_neg h1, lookup_putF, if_neg h2]
  all_goals rfl
/-- a ratio x / y stands at a -/
def RatAt (CR : Addr) (H : Hp) (a : Addr) (x y : Int) : Prop := ∃ dx, H a = some (.ins CR dx (rf x y))
theorem RatAt.keep {CR : Addr} {H H' : Hp} {a : Addr} {x y : Int} (e : Same H H') (h : RatAt CR H a x y) : RatAt CR H' a x y := by
  obtain ⟨dx, h⟩ := h
  exact ⟨dx, e _ _ h⟩
/-- by what both parts are divided -/
def lowBy (t b : Int) : Int := if b < 0 then -((Nat.gcd t.natAbs b.natAbs : Nat) : Int) else ((Nat.gcd t.natAbs b.natAbs : Nat) : Int)
theorem lowBy_ne {t b : Int} (h : b ≠ 0) : lowBy t b ≠ 0 := by
  have g : 0 < Nat.gcd t.natAbs b.natAbs := Nat.gcd_pos_of_pos_right _ (by omega)
  unfold lowBy
  split <;> omega
theorem lowBy_le {t b : Int} (h : b ≠ 0) : (lowBy t b).natAbs ≤ b.natAbs := by
  have g : Nat.gcd t.natAbs b.natAbs ≤ b.natAbs := Nat.gcd_le_right _ (by omega)
  unfold lowBy
  split <;> omega
theorem log_of {z : Int} {n : Nat} (h : z.natAbs < 2 ^ n) (h0 : 0 < n) : z.natAbs.log2 < n := PySem.Flt.log2_lt_of h0 h

structure TxtR (K : PySem.W.Frag) (mg : Str → Option Value) (CR : Addr) : Prop where
  cl : Cls K CR
  nT : NoAttr K CR "_top"
  nB : NoAttr K CR "_bottom"
  mgR : mg "Ratio" = some (.ref CR)
  gcd : mg "gcd" = some (.builtin "math.gcd")
  str : mg "str" = none
  isi : mg "isinstance" = none

def spRInit (CR : Addr) : Sp := fun vs H Q _ => ∃ (p dx : Addr) (t b : Int), vs = [.ref p, .int t, .int b] ∧ H p = some (.ins CR dx []) ∧ b ≠ 0 ∧ t.natAbs < 2 ^ 8000 ∧ b.natAbs < 2 ^ 8000 ∧
  ∀ H' : Hp, H' p = some (.ins CR dx (rf (t.fdiv (lowBy t b)) (b.fdiv (lowBy t b)))) → (∀ a o, H a = some o → a ≠ p → H' a = some o) → Q .non H'
def spRStr (CR : Addr) : Sp := fun vs H Q _ => ∃ (p : Addr) (x y : Int), vs = [.ref p] ∧ RatAt CR H p x y ∧ x.natAbs < 2 ^ 1000 ∧ y.natAbs < 2 ^ 1000 ∧ ∀ z : Str, z.length ≤ 4000 → nameOk z = false → Q (.str z) H
def spRSign (CR : Addr) : Sp := fun vs H Q _ => ∃ (p : Addr) (x y : Int), vs = [.ref p] ∧ RatAt CR H p x y ∧ Q (.int (if x = 0 then 0 else if 0 < x then 1 else -1)) H

/-- kinds of ints -/
theorem kind_int {K : PySem.W.Frag} {CR : Addr} {H : Hp} (n : Int) (h : PySem.W.kitOne K (.type "int") (.ref CR) = some false) : Kind K CR H (.int n) true false false false :=
  ⟨_, .base (.int n), kit_ty (by decide +kernel), kit_ty (by decide +kernel), kit_ty (by decide +kernel), h⟩

section
variable {P : Program} {w : World} {K : PySem.W.Frag} {mg : Str → Option Value} {base : Heap} {CR : Addr}

theorem scRInit : FnScope ["self", "top", "bottom", "shared"] ["self", "top", "bottom"] (defScope sRInit) := ⟨rfl, rfl, rfl, by decide +kernel, rfl, by decide +kernel, by decide +kernel⟩
theorem ok_rInit {f : Addr} {fd : FuncData} (F : FunD K "__init__" "Ratio.__init__" (defArgs sRInit) (defBody sRInit) (defScope sRInit) [.int 1] [] f fd) (T : TxtR K mg CR)
    (cI : Cl P w K mg base 1 "is_integer" ["value"] (spIsInt K CR)) (kI : PySem.W.kitOne K (.type "int") (.ref CR) = some false) : FnOk P w K mg base CX0 2 f fd ["self", "top", "bottom"] (spRInit CR) := by
  refine F.ok scRInit (fun vs H Q E h => ?_) (fun cdv A outer s H vs Q E hr h => ?_)
  · obtain ⟨p, dx, t, b, rfl, _⟩ := h
    rfl
  · obtain ⟨p, dx, t, b, rfl, hp, hb, ht2, hb2, q⟩ := h
    refine ⟨_, PSs.nox (pss_cons (ps_if (pt_not (pt_val (pe_k cI hr (Nat.le_refl _) (by rfl) (pa_cons (pv 1) pa_nil)))) (pss_one ps_never) pss_nil)
      (pss_cons (ps_if (PW.pt (pw_or (pt_not (pt_val (pe_k cI hr (Nat.le_refl _) (by rfl) (pa_cons (pv 2) pa_nil)))) (pw_or1 (pt_cmpR op_eq (pv 2) pe_int (nomark _))))) (pss_one ps_never) pss_nil)
      (pss_cons (ps_set (i := 3) scRInit.nd rfl (Or.inl rfl) (pe_callBfun cr_gcd (by rfl) T.gcd (pa_cons (pv 1) (pa_cons (pv 2) pa_nil))))
      (C8.pss_cut (ps_if (pt_cmpR op_lt (pv 2) pe_int (nomark _)) (pss_one (ps_set (i := 3) scRInit.nd rfl (Or.inl rfl) (pe_un un_neg (pv 3)))) pss_nil)
      (pss_cons (ps_fld (pv 0) (pe_op op_fdivZ (pv 1) (pv 3)) rfl) (pss_one (ps_fld (pv 0) (pe_op op_fdivZ (pv 2) (pv 3)) rfl))))))), ?_⟩
    refine ⟨_, rfl, _, _, _, _, _, rfl, kind_int t kI, _, rfl, ?_⟩
    refine iteF ⟨_, rfl, _, _, _, _, _, rfl, kind_int b kI, _, rfl, ?_⟩
    refine iteF ⟨_, rfl, rfl, _, rfl, ?_⟩
    have nb : decide (V.int b = V.int 0) = false := by
      rw [dec_int]
      exact decide_eq_false hb
    rw [nb]
    refine iteF ⟨_, rfl, _, rfl, _, _, rfl, ?_⟩
    refine ⟨fun σ H' => σ = [some (.ref p), some (.int t), some (.int b), some (.int (lowBy t b))] ∧ H' = H, ?_, ?_⟩
    · refine ⟨_, rfl, _, _, rfl, rfl, _, rfl, ?_⟩
      unfold lowBy
      refine ite2 (fun h1 => ?_) (fun h1 => ?_)
      · rw [if_pos (show b < 0 from of_decide_eq_true h1)]
        exact ⟨_, rfl, _, rfl, rfl, rfl⟩
      · rw [if_neg (show ¬ b < 0 from fun z => h1 (decide_eq_true z))]
        exact ⟨rfl, rfl⟩
    · rintro σ H' ⟨rfl, rfl⟩
      have cz : CDivZ 0 (lowBy t b) := ⟨lowBy_ne hb, by
        have := log_of (Nat.lt_of_le_of_lt (lowBy_le (t := t) hb) hb2) (by decide)
        omega⟩
      refine ⟨_, rfl, _, rfl, _, _, rfl, rfl, cz, _, rfl, p, CR, dx, _, rfl, hp, T.cl, T.nT, (by show 0 < 1000; decide), ?_⟩
      refine ⟨_, rfl, _, rfl, _, _, rfl, rfl, cz, _, rfl, p, CR, dx, _, rfl, upd_same, T.cl, T.nB, (by show 1 < 1000; decide), ?_⟩
      exact q _ upd_same fun a o e ha => by rw [upd_ne ha, upd_ne ha]; exact e

theorem scRSign : FnScope ["self"] ["self"] (defScope sRSign) := ⟨rfl, rfl, rfl, by decide +kernel, rfl, by decide +kernel, by decide +kernel⟩
theorem ok_rSign {f : Addr} {fd : FuncData} (F : Fun K "sign" "Ratio.sign" sRSign f fd) (T : TxtR K mg CR) : FnOk P w K mg base CX0 1 f fd ["self"] (spRSign CR) := by
  refine F.ok scRSign (fun vs H Q E h => ?_) (fun cdv A outer s H vs Q E hr h => ?_)
  · obtain ⟨p, x, y, rfl, _⟩ := h
    rfl
  · obtain ⟨p, x, y, rfl, ⟨dx, hp⟩, q⟩ := h
    refine ⟨_, pss_cons (ps_if (pt_cmpR op_eq (pe_fld (pv 0) rfl) pe_int (nomark _)) (pss_one (ps_ret pe_int)) pss_nil)
      (pss_one (ps_ret (pe_ifExp (pt_cmpR op_gt (pe_fld (pv 0) rfl) pe_int (nomark _)) pe_int (pe_un un_neg pe_int)))), ?_⟩
    refine ⟨_, rfl, p, CR, dx, _, _, rfl, hp, T.cl, T.nT, rf_top _ _, rfl, _, rfl, ?_⟩
    refine ite2 (fun h1 => ?_) (fun h1 => ?_)
    · have h2 : x = 0 := V.int.inj (of_decide_eq_true h1)
      rw [if_pos h2] at q
      exact q
    · have h2 : ¬ x = 0 := fun z => h1 (decide_eq_true (congrArg V.int z))
      rw [if_neg h2] at q
      refine ⟨_, rfl, p, CR, dx, _, _, rfl, hp, T.cl, T.nT, rf_top _ _, _, _, rfl, rfl, _, rfl, ?_⟩
      refine ite2 (fun h3 => ?_) (fun h3 => ?_)
      · rw [if_pos (show 0 < x from of_decide_eq_true h3)] at q
        exact q
      · rw [if_neg (show ¬ 0 < x from fun z => h3 (decide_eq_true z))] at q
        exact ⟨_, rfl, q⟩

theorem scRStr : FnScope ["self"] ["self"] (defScope sRStr) := ⟨rfl, rfl, rfl, by decide +kernel, rfl, by decide +kernel, by decide +kernel⟩
theorem ok_rStr {f : Addr} {fd : FuncData} (F : Fun K "__str__" "Ratio.__str__" sRStr f fd) (T : TxtR K mg CR) : FnOk P w K mg base CX0 1 f fd ["self"] (spRStr CR) := by
  refine F.ok scRStr (fun vs H Q E h => ?_) (fun cdv A outer s H vs Q E hr h => ?_)
  · obtain ⟨p, x, y, rfl, _⟩ := h
    rfl
  · obtain ⟨p, x, y, rfl, ⟨dx, hp⟩, hx, hy, q⟩ := h
    refine ⟨_, pss_cons (ps_if (pt_cmpR op_eq (pe_fld (pv 0) rfl) pe_int (nomark _)) (pss_one (ps_ret (pe_callTy call_str_int (by rfl) T.str (by decide +kernel) (pa_cons (pe_fld (pv 0) rfl) pa_nil)))) pss_nil)
      (pss_one (ps_ret (pe_joined (.cons (pe_fmt (pe_fld (pv 0) rfl)) (.cons pe_str (.cons (pe_fmt (pe_fld (pv 0) rfl)) .nil)))))), ?_⟩
    have lx := log_of hx (by decide)
    have ly := log_of hy (by decide)
    have tx : (Str.ofString (toString x)).length ≤ 1001 := by
      have e := int_text_length_le (k := 1000) (by decide) lx
      rw [PySem.ofString_length]
      exact e
    have ty : (Str.ofString (toString y)).length ≤ 1001 := by
      have e := int_text_length_le (k := 1000) (by decide) ly
      rw [PySem.ofString_length]
      exact e
    have e0 : (Str.empty).length = 0 := by decide
    have e1 : (Str.ofString "/").length = 1 := by decide
    have big : (4000 : Nat) < sizeLine := by decide
    refine ⟨_, rfl, p, CR, dx, _, _, rfl, hp, T.cl, T.nB, rf_bot _ _, rfl, _, rfl, ?_⟩
    refine ite2 (fun h1 => ?_) (fun h1 => ?_)
    · refine ⟨_, rfl, p, CR, dx, _, _, rfl, hp, T.cl, T.nT, rf_top _ _, _, rfl, by omega, q _ (by omega) (let ⟨c, hc, h⟩ := int_sign x; name_no hc h)⟩
    · refine ⟨_, rfl, p, CR, dx, _, _, rfl, hp, T.cl, T.nT, rf_top _ _, .inr ⟨_, rfl, by omega, _, rfl, ?_, _, rfl, ?_, _, rfl, p, CR, dx, _, _, rfl, hp, T.cl, T.nB, rf_bot _ _, .inr ⟨_, rfl, by omega, _, rfl, ?_, q _ ?_ ?_⟩⟩⟩
      rotate_right
      · obtain ⟨c, hc, h⟩ := int_sign x
        refine name_no (c := c) ?_ h
        simp only [Str.cps_append, Array.toList_append, List.mem_append]
        exact .inl (.inl (.inr hc))
      all_goals simp only [Str.length_append]
      all_goals omega
end
end Cm
end

/-! ## Fo -/
section
namespace Cm
open PySem PySem.Spec PyProof.Rows L2 KG
abbrev sMaps : Stmt := top 17
abbrev sFInit : Stmt := inClass (top 19) 0
abbrev sFOf : Stmt := inClass (top 19) 1

/-- what a class must have that isinstance may be asked of its instances -/
structure InsK (K : PySem.W.Frag) (C : Addr) : Prop where
  cl : Cls K C
  ha : PySem.W.findIn K (.ref C) "__class__" = some (some (.builtin "object.__class__"))
  hn : PySem.W.specialIn K (.builtin "object.__class__") "__get__" = some (some (.builtin "getset_descriptor.__get__"))
  htk : PySem.W.takesIn K (.builtin "object.__class__") = some true
  hm : PySem.W.mroIn K C (.type "object") = some true
theorem InsK.ty {K : PySem.W.Frag} {C : Addr} {H : Hp} {a dx : Addr} {fs : List (Str × V)} (c : InsK K C) (h : H a = some (.ins C dx fs)) : TyX K H (.ref a) (.ref C) := .base (.ins h c.cl c.ha c.hn c.htk c.hm)

/-- a class that may be made by its name; dvs: the defaults that fill up -/
structure MkC (P : Program) (w : World) (K : PySem.W.Frag) (mg : Str → Option Value) (base : Heap) (k : Nat) (x : Str) (C : Addr) (ps : List Str) (dvs : List V) (sp : Sp) : Prop where
  ex : ∃ (f : Addr) (fd : FuncData) (ds : List Value), Mk K C f ∧ FnOk P w K mg base CX0 k f fd ps sp ∧ mg x = some (.ref C) ∧ Vals dvs ds ∧ Binds K fd ps ds
section
variable {X : Cx} {k j : Nat} {x : Str} {C : Addr} {ps : List Str} {dvs : List V} {sp : Sp} {p pos : Pos} {e : Expr} {es : List Expr} {t : TA}
theorem pe_mk (c : MkC X.prog X.w X.K X.mg X.base k x C ps dvs sp) (hr : Room j X.A) (hj : k + 1 ≤ j) (gl : Gl X x) (ha : PA X (e :: es) t)
    (hdb : (x == ("__debug__" : Str)) = false := by decide)
    (he : starEach (e :: es) X.env = (false, eval e X.env) :: starEach es X.env := by rfl)
    (hpl : (backTo pos (starEach es X.env)).any (·.1) = false := by rfl) :
    PE X (.Call (.Name x p) (e :: es) [] pos) (tMake C sp dvs E0 t) := by
  obtain ⟨f, fd, ds, M, F, hm, hd, hb⟩ := c.ex
  exact pe_make M F (hr.mono hj) gl hm hb hd pass0 ha hdb he hpl
end

def spAsRatio (K : PySem.W.Frag) (CR : Addr) : Sp := fun vs H Q _ => ∃ (x : V), vs = [x] ∧
  ((∃ n : Int, x = .int n ∧ n.natAbs < 2 ^ 8000 ∧ ∀ (H' : Hp) (p : Addr), Same H H' → H p = none → RatAt CR H' p (n.fdiv (lowBy n 1)) ((1 : Int).fdiv (lowBy n 1)) → Q (.ref p) H') ∨
   ∃ (a : Addr) (u y : Int), x = .ref a ∧ RatAt CR H a u y ∧ Q (.ref a) H)
/-- the pairs of a dict from names to ints -/
def NamesInts (kvs : List (Key × V)) : Prop := kvs.length < 60 ∧ (kvs.map (·.1)).Nodup ∧ ∀ q ∈ kvs, ∃ (z : Str) (n : Int), q = (Sum.inr z, .int n) ∧ nameOk z = true ∧ z.length ≤ sizeLine ∧ n.natAbs < 2 ^ 8000
def spMaps : Sp := fun vs H Q _ => ∃ (d : Addr) (kvs : List (Key × V)), vs = [.ref d] ∧ H d = some (.dK kvs) ∧ NamesInts kvs ∧ ∀ H' : Hp, Same H H' → Q (.bl true) H'

structure TxtF (mg : Str → Option Value) : Prop where
  isi : mg "isinstance" = none
  dict : mg "dict" = none
  all : mg "all" = none
  sorted : mg "sorted" = none

theorem Same.made2 {H : Hp} {x dx : Addr} {o u : HO} (n : H x = none) (m : H dx = none) : Same H (upd (upd H dx o) x u) := fun b v e => by
  rw [upd_ne (ne_of_none e n), upd_ne (ne_of_none e m)]
  exact e

section
variable {P : Program} {w : World} {K : PySem.W.Frag} {mg : Str → Option Value} {base : Heap} {CR : Addr}

theorem scAsRatio : FnScope ["value"] ["value"] (defScope sAsRatio) := ⟨rfl, rfl, rfl, by decide +kernel, rfl, by decide +kernel, by decide +kernel⟩
theorem ok_asRatio {f : Addr} {fd : FuncData} (F : Fun K "as_ratio" "as_ratio" sAsRatio f fd) (T : TxtR K mg CR) (cR : MkC P w K mg base 2 "Ratio" CR ["self", "top", "bottom"] [.int 1] (spRInit CR)) (iR : InsK K CR)
    (kI : PySem.W.kitOne K (.type "int") (.ref CR) = some false) (kR : PySem.W.kitOne K (.ref CR) (.ref CR) = some true) : FnOk P w K mg base CX0 4 f fd ["value"] (spAsRatio K CR) := by
  refine F.ok scAsRatio (fun vs H Q E h => ?_) (fun cdv A outer s H vs Q E hr h => ?_)
  · obtain ⟨x, rfl, _⟩ := h
    rfl
  · obtain ⟨x, rfl, h⟩ := h
    refine ⟨_, pss_cons (ps_if (pt_val (pe_callB call_isi (by rfl) T.isi (by decide +kernel) (pa_cons (pv 0) (pa_cons (pe_glob (v := .ref CR) (by rfl) T.mgR rfl) pa_nil)))) (pss_one (ps_ret (pv 0))) pss_nil)
      (pss_one (ps_ret (pe_mk cR hr (Nat.le_refl _) (by rfl) (pa_cons (pv 0) pa_nil)))), ?_⟩
    rcases h with ⟨n, rfl, hn, q⟩ | ⟨a, u, y, rfl, ⟨dx, ha⟩, q⟩
    · refine ⟨_, rfl, _, _, _, _, _, rfl, .own _, .base (.int n), kI, _, rfl, ?_⟩
      refine iteF ⟨_, rfl, fun x dx nx ndx ne => ?_⟩
      refine ⟨x, dx, n, 1, rfl, upd_same, by decide, hn, by decide, fun H' h1 h2 => ⟨rfl, ?_⟩⟩
      refine q H' x (fun b o e => ?_) nx ⟨dx, h1⟩
      exact h2 b o ((Same.made2 nx ndx) b o e) (ne_of_none e nx)
    · refine ⟨_, rfl, _, _, _, _, _, rfl, .own _, iR.ty ha, kR, _, rfl, ?_⟩
      exact iteT ⟨_, rfl, q⟩

theorem scMaps : FnScope ["value", "name"] ["value"] (defScope sMaps) := ⟨rfl, rfl, rfl, by decide +kernel, rfl, by decide +kernel, by decide +kernel⟩
theorem ok_maps {f : Addr} {fd : FuncData} (F : Fun K "maps_names_to_numbers" "maps_names_to_numbers" sMaps f fd) (T : TxtF mg)
    (cN : Cl P w K mg base 2 "is_number" ["value"] (spIsNum K CR)) (cW : Cl P w K mg base 1 "is_name" ["value"] (spIsName K CR))
    (kI : PySem.W.kitOne K (.type "int") (.ref CR) = some false) (kS : PySem.W.kitOne K (.type "str") (.ref CR) = some false) : FnOk P w K mg base CX0 3 f fd ["value"] spMaps := by
  refine F.ok scMaps (fun vs H Q E h => ?_) (fun cdv A outer s H vs Q E hr h => ?_)
  · obtain ⟨d, kvs, rfl, _⟩ := h
    rfl
  · obtain ⟨d, kvs, rfl, hd, hN, q⟩ := h
    have hu := hu_of hr
    refine ⟨_, pss_cons (ps_if (pt_not (pt_val (pe_callB call_isi (by rfl) T.isi (by decide +kernel) (pa_cons (pv 0) (pa_cons (pe_bltn (v := .ty "dict") (by rfl) T.dict (by decide +kernel) rfl) pa_nil))))) (pss_one (ps_ret pe_bl)) pss_nil)
      (pss_one (ps_ret (pe_callB (cr_all (by rfl)) (by rfl) T.all (by decide +kernel) (pa_cons (pe_lock (pe_lc (own := [("name", 1)]) (g := gName 1) (by rfl) scMaps.nd (pi_keys (pv 0))
        (blkOk_by (own := [("name", 1)]) (N := ["value", "name"]) (sc := defScope sMaps) (by decide +kernel)) (fun _ _ _ _ _ => pg_name (i := 1) scMaps.nd rfl (Or.inl rfl)) (fun _ _ _ _ _ => pts_nil)
        (fun _ _ _ _ _ => pe_and (pe_k cW hr (by decide) (by rfl) (pa_cons (pv 1) pa_nil)) (pe_one (pe_k cN hr (by decide) (by rfl) (pa_cons (pe_dget hu (pv 0) (pv 1) (fun _ _ => rfl)) pa_nil)))))) pa_nil)))), ?_⟩
    refine ⟨_, rfl, _, _, _, _, _, rfl, .ty _, .base (.dK hd), kit_ty (r := true) (by decide +kernel), _, rfl, ?_⟩
    refine iteF ?_
    refine ⟨d, _, hd, trivial, fun od => ⟨_, rfl, d, od, rfl, .inl ⟨kvs, upd_same, fun D hD => ?_⟩⟩⟩
    have ndD : d ≠ D := fun e => by
      rw [← e, upd_same] at hD
      cases hD
    have hD0 : H D = none := by
      rw [upd_ne ndD.symm] at hD
      exact hD
    refine lc_it walk_keys (fun i H' => H' d = some (.frz od (.dK kvs)) ∧ (∀ b o, H b = some o → b ≠ d → H' b = some o) ∧ H' D = some (.lst ((List.replicate i true).map V.bl))) ?_ (fun _ _ _ p => p.1) ?_ ?_
    · refine ⟨by rw [upd_ne ndD]; exact upd_same, fun b o e hb => ?_, upd_same⟩
      rw [upd_ne (ne_of_none e hD0), upd_ne hb]
      exact e
    · rintro i x H1 H2 hi ⟨p1, p2, p3⟩ ⟨rfl, k, v, hk, rfl⟩
      obtain ⟨z, n, e1, hz, hzl, hn⟩ := hN.2.2 (k, v) (List.mem_of_getElem? hk)
      cases e1
      have hv : valV kvs (Sum.inr z) = some (.int n) := val_nodup hN.2.1 (Sum.inr z, .int n) (List.mem_of_getElem? hk)
      refine ⟨rfl, _, rfl, _, rfl, .inr ⟨z, false, false, false, rfl, ⟨_, .base (.str z), kit_ty (by decide +kernel), kit_ty (by decide +kernel), kit_ty (by decide +kernel), kS⟩, hzl, _, rfl, ?_⟩⟩
      rw [hz]
      refine iteT ⟨_, rfl, _, rfl, d, .int n, rfl, ?_, ?_⟩
      · rw [← hv]
        exact .inl ⟨kvs, Sum.inr z, .inr ⟨od, p1⟩, rfl, rfl⟩
      · refine ⟨_, _, _, _, _, rfl, kind_int n kI, _, p3, ?_, ?_, ?_, ?_⟩
        · rw [List.length_map, List.length_replicate]
          have : (60 : Nat) < sizeLine := by decide
          have := hN.1
          omega
        · rw [upd_ne ndD]
          exact p1
        · intro b o e hb
          rw [upd_ne (ne_of_none e hD0)]
          exact p2 b o e hb
        · rw [upd_same, List.replicate_succ', List.map_append]
          rfl
    · rintro H1 ⟨p1, p2, p3⟩
      refine ⟨p1, D, List.replicate kvs.length true, rfl, SqL.of (by rw [upd_ne ndD.symm]; exact p3), ?_⟩
      have ea : (List.replicate kvs.length true).all id = true := by
        rw [List.all_eq_true]
        intro b hb
        exact (List.mem_replicate.mp hb).2
      rw [ea]
      refine q _ fun b o e => ?_
      by_cases hb : b = d
      · subst hb
        rw [hd] at e
        cases e
        exact upd_same
      · rw [upd_ne hb]
        exact p2 b o e hb
end
end Cm
end

/-! ## Fi -/
section
namespace Cm
open PySem PySem.Spec PyProof.Rows L2 KG

/-- a dict comprehension over a walk -/
theorem dc_it {J : It} {n : Nat} {G : Hp → Prop} {Y : Nat → Hp → V → Hp → Prop} (w : Walk J n G Y) {g : TG} {tt : TT} {tk tv : TE} {vs : List Nat} {σ : L2.St} {H1 : Hp} {D : Addr} {R : Hp → Prop}
    (Pv : Nat → Hp → Prop) (h0 : Pv 0 (upd H1 D (.dK []))) (hG : ∀ i H, i ≤ n → Pv i H → G H)
    (turn : ∀ i x H H', i < n → Pv i H → Y i H x H' → g x (wipe σ vs) H' fun σ2 H2 => wipe σ2 vs = wipe σ vs ∧ tt σ2 H2 fun b H3 =>
      if b = true then tk σ2 H3 fun y H4 => tv σ2 H4 fun z H5 => ∃ kvs k, y = kV k ∧ H5 D = some (.dK kvs) ∧ kvs.length < sizeLine ∧ Pv (i + 1) (upd H5 D (.dK (putK kvs k z))) else Pv (i + 1) H3)
    (fin : ∀ H, Pv n H → R H) :
    ∃ W : Nat → Nat → Hp → Prop, (∃ m, W 0 m (upd H1 D (.dK []))) ∧ ∀ i m H, W i m H →
      (J.stop i H ∧ R H) ∨ (J.go i H ∧ ∃ Nx : Hp → Prop, (∀ H', Nx H' → ∃ m', m' < m ∧ W (i + 1) m' H') ∧ ∀ x H', J.yld i H x H' → g x (wipe σ vs) H' fun σ2 H2 => wipe σ2 vs = wipe σ vs ∧ tt σ2 H2 fun b H3 =>
        if b = true then tk σ2 H3 fun y H4 => tv σ2 H4 fun z H5 => ∃ kvs k, y = kV k ∧ H5 D = some (.dK kvs) ∧ kvs.length < sizeLine ∧ Nx (upd H5 D (.dK (putK kvs k z))) else Nx H3) := by
  refine ⟨fun i m H => m + i = n ∧ Pv i H, ⟨n, rfl, h0⟩, ?_⟩
  rintro i m H ⟨e, p⟩
  have g1 := hG i H (by omega) p
  by_cases lt : i < n
  · refine .inr ⟨w.goes i H lt g1, Pv (i + 1), fun H' p' => ⟨n - (i + 1), by omega, by omega, p'⟩, ?_⟩
    intro x H' y
    exact turn i x H H' lt p (w.yields i H x H' lt g1 y)
  · have e2 : i = n := by omega
    subst e2
    exact .inl ⟨w.stops H g1, fin H p⟩

section
variable {κ : Type} [DecidableEq κ]
theorem mem_putK {kvs : List (κ × V)} {k : κ} {v : V} {q : κ × V} (h : q ∈ putK kvs k v) : q ∈ kvs ∨ q = (k, v) := by
  unfold putK at h
  split at h
  · obtain ⟨p, hp, e⟩ := List.mem_map.mp h
    by_cases c : p.1 = k
    · rw [if_pos c] at e
      exact .inr (by rw [← e, c])
    · rw [if_neg c] at e
      exact .inl (by rw [← e]; exact hp)
  · rcases List.mem_append.mp h with h | h
    · exact .inl h
    · exact .inr (List.mem_singleton.mp h)
theorem len_putK (kvs : List (κ × V)) (k : κ) (v : V) : (putK kvs k v).length ≤ kvs.length + 1 := by
  unfold putK
  split
  · rw [List.length_map]
    omega
  · rw [List.length_append]
    exact Nat.le_refl _
theorem val_some {kvs : List (κ × V)} {k : κ} {v : V} (h : (k, v) ∈ kvs) : ∃ v', valV kvs k = some v' ∧ (k, v') ∈ kvs := by
  unfold valV
  cases e : kvs.find? fun kv => decide (kv.1 = k) with
  | none =>
    have := List.find?_eq_none.mp e (k, v) h
    simp at this
  | some q =>
    have h1 := List.mem_of_find?_eq_some e
    have h2 : q.1 = k := by simpa using List.find?_some e
    exact ⟨q.2, rfl, by rw [← h2]; exact h1⟩
end

theorem names_keys : ∀ kvs : List (Key × V), (∀ q ∈ kvs, ∃ (z : Str) (n : Int), q = (Sum.inr z, .int n) ∧ nameOk z = true ∧ z.length ≤ sizeLine ∧ n.natAbs < 2 ^ 8000) → ∃ ks : List Str, kvs.map (·.1) = ks.map Sum.inr ∧ ks.length = kvs.length
  | [], _ => ⟨[], rfl, rfl⟩
  | q :: r, h => by
    obtain ⟨ks, h1, h2⟩ := names_keys r fun q hq => h q (List.mem_cons_of_mem _ hq)
    obtain ⟨z, n, rfl, _⟩ := h q List.mem_cons_self
    exact ⟨z :: ks, by rw [List.map_cons, List.map_cons, h1], by rw [List.length_cons, List.length_cons, h2]⟩
theorem names_val (kvs : List (Key × V)) (h : NamesInts kvs) {ks : List Str} (hk : kvs.map (·.1) = ks.map Sum.inr) {z : Str} (hz : z ∈ ks) : ∃ n : Int, valV kvs (Sum.inr z) = some (.int n) ∧ n.natAbs < 2 ^ 8000 := by
  have h1 : (Sum.inr z : Key) ∈ kvs.map (·.1) := by
    rw [hk]
    exact List.mem_map.mpr ⟨z, hz, rfl⟩
  obtain ⟨q, hq, e⟩ := List.mem_map.mp h1
  obtain ⟨z2, n, rfl, _, _, hn⟩ := h.2.2 q hq
  have e2 : z2 = z := Sum.inr.inj e
  subst e2
  exact ⟨n, val_nodup h.2.1 _ hq, hn⟩
def nf (na : Addr) : List (Str × V) := [("_number", .ref na)]
theorem nw_ne : ¬ (("_number" : Str) = "_weights") := by decide +kernel
/-- the argument for a form's weights -/
def WArg (H : Hp) (x : V) (kvs : List (Key × V)) : Prop := (x = .non ∧ kvs = []) ∨ ∃ d, x = .ref d ∧ H d = some (.dK kvs) ∧ NamesInts kvs
def NArg (CR : Addr) (H : Hp) (x : V) : Prop := (∃ n : Int, x = .int n ∧ n.natAbs < 2 ^ 8000) ∨ ∃ (a : Addr) (u y : Int), x = .ref a ∧ RatAt CR H a u y
def spFInit (CF CR : Addr) : Sp := fun vs H Q _ => ∃ (p dx : Addr) (x y : V) (kvs : List (Key × V)), vs = [.ref p, x, y] ∧ H p = some (.ins CF dx []) ∧ WArg H x kvs ∧ NArg CR H y ∧
  ∀ (H' : Hp) (fs : List (Str × V)), H' p = some (.ins CF dx fs) → (∀ b o, H b = some o → b ≠ p → H' b = some o) → Q .non H'

structure TxtI (K : PySem.W.Frag) (mg : Str → Option Value) (CF CR pS gS : Addr) : Prop where
  cl : Cls K CF
  nN : NoAttr K CF "_number"
  nW : NoAttr K CF "_weights"
  sorted : mg "sorted" = none
  clR : Cls K CR
  sgn : PropOf K CR "sign" pS gS

section
variable {P : Program} {w : World} {K : PySem.W.Frag} {mg : Str → Option Value} {base : Heap} {CF CR pS gS : Addr}

theorem scFInit : FnScope ["self", "weights", "number", "ratios", "name"] ["self", "weights", "number"] (defScope sFInit) := ⟨rfl, rfl, rfl, by decide +kernel, rfl, by decide +kernel, by decide +kernel⟩
theorem ok_fInit {f : Addr} {fd fdS : FuncData} (F : FunD K "__init__" "Form.__init__" (defArgs sFInit) (defBody sFInit) (defScope sFInit) [.non, .int 0] [] f fd) (T : TxtI K mg CF CR pS gS)
    (cM : Cl P w K mg base 3 "maps_names_to_numbers" ["value"] spMaps) (cA : Cl P w K mg base 4 "as_ratio" ["value"] (spAsRatio K CR))
    (GS : FnOk P w K mg base CX0 1 gS fdS ["self"] (spRSign CR)) (bS : Binds K fdS ["self"] []) : FnOk P w K mg base CX0 5 f fd ["self", "weights", "number"] (spFInit CF CR) := by
  refine F.ok scFInit (fun vs H Q E h => ?_) (fun cdv A outer s H vs Q E hr h => ?_)
  · obtain ⟨p, dx, x, y, kvs, rfl, _⟩ := h
    rfl
  · obtain ⟨p, dx, x, y, kvs, rfl, hp, hW, hA, q⟩ := h
    have hu := hu_of hr
    have hr2 : Room 2 _ := hr.mono (by decide)
    refine ⟨_, PSs.nox (C8.pss_cut (ps_if (pt_cmpR op_isN (pv 1) pe_non (nomark _)) (pss_one (ps_set (i := 1) scFInit.nd rfl (Or.inr rfl) pe_dnewK)) pss_nil)
      (pss_cons (ps_if (pt_not (pt_val (pe_k cM hr (by decide) (by rfl) (pa_cons (pv 1) pa_nil)))) (pss_one ps_never) pss_nil)
      (pss_cons (ps_fld (pv 0) (pe_k cA hr (by decide) (by rfl) (pa_cons (pv 2) pa_nil)) rfl)
      (pss_cons (ps_set (i := 3) scFInit.nd rfl (Or.inr rfl) (pe_dc (own := [("name", 4)]) (g := gName 4) (by rfl) scFInit.nd
          (pi_list (pe_callB (call_sortedD (by rfl)) (by rfl) T.sorted (by decide +kernel) (pa_cons (pv 1) pa_nil)))
          (blkOk_by (own := [("name", 4)]) (N := ["self", "weights", "number", "ratios", "name"]) (sc := defScope sFInit) (by decide +kernel))
          (fun _ _ _ _ _ => pg_name (i := 4) scFInit.nd rfl (Or.inl rfl)) (fun _ _ _ _ _ => pts_nil) (fun _ _ _ _ _ => pv 4)
          (fun _ _ _ _ _ => pe_k cA hr (by decide) (by rfl) (pa_cons (pe_dget hu (pv 1) (pv 4) (fun _ _ => rfl)) pa_nil))))
      (pss_one (ps_fld (pv 0) (pe_lock (pe_dc (own := [("name", 4)]) (g := gName 4) (by rfl) scFInit.nd (pi_keys (pv 3))
          (blkOk_by (own := [("name", 4)]) (N := ["self", "weights", "number", "ratios", "name"]) (sc := defScope sFInit) (by decide +kernel))
          (fun _ _ _ _ _ => pg_name (i := 4) scFInit.nd rfl (Or.inl rfl))
          (fun _ _ _ _ _ => pts_one (pt_cmpR op_ne (pe_prop (pe_dget hu (pv 3) (pv 4) (fun _ _ => rfl)) T.clR T.sgn GS hr2 bS .nil pass0 (by rfl)) pe_int (nomark _)))
          (fun _ _ _ _ _ => pv 4) (fun _ _ _ _ _ => pe_dget hu (pv 3) (pv 4) (fun _ _ => rfl)))) rfl)))))), ?_⟩
    -- weights that are told, or none
    have num : ∀ (H1 : Hp) (Q1 : VK), Same H H1 → (∀ (H2 : Hp) (a : Addr), Same H1 H2 → Q1 (.ref a) H2) → spAsRatio K CR [y] H1 Q1 E0 := by
      intro H1 Q1 e q1
      rcases hA with ⟨n, rfl, hn⟩ | ⟨a, u, z, rfl, hr⟩
      · exact ⟨_, rfl, .inl ⟨n, rfl, hn, fun H2 p2 s2 _ _ => q1 H2 p2 s2⟩⟩
      · exact ⟨_, rfl, .inr ⟨a, u, z, rfl, hr.keep e, q1 H1 a (Same.refl H1)⟩⟩
    refine ⟨fun σ H' => ∃ d, σ = [some (.ref p), some (.ref d), some y, none, none] ∧ H' d = some (.dK kvs) ∧ NamesInts kvs ∧ Same H H', ?_, ?_⟩
    · rcases hW with ⟨rfl, rfl⟩ | ⟨d, rfl, hd, hN⟩
      · refine ⟨_, rfl, rfl, _, rfl, ?_⟩
        refine iteT ?_
        intro d hd
        exact ⟨d, rfl, upd_same, ⟨by decide, List.nodup_nil, fun q hq => absurd hq List.not_mem_nil⟩, Same.upd_new hd⟩
      · refine ⟨_, rfl, rfl, _, rfl, ?_⟩
        exact iteF ⟨d, rfl, hd, hN, Same.refl H⟩
    · rintro σ H1 ⟨d, rfl, hd1, hN, s1⟩
      have ndp : d ≠ p := ne_of hd1 (s1 _ _ hp) (by intro z; cases z)
      refine ⟨_, rfl, d, kvs, rfl, hd1, hN, fun H2 s2 => ⟨_, rfl, iteF ?_⟩⟩
      refine ⟨_, rfl, ?_⟩
      dsimp only [tK, tNil]
      refine num H2 _ (s1.trans s2) ?_
      intro H3 na s3
      have s13 : Same H H3 := (s1.trans s2).trans s3
      refine ⟨_, rfl, p, CF, dx, [], rfl, s13 _ _ hp, T.cl, T.nN, (by show 0 < 1000; decide), ?_⟩
      have fs0 : (putF "_number" (V.ref na) ([] : List (Str × V))) = nf na := rfl
      rw [fs0]
      -- the heap from here on: H4
      have k4 : Kp p H (upd H3 p (.ins CF dx (nf na))) := fun b o e hb => by
        rw [upd_ne hb]
        exact s13 b o e
      have d4 : (upd H3 p (.ins CF dx (nf na))) d = some (.dK kvs) := by
        rw [upd_ne ndp]
        exact s3 _ _ (s2 _ _ hd1)
      have p4 : (upd H3 p (.ins CF dx (nf na))) p = some (.ins CF dx (nf na)) := upd_same
      generalize (upd H3 p (.ins CF dx (nf na))) = H4 at k4 d4 p4 ⊢
      obtain ⟨ks, hks, hkl⟩ := names_keys kvs hN.2.2
      refine ⟨_, rfl, d, kvs, ks, rfl, .inl d4, hks, by have := hN.1; omega, fun ys L perm _ nL => ?_⟩
      have s45 : Same H4 (upd H4 L (.lst (ys.map V.str))) := Same.upd_new nL
      refine ⟨L, rfl, ⟨_, SqL.of upd_same⟩, fun D nD => ?_⟩
      have nLD : L ≠ D := fun e => by
        rw [← e, upd_same] at nD
        cases nD
      have nD4 : H4 D = none := by
        rw [upd_ne nLD.symm] at nD
        exact nD
      refine dc_it (walk_list (K := K) (a := L) (xs := ys.map V.str)) (fun i H' => Same H4 H' ∧ H' L = some (.lst (ys.map V.str)) ∧ ∃ kv : List (Key × V), H' D = some (.dK kv) ∧ kv.length ≤ i ∧ ∀ q ∈ kv, ∃ (a : Addr) (u z : Int), q.2 = .ref a ∧ RatAt CR H' a u z) ?_ (fun _ _ _ p => SqL.of p.2.1) ?_ ?_
      · refine ⟨s45.trans (Same.upd_new nD), by rw [upd_ne nLD]; exact upd_same, [], upd_same, Nat.le_refl _, fun q hq => absurd hq List.not_mem_nil⟩
      · rintro i x1 H5 H6 hi ⟨s5, l5, kv, hkv, hl, hr5⟩ ⟨rfl, hx⟩
        obtain ⟨z, hz, rfl⟩ : ∃ z, ys[i]? = some z ∧ x1 = V.str z := by
          rw [List.getElem?_map] at hx
          cases e : ys[i]? with
          | none =>
            rw [e] at hx
            cases hx
          | some z =>
            rw [e] at hx
            exact ⟨z, rfl, (Option.some.inj hx).symm⟩
        have hzk : z ∈ ks := perm.mem_iff.mp (List.mem_of_getElem? hz)
        obtain ⟨n, hv, hn⟩ := names_val kvs hN hks hzk
        have hil : i < 60 := by
          have h1 := hN.1
          have h2 := perm.length_eq
          rw [List.length_map] at hi
          omega
        refine ⟨rfl, _, rfl, _, rfl, _, rfl, d, .int n, rfl, ?_, ?_⟩
        · rw [← hv]
          exact DGet.k (k := Sum.inr z) (s5 _ _ d4)
        · refine ⟨_, rfl, .inl ⟨n, rfl, hn, fun H7 a s7 na7 r7 => ?_⟩⟩
          have hkv7 : H7 D = some (.dK kv) := s7 _ _ hkv
          refine ⟨kv, Sum.inr z, rfl, hkv7, ?_, ?_, ?_, ?_⟩
          · have : (60 : Nat) < sizeLine := by decide
            omega
          · intro b o e
            rw [upd_ne (ne_of_none e nD4)]
            exact s7 b o (s5 b o e)
          · rw [upd_ne nLD]
            exact s7 _ _ l5
          · have keepR : ∀ {a2 : Addr} {u2 z2 : Int}, RatAt CR H7 a2 u2 z2 → RatAt CR (upd H7 D (.dK (putK kv (Sum.inr z) (.ref a)))) a2 u2 z2 := by
              rintro a2 u2 z2 ⟨dx2, h2⟩
              exact ⟨dx2, by rw [upd_ne (ne_of h2 hkv7 (by intro z; cases z))]; exact h2⟩
            refine ⟨_, upd_same, Nat.le_trans (len_putK _ _ _) (by omega), fun q hq => ?_⟩
            rcases mem_putK hq with hq | rfl
            · obtain ⟨a2, u2, z2, e2, r2⟩ := hr5 q hq
              exact ⟨a2, u2, z2, e2, keepR (r2.keep s7)⟩
            · exact ⟨a, _, _, rfl, keepR r7⟩
      · rintro H5 ⟨s5, l5, kv, hkv, hl, hr5⟩
        have p5 := s5 _ _ p4
        have k5 : Kp p H H5 := k4.trans (Kp.same s5)
        have hl60 : kv.length ≤ 60 := by
          have h1 := hN.1
          have h2 := perm.length_eq
          rw [List.length_map] at hl
          omega
        refine ⟨D, _, hkv, trivial, fun od => ?_⟩
        refine ⟨_, rfl, D, od, rfl, .inl ⟨kv, upd_same, fun D2 nD2 => ?_⟩⟩
        have nDD2 : D ≠ D2 := fun e => by
          rw [← e, upd_same] at nD2
          cases nD2
        have nD25 : H5 D2 = none := by
          rw [upd_ne nDD2.symm] at nD2
          exact nD2
        have npD : p ≠ D := ne_of p5 hkv (by intro z; cases z)
        have npD2 : p ≠ D2 := ne_of_none p5 nD25
        refine dc_it walk_keys (fun i H' => H' D = some (.frz od (.dK kv)) ∧ (∀ b o, H5 b = some o → b ≠ D → H' b = some o) ∧ ∃ kv2 : List (Key × V), H' D2 = some (.dK kv2) ∧ kv2.length ≤ i) ?_ (fun _ _ _ p => p.1) ?_ ?_
        · refine ⟨by rw [upd_ne nDD2]; exact upd_same, fun b o e hb => ?_, [], upd_same, Nat.le_refl _⟩
          rw [upd_ne (ne_of_none e nD25), upd_ne hb]
          exact e
        · rintro i x1 H6 H7 hi ⟨f6, k6, kv2, hkv2, hl2⟩ ⟨rfl, k, v, hk, rfl⟩
          obtain ⟨v', hv, hm⟩ := val_some (List.mem_of_getElem? hk)
          obtain ⟨a2, u2, z2, e2, dx2, r2⟩ := hr5 _ hm
          have e2' : v' = .ref a2 := e2
          subst e2'
          have na2 : a2 ≠ D := ne_of r2 hkv (by intro z; cases z)
          have r6 : H7 a2 = some (.ins CR dx2 (rf u2 z2)) := k6 _ _ r2 na2
          have g6 : DGet H7 D (kV k) (some (.ref a2)) := by
            rw [← hv]
            exact .inl ⟨kv, k, .inr ⟨od, f6⟩, rfl, rfl⟩
          refine ⟨rfl, _, rfl, _, rfl, D, _, rfl, g6, a2, dx2, _, rfl, r6, a2, u2, z2, rfl, ⟨dx2, r6⟩, rfl, _, rfl, ?_⟩
          refine ite2 (fun _ => ?_) (fun _ => ⟨f6, k6, kv2, hkv2, by omega⟩)
          refine ⟨_, rfl, _, rfl, _, rfl, D, _, rfl, g6, kv2, k, rfl, hkv2, ?_, ?_, ?_, ?_⟩
          · have : (60 : Nat) < sizeLine := by decide
            omega
          · rw [upd_ne nDD2]
            exact f6
          · intro b o e hb
            rw [upd_ne (ne_of_none e nD25)]
            exact k6 b o e hb
          · exact ⟨_, upd_same, Nat.le_trans (len_putK _ _ _) (by omega)⟩
        · rintro H6 ⟨f6, k6, kv2, hkv2, hl2⟩
          have p6 : H6 p = some (.ins CF dx (nf na)) := k6 _ _ p5 npD
          refine ⟨f6, _, rfl, p, CF, dx, _, rfl, by rw [upd_ne npD]; exact p6, T.cl, T.nW, (by show 1 < 1000; decide), ?_⟩
          refine q _ _ upd_same fun b o e hb => ?_
          have e5 := k5 b o e hb
          rw [upd_ne hb]
          by_cases hbD : b = D
          · subst hbD
            rw [hkv] at e5
            rw [upd_same]
            exact e5
          · rw [upd_ne hbD]
            exact k6 b o e5 hbD
end
end Cm
end

/-! ## Of -/
section
namespace Cm
open PySem PySem.Spec PyProof.Rows L2 KG

theorem nodup_putK {kvs : List (Key × V)} {k : Key} {v : V} (h : (kvs.map (·.1)).Nodup) : ((putK kvs k v).map (·.1)).Nodup := by
  cases e : valV kvs k with
  | none => exact nd_putK v h e
  | some u =>
    have a : (kvs.any fun kv => decide (kv.1 = k)) = true := by
      rw [valV_any, e]
      rfl
    unfold putK
    rw [if_pos a, List.map_map]
    have : ((fun x : Key × V => x.1) ∘ fun kv : Key × V => if kv.1 = k then (kv.1, v) else kv) = fun x => x.1 := by
      funext q
      show (if q.1 = k then (q.1, v) else q).1 = q.1
      split <;> rfl
    rw [this]
    exact h
/-- names told for a form, and how often -/
def Counts (kvs : List (Key × V)) (i : Nat) : Prop := kvs.length ≤ i ∧ (kvs.map (·.1)).Nodup ∧ ∀ q ∈ kvs, ∃ (z : Str) (n : Int), q = (Sum.inr z, .int n) ∧ nameOk z = true ∧ z.length ≤ sizeLine ∧ 0 ≤ n ∧ n ≤ i
theorem Counts.names {kvs : List (Key × V)} {i : Nat} (c : Counts kvs i) (h : i < 60) : NamesInts kvs := by
  refine ⟨by have := c.1; omega, c.2.1, fun q hq => ?_⟩
  obtain ⟨z, n, e, h1, h2, h3, h4⟩ := c.2.2 q hq
  refine ⟨z, n, e, h1, h2, ?_⟩
  have h5 : n.natAbs < 2 ^ 60 := by omega
  exact Nat.lt_of_lt_of_le h5 (Nat.pow_le_pow_right (by decide) (by decide))

def spOf (CF : Addr) : Sp := fun vs H Q _ => ∃ (c : V) (T : Addr) (zs : List Str), vs = [c, .ref T] ∧ H T = some (.tup (zs.map V.str)) ∧ zs.length < 60 ∧ (∀ z ∈ zs, nameOk z = true ∧ z.length ≤ sizeLine) ∧
  ∀ (H' : Hp) (p dx : Addr) (fs : List (Str × V)), Same H H' → H p = none → H' p = some (.ins CF dx fs) → Q (.ref p) H'

section
variable {P : Program} {w : World} {K : PySem.W.Frag} {mg : Str → Option Value} {base : Heap} {CF CR : Addr}
theorem scFOf : FnScope ["cls", "names", "weights", "name"] (([("cls" : Str)] : List Str) ++ [("names" : Str)]) (defScope sFOf) := ⟨rfl, rfl, rfl, by decide +kernel, rfl, by decide +kernel, by decide +kernel⟩
theorem ok_fOf {f : Addr} {oc : Value} {od an : Option Addr} {osl : Array (Option Value)} {kV doc pm cdv ct : Value}
    (lk : K.lookup f = some ⟨oc, od, .func (PySem.W.fnOf "of" "Form.of" (defArgs sFOf) (defBody sFOf) (defScope sFOf) .none kV doc pm an cdv ct), osl⟩) (hcd : PySem.W.codeIn K cdv "Form.of" = true)
    (cW : Cl P w K mg base 1 "is_name" ["value"] (spIsName K CR)) (cF : MkC P w K mg base 5 "Form" CF ["self", "weights", "number"] [.int 0] (spFInit CF CR)) (kS : PySem.W.kitOne K (.type "str") (.ref CR) = some false) :
    FnR P w K mg base CX0 7 f (fun vs H Q E => ∃ ws rest, vs = ws ++ rest ∧ ws.length = ([("cls" : Str)] : List Str).length ∧ rest.length ≤ sizeLine ∧ ∀ p, H p = Option.none → spOf CF (ws ++ [V.ref p]) (upd H p (.tup rest)) Q E) := by
  refine StX.fn_star (ps := [("cls" : Str)]) (pv := "names") lk hcd scFOf StX.cxUp_none ?_ ?_
  · intro us rest hl
    exact StX.bind_star1 (B := fun l => bindArgs (PySem.W.fnOf "of" "Form.of" (defArgs sFOf) (defBody sFOf) (defScope sFOf) .none kV doc pm an cdv ct) ⟨l, []⟩) (fun a => rfl) (fun a r rs => rfl) us rest hl
  · intro A outer s H vs Q E hr h
    obtain ⟨c, T, zs, rfl, hT, hz, hn, q⟩ := h
    have hu := hu_of hr
    refine ⟨_, PSs.nox (pss_cons (ps_set (i := 2) scFOf.nd rfl (Or.inl rfl) pe_dnewK)
      (pss_cons (ps_for PassesOwn.never rfl (pi_tup (pv 1)) (pg_name (i := 3) scFOf.nd rfl (Or.inl rfl))
        (pss_cons (ps_if (pt_not (pt_val (pe_k cW hr (by decide) (by rfl) (pa_cons (pv 3) pa_nil)))) (pss_one ps_never) pss_nil)
        (pss_one (ps_dput hu (pv 2) (pv 3) (pe_op op_add (pe_dget2 hu (pv 2) (pv 3) pe_int ⟨rfl, rfl, rfl, rfl⟩) pe_int) rfl))))
      (pss_one (ps_ret (pe_mk cF hr (by decide) (by rfl) (pa_cons (pv 2) pa_nil)))))), ?_⟩
    intro d nd
    have sd : ∀ o, Same H (upd H d o) := fun _ => Same.upd_new nd
    refine ⟨_, rfl, T, rfl, ⟨_, SqT.of (sd _ _ _ hT)⟩, for_tup (K := K) (a := T) (xs := zs.map V.str) (fun i σ H' => (∃ u, σ = [some c, some (.ref T), some (.ref d), u]) ∧ Same H H' ∧ ∃ kvs, H' d = some (.dK kvs) ∧ Counts kvs i) ?_ (fun i σ H' _ p => SqT.of (p.2.1 _ _ hT)) ?_ ?_⟩
    · exact ⟨⟨none, rfl⟩, sd _, [], upd_same, Nat.le_refl _, List.nodup_nil, fun q hq => absurd hq List.not_mem_nil⟩
    · rintro i x σ H1 hx ⟨⟨u, rfl⟩, s1, kvs, hkv, hc⟩
      obtain ⟨z, hz2, rfl⟩ : ∃ z, zs[i]? = some z ∧ x = V.str z := by
        rw [List.getElem?_map] at hx
        cases e : zs[i]? with
        | none =>
          rw [e] at hx
          cases hx
        | some z =>
          rw [e] at hx
          exact ⟨z, rfl, (Option.some.inj hx).symm⟩
      have hil : i < 60 := by
        have := (List.getElem?_eq_some_iff.mp hz2).1
        omega
      obtain ⟨hzn, hzl⟩ := hn z (List.mem_of_getElem? hz2)
      refine ⟨_, rfl, _, rfl, .inr ⟨z, false, false, false, rfl, ⟨_, .base (.str z), kit_ty (by decide +kernel), kit_ty (by decide +kernel), kit_ty (by decide +kernel), kS⟩, hzl, _, rfl, ?_⟩⟩
      rw [hzn]
      refine iteF ?_
      have val : ∃ n : Int, (valV kvs (Sum.inr z)).getD (.int 0) = .int n ∧ 0 ≤ n ∧ n ≤ i := by
        cases e : valV kvs (Sum.inr z) with
        | none => exact ⟨0, rfl, by omega, by omega⟩
        | some v =>
          unfold valV at e
          cases e2 : kvs.find? fun kv => decide (kv.1 = Sum.inr z) with
          | none =>
            rw [e2] at e
            cases e
          | some q =>
            rw [e2] at e
            obtain ⟨z2, n, e3, _, _, h0, h1⟩ := hc.2.2 q (List.mem_of_find?_eq_some e2)
            subst e3
            cases e
            exact ⟨n, rfl, h0, h1⟩
      obtain ⟨n, en, n0, n1⟩ := val
      refine ⟨_, rfl, d, rfl, .inl ⟨kvs, .inl hkv⟩, _, rfl, valV kvs (Sum.inr z), DGet.k (k := Sum.inr z) hkv, n, 1, en, rfl, ?_⟩
      refine ⟨_, rfl, _, rfl, d, _, rfl, DPut.k (k := Sum.inr z) hkv ?_, ⟨_, rfl⟩, ?_, _, upd_same, ?_, nodup_putK hc.2.1, ?_⟩
      · have : (60 : Nat) < sizeLine := by decide
        have := hc.1
        omega
      · intro b o e
        rw [upd_ne (ne_of_none e nd)]
        exact s1 b o e
      · exact Nat.le_trans (len_putK _ _ _) (by have := hc.1; omega)
      · intro q hq
        rcases mem_putK hq with hq | rfl
        · obtain ⟨z2, n2, e, a1, a2, a3, a4⟩ := hc.2.2 q hq
          exact ⟨z2, n2, e, a1, a2, a3, by omega⟩
        · exact ⟨z, n + 1, rfl, hzn, hzl, by omega, by omega⟩
    · rintro σ H1 ⟨⟨u, rfl⟩, s1, kvs, hkv, hc⟩
      rw [List.length_map] at hc
      refine ⟨_, rfl, fun x dx nx ndx ne => ?_⟩
      refine ⟨x, dx, _, _, kvs, rfl, upd_same, .inr ⟨d, rfl, (Same.made2 nx ndx) _ _ hkv, hc.names hz⟩, .inl ⟨0, rfl, by decide⟩, fun H2 fs h1 h2 => ⟨rfl, ?_⟩⟩
      refine q H2 x dx fs (fun b o e => ?_) (s1.free nx) h1
      exact h2 b o ((Same.made2 nx ndx) b o (s1 b o e)) (ne_of_none (s1 b o e) nx)
end
end Cm
end

/-! ## Kd -/
section
namespace Cm
open PySem PySem.Spec PyProof.Rows L2 KG

/-- what isinstance with Ratio says of the built-in types -/
structure KTy (K : PySem.W.Frag) (CR : Addr) : Prop where
  non : PySem.W.kitOne K (.type "NoneType") (.ref CR) = some false
  bl : PySem.W.kitOne K (.type "bool") (.ref CR) = some false
  int : PySem.W.kitOne K (.type "int") (.ref CR) = some false
  str : PySem.W.kitOne K (.type "str") (.ref CR) = some false
  lst : PySem.W.kitOne K (.type "list") (.ref CR) = some false
  tup : PySem.W.kitOne K (.type "tuple") (.ref CR) = some false
  dct : PySem.W.kitOne K (.type "dict") (.ref CR) = some false
/-- .. of an own class -/
structure KOwn (K : PySem.W.Frag) (C CR : Addr) (r : Bool) : Prop where
  int : PySem.W.kitOne K (.ref C) (.type "int") = some false
  bool : PySem.W.kitOne K (.ref C) (.type "bool") = some false
  str : PySem.W.kitOne K (.ref C) (.type "str") = some false
  rat : PySem.W.kitOne K (.ref C) (.ref CR) = some r

section
variable {K : PySem.W.Frag} {CR CF : Addr} {H : Hp}
theorem tells_non (T : KTy K CR) : Tells K CR H .non false false false :=
  ⟨false, false, false, false, ⟨_, .base .non, kit_ty (by decide +kernel), kit_ty (by decide +kernel), kit_ty (by decide +kernel), T.non⟩, rfl, rfl, .inl ⟨rfl, rfl⟩⟩
theorem tells_bl (T : KTy K CR) (b : Bool) : Tells K CR H (.bl b) false false false :=
  ⟨true, true, false, false, ⟨_, .base (.bl b), kit_ty (by decide +kernel), kit_ty (by decide +kernel), kit_ty (by decide +kernel), T.bl⟩, rfl, rfl, .inl ⟨rfl, rfl⟩⟩
theorem tells_int (T : KTy K CR) (n : Int) : Tells K CR H (.int n) true true false :=
  ⟨true, false, false, false, kind_int n T.int, rfl, rfl, .inl ⟨rfl, rfl⟩⟩
theorem tells_str (T : KTy K CR) {z : Str} (h : z.length ≤ sizeLine) : Tells K CR H (.str z) false false (nameOk z) :=
  ⟨false, false, true, false, ⟨_, .base (.str z), kit_ty (by decide +kernel), kit_ty (by decide +kernel), kit_ty (by decide +kernel), T.str⟩, rfl, rfl, .inr ⟨z, rfl, rfl, h, rfl⟩⟩
theorem tells_no (T : KTy K CR) {z : Str} (h : z.length ≤ sizeLine) (e : nameOk z = false) : Tells K CR H (.str z) false false false := by
  have := tells_str (K := K) (H := H) T h
  rw [e] at this
  exact this
theorem tells_lst (T : KTy K CR) {a : Addr} {xs : List V} (h : H a = some (.lst xs)) : Tells K CR H (.ref a) false false false :=
  ⟨false, false, false, false, ⟨_, .base (.lst h), kit_ty (by decide +kernel), kit_ty (by decide +kernel), kit_ty (by decide +kernel), T.lst⟩, rfl, rfl, .inl ⟨rfl, rfl⟩⟩
theorem tells_tup (T : KTy K CR) {a : Addr} {xs : List V} (h : H a = some (.tup xs)) : Tells K CR H (.ref a) false false false :=
  ⟨false, false, false, false, ⟨_, .base (.tup h), kit_ty (by decide +kernel), kit_ty (by decide +kernel), kit_ty (by decide +kernel), T.tup⟩, rfl, rfl, .inl ⟨rfl, rfl⟩⟩
theorem tells_dct (T : KTy K CR) {a : Addr} {kvs : List (Key × V)} (h : H a = some (.dK kvs)) : Tells K CR H (.ref a) false false false :=
  ⟨false, false, false, false, ⟨_, .base (.dK h), kit_ty (by decide +kernel), kit_ty (by decide +kernel), kit_ty (by decide +kernel), T.dct⟩, rfl, rfl, .inl ⟨rfl, rfl⟩⟩
theorem tells_rat (T : KOwn K CR CR true) (i : InsK K CR) {a dx : Addr} {fs : List (Str × V)} (h : H a = some (.ins CR dx fs)) : Tells K CR H (.ref a) false true false :=
  ⟨false, false, false, true, ⟨_, i.ty h, T.int, T.bool, T.str, T.rat⟩, rfl, rfl, .inl ⟨rfl, rfl⟩⟩
theorem tells_form (T : KOwn K CF CR false) (i : InsK K CF) {a dx : Addr} {fs : List (Str × V)} (h : H a = some (.ins CF dx fs)) : Tells K CR H (.ref a) false false false :=
  ⟨false, false, false, false, ⟨_, i.ty h, T.int, T.bool, T.str, T.rat⟩, rfl, rfl, .inl ⟨rfl, rfl⟩⟩
end

theorem lowBy_dvd (t b : Int) : lowBy t b ∣ t ∧ lowBy t b ∣ b := by
  have h1 : ((Nat.gcd t.natAbs b.natAbs : Nat) : Int) ∣ t := Int.gcd_dvd_left (a := t) (b := b)
  have h2 : ((Nat.gcd t.natAbs b.natAbs : Nat) : Int) ∣ b := Int.gcd_dvd_right (a := t) (b := b)
  unfold lowBy
  split
  · exact ⟨Int.neg_dvd.mpr h1, Int.neg_dvd.mpr h2⟩
  · exact ⟨h1, h2⟩
theorem fdiv_le {t g : Int} (h : g ∣ t) (hg : g ≠ 0) : (t.fdiv g).natAbs ≤ t.natAbs := by
  obtain ⟨q, rfl⟩ := h
  rw [Int.mul_fdiv_cancel_left _ hg, Int.natAbs_mul]
  exact Nat.le_mul_of_pos_left _ (by omega)

/-- the three truths that are due -/
abbrev dueF : TE := tLst (tCons (tC (.bl false)) (tCons (tC (.bl false)) (tCons (tC (.bl false)) tNil)))
/-- a row of values of which nothing is told, each looked at -/
theorem told_turns {K : PySem.W.Frag} {CR : Addr} {σ : L2.St} {H : Hp} {j : Nat} {a D : Addr} {xs : List V} {R : Hp → Prop} (hj : j < σ.length) (hD : H D = none) (hS : SqL K H a xs) (hl : xs.length < 1000)
    (hT : ∀ x ∈ xs, Tells K CR H x false false false) (q : ∀ (H' : Hp), Same H H' → H' D = some (.lst ((List.replicate xs.length true).map V.bl)) → R H') :
    ∃ W : Nat → Nat → Hp → Prop, (∃ m, W 0 m (upd H D (.lst []))) ∧ ∀ i m G, W i m G →
      ((Itl K a).stop i G ∧ R G) ∨
      ((Itl K a).go i G ∧ ∃ Nx : Hp → Prop, (∀ G', Nx G' → ∃ m', m' < m ∧ W (i + 1) m' G') ∧
        ∀ x G', (Itl K a).yld i G x G' → gName j x (wipe σ [j]) G' fun τ G2 => wipe τ [j] = wipe σ [j] ∧ tYes τ G2 fun b G3 =>
          if b = true then tK (spTold K CR) (tCons (tVar j) (tCons dueF tNil)) τ G3 fun y G4 =>
            ∃ acc, G4 D = some (.lst acc) ∧ acc.length < sizeLine ∧ Nx (upd G4 D (.lst (acc ++ [y])))
          else Nx G3) := by
  refine lc_it walk_list (fun i H' => Same H H' ∧ H' D = some (.lst ((List.replicate i true).map V.bl))) ?_ (fun i H' _ p => p.1.seq hS) ?_ ?_
  · exact ⟨Same.upd_new hD, upd_same⟩
  · rintro i x H1 H2 hi ⟨s1, d1⟩ ⟨rfl, hx⟩
    have hx2 := hT x (List.mem_of_getElem? hx)
    have e0 : ((wipe σ [j]).set j (some x))[j]? = some (some x) := by
      show ((σ.set j none).set j (some x))[j]? = _
      rw [List.getElem?_set_self]
      rw [List.length_set]
      exact hj
    refine ⟨?_, _, e0, (by show 3 ≤ sizeLine; decide), fun l hl2 => ?_⟩
    · show ((σ.set j none).set j (some x)).set j none = σ.set j none
      rw [List.set_set, List.set_set]
    · refine ⟨x, l, false, false, false, rfl, hx2.keep (s1.trans (Same.upd_new hl2)), upd_same, fun H3 s3 => ?_⟩
      have d3 : H3 D = some (.lst ((List.replicate i true).map V.bl)) := s3 _ _ ((Same.upd_new hl2) _ _ d1)
      refine ⟨_, d3, ?_, ?_, ?_⟩
      · rw [List.length_map, List.length_replicate]
        have : (1000 : Nat) < sizeLine := by decide
        omega
      · intro b o e
        rw [upd_ne (ne_of_none e hD)]
        exact s3 b o ((Same.upd_new hl2) b o (s1 b o e))
      · rw [upd_same, List.replicate_succ', List.map_append]
        rfl
  · rintro H1 ⟨s1, d1⟩
    exact q H1 s1 d1
end Cm
end

/-! ## Rt -/
section
namespace Cm
open PySem PySem.Spec PyProof.Rows L2 KG
abbrev sRight : Stmt := top 30
abbrev sLaw : Stmt := top 31

/-- a def called where no repr is under way -/
structure ClG (P : Program) (w : World) (K : PySem.W.Frag) (mg : Str → Option Value) (base : Heap) (k : Nat) (x : Str) (sp : Sp) : Prop where
  ex : ∃ f : Addr, FnG P w K mg base k f sp ∧ mg x = some (.ref f) ∧ PySem.W.keepIn K (.ref f) = true
section
variable {X : Cx} {k j : Nat} {x : Str} {sp : Sp} {p pos : Pos} {e : Expr} {es : List Expr} {t : TA}
theorem pe_g (c : ClG X.prog X.w X.K X.mg X.base k x sp) (hr : Room j X.A) (hj : k ≤ j) (hg : X.A.guards = some []) (gl : Gl X x) (ha : PA X (e :: es) t)
    (hdb : (x == ("__debug__" : Str)) = false := by decide)
    (he : starEach (e :: es) X.env = (false, eval e X.env) :: starEach es X.env := by rfl)
    (hpl : (backTo pos (starEach es X.env)).any (·.1) = false := by rfl) : PE X (.Call (.Name x p) (e :: es) [] pos) (tK sp t) := by
  obtain ⟨f, F, hm, hk⟩ := c.ex
  exact pe_callG F (hr.mono hj) hg gl hm hk ha hdb he hpl
end

def spRight : Sp := fun vs H Q _ => ∃ p : Addr, vs = [.ref p] ∧ JarAt H p ∧ ∀ H' : Hp, Kp p H H' → Q (.bl true) H'

structure TxtL (mg : Str → Option Value) (CF : Addr) : Prop where
  all : mg "all" = none
  range : mg "range" = none
  str : mg "str" = none
  form : mg "Form" = some (.ref CF)

def plainS : List Str := ["", "a", "z", "abcdefgh", "abcdefghi", "aB", "a1", " a", "a ", "a\n", "a-b", "1"]
theorem plain_len : ∀ z ∈ plainS, z.length ≤ 1000 := by decide +kernel
theorem all_true (n : Nat) : (List.replicate n true).all id = true := by
  rw [List.all_eq_true]
  intro b hb
  exact (List.mem_replicate.mp hb).2

abbrev spOfR (CF : Addr) : Sp := fun vs H Q E => ∃ ws rest, vs = ws ++ rest ∧ ws.length = ([("cls" : Str)] : List Str).length ∧ rest.length ≤ sizeLine ∧ ∀ p, H p = Option.none → spOf CF (ws ++ [V.ref p]) (upd H p (.tup rest)) Q E

section
variable {P : Program} {w : World} {K : PySem.W.Frag} {mg : Str → Option Value} {base : Heap} {CR CF : Addr}
def NR : List Str := ["_law_jar_here", "_law_plain", "_law_word_here", "_law_turn", "_law_n", "_law_up", "_law_low", "_law_made", "_law_others", "_law_some"]
theorem scRight : FnScope NR ["_law_jar_here"] (defScope sRight) := ⟨rfl, rfl, rfl, by decide +kernel, rfl, by decide +kernel, by decide +kernel⟩

theorem ok_right {f : Addr} {fd fdSt : FuncData} {fSt pO gO : Addr} {mc : Value} (F : Fun K "_law_right" "_law_right" sRight f fd) (B : Binds K fd ["_law_jar_here"] []) (T : TxtL mg CF) (KT : KTy K CR) (KR : KOwn K CR CR true) (KF : KOwn K CF CR false) (iR : InsK K CR) (iF : InsK K CF)
    (cT : ClG P w K mg base 3 "_law_told" (spTold K CR)) (cS : Cl P w K mg base 3 "_law_spoilt" ["_law_jar_here", "_law_word_here"] spSpoilt) (cW : Cl P w K mg base 3 "_law_word" ["_law_jar_here"] spWord)
    (cL : Cl P w K mg base 1 "_law_is_name" ["_law_word_here"] spLawName) (cI : Cl P w K mg base 3 "_law_integer" ["_law_jar_here"] spInteger) (cP : Cl P w K mg base 4 "_law_parts" ["_law_jar_here"] spParts)
    (cR : MkC P w K mg base 2 "Ratio" CR ["self", "top", "bottom"] [] (spRInit CR)) (GSt : FnOk P w K mg base CX0 1 fSt fdSt ["self"] (spRStr CR)) (bSt : Binds K fdSt ["self"] [])
    (hSt : PySem.W.findIn K (.ref CR) "__str__" = some (some (.ref fSt))) (iSt : PySem.W.isFn K (.ref fSt) = true)
    (cF : MkC P w K mg base 5 "Form" CF ["self", "weights", "number"] [] (spFInit CF CR)) (FO : FnR P w K mg base CX0 7 gO (spOfR CF)) (rO : ClX.CRead K CF mc) (oO : ClX.CMet K CF mc "of" pO gO) :
    FnG P w K mg base 8 f spRight := by
  refine fnG_of F scRight B (fun vs H Q E h => ?_) (fun cdv A outer s H vs Q E hr hg h => ?_)
  · obtain ⟨p, rfl, _⟩ := h
    rfl
  · obtain ⟨p, rfl, J, q⟩ := h
    refine ⟨_, (pss_cons (ps_set (i := 1) scRight.nd rfl (Or.inl rfl) (pe_lst (pa_cons pe_str (pa_cons pe_str (pa_cons pe_str (pa_cons pe_str (pa_cons pe_str (pa_cons pe_str (pa_cons pe_str (pa_cons pe_str (pa_cons pe_str (pa_cons pe_str (pa_cons pe_str (pa_cons pe_str pa_nil))))))))))))))
      (pss_cons (ps_if (pt_not (pt_val (pe_callB (cr_all (by rfl)) (by rfl) T.all (by decide +kernel) (pa_cons (pe_lc (own := [("_law_word_here", 2)]) (g := gName 2) (by rfl) scRight.nd (pi_list (pv 1))
          (blkOk_by (own := [("_law_word_here", 2)]) (N := NR) (sc := defScope sRight) (by decide +kernel)) (fun _ _ _ _ _ => pg_name (i := 2) scRight.nd rfl (Or.inl rfl)) (fun _ _ _ _ _ => pts_nil)
          (fun _ _ _ _ _ => (pe_g cT hr (by decide) hg (by rfl) (pa_cons (pv 2) (pa_cons (pe_lst (pa_cons pe_bl (pa_cons pe_bl (pa_cons (pe_k cL hr (by decide) (by rfl) (pa_cons (pv 2) pa_nil)) pa_nil)))) pa_nil))))) pa_nil)))) (pss_one (ps_ret pe_bl)) pss_nil)
      (pss_cons (ps_for PassesOwn.never rfl (pi_range1 (by rfl) T.range (pa_cons pe_int pa_nil)) (pg_name (i := 3) scRight.nd rfl (Or.inl rfl)) (pss_cons (ps_set (i := 2) scRight.nd rfl (Or.inl rfl) (pe_k cS hr (by decide) (by rfl) (pa_cons (pv 0) (pa_cons (pe_k cW hr (by decide) (by rfl) (pa_cons (pv 0) pa_nil)) pa_nil))))
      (pss_cons (ps_if (pt_not (pt_val (pe_g cT hr (by decide) hg (by rfl) (pa_cons (pv 2) (pa_cons (pe_lst (pa_cons pe_bl (pa_cons pe_bl (pa_cons (pe_k cL hr (by decide) (by rfl) (pa_cons (pv 2) pa_nil)) pa_nil)))) pa_nil))))) (pss_one (ps_ret pe_bl)) pss_nil)
      (pss_cons (ps_if (pt_not (pt_val (pe_callB (cr_all (by rfl)) (by rfl) T.all (by decide +kernel) (pa_cons (pe_lc (own := [("_law_some", 9)]) (g := gName 9) (by rfl) scRight.nd (pi_list (pe_lst (pa_cons (pe_lst (pa_cons (pv 2) pa_nil)) (pa_cons (pe_tup (pa_cons (pv 2) pa_nil)) (pa_cons (pe_disp (pps_cons (pv 2) pe_int pps_nil) (by rfl) (by rfl) (fun z => by cases z) (by decide)) (pa_cons (pe_lst pa_nil) (pa_cons (pe_tup pa_nil) pa_nil)))))))
          (blkOk_by (own := [("_law_some", 9)]) (N := NR) (sc := defScope sRight) (by decide +kernel)) (fun _ _ _ _ _ => pg_name (i := 9) scRight.nd rfl (Or.inl rfl)) (fun _ _ _ _ _ => pts_nil)
          (fun _ _ _ _ _ => (pe_g cT hr (by decide) hg (by rfl) (pa_cons (pv 9) (pa_cons (pe_lst (pa_cons pe_bl (pa_cons pe_bl (pa_cons pe_bl pa_nil)))) pa_nil))))) pa_nil)))) (pss_one (ps_ret pe_bl)) pss_nil)
      (pss_cons (ps_set (i := 4) scRight.nd rfl (Or.inl rfl) (pe_k cI hr (by decide) (by rfl) (pa_cons (pv 0) pa_nil)))
      (pss_cons (ps_asg (pe_k cP hr (by decide) (by rfl) (pa_cons (pv 0) pa_nil)) (pg_tup (by rfl) (pgs_cons (pg_name (i := 5) scRight.nd rfl (Or.inl rfl)) (pgs_cons (pg_name (i := 6) scRight.nd rfl (Or.inl rfl)) pgs_nil))))
      (pss_cons (ps_set (i := 7) scRight.nd rfl (Or.inl rfl) (pe_mk cR hr (by decide) (by rfl) (pa_cons (pv 5) (pa_cons (pv 6) pa_nil))))
      (pss_cons (ps_if (PW.pt (pw_or (pt_not (pt_val (pe_g cT hr (by decide) hg (by rfl) (pa_cons (pv 4) (pa_cons (pe_lst (pa_cons pe_bl (pa_cons pe_bl (pa_cons pe_bl pa_nil)))) pa_nil))))) (pw_or1 (pt_not (pt_val (pe_g cT hr (by decide) hg (by rfl) (pa_cons (pv 7) (pa_cons (pe_lst (pa_cons pe_bl (pa_cons pe_bl (pa_cons pe_bl pa_nil)))) pa_nil)))))))) (pss_one (ps_ret pe_bl)) pss_nil)
      (pss_cons (ps_set (i := 8) scRight.nd rfl (Or.inl rfl) (pe_lst (pa_cons pe_non (pa_cons pe_bl (pa_cons pe_bl (pa_cons (pe_callTy call_str_int (by rfl) T.str (by decide +kernel) (pa_cons (pv 4) pa_nil)) (pa_cons (pe_callTy (call_strO GSt (hr.mono (by decide)) bSt hSt iSt) (by rfl) T.str (by decide +kernel) (pa_cons (pv 7) pa_nil)) (pa_cons (pe_lst (pa_cons (pv 4) pa_nil)) (pa_cons (pe_tup (pa_cons (pv 4) (pa_cons pe_int pa_nil))) (pa_cons pe_dnewK (pa_cons (pe_mk cF hr (by decide) (by rfl) (pa_cons pe_non (pa_cons (pv 4) pa_nil))) (pa_cons (ClX.pe_cmeth (pe_glob (v := .ref CF) (by rfl) T.form rfl) rO oO FO (hr.mono (by decide)) pass0 (pa_cons pe_str pa_nil)) (pa_cons (pe_lst (pa_cons (pv 7) pa_nil)) pa_nil)))))))))))))
      (pss_one (ps_if (pt_not (pt_val (pe_callB (cr_all (by rfl)) (by rfl) T.all (by decide +kernel) (pa_cons (pe_lc (own := [("_law_some", 9)]) (g := gName 9) (by rfl) scRight.nd (pi_list (pv 8))
          (blkOk_by (own := [("_law_some", 9)]) (N := NR) (sc := defScope sRight) (by decide +kernel)) (fun _ _ _ _ _ => pg_name (i := 9) scRight.nd rfl (Or.inl rfl)) (fun _ _ _ _ _ => pts_nil)
          (fun _ _ _ _ _ => (pe_g cT hr (by decide) hg (by rfl) (pa_cons (pv 9) (pa_cons (pe_lst (pa_cons pe_bl (pa_cons pe_bl (pa_cons pe_bl pa_nil)))) pa_nil))))) pa_nil)))) (pss_one (ps_ret pe_bl)) pss_nil)))))))))))
      (pss_one (ps_ret pe_bl))))), ?_⟩
    refine ⟨(by show 12 ≤ sizeLine; decide), fun l hl => ?_⟩
    have sl : ∀ o, Same H (upd H l o) := fun _ => Same.upd_new hl
    refine ⟨_, rfl, l, rfl, ⟨_, SqL.of upd_same⟩, fun D nD => ?_⟩
    have nlD : l ≠ D := fun e => by
      rw [← e, upd_same] at nD
      cases nD
    have nD0 : H D = none := by
      rw [upd_ne nlD.symm] at nD
      exact nD
    refine lc_it (walk_list (K := K) (a := l) (xs := plainS.map V.str)) (fun i H' => Same H H' ∧ H' l = some (.lst (plainS.map V.str)) ∧ H' D = some (.lst ((List.replicate i true).map V.bl))) ?_ (fun _ _ _ p => SqL.of p.2.1) ?_ ?_
    · refine ⟨(sl _).trans (Same.upd_new nD), ?_, upd_same⟩
      rw [upd_ne nlD]
      exact upd_same
    · rintro i x H1 H2 hi ⟨s1, l1, d1⟩ ⟨rfl, hx⟩
      obtain ⟨z, hz, rfl⟩ : ∃ z, z ∈ plainS ∧ x = V.str z := by
        obtain ⟨z, h1, h2⟩ := List.mem_map.mp (List.mem_of_getElem? hx)
        exact ⟨z, h1, h2.symm⟩
      have hzl := plain_len z hz
      have hzs : z.length ≤ sizeLine := Nat.le_trans hzl (by decide)
      refine ⟨rfl, _, rfl, _, rfl, z, rfl, hzl, fun H3 s3 => ⟨(by show 3 ≤ sizeLine; decide), fun m hm => ?_⟩⟩
      refine ⟨.str z, m, false, false, nameOk z, rfl, tells_str KT hzs, upd_same, fun H4 s4 => ?_⟩
      have s34 : Same H2 H4 := (s3.trans (Same.upd_new hm)).trans s4
      refine ⟨_, s34 _ _ d1, ?_, ?_, ?_, ?_⟩
      · rw [List.length_map, List.length_replicate]
        have : (1000 : Nat) < sizeLine := by decide
        have : plainS.length = 12 := rfl
        rw [List.length_map] at hi
        omega
      · intro b o e
        rw [upd_ne (ne_of_none e nD0)]
        exact s34 b o (s1 b o e)
      · rw [upd_ne nlD]
        exact s34 _ _ l1
      · rw [upd_same, List.replicate_succ', List.map_append]
        rfl
    · rintro H1 ⟨s1, l1, d1⟩
      refine ⟨D, List.replicate 12 true, rfl, SqL.of d1, ?_⟩
      rw [all_true]
      refine ⟨_, rfl, iteF ?_⟩
      -- the eight turns
      have J1 := J.keep s1
      refine ⟨8, rfl, by decide, by decide, for_range (lo := 0) (n := 8) (fun i σ H' => (∃ a1 a2 a3 a4 a5 a6 a7 a8 a9, σ = [some (.ref p), a1, a2, a3, a4, a5, a6, a7, a8, a9]) ∧ JarAt H' p ∧ Kp p H H') ⟨⟨_, _, _, _, _, _, _, _, _, rfl⟩, J1, Kp.same s1⟩ ?_ ?_⟩
      · rintro i σ H2 hi ⟨⟨a1, a2, a3, a4, a5, a6, a7, a8, a9, rfl⟩, J2, k2⟩
        refine ⟨_, rfl, _, rfl, p, rfl, J2, fun H3 z0 J3 k3 hz0 => ⟨p, z0, rfl, J3, hz0, fun H4 z J4 k4 hz => ?_⟩⟩
        have hz1 : z.length ≤ 1000 := by omega
        have hzs : z.length ≤ sizeLine := Nat.le_trans hz (by decide)
        refine ⟨_, rfl, _, rfl, z, rfl, hz1, fun H5 s5 => ⟨(by show 3 ≤ sizeLine; decide), fun m0 hm0 => ?_⟩⟩
        refine ⟨.str z, m0, false, false, nameOk z, rfl, tells_str KT hzs, upd_same, fun H6 s6 => ⟨_, rfl, iteF ?_⟩⟩
        have s46 : Same H4 H6 := (s5.trans (Same.upd_new hm0)).trans s6
        have J6 := J4.keep s46
        have k6 : Kp p H H6 := ((k2.trans k3).trans k4).trans (Kp.same s46)
        -- a word in a list, a tuple, a dict, and empty ones
        refine ⟨_, rfl, (by show 1 ≤ sizeLine; decide), fun b1 n1 => ?_⟩
        refine ⟨_, rfl, (by show 1 ≤ sizeLine; decide), fun b2 n2 => ?_⟩
        intro b3 n3
        refine ⟨_, rfl, ?_⟩
        refine ⟨upd_same, [(Sum.inr z, .int 1)], rfl, (by show 1 ≤ 15; decide), ?_⟩
        rw [upd_upd]
        refine ⟨Nat.zero_le _, fun b4 n4 => ?_⟩
        refine ⟨Nat.zero_le _, fun b5 n5 => ?_⟩
        refine ⟨(by show 5 ≤ sizeLine; decide), fun b6 n6 => ?_⟩
        have t1 : ∀ o, Same H6 (upd H6 b1 o) := fun _ => Same.upd_new n1
        have t2 : ∀ o, Same _ (upd _ b2 o) := fun _ => Same.upd_new n2
        have t3 : ∀ o, Same _ (upd _ b3 o) := fun _ => Same.upd_new n3
        have t4 : ∀ o, Same _ (upd _ b4 o) := fun _ => Same.upd_new n4
        have t5 : ∀ o, Same _ (upd _ b5 o) := fun _ => Same.upd_new n5
        have t6 : ∀ o, Same _ (upd _ b6 o) := fun _ => Same.upd_new n6
        refine ⟨b6, rfl, ⟨_, SqL.of upd_same⟩, fun D7 nD7 => told_turns (by show 9 < 10; decide) nD7 (SqL.of upd_same) (by show 5 < 1000; decide) ?_ (fun H7 s7 d7 => ?_)⟩
        · intro x hx
          simp only [List.mem_cons, List.not_mem_nil, or_false] at hx
          rcases hx with rfl | rfl | rfl | rfl | rfl
          · exact tells_lst KT (t6 _ _ _ (t5 _ _ _ (t4 _ _ _ (t3 _ _ _ (t2 _ _ _ upd_same)))))
          · exact tells_tup KT (t6 _ _ _ (t5 _ _ _ (t4 _ _ _ (t3 _ _ _ upd_same))))
          · exact tells_dct KT (t6 _ _ _ (t5 _ _ _ (t4 _ _ _ upd_same)))
          · exact tells_lst KT (t6 _ _ _ (t5 _ _ _ upd_same))
          · exact tells_tup KT (t6 _ _ _ upd_same)
        have s67 : Same H6 H7 := ((((((t1 _).trans (t2 _)).trans (t3 _)).trans (t4 _)).trans (t5 _)).trans (t6 _)).trans s7
        have J7 := J6.keep s67
        have k7 : Kp p H H7 := k6.trans (Kp.same s67)
        clear t1 t2 t3 t4 t5 t6 s7 n1 n2 n3 n4 n5 n6
        refine ⟨D7, List.replicate 5 true, rfl, SqL.of d7, ?_⟩
        rw [all_true]
        refine ⟨_, rfl, iteF ?_⟩
        -- numbers
        refine ⟨_, rfl, p, rfl, J7, fun H8 n J8 k8 hn => ?_⟩
        refine ⟨_, rfl, p, rfl, J8, fun H9 t up low J9 k9 nt ht hu hlw hl0 => ?_⟩
        refine ⟨t, _, rfl, SqT.of ht, rfl, _, _, rfl, _, _, rfl, rfl, ?_⟩
        have b8000 : (2 : Nat) ^ 100 < 2 ^ 8000 := Nat.pow_lt_pow_right (by decide) (by decide)
        have b1000 : (2 : Nat) ^ 100 < 2 ^ 1000 := Nat.pow_lt_pow_right (by decide) (by decide)
        have hu8 : up.natAbs < 2 ^ 8000 := Nat.lt_trans hu b8000
        have hl8 : low.natAbs < 2 ^ 8000 := Nat.lt_trans hlw b8000
        have hn8 : n.natAbs < 2 ^ 8000 := Nat.lt_trans hn b8000
        clear b8000
        refine ⟨_, rfl, _, rfl, fun m dm nm ndm nem => ⟨m, dm, up, low, rfl, upd_same, hl0, hu8, hl8, fun H10 h10 g10 => ⟨rfl, ?_⟩⟩⟩
        have s910 : Same H9 H10 := fun b o e => g10 b o ((Same.made2 nm ndm) b o e) (ne_of_none e nm)
        have J10 := J9.keep s910
        have k10 : Kp p H H10 := ((k7.trans k8).trans k9).trans (Kp.same s910)
        have dv := lowBy_dvd up low
        have ne0 := lowBy_ne (t := up) hl0
        have hx1 : (up.fdiv (lowBy up low)).natAbs < 2 ^ 1000 := Nat.lt_of_le_of_lt (fdiv_le dv.1 ne0) (Nat.lt_trans hu b1000)
        have hy1 : (low.fdiv (lowBy up low)).natAbs < 2 ^ 1000 := Nat.lt_of_le_of_lt (fdiv_le dv.2 ne0) (Nat.lt_trans hlw b1000)
        have hnl : n.natAbs.log2 < 1920 := by
          have := log_of hn (by decide)
          omega
        clear b1000
        refine ⟨_, rfl, (by show 3 ≤ sizeLine; decide), fun c1 m1 => ⟨.int n, c1, true, true, false, rfl, tells_int KT n, upd_same, fun H11 s11 => ⟨_, rfl, iteF ?_⟩⟩⟩
        have s1011 : Same H10 H11 := (Same.upd_new m1).trans s11
        have h11 := s1011 _ _ h10
        refine ⟨_, rfl, (by show 3 ≤ sizeLine; decide), fun c2 m2 => ⟨.ref m, c2, false, true, false, rfl, tells_rat KR iR ((Same.upd_new m2) _ _ h11), upd_same, fun H12 s12 => ⟨_, rfl, iteF ?_⟩⟩⟩
        have s1012 : Same H10 H12 := (s1011.trans (Same.upd_new m2)).trans s12
        have h12 := s1012 _ _ h10
        have J12 := J10.keep s1012
        have k12 : Kp p H H12 := k10.trans (Kp.same s1012)
        clear s12 m2 s11 m1 s1011 h11
        -- other values
        refine ⟨_, rfl, _, rfl, hnl, ?_⟩
        refine ⟨_, rfl, m, dm, _, rfl, h12, m, _, _, rfl, ⟨dm, h12⟩, hx1, hy1, fun z1 hz1l hz1n => ⟨z1, rfl, ?_⟩⟩
        refine ⟨_, rfl, (by show 1 ≤ sizeLine; decide), fun b1 n1 => ?_⟩
        refine ⟨_, rfl, (by show 2 ≤ sizeLine; decide), fun b2 n2 => ?_⟩
        intro b3 n3
        refine ⟨_, rfl, fun b4 d4 n4 nd4 ne4 => ⟨b4, d4, .non, .int n, [], rfl, upd_same, .inl ⟨rfl, rfl⟩, .inl ⟨n, rfl, hn8⟩, fun H13 fs4 h13 g13 => ⟨rfl, ?_⟩⟩⟩
        have s13 : Same _ H13 := fun b o e => g13 b o ((Same.made2 n4 nd4) b o e) (ne_of_none e n4)
        refine ⟨rfl, [.ref CF], [.str "a"], rfl, rfl, (by show 1 ≤ sizeLine; decide), fun T5 nT5 => ⟨.ref CF, T5, ["a"], rfl, upd_same, by decide, ?_, fun H14 b5 d5 fs5 s14 n5 h14 => ?_⟩⟩
        · intro y hy
          rw [List.mem_singleton.mp hy]
          exact ⟨by decide +kernel, by decide +kernel⟩
        refine ⟨_, rfl, (by show 1 ≤ sizeLine; decide), fun b6 n6 => ?_⟩
        refine ⟨(by show 11 ≤ sizeLine; decide), fun b7 n7 => ?_⟩
        have t1 : ∀ o, Same H12 (upd H12 b1 o) := fun _ => Same.upd_new n1
        have t2 : ∀ o, Same _ (upd _ b2 o) := fun _ => Same.upd_new n2
        have t3 : ∀ o, Same _ (upd _ b3 o) := fun _ => Same.upd_new n3
        have t5 : ∀ o, Same H13 (upd H13 T5 o) := fun _ => Same.upd_new nT5
        have t6 : ∀ o, Same H14 (upd H14 b6 o) := fun _ => Same.upd_new n6
        have t7 : ∀ o, Same _ (upd _ b7 o) := fun _ => Same.upd_new n7
        have s1314 : Same H13 H14 := (t5 _).trans s14
        have s3e := fun o => s13.trans (s1314.trans ((t6 _).trans (t7 o)))
        refine ⟨_, rfl, b7, rfl, ⟨_, SqL.of upd_same⟩, fun D8 nD8 => told_turns (by show 9 < 10; decide) nD8 (SqL.of upd_same) (by show 11 < 1000; decide) ?_ (fun H15 s15 d15 => ?_)⟩
        · intro x hx
          simp only [List.mem_cons, List.not_mem_nil, or_false] at hx
          rcases hx with rfl | rfl | rfl | rfl | rfl | rfl | rfl | rfl | rfl | rfl | rfl
          · exact tells_non KT
          · exact tells_bl KT true
          · exact tells_bl KT false
          · obtain ⟨c, hc, hlo⟩ := int_sign n
            exact tells_no KT (int_text_fits hnl) (name_no hc hlo)
          · exact tells_no KT (Nat.le_trans hz1l (by decide)) hz1n
          · exact tells_lst KT (s3e _ _ _ (t3 _ _ _ (t2 _ _ _ upd_same)))
          · exact tells_tup KT (s3e _ _ _ (t3 _ _ _ upd_same))
          · exact tells_dct KT (s3e _ _ _ upd_same)
          · exact tells_form KF iF (t7 _ _ _ (t6 _ _ _ (s1314 _ _ h13)))
          · exact tells_form KF iF (t7 _ _ _ (t6 _ _ _ h14))
          · exact tells_lst KT (t7 _ _ _ upd_same)
        · refine ⟨D8, List.replicate 11 true, rfl, SqL.of d15, ?_⟩
          rw [all_true]
          have s1215 : Same H12 H15 := ((((t1 _).trans (t2 _)).trans (t3 _)).trans (s3e _)).trans s15
          exact ⟨_, rfl, iteF ⟨⟨_, _, _, _, _, _, _, _, _, rfl⟩, J12.keep s1215, k12.trans (Kp.same s1215)⟩⟩
      · rintro σ H2 ⟨_, J2, k2⟩
        exact q H2 k2
end
end Cm
end

/-! ## Lw -/
section
namespace Cm
open PySem PySem.Spec PyProof.Rows L2 KG

def spLaw (K : PySem.W.Frag) : Sp := fun vs H Q _ => ∃ (a : Addr) (ns : List Int), vs = [.ref a] ∧ SqL K H a (ns.map V.int) ∧ ns.length ≤ 63 ∧ ∀ H', Q (.bl true) H'
section
variable {P : Program} {w : World} {K : PySem.W.Frag} {mg : Str → Option Value} {base : Heap}
theorem scLaw : FnScope ["_law_script", "_law_k"] ["_law_script"] (defScope sLaw) := ⟨rfl, rfl, rfl, by decide +kernel, rfl, by decide +kernel, by decide +kernel⟩
theorem ok_law {f : Addr} {fd : FuncData} (F : Fun K "law" "law" sLaw f fd) (B : Binds K fd ["_law_script"] []) (T : Txt mg)
    (cJ : Cl P w K mg base 1 "_law_jar" ["_law_script", "_law_k"] (spJar K)) (cR : ClG P w K mg base 8 "_law_right" spRight) : FnG P w K mg base 9 f (spLaw K) := by
  refine fnG_of F scLaw B (fun vs H Q E h => ?_) (fun cdv A outer s H vs Q E hr hg h => ?_)
  · obtain ⟨a, ns, rfl, _⟩ := h
    rfl
  · obtain ⟨a, ns, rfl, hS, hlen, q⟩ := h
    refine ⟨_, pss_one (ps_ret (pe_callB (cr_all (by rfl)) (by rfl) T.all (by decide +kernel) (pa_cons (pe_lc (own := [("_law_k", 1)]) (g := gName 1) (by rfl) scLaw.nd
      (pi_range1 (by rfl) T.range (pa_cons (pe_callB (call_max2 (by rfl)) (by rfl) T.max (by decide +kernel) (pa_cons pe_int (pa_cons (pe_callB (call_min2 (by rfl)) (by rfl) T.min (by decide +kernel)
        (pa_cons (pe_callB call_len (by rfl) T.len PySem.boot_len (pa_cons (pv 0) pa_nil)) (pa_cons pe_int pa_nil))) pa_nil))) pa_nil))
      (blkOk_by (own := [("_law_k", 1)]) (N := ["_law_script", "_law_k"]) (sc := defScope sLaw) (by decide +kernel)) (fun _ _ _ _ _ => pg_name (i := 1) scLaw.nd rfl (Or.inl rfl)) (fun _ _ _ _ _ => pts_nil)
      (fun _ _ _ _ _ => pe_g cR hr (by decide) hg (by rfl) (pa_cons (pe_k cJ hr (by decide) (by rfl) (pa_cons (pv 0) (pa_cons (pv 1) pa_nil))) pa_nil))) pa_nil))), ?_⟩
    refine ⟨_, rfl, _, _, rfl, .inl ⟨_, hS, rfl⟩, _, _, rfl, _, _, rfl, ?_⟩
    have bd : ∀ z : Int, 0 ≤ (if (if (6 : Int) < z then 6 else z) > 1 then (if (6 : Int) < z then 6 else z) else 1) ∧ (if (if (6 : Int) < z then 6 else z) > 1 then (if (6 : Int) < z then 6 else z) else 1) ≤ 6 := by
      intro z
      split <;> split <;> omega
    obtain ⟨z0, z6⟩ := bd ((ns.map V.int).length : Int)
    generalize (if (if (6 : Int) < ((ns.map V.int).length : Int) then 6 else ((ns.map V.int).length : Int)) > 1 then (if (6 : Int) < ((ns.map V.int).length : Int) then 6 else ((ns.map V.int).length : Int)) else 1) = z at z0 z6
    refine ⟨z, rfl, by omega, by omega, fun D nD => ?_⟩
    refine lc_range (lo := 0) (n := z.toNat) (fun i H' => Same H H' ∧ H' D = some (.lst ((List.replicate i true).map V.bl))) ⟨Same.upd_new nD, upd_same⟩ ?_ ?_
    · rintro i H1 hi ⟨s1, d1⟩
      refine ⟨rfl, _, rfl, _, rfl, a, ns, i, by rw [Int.zero_add], s1.seq hS, hlen, by omega, fun H2 p s2 np J2 => ?_⟩
      refine ⟨p, rfl, J2, fun H3 k3 => ?_⟩
      have nDp : D ≠ p := ne_of_none d1 np
      refine ⟨_, k3 _ _ (s2 _ _ d1) nDp, ?_, ?_, ?_⟩
      · rw [List.length_map, List.length_replicate]
        have : (63 : Nat) < sizeLine := by decide
        omega
      · intro b o e
        have e1 := s1 b o e
        rw [upd_ne (ne_of_none e nD)]
        exact k3 _ _ (s2 _ _ e1) (ne_of_none e1 np)
      · rw [upd_same, List.replicate_succ', List.map_append]
        rfl
    · rintro H1 ⟨s1, d1⟩
      refine ⟨D, List.replicate z.toNat true, rfl, SqL.of d1, ?_⟩
      rw [all_true]
      exact q H1
end
end Cm
end

/-! ## En -/
section
namespace Cm
open PySem PySem.Spec PyProof.Rows L2 KG
section
variable {K : PySem.W.Frag} {C D : Addr} {T : String} {b : Bool}
theorem kit_tr (hc : PySem.W.isClsIn K C = true) (ht : PySem.W.typeIn K (.ref C) = some (.type "type")) (hs : PySem.W.subIn K (.type T) (.ref C) = some b) : PySem.W.kitOne K (.type T) (.ref C) = some b := by
  have hc' : (PySem.W.clsIn K C).isSome = true := hc
  unfold PySem.W.kitOne PySem.W.kitCls
  rw [if_neg (fun z => by cases beq_iff_eq.mp z)]
  dsimp only
  rw [hc', ht, if_pos (by simp)]
  exact hs
theorem kit_rt (hm : PySem.W.kitMeta T = true) (hs : PySem.W.subIn K (.ref C) (.type T) = some b) : PySem.W.kitOne K (.ref C) (.type T) = some b := by
  unfold PySem.W.kitOne PySem.W.kitCls
  rw [if_neg (fun z => by cases beq_iff_eq.mp z)]
  dsimp only
  rw [if_pos hm]
  exact hs
theorem kit_rr (hc : PySem.W.isClsIn K C = true) (ht : PySem.W.typeIn K (.ref C) = some (.type "type")) (hs : PySem.W.subIn K (.ref C) (.ref C) = some true) : PySem.W.kitOne K (.ref C) (.ref C) = some true := by
  unfold PySem.W.kitOne
  rw [if_pos (by simp)]
theorem kit_rn (n : D ≠ C) (hc : PySem.W.isClsIn K C = true) (ht : PySem.W.typeIn K (.ref C) = some (.type "type")) (hs : PySem.W.subIn K (.ref D) (.ref C) = some b) : PySem.W.kitOne K (.ref D) (.ref C) = some b := by
  have hc' : (PySem.W.clsIn K C).isSome = true := hc
  unfold PySem.W.kitOne PySem.W.kitCls
  rw [if_neg (fun z => n (Value.ref.inj (beq_iff_eq.mp z)))]
  dsimp only
  rw [hc', ht, if_pos (by simp)]
  exact hs
end
set_option maxHeartbeats 4000000 in
theorem all_mk {l : PySem.W.OpenLaw} {w : World} {K : PySem.W.Frag} {h : Heap} {mg : Str → Option Value} {fa CR CF TR TF pS pO : Addr} (X : K.In h) (G : h.Ns mainGlobals mg) (hfa : mg "law" = some (.ref fa))
    {f_isI f_isN f_isW f_asR f_mps f_jar f_dip f_cho f_int f_par f_wrd f_spo f_lnm f_tol f_rgt f_law f_ri f_rs f_fi f_sg f_of : Addr}
    {od_isI an_isI od_isN an_isN od_isW an_isW od_asR an_asR od_mps an_mps od_jar an_jar od_dip an_dip od_cho an_cho od_int an_int od_par an_par od_wrd an_wrd od_spo an_spo od_lnm an_lnm od_tol an_tol od_rgt an_rgt od_law an_law od_ri an_ri od_rs an_rs od_fi an_fi od_sg an_sg od_of an_of dTR dTF : Option Addr} {sl_isI sl_isN sl_isW sl_asR sl_mps sl_jar sl_dip sl_cho sl_int sl_par sl_wrd sl_spo sl_lnm sl_tol sl_rgt sl_law sl_ri sl_rs sl_fi sl_sg sl_of slTR slTF : Array (Option Value)}
    {oc_isI kV_isI dc_isI pm_isI cd_isI ct_isI oc_isN kV_isN dc_isN pm_isN cd_isN ct_isN oc_isW kV_isW dc_isW pm_isW cd_isW ct_isW oc_asR kV_asR dc_asR pm_asR cd_asR ct_asR oc_mps kV_mps dc_mps pm_mps cd_mps ct_mps oc_jar kV_jar dc_jar pm_jar cd_jar ct_jar oc_dip kV_dip dc_dip pm_dip cd_dip ct_dip oc_cho kV_cho dc_cho pm_cho cd_cho ct_cho oc_int kV_int dc_int pm_int cd_int ct_int oc_par kV_par dc_par pm_par cd_par ct_par oc_wrd kV_wrd dc_wrd pm_wrd cd_wrd ct_wrd oc_spo kV_spo dc_spo pm_spo cd_spo ct_spo oc_lnm kV_lnm dc_lnm pm_lnm cd_lnm ct_lnm oc_tol kV_tol dc_tol pm_tol cd_tol ct_tol oc_rgt kV_rgt dc_rgt pm_rgt cd_rgt ct_rgt oc_law kV_law dc_law pm_law cd_law ct_law oc_ri kV_ri dc_ri pm_ri cd_ri ct_ri oc_rs kV_rs dc_rs pm_rs cd_rs ct_rs oc_fi kV_fi dc_fi pm_fi cd_fi ct_fi oc_sg kV_sg dc_sg pm_sg cd_sg ct_sg oc_of kV_of dc_of pm_of cd_of ct_of cTR cTF : Value} {tkR tkF tkM : Tok} {nTR nTF : Nat} {restS restO : List Value}
    (a_isI : PySem.W.nsIn K mainGlobals "is_integer" = some (some (.ref f_isI)))
    (l_isI : K.lookup f_isI = some ⟨oc_isI, od_isI, .func (PySem.W.fnOf "is_integer" "is_integer" (defArgs sIsInt) (defBody sIsInt) (defScope sIsInt) .none kV_isI dc_isI pm_isI an_isI cd_isI ct_isI), sl_isI⟩)
    (c_isI : PySem.W.codeIn K cd_isI "is_integer" = true)
    (k_isI : PySem.W.keepIn K (.ref f_isI) = true)
    (a_isN : PySem.W.nsIn K mainGlobals "is_number" = some (some (.ref f_isN)))
    (l_isN : K.lookup f_isN = some ⟨oc_isN, od_isN, .func (PySem.W.fnOf "is_number" "is_number" (defArgs sIsNum) (defBody sIsNum) (defScope sIsNum) .none kV_isN dc_isN pm_isN an_isN cd_isN ct_isN), sl_isN⟩)
    (c_isN : PySem.W.codeIn K cd_isN "is_number" = true)
    (k_isN : PySem.W.keepIn K (.ref f_isN) = true)
    (a_isW : PySem.W.nsIn K mainGlobals "is_name" = some (some (.ref f_isW)))
    (l_isW : K.lookup f_isW = some ⟨oc_isW, od_isW, .func (PySem.W.fnOf "is_name" "is_name" (defArgs sIsName) (defBody sIsName) (defScope sIsName) .none kV_isW dc_isW pm_isW an_isW cd_isW ct_isW), sl_isW⟩)
    (c_isW : PySem.W.codeIn K cd_isW "is_name" = true)
    (k_isW : PySem.W.keepIn K (.ref f_isW) = true)
    (a_asR : PySem.W.nsIn K mainGlobals "as_ratio" = some (some (.ref f_asR)))
    (l_asR : K.lookup f_asR = some ⟨oc_asR, od_asR, .func (PySem.W.fnOf "as_ratio" "as_ratio" (defArgs sAsRatio) (defBody sAsRatio) (defScope sAsRatio) .none kV_asR dc_asR pm_asR an_asR cd_asR ct_asR), sl_asR⟩)
    (c_asR : PySem.W.codeIn K cd_asR "as_ratio" = true)
    (k_asR : PySem.W.keepIn K (.ref f_asR) = true)
    (a_mps : PySem.W.nsIn K mainGlobals "maps_names_to_numbers" = some (some (.ref f_mps)))
    (l_mps : K.lookup f_mps = some ⟨oc_mps, od_mps, .func (PySem.W.fnOf "maps_names_to_numbers" "maps_names_to_numbers" (defArgs sMaps) (defBody sMaps) (defScope sMaps) .none kV_mps dc_mps pm_mps an_mps cd_mps ct_mps), sl_mps⟩)
    (c_mps : PySem.W.codeIn K cd_mps "maps_names_to_numbers" = true)
    (k_mps : PySem.W.keepIn K (.ref f_mps) = true)
    (a_jar : PySem.W.nsIn K mainGlobals "_law_jar" = some (some (.ref f_jar)))
    (l_jar : K.lookup f_jar = some ⟨oc_jar, od_jar, .func (PySem.W.fnOf "_law_jar" "_law_jar" (defArgs sJar) (defBody sJar) (defScope sJar) .none kV_jar dc_jar pm_jar an_jar cd_jar ct_jar), sl_jar⟩)
    (c_jar : PySem.W.codeIn K cd_jar "_law_jar" = true)
    (k_jar : PySem.W.keepIn K (.ref f_jar) = true)
    (a_dip : PySem.W.nsIn K mainGlobals "_law_dip" = some (some (.ref f_dip)))
    (l_dip : K.lookup f_dip = some ⟨oc_dip, od_dip, .func (PySem.W.fnOf "_law_dip" "_law_dip" (defArgs sDip) (defBody sDip) (defScope sDip) .none kV_dip dc_dip pm_dip an_dip cd_dip ct_dip), sl_dip⟩)
    (c_dip : PySem.W.codeIn K cd_dip "_law_dip" = true)
    (k_dip : PySem.W.keepIn K (.ref f_dip) = true)
    (a_cho : PySem.W.nsIn K mainGlobals "_law_choice" = some (some (.ref f_cho)))
    (l_cho : K.lookup f_cho = some ⟨oc_cho, od_cho, .func (PySem.W.fnOf "_law_choice" "_law_choice" (defArgs sChoice) (defBody sChoice) (defScope sChoice) .none kV_cho dc_cho pm_cho an_cho cd_cho ct_cho), sl_cho⟩)
    (c_cho : PySem.W.codeIn K cd_cho "_law_choice" = true)
    (k_cho : PySem.W.keepIn K (.ref f_cho) = true)
    (a_int : PySem.W.nsIn K mainGlobals "_law_integer" = some (some (.ref f_int)))
    (l_int : K.lookup f_int = some ⟨oc_int, od_int, .func (PySem.W.fnOf "_law_integer" "_law_integer" (defArgs sInteger) (defBody sInteger) (defScope sInteger) .none kV_int dc_int pm_int an_int cd_int ct_int), sl_int⟩)
    (c_int : PySem.W.codeIn K cd_int "_law_integer" = true)
    (k_int : PySem.W.keepIn K (.ref f_int) = true)
    (a_par : PySem.W.nsIn K mainGlobals "_law_parts" = some (some (.ref f_par)))
    (l_par : K.lookup f_par = some ⟨oc_par, od_par, .func (PySem.W.fnOf "_law_parts" "_law_parts" (defArgs sParts) (defBody sParts) (defScope sParts) .none kV_par dc_par pm_par an_par cd_par ct_par), sl_par⟩)
    (c_par : PySem.W.codeIn K cd_par "_law_parts" = true)
    (k_par : PySem.W.keepIn K (.ref f_par) = true)
    (a_wrd : PySem.W.nsIn K mainGlobals "_law_word" = some (some (.ref f_wrd)))
    (l_wrd : K.lookup f_wrd = some ⟨oc_wrd, od_wrd, .func (PySem.W.fnOf "_law_word" "_law_word" (defArgs sWord) (defBody sWord) (defScope sWord) .none kV_wrd dc_wrd pm_wrd an_wrd cd_wrd ct_wrd), sl_wrd⟩)
    (c_wrd : PySem.W.codeIn K cd_wrd "_law_word" = true)
    (k_wrd : PySem.W.keepIn K (.ref f_wrd) = true)
    (a_spo : PySem.W.nsIn K mainGlobals "_law_spoilt" = some (some (.ref f_spo)))
    (l_spo : K.lookup f_spo = some ⟨oc_spo, od_spo, .func (PySem.W.fnOf "_law_spoilt" "_law_spoilt" (defArgs sSpoilt) (defBody sSpoilt) (defScope sSpoilt) .none kV_spo dc_spo pm_spo an_spo cd_spo ct_spo), sl_spo⟩)
    (c_spo : PySem.W.codeIn K cd_spo "_law_spoilt" = true)
    (k_spo : PySem.W.keepIn K (.ref f_spo) = true)
    (a_lnm : PySem.W.nsIn K mainGlobals "_law_is_name" = some (some (.ref f_lnm)))
    (l_lnm : K.lookup f_lnm = some ⟨oc_lnm, od_lnm, .func (PySem.W.fnOf "_law_is_name" "_law_is_name" (defArgs sLawName) (defBody sLawName) (defScope sLawName) .none kV_lnm dc_lnm pm_lnm an_lnm cd_lnm ct_lnm), sl_lnm⟩)
    (c_lnm : PySem.W.codeIn K cd_lnm "_law_is_name" = true)
    (k_lnm : PySem.W.keepIn K (.ref f_lnm) = true)
    (a_tol : PySem.W.nsIn K mainGlobals "_law_told" = some (some (.ref f_tol)))
    (l_tol : K.lookup f_tol = some ⟨oc_tol, od_tol, .func (PySem.W.fnOf "_law_told" "_law_told" (defArgs sTold) (defBody sTold) (defScope sTold) .none kV_tol dc_tol pm_tol an_tol cd_tol ct_tol), sl_tol⟩)
    (c_tol : PySem.W.codeIn K cd_tol "_law_told" = true)
    (k_tol : PySem.W.keepIn K (.ref f_tol) = true)
    (a_rgt : PySem.W.nsIn K mainGlobals "_law_right" = some (some (.ref f_rgt)))
    (l_rgt : K.lookup f_rgt = some ⟨oc_rgt, od_rgt, .func (PySem.W.fnOf "_law_right" "_law_right" (defArgs sRight) (defBody sRight) (defScope sRight) .none kV_rgt dc_rgt pm_rgt an_rgt cd_rgt ct_rgt), sl_rgt⟩)
    (c_rgt : PySem.W.codeIn K cd_rgt "_law_right" = true)
    (k_rgt : PySem.W.keepIn K (.ref f_rgt) = true)
    (a_law : PySem.W.nsIn K mainGlobals "law" = some (some (.ref f_law)))
    (l_law : K.lookup f_law = some ⟨oc_law, od_law, .func (PySem.W.fnOf "law" "law" (defArgs sLaw) (defBody sLaw) (defScope sLaw) .none kV_law dc_law pm_law an_law cd_law ct_law), sl_law⟩)
    (c_law : PySem.W.codeIn K cd_law "law" = true)
    (k_law : PySem.W.keepIn K (.ref f_law) = true)
    (a_CR : PySem.W.nsIn K mainGlobals "Ratio" = some (some (.ref CR)))
    (pg_CR : PySem.W.plainGet K CR Str.empty = true)
    (hd_CR : PySem.W.hasDictIn K CR = true)
    (po_CR : PySem.W.plainOver K CR = true)
    (sa_CR : PySem.W.findIn K (.ref CR) "__setattr__" = some (some (.builtin "object.__setattr__")))
    (mk_CR : PySem.W.makesIn K CR = true)
    (kc_CR : PySem.W.keepIn K (.ref CR) = true)
    (ha_CR : PySem.W.findIn K (.ref CR) "__class__" = some (some (.builtin "object.__class__")))
    (hm_CR : PySem.W.mroIn K CR (.type "object") = some true)
    (ic_CR : PySem.W.isClsIn K CR = true)
    (tc_CR : PySem.W.typeIn K (.ref CR) = some (.type "type"))
    (si_CR : PySem.W.subIn K (.ref CR) (.type "int") = some false)
    (sb_CR : PySem.W.subIn K (.ref CR) (.type "bool") = some false)
    (ss_CR : PySem.W.subIn K (.ref CR) (.type "str") = some false)
    (sr_CR : PySem.W.subIn K (.ref CR) (.ref CR) = some true)
    (a_CF : PySem.W.nsIn K mainGlobals "Form" = some (some (.ref CF)))
    (pg_CF : PySem.W.plainGet K CF Str.empty = true)
    (hd_CF : PySem.W.hasDictIn K CF = true)
    (po_CF : PySem.W.plainOver K CF = true)
    (sa_CF : PySem.W.findIn K (.ref CF) "__setattr__" = some (some (.builtin "object.__setattr__")))
    (mk_CF : PySem.W.makesIn K CF = true)
    (kc_CF : PySem.W.keepIn K (.ref CF) = true)
    (ha_CF : PySem.W.findIn K (.ref CF) "__class__" = some (some (.builtin "object.__class__")))
    (hm_CF : PySem.W.mroIn K CF (.type "object") = some true)
    (ic_CF : PySem.W.isClsIn K CF = true)
    (tc_CF : PySem.W.typeIn K (.ref CF) = some (.type "type"))
    (si_CF : PySem.W.subIn K (.ref CF) (.type "int") = some false)
    (sb_CF : PySem.W.subIn K (.ref CF) (.type "bool") = some false)
    (ss_CF : PySem.W.subIn K (.ref CF) (.type "str") = some false)
    (sr_CF : PySem.W.subIn K (.ref CF) (.ref CR) = some false)
    (hn : PySem.W.specialIn K (.builtin "object.__class__") "__get__" = some (some (.builtin "getset_descriptor.__get__")))
    (htk : PySem.W.takesIn K (.builtin "object.__class__") = some true)
    (u_non : PySem.W.subIn K (.type "NoneType") (.ref CR) = some false)
    (u_bl : PySem.W.subIn K (.type "bool") (.ref CR) = some false)
    (u_int : PySem.W.subIn K (.type "int") (.ref CR) = some false)
    (u_str : PySem.W.subIn K (.type "str") (.ref CR) = some false)
    (u_lst : PySem.W.subIn K (.type "list") (.ref CR) = some false)
    (u_tup : PySem.W.subIn K (.type "tuple") (.ref CR) = some false)
    (u_dct : PySem.W.subIn K (.type "dict") (.ref CR) = some false)
    (nT : PySem.W.findIn K (.ref CR) "_top" = some none)
    (nB : PySem.W.findIn K (.ref CR) "_bottom" = some none)
    (nN : PySem.W.findIn K (.ref CF) "_number" = some none)
    (nW : PySem.W.findIn K (.ref CF) "_weights" = some none)
    (a_ri : PySem.W.findIn K (.ref CR) "__init__" = some (some (.ref f_ri)))
    (i_ri : PySem.W.isFn K (.ref f_ri) = true)
    (l_ri : K.lookup f_ri = some ⟨oc_ri, od_ri, .func (PySem.W.fnOf "__init__" "Ratio.__init__" (defArgs sRInit) (defBody sRInit) (defScope sRInit) (.ref TR) kV_ri dc_ri pm_ri an_ri cd_ri ct_ri), sl_ri⟩)
    (c_ri : PySem.W.codeIn K cd_ri "Ratio.__init__" = true)
    (k_ri : PySem.W.keepIn K (.ref f_ri) = true)
    (d_ri : K.lookup TR = some ⟨cTR, dTR, .seq #[.int 1 tkR] nTR, slTR⟩)
    (a_rs : PySem.W.findIn K (.ref CR) "__str__" = some (some (.ref f_rs)))
    (i_rs : PySem.W.isFn K (.ref f_rs) = true)
    (l_rs : K.lookup f_rs = some ⟨oc_rs, od_rs, .func (PySem.W.fnOf "__str__" "Ratio.__str__" (defArgs sRStr) (defBody sRStr) (defScope sRStr) .none kV_rs dc_rs pm_rs an_rs cd_rs ct_rs), sl_rs⟩)
    (c_rs : PySem.W.codeIn K cd_rs "Ratio.__str__" = true)
    (k_rs : PySem.W.keepIn K (.ref f_rs) = true)
    (a_fi : PySem.W.findIn K (.ref CF) "__init__" = some (some (.ref f_fi)))
    (i_fi : PySem.W.isFn K (.ref f_fi) = true)
    (l_fi : K.lookup f_fi = some ⟨oc_fi, od_fi, .func (PySem.W.fnOf "__init__" "Form.__init__" (defArgs sFInit) (defBody sFInit) (defScope sFInit) (.ref TF) kV_fi dc_fi pm_fi an_fi cd_fi ct_fi), sl_fi⟩)
    (c_fi : PySem.W.codeIn K cd_fi "Form.__init__" = true)
    (k_fi : PySem.W.keepIn K (.ref f_fi) = true)
    (d_fi : K.lookup TF = some ⟨cTF, dTF, .seq #[.none, .int 0 tkF] nTF, slTF⟩)
    (p_at : PySem.W.findIn K (.ref CR) "sign" = some (some (.ref pS)))
    (p_get : PySem.W.specialIn K (.ref pS) "__get__" = some (some (.builtin "property.__get__")))
    (p_tk : PySem.W.takesIn K (.ref pS) = some true)
    (p_rec : PySem.W.recIn K pS "property" = some (.ref f_sg :: restS))
    (l_sg : K.lookup f_sg = some ⟨oc_sg, od_sg, .func (PySem.W.fnOf "sign" "Ratio.sign" (defArgs sRSign) (defBody sRSign) (defScope sRSign) .none kV_sg dc_sg pm_sg an_sg cd_sg ct_sg), sl_sg⟩)
    (c_sg : PySem.W.codeIn K cd_sg "Ratio.sign" = true)
    (k_sg : PySem.W.keepIn K (.ref f_sg) = true)
    (o_rd : PySem.W.readsIn K CF (.type "type") = true)
    (o_ga : PySem.W.specialIn K (.ref CF) "__getattribute__" = some (some (.builtin "type.__getattribute__")))
    (o_at : PySem.W.findCls K (.ref CF) (.type "type") "of" = some (.get (.builtin "classmethod.__get__") (.ref pO) .none (.ref CF)))
    (o_rec : PySem.W.recIn K pO "classmethod" = some (.ref f_of :: restO))
    (o_fi : PySem.W.fnIn K f_of = true)
    (l_of : K.lookup f_of = some ⟨oc_of, od_of, .func (PySem.W.fnOf "of" "Form.of" (defArgs sFOf) (defBody sFOf) (defScope sFOf) .none kV_of dc_of pm_of an_of cd_of ct_of), sl_of⟩)
    (c_of : PySem.W.codeIn K cd_of "Form.of" = true)
    (k_of : PySem.W.keepIn K (.ref f_of) = true)
    (g_gcd : PySem.W.nsIn K mainGlobals "gcd" = some (some (.builtin "math.gcd")))
    (g_most : PySem.W.nsIn K mainGlobals "LONGEST_NAME" = some (some (.int 8 tkM)))
    (z_len : PySem.W.nsIn K mainGlobals "len" = some none)
    (z_abs : PySem.W.nsIn K mainGlobals "abs" = some none)
    (z_max : PySem.W.nsIn K mainGlobals "max" = some none)
    (z_min : PySem.W.nsIn K mainGlobals "min" = some none)
    (z_int : PySem.W.nsIn K mainGlobals "int" = some none)
    (z_divmod : PySem.W.nsIn K mainGlobals "divmod" = some none)
    (z_range : PySem.W.nsIn K mainGlobals "range" = some none)
    (z_all : PySem.W.nsIn K mainGlobals "all" = some none)
    (z_isinstance : PySem.W.nsIn K mainGlobals "isinstance" = some none)
    (z_bool : PySem.W.nsIn K mainGlobals "bool" = some none)
    (z_str : PySem.W.nsIn K mainGlobals "str" = some none)
    (z_repr : PySem.W.nsIn K mainGlobals "repr" = some none)
    (z_sorted : PySem.W.nsIn K mainGlobals "sorted" = some none)
    (z_dict : PySem.W.nsIn K mainGlobals "dict" = some none)
    : ∀ base : Heap, K.In base → base.Ns mainGlobals mg → FnG l.prog w K mg base 9 fa (spLaw K) := by
  intro base _ _
  have e := hfa.symm.trans (PySem.W.mg_of X G a_law)
  cases e
  have F_isI := fun_mk (st := sIsInt) l_isI c_isI k_isI
  have b_isI := F_isI.binds (ps := ["value"]) fun _ _ _ _ _ _ us hl => match us, hl with | [_], _ => rfl
  have m_isI := PySem.W.mg_of X G a_isI
  have F_isN := fun_mk (st := sIsNum) l_isN c_isN k_isN
  have b_isN := F_isN.binds (ps := ["value"]) fun _ _ _ _ _ _ us hl => match us, hl with | [_], _ => rfl
  have m_isN := PySem.W.mg_of X G a_isN
  have F_isW := fun_mk (st := sIsName) l_isW c_isW k_isW
  have b_isW := F_isW.binds (ps := ["value"]) fun _ _ _ _ _ _ us hl => match us, hl with | [_], _ => rfl
  have m_isW := PySem.W.mg_of X G a_isW
  have F_asR := fun_mk (st := sAsRatio) l_asR c_asR k_asR
  have b_asR := F_asR.binds (ps := ["value"]) fun _ _ _ _ _ _ us hl => match us, hl with | [_], _ => rfl
  have m_asR := PySem.W.mg_of X G a_asR
  have F_mps := fun_mk (st := sMaps) l_mps c_mps k_mps
  have b_mps := F_mps.binds (ps := ["value"]) fun _ _ _ _ _ _ us hl => match us, hl with | [_], _ => rfl
  have m_mps := PySem.W.mg_of X G a_mps
  have F_jar := fun_mk (st := sJar) l_jar c_jar k_jar
  have b_jar := F_jar.binds (ps := ["_law_script", "_law_k"]) fun _ _ _ _ _ _ us hl => match us, hl with | [_, _], _ => rfl
  have m_jar := PySem.W.mg_of X G a_jar
  have F_dip := fun_mk (st := sDip) l_dip c_dip k_dip
  have b_dip := F_dip.binds (ps := ["_law_jar_here", "_law_many"]) fun _ _ _ _ _ _ us hl => match us, hl with | [_, _], _ => rfl
  have m_dip := PySem.W.mg_of X G a_dip
  have F_cho := fun_mk (st := sChoice) l_cho c_cho k_cho
  have b_cho := F_cho.binds (ps := ["_law_jar_here", "_law_some"]) fun _ _ _ _ _ _ us hl => match us, hl with | [_, _], _ => rfl
  have m_cho := PySem.W.mg_of X G a_cho
  have F_int := fun_mk (st := sInteger) l_int c_int k_int
  have b_int := F_int.binds (ps := ["_law_jar_here"]) fun _ _ _ _ _ _ us hl => match us, hl with | [_], _ => rfl
  have m_int := PySem.W.mg_of X G a_int
  have F_par := fun_mk (st := sParts) l_par c_par k_par
  have b_par := F_par.binds (ps := ["_law_jar_here"]) fun _ _ _ _ _ _ us hl => match us, hl with | [_], _ => rfl
  have m_par := PySem.W.mg_of X G a_par
  have F_wrd := fun_mk (st := sWord) l_wrd c_wrd k_wrd
  have b_wrd := F_wrd.binds (ps := ["_law_jar_here"]) fun _ _ _ _ _ _ us hl => match us, hl with | [_], _ => rfl
  have m_wrd := PySem.W.mg_of X G a_wrd
  have F_spo := fun_mk (st := sSpoilt) l_spo c_spo k_spo
  have b_spo := F_spo.binds (ps := ["_law_jar_here", "_law_word_here"]) fun _ _ _ _ _ _ us hl => match us, hl with | [_, _], _ => rfl
  have m_spo := PySem.W.mg_of X G a_spo
  have F_lnm := fun_mk (st := sLawName) l_lnm c_lnm k_lnm
  have b_lnm := F_lnm.binds (ps := ["_law_word_here"]) fun _ _ _ _ _ _ us hl => match us, hl with | [_], _ => rfl
  have m_lnm := PySem.W.mg_of X G a_lnm
  have F_tol := fun_mk (st := sTold) l_tol c_tol k_tol
  have b_tol := F_tol.binds (ps := ["_law_odd", "_law_due"]) fun _ _ _ _ _ _ us hl => match us, hl with | [_, _], _ => rfl
  have m_tol := PySem.W.mg_of X G a_tol
  have F_rgt := fun_mk (st := sRight) l_rgt c_rgt k_rgt
  have b_rgt := F_rgt.binds (ps := ["_law_jar_here"]) fun _ _ _ _ _ _ us hl => match us, hl with | [_], _ => rfl
  have m_rgt := PySem.W.mg_of X G a_rgt
  have F_law := fun_mk (st := sLaw) l_law c_law k_law
  have b_law := F_law.binds (ps := ["_law_script"]) fun _ _ _ _ _ _ us hl => match us, hl with | [_], _ => rfl
  have m_law := PySem.W.mg_of X G a_law
  have y_len := PySem.W.mg_none_of X G z_len
  have y_abs := PySem.W.mg_none_of X G z_abs
  have y_max := PySem.W.mg_none_of X G z_max
  have y_min := PySem.W.mg_none_of X G z_min
  have y_int := PySem.W.mg_none_of X G z_int
  have y_divmod := PySem.W.mg_none_of X G z_divmod
  have y_range := PySem.W.mg_none_of X G z_range
  have y_all := PySem.W.mg_none_of X G z_all
  have y_isinstance := PySem.W.mg_none_of X G z_isinstance
  have y_bool := PySem.W.mg_none_of X G z_bool
  have y_str := PySem.W.mg_none_of X G z_str
  have y_repr := PySem.W.mg_none_of X G z_repr
  have y_sorted := PySem.W.mg_none_of X G z_sorted
  have y_dict := PySem.W.mg_none_of X G z_dict
  have mR := PySem.W.mg_of X G a_CR
  have mF := PySem.W.mg_of X G a_CF
  have clR : Cls K CR := ⟨pg_CR, hd_CR, po_CR, sa_CR⟩
  have clF : Cls K CF := ⟨pg_CF, hd_CF, po_CF, sa_CF⟩
  have iR : InsK K CR := ⟨clR, ha_CR, hn, htk, hm_CR⟩
  have iF : InsK K CF := ⟨clF, ha_CF, hn, htk, hm_CF⟩
  have ki_CR := kit_rt (T := "int") (by decide +kernel) si_CR
  have kb_CR := kit_rt (T := "bool") (by decide +kernel) sb_CR
  have ks_CR := kit_rt (T := "str") (by decide +kernel) ss_CR
  have ki_CF := kit_rt (T := "int") (by decide +kernel) si_CF
  have kb_CF := kit_rt (T := "bool") (by decide +kernel) sb_CF
  have ks_CF := kit_rt (T := "str") (by decide +kernel) ss_CF
  have kr_CR : PySem.W.kitOne K (.ref CR) (.ref CR) = some true := kit_rr ic_CR tc_CR sr_CR
  have kr_CF : PySem.W.kitOne K (.ref CF) (.ref CR) = some false := kit_rn (fun e => by rw [e, sr_CR] at sr_CF; cases sr_CF) ic_CR tc_CR sr_CF
  have t_non := kit_tr ic_CR tc_CR u_non
  have t_bl := kit_tr ic_CR tc_CR u_bl
  have t_int := kit_tr ic_CR tc_CR u_int
  have t_str := kit_tr ic_CR tc_CR u_str
  have t_lst := kit_tr ic_CR tc_CR u_lst
  have t_tup := kit_tr ic_CR tc_CR u_tup
  have t_dct := kit_tr ic_CR tc_CR u_dct
  have KT : KTy K CR := ⟨t_non, t_bl, t_int, t_str, t_lst, t_tup, t_dct⟩
  have T : Txt mg := ⟨y_len, y_abs, y_max, y_min, y_int, y_divmod, y_range, y_all⟩
  have TN : TxtN mg CR := ⟨y_isinstance, y_int, y_bool, y_str, y_len, mR, ⟨_, PySem.W.mg_of X G g_most⟩⟩
  have TT : TxtT mg := ⟨y_len, y_repr⟩
  have TR' : TxtR K mg CR := ⟨clR, nT, nB, mR, PySem.W.mg_of X G g_gcd, y_str, y_isinstance⟩
  have TF' : TxtF mg := ⟨y_isinstance, y_dict, y_all, y_sorted⟩
  have TI : TxtI K mg CF CR pS f_sg := ⟨clF, nN, nW, y_sorted, clR, ⟨p_at, p_get, p_tk, _, p_rec⟩⟩
  have TL : TxtL mg CF := ⟨y_all, y_range, y_str, mF⟩
  have w_isI : ∀ (s : Shared) (ws : List Value), ws.length = [("value" : Str)].length → BindsTo s (PySem.W.fnOf "is_integer" "is_integer" (defArgs sIsInt) (defBody sIsInt) (defScope sIsInt) .none kV_isI dc_isI pm_isI an_isI cd_isI ct_isI) ⟨[], [("value" : Str)].zip ws⟩ ([("value" : Str)].zip ws) := fun s ws hl => match ws, hl with | [_], _ => .of_eq rfl
  have w_isN : ∀ (s : Shared) (ws : List Value), ws.length = [("value" : Str)].length → BindsTo s (PySem.W.fnOf "is_number" "is_number" (defArgs sIsNum) (defBody sIsNum) (defScope sIsNum) .none kV_isN dc_isN pm_isN an_isN cd_isN ct_isN) ⟨[], [("value" : Str)].zip ws⟩ ([("value" : Str)].zip ws) := fun s ws hl => match ws, hl with | [_], _ => .of_eq rfl
  have w_isW : ∀ (s : Shared) (ws : List Value), ws.length = [("value" : Str)].length → BindsTo s (PySem.W.fnOf "is_name" "is_name" (defArgs sIsName) (defBody sIsName) (defScope sIsName) .none kV_isW dc_isW pm_isW an_isW cd_isW ct_isW) ⟨[], [("value" : Str)].zip ws⟩ ([("value" : Str)].zip ws) := fun s ws hl => match ws, hl with | [_], _ => .of_eq rfl
  have C_isI : ClK l.prog w K mg base 1 "is_integer" ["value"] (spIsInt K CR) := ⟨_, _, ok_isInt F_isI TN, m_isI, k_isI, b_isI, w_isI⟩
  have C_isN : ClK l.prog w K mg base 2 "is_number" ["value"] (spIsNum K CR) := ⟨_, _, ok_isNum F_isN TN C_isI.cl, m_isN, k_isN, b_isN, w_isN⟩
  have C_isW : ClK l.prog w K mg base 1 "is_name" ["value"] (spIsName K CR) := ⟨_, _, ok_isName F_isW TN, m_isW, k_isW, b_isW, w_isW⟩
  have C_jar : Cl l.prog w K mg base 1 "_law_jar" ["_law_script", "_law_k"] (spJar K) := ⟨_, _, ok_jar F_jar T, m_jar, k_jar, b_jar⟩
  have C_dip : Cl l.prog w K mg base 1 "_law_dip" ["_law_jar_here", "_law_many"] spDip := ⟨_, _, ok_dip F_dip T, m_dip, k_dip, b_dip⟩
  have C_cho : Cl l.prog w K mg base 2 "_law_choice" ["_law_jar_here", "_law_some"] (spChoice K) := ⟨_, _, ok_choice F_cho T C_dip, m_cho, k_cho, b_cho⟩
  have C_int : Cl l.prog w K mg base 3 "_law_integer" ["_law_jar_here"] spInteger := ⟨_, _, ok_integer F_int T C_dip C_cho, m_int, k_int, b_int⟩
  have C_par : Cl l.prog w K mg base 4 "_law_parts" ["_law_jar_here"] spParts := ⟨_, _, ok_parts F_par C_int, m_par, k_par, b_par⟩
  have C_wrd : Cl l.prog w K mg base 3 "_law_word" ["_law_jar_here"] spWord := ⟨_, _, ok_word F_wrd T C_dip C_cho, m_wrd, k_wrd, b_wrd⟩
  have C_spo : Cl l.prog w K mg base 3 "_law_spoilt" ["_law_jar_here", "_law_word_here"] spSpoilt := ⟨_, _, ok_spoilt F_spo T C_dip C_cho, m_spo, k_spo, b_spo⟩
  have C_lnm : Cl l.prog w K mg base 1 "_law_is_name" ["_law_word_here"] spLawName := ⟨_, _, ok_lawName F_lnm TT, m_lnm, k_lnm, b_lnm⟩
  have C_tol : ClG l.prog w K mg base 3 "_law_told" (spTold K CR) := ⟨_, ok_told F_tol b_tol TT C_isI C_isN C_isW, m_tol, k_tol⟩
  have D_ri : FunD K "__init__" "Ratio.__init__" (defArgs sRInit) (defBody sRInit) (defScope sRInit) [.int 1] [] f_ri _ := ⟨⟨_, _, _, _, _, _, _, _, _, _, rfl, l_ri, c_ri, .inr ⟨by simp, TR, _, [.int 1 tkR], _, rfl, d_ri, rfl, .cons ⟨_, rfl⟩ .nil⟩, .inl rfl⟩, k_ri⟩
  have O_ri : FnOk l.prog w K mg base CX0 2 f_ri _ ["self", "top", "bottom"] (spRInit CR) := ok_rInit D_ri TR' C_isI.cl t_int
  obtain ⟨ds2, v2, b2⟩ := D_ri.binds1 (ps := ["self", "top", "bottom"]) 2 0 (by simp) (by decide) (fun T kV doc pm an cdv ct us its h1 h2 => match us, h1, its, h2 with | [_, _], _, [_], _ => ⟨_, rfl, rfl⟩)
  obtain ⟨ds3, v3, b3⟩ := D_ri.binds1 (ps := ["self", "top", "bottom"]) 3 1 (by simp) (by decide) (fun T kV doc pm an cdv ct us its h1 h2 => match us, h1, its, h2 with | [_, _, _], _, [_], _ => ⟨_, rfl, rfl⟩)
  have M_R : Mk K CR f_ri := ⟨mk_CR, a_ri, i_ri, kc_CR⟩
  have C_R2 : MkC l.prog w K mg base 2 "Ratio" CR ["self", "top", "bottom"] [.int 1] (spRInit CR) := ⟨_, _, _, M_R, O_ri, mR, v2, b2⟩
  have C_R3 : MkC l.prog w K mg base 2 "Ratio" CR ["self", "top", "bottom"] [] (spRInit CR) := ⟨_, _, _, M_R, O_ri, mR, v3, b3⟩
  have C_asR : Cl l.prog w K mg base 4 "as_ratio" ["value"] (spAsRatio K CR) := ⟨_, _, ok_asRatio F_asR TR' C_R2 iR t_int kr_CR, m_asR, k_asR, b_asR⟩
  have C_mps : Cl l.prog w K mg base 3 "maps_names_to_numbers" ["value"] spMaps := ⟨_, _, ok_maps F_mps TF' C_isN.cl C_isW.cl t_int t_str, m_mps, k_mps, b_mps⟩
  have F_rs := fun_mk (st := sRStr) l_rs c_rs k_rs
  have b_rs := F_rs.binds (ps := ["self"]) fun _ _ _ _ _ _ us hl => match us, hl with | [_], _ => rfl
  have F_sg := fun_mk (st := sRSign) l_sg c_sg k_sg
  have b_sg := F_sg.binds (ps := ["self"]) fun _ _ _ _ _ _ us hl => match us, hl with | [_], _ => rfl
  have D_fi : FunD K "__init__" "Form.__init__" (defArgs sFInit) (defBody sFInit) (defScope sFInit) [.non, .int 0] [] f_fi _ := ⟨⟨_, _, _, _, _, _, _, _, _, _, rfl, l_fi, c_fi, .inr ⟨by simp, TF, _, [.none, .int 0 tkF], _, rfl, d_fi, rfl, .cons rfl (.cons ⟨_, rfl⟩ .nil)⟩, .inl rfl⟩, k_fi⟩
  have O_fi : FnOk l.prog w K mg base CX0 5 f_fi _ ["self", "weights", "number"] (spFInit CF CR) := ok_fInit D_fi TI C_mps C_asR (ok_rSign F_sg TR') b_sg
  obtain ⟨ds4, v4, b4⟩ := D_fi.binds1 (ps := ["self", "weights", "number"]) 2 1 (by simp) (by decide) (fun T kV doc pm an cdv ct us its h1 h2 => match us, h1, its, h2 with | [_, _], _, [_, _], _ => ⟨_, rfl, rfl⟩)
  obtain ⟨ds5, v5, b5⟩ := D_fi.binds1 (ps := ["self", "weights", "number"]) 3 2 (by simp) (by decide) (fun T kV doc pm an cdv ct us its h1 h2 => match us, h1, its, h2 with | [_, _, _], _, [_, _], _ => ⟨_, rfl, rfl⟩)
  have M_F : Mk K CF f_fi := ⟨mk_CF, a_fi, i_fi, kc_CF⟩
  have C_F2 : MkC l.prog w K mg base 5 "Form" CF ["self", "weights", "number"] [.int 0] (spFInit CF CR) := ⟨_, _, _, M_F, O_fi, mF, v4, b4⟩
  have C_F3 : MkC l.prog w K mg base 5 "Form" CF ["self", "weights", "number"] [] (spFInit CF CR) := ⟨_, _, _, M_F, O_fi, mF, v5, b5⟩
  have O_of := ok_fOf (P := l.prog) (w := w) (mg := mg) (base := base) (CF := CF) l_of c_of C_isW.cl C_F2 t_str
  have C_rgt : ClG l.prog w K mg base 8 "_law_right" spRight := ⟨_, ok_right F_rgt b_rgt TL KT ⟨ki_CR, kb_CR, ks_CR, kr_CR⟩ ⟨ki_CF, kb_CF, ks_CF, kr_CF⟩ iR iF C_tol C_spo C_wrd C_lnm C_int C_par C_R3 (ok_rStr F_rs TR') b_rs a_rs i_rs C_F3 O_of ⟨o_rd, o_ga⟩ ⟨o_at, ⟨_, o_rec⟩, o_fi⟩, m_rgt, k_rgt⟩
  exact ok_law F_law b_law T C_jar C_rgt
end Cm
end

open PySem PySem.W PyProof.Rows
set_option maxRecDepth 100000 in
set_option maxHeartbeats 0 in
theorem PySem.Challenge.cw_calledmidway_k13_what_is_a_number_or_a_n_holds : PySem.Challenge.rw_calledmidway_k13_what_is_a_number_or_a_n.Holds := by
  w_on; o_law; k_head; (case hw => w_witness2)
  k_fill
  refine KG.walk_ofG (l := PySem.Challenge.rw_calledmidway_k13_what_is_a_number_or_a_n) (n := 63) (k := 9) (sp := Cm.spLaw) rfl (by decide) rfl ⟨rfl, by decide, by decide⟩ (fun w h Y => PySem.W.kIn_of Y) ?F (fun K H a ns hl _ hS => ⟨a, ns, rfl, hS, hl, fun _ => rfl⟩)
  case F =>
    intro w mg fa h KX G hmg
    refine' Cm.all_mk KX G hmg ?a_isI ?l_isI ?c_isI ?k_isI ?a_isN ?l_isN ?c_isN ?k_isN ?a_isW ?l_isW ?c_isW ?k_isW ?a_asR ?l_asR ?c_asR ?k_asR ?a_mps ?l_mps ?c_mps ?k_mps ?a_jar ?l_jar ?c_jar ?k_jar ?a_dip ?l_dip ?c_dip ?k_dip ?a_cho ?l_cho ?c_cho ?k_cho ?a_int ?l_int ?c_int ?k_int ?a_par ?l_par ?c_par ?k_par ?a_wrd ?l_wrd ?c_wrd ?k_wrd ?a_spo ?l_spo ?c_spo ?k_spo ?a_lnm ?l_lnm ?c_lnm ?k_lnm ?a_tol ?l_tol ?c_tol ?k_tol ?a_rgt ?l_rgt ?c_rgt ?k_rgt ?a_law ?l_law ?c_law ?k_law ?a_CR ?pg_CR ?hd_CR ?po_CR ?sa_CR ?mk_CR ?kc_CR ?ha_CR ?hm_CR ?ic_CR ?tc_CR ?si_CR ?sb_CR ?ss_CR ?sr_CR ?a_CF ?pg_CF ?hd_CF ?po_CF ?sa_CF ?mk_CF ?kc_CF ?ha_CF ?hm_CF ?ic_CF ?tc_CF ?si_CF ?sb_CF ?ss_CF ?sr_CF ?hn ?htk ?u_non ?u_bl ?u_int ?u_str ?u_lst ?u_tup ?u_dct ?nT ?nB ?nN ?nW ?a_ri ?i_ri ?l_ri ?c_ri ?k_ri ?d_ri ?a_rs ?i_rs ?l_rs ?c_rs ?k_rs ?a_fi ?i_fi ?l_fi ?c_fi ?k_fi ?d_fi ?p_at ?p_get ?p_tk ?p_rec ?l_sg ?c_sg ?k_sg ?o_rd ?o_ga ?o_at ?o_rec ?o_fi ?l_of ?c_of ?k_of ?g_gcd ?g_most ?z_len ?z_abs ?z_max ?z_min ?z_int ?z_divmod ?z_range ?z_all ?z_isinstance ?z_bool ?z_str ?z_repr ?z_sorted ?z_dict
    (case a_isI => k_is)
    (case l_isI => k_is)
    (case c_isI => k_is)
    (case k_isI => k_is)
    (case a_isN => k_is)
    (case l_isN => k_is)
    (case c_isN => k_is)
    (case k_isN => k_is)
    (case a_isW => k_is)
    (case l_isW => k_is)
    (case c_isW => k_is)
    (case k_isW => k_is)
    (case a_asR => k_is)
    (case l_asR => k_is)
    (case c_asR => k_is)
    (case k_asR => k_is)
    (case a_mps => k_is)
    (case l_mps => k_is)
    (case c_mps => k_is)
    (case k_mps => k_is)
    (case a_jar => k_is)
    (case l_jar => k_is)
    (case c_jar => k_is)
    (case k_jar => k_is)
    (case a_dip => k_is)
    (case l_dip => k_is)
    (case c_dip => k_is)
    (case k_dip => k_is)
    (case a_cho => k_is)
    (case l_cho => k_is)
    (case c_cho => k_is)
    (case k_cho => k_is)
    (case a_int => k_is)
    (case l_int => k_is)
    (case c_int => k_is)
    (case k_int => k_is)
    (case a_par => k_is)
    (case l_par => k_is)
    (case c_par => k_is)
    (case k_par => k_is)
    (case a_wrd => k_is)
    (case l_wrd => k_is)
    (case c_wrd => k_is)
    (case k_wrd => k_is)
    (case a_spo => k_is)
    (case l_spo => k_is)
    (case c_spo => k_is)
    (case k_spo => k_is)
    (case a_lnm => k_is)
    (case l_lnm => k_is)
    (case c_lnm => k_is)
    (case k_lnm => k_is)
    (case a_tol => k_is)
    (case l_tol => k_is)
    (case c_tol => k_is)
    (case k_tol => k_is)
    (case a_rgt => k_is)
    (case l_rgt => k_is)
    (case c_rgt => k_is)
    (case k_rgt => k_is)
    (case a_law => k_is)
    (case l_law => k_is)
    (case c_law => k_is)
    (case k_law => k_is)
    (case a_CR => k_is)
    (case pg_CR => k_is)
    (case hd_CR => k_is)
    (case po_CR => k_is)
    (case sa_CR => k_is)
    (case mk_CR => k_is)
    (case kc_CR => k_is)
    (case ha_CR => k_is)
    (case hm_CR => k_is)
    (case ic_CR => k_is)
    (case tc_CR => k_is)
    (case si_CR => k_is)
    (case sb_CR => k_is)
    (case ss_CR => k_is)
    (case sr_CR => k_is)
    (case a_CF => k_is)
    (case pg_CF => k_is)
    (case hd_CF => k_is)
    (case po_CF => k_is)
    (case sa_CF => k_is)
    (case mk_CF => k_is)
    (case kc_CF => k_is)
    (case ha_CF => k_is)
    (case hm_CF => k_is)
    (case ic_CF => k_is)
    (case tc_CF => k_is)
    (case si_CF => k_is)
    (case sb_CF => k_is)
    (case ss_CF => k_is)
    (case sr_CF => k_is)
    (case hn => k_is)
    (case htk => k_is)
    (case u_non => k_is)
    (case u_bl => k_is)
    (case u_int => k_is)
    (case u_str => k_is)
    (case u_lst => k_is)
    (case u_tup => k_is)
    (case u_dct => k_is)
    (case nT => k_is)
    (case nB => k_is)
    (case nN => k_is)
    (case nW => k_is)
    (case a_ri => k_is)
    (case i_ri => k_is)
    (case l_ri => k_is)
    (case c_ri => k_is)
    (case k_ri => k_is)
    (case d_ri => k_is)
    (case a_rs => k_is)
    (case i_rs => k_is)
    (case l_rs => k_is)
    (case c_rs => k_is)
    (case k_rs => k_is)
    (case a_fi => k_is)
    (case i_fi => k_is)
    (case l_fi => k_is)
    (case c_fi => k_is)
    (case k_fi => k_is)
    (case d_fi => k_is)
    (case p_at => k_is)
    (case p_get => k_is)
    (case p_tk => k_is)
    (case p_rec => k_is)
    (case l_sg => k_is)
    (case c_sg => k_is)
    (case k_sg => k_is)
    (case o_rd => k_is)
    (case o_ga => k_is)
    (case o_at => k_is)
    (case o_rec => k_is)
    (case o_fi => k_is)
    (case l_of => k_is)
    (case c_of => k_is)
    (case k_of => k_is)
    (case g_gcd => k_is)
    (case g_most => k_is)
    (case z_len => k_is)
    (case z_abs => k_is)
    (case z_max => k_is)
    (case z_min => k_is)
    (case z_int => k_is)
    (case z_divmod => k_is)
    (case z_range => k_is)
    (case z_all => k_is)
    (case z_isinstance => k_is)
    (case z_bool => k_is)
    (case z_str => k_is)
    (case z_repr => k_is)
    (case z_sorted => k_is)
    (case z_dict => k_is)
