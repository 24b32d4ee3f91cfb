import PyProof.Rows.All
import Wide.All
import OpenK.AllK
import Wide.FinOn
import HandS.ForMost
import HandS.More
import HandS.Wide
import HandS.WideBits
import HandS.Defaults
import HandS.IsInst
import HandS.Gcd
import HandS.Star
import HandS.ClsMeth
import HandS.Property
import HandS.DictComp
import HandS.StrMore
import HandS.FStr
import KE.KCallOwn
import HandS.OwnEq
import HandS.MakeKw
import HandS.SortRule
import HandS.Walk
import HandS.Deep
import HandS.Style
import HandS.Codes
import HandS.WordsDict
import KE.KOpsOwn
import PySem.Challenge.RW_calledmidway_k24_what_is_reached
set_option Elab.async false
set_option linter.all false
set_option maxRecDepth 100000

/-! ## KG -/
section
/-! A layer of our own over the hand layer: defs whose calls know that no repr is under way. -/
namespace KG
open PySem PySem.Spec PyProof.Rows L2

/-- the positional promise of a def, where nothing is being shown around it -/
def FnG (P : Program) (w : World) (K : PySem.W.Frag) (mg : Str → Option Value) (base : Heap)
    (k : Nat) (f : Addr) (sp : Sp) : Prop :=
  ∀ (A : Around) (outer : List Env) (s : Shared) (H : Hp) (us : List Value) (vs : List V) (Q : VK) (E : XK),
    Room k A → A.guards = some [] → Env0 P w K mg base A outer s H → Vals vs us → sp vs H Q E →
      codeAny (model P w) A (.call (.ref f) ⟨us, []⟩) (CR CX0 outer P w H s Q E) s

theorem FnG.ofR {P : Program} {w : World} {K : PySem.W.Frag} {mg : Str → Option Value} {base : Heap}
    {k : Nat} {f : Addr} {sp : Sp} (F : FnR P w K mg base CX0 k f sp) : FnG P w K mg base k f sp :=
  fun A outer s H us vs Q E hr _ e r h => F A outer s H us vs Q E hr e r h

/-- a def's promise by its body, the guards being known -/
theorem fnG_of {P : Program} {w : World} {K : PySem.W.Frag} {mg : Str → Option Value} {base : Heap}
    {x qual : Str} {st : Stmt} {f : Addr} {fd : FuncData} {N ps : List Str} {k : Nat} {sp : Sp}
    (F : Fun K x qual st f fd) (S : FnScope N ps (defScope st)) (B : Binds K fd ps [])
    (len : ∀ vs H Q E, sp vs H Q E → vs.length = ps.length)
    (body : ∀ (cdv : Value) (A : Around) (outer : List Env) (s : Shared) (H : Hp) (vs : List V) (Q : VK) (E : XK),
      Room k (A.deeper (envOfC qual (defScope st) s.heap.objs.size f cdv)) → A.guards = some [] → sp vs H Q E →
      ∃ t, PSs (cxOf CX0 P w K mg base N qual (defScope st) f cdv A outer s H E).nox (defBody st) t ∧
        t { nx := fun _ H' => Q .non H', rt := Q } (start N vs) H) : FnG P w K mg base (k + 1) f sp := by
  intro A outer s H us vs Q E hr hg e0 r hsp
  obtain ⟨oc, od, kV, doc, pm, an, cdv, ct, osl, efd, lk, hcd⟩ := F.ex
  have inK : K.In s.heap := e0.mod.kin.keeps fun b o e => (e0.bs b o e).1
  have noLim : s.heap.NoLimit := e0.mod.nolimit.keeps fun b o e => (e0.bs b o e).1
  have hlen : us.length = ps.length := by rw [← r.length]; exact len _ _ _ _ hsp
  have hb := B s us inK (by simpa using hlen)
  rw [List.append_nil] at hb
  subst efd
  have kinds : ∀ y ∈ ps.zip us, (defScope st).names.lookup y.1 = some .local ∨
      ((defScope st).names.lookup y.1 = some .cell ∧
        ((cellsFrom (s.heap.objs.size + 1) (defScope st).names []).lookup y.1).isSome = true) := by
    rintro ⟨n, v⟩ hy
    cases S.par n (List.of_mem_zip hy).1 with
    | inl q => exact .inl q
    | inr q => exact .inr ⟨q, PySem.W.cellsFrom_some _ _ _ (.inl q)⟩
  refine codeAny_call_function hr.depth (inK _ _ lk) rfl S.co S.gen rfl (PySem.W.codeRec_of inK hcd)
    (hb _ _ _ _ ?_)
  refine wpAny_newFunctionEnv_cells S.kind kinds ?_
  rintro env rfl s1 y
  refine ⟨noLim.keeps y.toInCall.keep, codeAny_func ?_⟩
  obtain ⟨t, ht, hq⟩ := body cdv A outer s H vs Q E (hr.deeper _) hg hsp
  have J := inv_start (CX := CX0) (E := E) S hr.hd e0 (len _ _ _ _ hsp) r y
  refine wpAny_mono (ht.nox.run [] s1 (start N vs) H _ J hq) ?_ (fun _ _ z => z)
  intro fl s' done
  cases fl with
  | ret u =>
    obtain ⟨v, σ', H', I', rv, q⟩ := done
    exact ⟨v, H', I'.os, I'.bare, I'.base, I'.hok, rv, q⟩
  | next =>
    obtain ⟨σ', H', I', q⟩ := done
    exact ⟨V.non, H', I'.os, I'.bare, I'.base, I'.hok, rfl, q⟩
  | brk => exact done.elim fun _ z => z.elim fun _ z => z.2.elim
  | cont => exact done.elim fun _ z => z.elim fun _ z => z.2.elim

section
variable {X : Cx} {k : Nat} {f : Addr} {sp : Sp} {x : Str} {p pos : Pos} {e : Expr} {es : List Expr} {t : TA}

theorem run_fnG {pins : List (Addr × Obj)} {σ : L2.St} {H : Hp} {s : Shared} {Q : VK} {us : List Value} {vs : List V}
    (F : FnG X.prog X.w X.K X.mg X.base k f sp) (hr : Room k X.A) (hg : X.A.guards = some [])
    (I : Inv X pins σ H s) (r : Vals vs us) (h : sp vs H Q E0) :
    wpAny (model X.prog X.w) X.A (call (.ref f) us) (EP X pins σ Q) X.xe s := by
  refine wpAny_call (codeAny_mono (F X.A X.stack s H us vs Q E0 hr hg I.env0 r h) ?_)
  intro res s' q
  cases res with
  | error e => exact q.elim
  | ok fl =>
    cases fl with
    | ret u => exact I.after q
    | next => exact q.elim
    | brk => exact q.elim
    | cont => exact q.elim

/-- a def's promise asked of the values of t -/
def tK (sp : Sp) (t : TA) : TE := fun σ H Q => t σ H fun vs H1 => sp vs H1 Q E0
/-- f(e, ..) of such a def -/
theorem pe_callG (F : FnG X.prog X.w X.K X.mg X.base k f sp) (hr : Room k X.A) (hg : X.A.guards = some [])
    (gl : Gl X x) (hm : X.mg x = some (.ref f)) (hk : PySem.W.keepIn X.K (.ref f) = true) (ha : PA X (e :: es) t)
    (hdb : (x == ("__debug__" : Str)) = false := by decide)
    (he : starEach (e :: es) X.env = (false, eval e X.env) :: starEach es X.env := by rfl)
    (hpl : (backTo pos (starEach es X.env)).any (·.1) = false := by rfl) :
    PE X (.Call (.Name x p) (e :: es) [] pos) (tK sp t) := by
  constructor
  intro pins s σ H Q I h
  refine wpAny_Call_Name_kw (ld_glob I gl hm ?_ hdb)
  refine PySem.W.callWith_K (h₀ := X.base) I.ok.mod.kin hk ?_ he hpl
  refine thn (ha.run pos pins s σ H _ I h) ?_
  rintro us s1 ⟨vs, H1, I1, r, q⟩
  exact ⟨I1.kIn, run_fnG F hr hg I1 r q⟩

/-- repr of a list or tuple of plain data -/
theorem call_reprD (hg : X.A.guards = some []) (hu : X.A.units + 64 < cLine) :
    CallR X (.builtin "repr") (fun xs H Q => ∃ (a : Addr) (d : PyData), xs = [.ref a] ∧ Dp X.K H (.ref a) d ∧
      d.showable = true ∧ d.hasDict = false ∧ d.depth ≤ 62 ∧ d.shown.length ≤ sizeLine ∧ Q (.str d.shown) H) := by
  intro pins s σ H xs us Q I r h
  obtain ⟨a, d, rfl, hd, hs, hn, hdp, hz, q⟩ := h
  obtain ⟨u, rfl, ru⟩ := vals1 r
  obtain ⟨as, rd⟩ := Dp.reads I d _ _ hd ru
  cases ru
  exact repr_of_reads' rd hs (PyData.noDict_hsm hn) hg (by omega) (fun _ _ z => z)
    (fun h' u tk kp => ⟨.str _, H, I.kept (t' := tk) kp, ⟨_, rfl⟩, q⟩) hz
end
end KG
end

/-! ## KG2 -/
section
namespace KG
open PySem PySem.Spec PyProof.Rows L2

theorem guards_caller : (callerA).guards = some [] := by rfl

/-- the promise of the law's def, met at the head's heap under the tracking H -/
theorem lawG_core {P : Program} {w : World} {K : PySem.W.Frag} {mg mb : Str → Option Value} {k : Nat} {fa a : Addr}
    {sp : Sp} {s1 : Shared} {vs : List Value} {H : Hp}
    (inK : K.In s1.heap) (gl : s1.heap.Ns mainGlobals mg) (bl : s1.heap.Ns builtinsNs mb)
    (bb : ∀ y : Str, y ≠ "__name__" → mb y = bootBuiltins y) (nl : s1.heap.NoLimit) (nd : s1.heap.NoDigits) (g0 : s1.gens = #[])
    (at_ : s1.heap.get? a = some { cls := .type "list", data := .seq vs.toArray }) (rm : Room k callerA)
    (F : ∀ base : Heap, K.In base → base.Ns mainGlobals mg → base.NoDigits → FnG P w K mg base k fa sp)
    (only : Only H) (one : ∀ b u, H b = some u → b = a) (nK : ∀ u, H a = some u → K.lookup a = none) (ok : HOk P w H s1.heap)
    (say : sp [.ref a] H (fun v _ => v = .bl true) E0) :
    codeAny (model P w) callerA (.call (.ref fa) ⟨[.ref a], []⟩)
      (fun r s2 => r = .ok (.ret (.bool true)) ∧ OldK s1.heap s2.heap ∧ s2.os = s1.os ∧ AllBare s2.gens) s1 := by
  have dictFree : ∀ {b : Addr} {o : Obj} {es : Array DictEntry} {ep : Nat},
      s1.heap.get? b = some o → o.data = .dict es ep → H b = none := by
    intro b o es ep eo ed
    cases hb : H b with
    | none => rfl
    | some u =>
      have eb := one b u hb
      rw [eb, at_] at eo
      injection eo with eo
      rw [← eo] at ed
      exact absurd ed (by intro z; cases z)
  have nsB : ∀ {b : Addr} {m : Str → Option Value}, s1.heap.Ns b m → (hidT s1.heap H).Ns b m := by
    rintro b m ⟨o, es, ep, eo, ed, rest⟩
    exact ⟨o, es, ep, hidT_get eo (dictFree eo ed), ed, rest⟩
  have inB : K.In (hidT s1.heap H) := by
    intro b o eb
    refine hidT_get (inK b o eb) ?_
    cases hb : H b with
    | none => rfl
    | some u =>
      have e1 := one b u hb
      subst e1
      rw [nK u hb] at eb
      cases eb
  have modB : Mod K mg (hidT s1.heap H) := by
    obtain ⟨mc, c1, c2⟩ := nl
    exact ⟨inB, nsB gl, ⟨mb, nsB bl, bb⟩, mc, nsB c1, c2⟩
  have ndB : (hidT s1.heap H).NoDigits := by
    obtain ⟨mc, c1, c2⟩ := nd
    exact ⟨mc, nsB c1, c2⟩
  have env : Env0 P w K mg (hidT s1.heap H) callerA [] s1 H := by
    refine ⟨rfl, modB, fun b o z => of_hidT z, Nat.le_of_eq (hidT_size _ _), trivial, ?_, ok, .of_eq g0⟩
    intro b hb
    cases (show b ∈ ([] : List Addr) from hb)
  refine codeAny_mono (F _ inB (nsB gl) ndB callerA [] s1 H [.ref a] [.ref a] _ E0 rm guards_caller env (.cons rfl .nil) say) ?_
  intro r s2 z
  cases r with
  | error e => exact z.elim
  | ok fl =>
    cases fl with
    | next => exact z.elim
    | brk => exact z.elim
    | cont => exact z.elim
    | ret u =>
      obtain ⟨v, H2, eos, bare, un, ok2, rv, ev⟩ := z
      have ev' : v = .bl true := ev
      subst ev'
      cases rv
      refine ⟨rfl, OldK.of_keep ?_, eos, bare⟩
      intro b o eo
      cases hb : H b with
      | none =>
        refine un.keep b o eo hb ?_ ?_
        · intro z; cases (show b ∈ ([] : List Addr) from z)
        · intro z; cases z
      | some u2 =>
        cases only b with
        | inl z => rw [hb] at z; cases z
        | inr z =>
          obtain ⟨ob, xs, z⟩ := z
          have m1 := (ok b _ z).1
          have m2 := (ok2 b _ (un.frzs b ob _ z)).1
          rw [eo] at m1
          injection m1 with m1
          rw [m1]
          exact m2

theorem lawG {P : Program} {w : World} {K : PySem.W.Frag} {mg mb : Str → Option Value} {k : Nat} {fa a : Addr}
    {sp : Sp} {s1 : Shared} {vs : List Value} {ns : List Int}
    (inK : K.In s1.heap) (gl : s1.heap.Ns mainGlobals mg) (bl : s1.heap.Ns builtinsNs mb)
    (bb : ∀ y : Str, y ≠ "__name__" → mb y = bootBuiltins y) (nl : s1.heap.NoLimit) (nd : s1.heap.NoDigits) (g0 : s1.gens = #[])
    (at_ : s1.heap.get? a = some { cls := .type "list", data := .seq vs.toArray }) (hi : IntsAre vs ns)
    (hz : ns.length ≤ sizeLine) (rm : Room k callerA)
    (F : ∀ base : Heap, K.In base → base.Ns mainGlobals mg → base.NoDigits → FnG P w K mg base k fa sp)
    (say : ∀ H : Hp, Only H → SqL K H a (ns.map V.int) → sp [.ref a] H (fun v _ => v = .bl true) E0) :
    codeAny (model P w) callerA (.call (.ref fa) ⟨[.ref a], []⟩)
      (fun r s2 => r = .ok (.ret (.bool true)) ∧ OldK s1.heap s2.heap ∧ s2.os = s1.os ∧ AllBare s2.gens) s1 := by
  have rv := vals_ints hi
  have same := hi.length
  cases hk : K.lookup a with
  | some o =>
    have eo := inK a o hk
    rw [at_] at eo
    injection eo with eo
    subst eo
    have none_ : Only (fun _ => none) := fun _ => .inl rfl
    refine lawG_core inK gl bl bb nl nd g0 at_ rm F (H := fun _ => none) none_ (fun b u z => by cases z) (fun u z => by cases z) (fun b u z => by cases z) (say _ none_ ?_)
    refine .inr ⟨_, vs.toArray, _, hk, rfl, rfl, rfl, ?_, ?_⟩
    · rw [List.size_toArray, same]; exact hz
    · simpa using rv
  | none =>
    let fr : HO := .frz { cls := .type "list", data := .seq vs.toArray } (.lst (ns.map V.int))
    let H1 : Hp := fun b => if b = a then some fr else none
    have hA : H1 a = some fr := if_pos rfl
    have hO : ∀ b u, H1 b = some u → b = a ∧ u = fr := by
      intro b u z
      by_cases e : b = a
      · refine ⟨e, ?_⟩
        have z2 := (if_pos e).symm.trans z
        injection z2 with z2
        exact z2.symm
      · have z2 := (if_neg e).symm.trans z
        cases z2
    have only : Only H1 := by
      intro b
      by_cases e : b = a
      · exact .inr ⟨_, _, if_pos e⟩
      · exact .inl (if_neg e)
    refine lawG_core inK gl bl bb nl nd g0 at_ rm F only (fun b u z => (hO b u z).1) (fun _ _ => hk) ?_ (say H1 only (.inl (.inr ⟨_, hA⟩)))
    intro b u z
    obtain ⟨e1, e2⟩ := hO b u z
    subst e1
    subst e2
    exact ⟨at_, by rw [List.length_map]; exact hz, vs, _, rv, at_⟩

theorem walk_ofG {l : PySem.W.OpenLaw} {n k : Nat} {q : Program} {loose : List Str}
    {XP : (Str → Option Value) → Heap → Prop} {YP : World → Heap → Prop} {d : DefRec} {K : Params → PySem.W.Frag} {sp : PySem.W.Frag → Sp}
    (hn : l.most = some n) (hn2 : n ≤ sizeLine) (hdf : d.params.defaults = []) (rm : Room k callerA)
    (hY : ∀ (w : World) (h : Heap), YP w h → (K w.params).In h)
    (F : ∀ (w : World) (mg : Str → Option Value) (fa : Addr) (h : Heap), (K w.params).In h → h.Ns mainGlobals mg →
      mg d.name = some (.ref fa) → ∀ base : Heap, (K w.params).In base → base.Ns mainGlobals mg → base.NoDigits →
        FnG l.prog w (K w.params) mg base k fa (sp (K w.params)))
    (say : ∀ (K : PySem.W.Frag) (H : Hp) (a : Addr) (ns : List Int), ns.length ≤ n → Only H →
      SqL K H a (ns.map V.int) → sp K [.ref a] H (fun v _ => v = .bl true) E0) :
    PySem.W.WalkO q loose XP YP l.row.toRowW d [] (fun f vs => PySem.call f vs) := by
  refine Att.attach_call hn hdf ?_
  intro w s0 s1 mg mb fa o pm cd doc a vs ns G Y ho hd hcd hmg hobj hints hlen hg
  have inK := hY w _ Y
  exact lawG inK G.T.g G.T.b G.T.builtins G.T.nolimit G.T.nodigits hg hobj hints (Nat.le_trans hlen hn2) rm
    (F w mg fa _ inK G.T.g hmg) fun H h1 h2 => say _ H a ns hlen h1 h2
end KG
end

/-! ## Op -/
section
/-! Operators of own classes, among themselves and with ints on either side; texts of great ints; division of great ints. -/
namespace KG
open PySem PySem.Spec PyProof.Rows L2

@[irreducible] def Big : Nat := 2 ^ 12900
theorem big_eq : Big = 2 ^ 12900 := by unfold Big; rfl
theorem big_dig : Big ≤ 10 ^ 4300 := by rw [big_eq]; exact pow_lo
theorem big_of {n k : Nat} (h : n < 2 ^ k) (hk : k ≤ 12900) : n < Big := by
  rw [big_eq]
  exact Nat.lt_of_lt_of_le h (Nat.pow_le_pow_right (by decide) hk)
theorem big_log {n : Nat} (h : n < Big) : n.log2 < 12900 := by
  rw [big_eq] at h
  exact PySem.Flt.log2_lt_of (by decide) h

theorem inv_dig {X : Cx} {pins : List (Addr × Obj)} {σ : L2.St} {H : Hp} {s : Shared} (I : Inv X pins σ H s) (d : X.base.NoDigits) : s.heap.NoDigits := d.keeps fun b o e => (I.env0.bs b o e).1

/-- how long a text of an int may be -/
theorem big_text {i : Int} (h : i.natAbs < Big) : (Str.ofString (toString i)).length ≤ 12901 := by
  have e := int_text_length_le (k := 12900) (by decide) (big_log h)
  rw [PySem.ofString_length]
  exact e

section
variable {X : Cx}
theorem call_str_intD (d : X.base.NoDigits) (hc : X.calm = true) : CallR X (.type "str") (fun xs H Q => ∃ i, xs = [.int i] ∧ i.natAbs < Big ∧ Q (.str (toString i)) H) := by
  intro pins s σ H xs us Q I r h
  obtain ⟨i, rfl, hz, q⟩ := h
  obtain ⟨u, rfl, t, rfl⟩ := vals1 r
  exact str_of_int_or (I.ok.hd hc) (inv_dig I d) (fun _ => ⟨.str _, H, I.tok _, ⟨_, rfl⟩, q⟩) (fun z => absurd (Nat.lt_of_lt_of_le hz big_dig) (Nat.not_lt.mpr z))
/-- {x}: an int, as a text -/
def tFmtD (te : TE) : TE := fun σ H Q => te σ H fun x H1 => ∃ i : Int, x = .int i ∧ i.natAbs < Big ∧ Q (.str (toString i)) H1
theorem pe_fmtD (d : X.base.NoDigits) (hc : X.calm = true) {e : Expr} {te : TE} {pos : Pos} (he : PE X e te) : PE X (.FormattedValue e (-1) none pos) (tFmtD te) := by
  refine ⟨fun pins s σ H Q I h => ?_⟩
  refine wpAny_FormattedValue_plain (thn (he.run pins s σ H _ I h) fun v s1 hv => ?_)
  obtain ⟨x, H1, I1, r1, i, rfl, hz, q⟩ := hv
  obtain ⟨t, rfl⟩ := r1
  exact formatField_int (I1.ok.hd hc) (inv_dig I1 d) (fun _ => ⟨.str (toString i), H1, I1.tok _, ⟨_, rfl⟩, q⟩) (fun z => absurd (Nat.lt_of_lt_of_le hz big_dig) (Nat.not_lt.mpr z))

theorem noPylong_big {x y : Int} (h : x.natAbs.log2 < 13400) : Builtin.divisionGoesByPylong x y = false := by
  have key : (if x == 0 then 0 else x.natAbs.log2 / 30 + 1) ≤ 450 := by
    by_cases hy : (x == 0) = true
    · rw [if_pos hy]; exact Nat.zero_le _
    · rw [if_neg hy]; omega
  show (decide ((if y == 0 then 0 else y.natAbs.log2 / 30 + 1) > 300) && decide ((if x == 0 then 0 else x.natAbs.log2 / 30 + 1) > (if y == 0 then 0 else y.natAbs.log2 / 30 + 1) + 150)) = false
  by_cases h1 : (if y == 0 then 0 else y.natAbs.log2 / 30 + 1) > 300
  · rw [decide_eq_false (p := (if x == 0 then 0 else x.natAbs.log2 / 30 + 1) > (if y == 0 then 0 else y.natAbs.log2 / 30 + 1) + 150) (by omega), Bool.and_false]
  · rw [decide_eq_false h1, Bool.false_and]
/-- // of ints below 2^13400 by a divisor of either sign -/
def CDivN (i j : Int) : Prop := j ≠ 0 ∧ i.natAbs.log2 < 13400
theorem op_fdivN : OpR X (binaryOp .FloorDiv) (rI CDivN fun i j => .int (i.fdiv j)) := opI fun _ _ _ _ _ _ _ hc q => floordiv_int hc.1 q (.inl (noPylong_big hc.2))

/-! ### own operators -/
variable {k j : Nat} {C f : Addr} {fd : FuncData} {ps : List Str} {sp : Sp}
theorem run_fn (F : FnOk X.prog X.w X.K X.mg X.base CX0 k f fd ps sp) (hr : Room k X.A) (hb : Binds X.K fd ps []) {pins : List (Addr × Obj)} {σ : L2.St} {H : Hp} {s : Shared} {Q : VK} {us : List Value} {vs : List V}
    (I : Inv X pins σ H s) (rv : Vals vs us) (q : sp vs H Q E0) {E : Value → Shared → Prop} : wpAny (model X.prog X.w) X.A (call (.ref f) us) (EP X pins σ Q) E s := by
  have hl : us.length = ps.length := by
    have := F.len _ _ _ _ q
    rw [← rv.length]
    exact this
  have b := hb s us I.kIn (by simpa using hl)
  rw [List.append_nil] at b
  refine wpAny_call (codeAny_mono (F.run X.A X.stack s H ⟨us, []⟩ us vs _ E0 hr I.env0 b rv q) ?_)
  intro res s' z
  cases res with
  | error e => exact z.elim
  | ok fl =>
    cases fl with
    | next => exact z.elim
    | brk => exact z.elim
    | cont => exact z.elim
    | ret u => exact I.after z

/-- the def behind a special name of an own class -/
structure Sl (P : Program) (w : World) (K : PySem.W.Frag) (mg : Str → Option Value) (base : Heap) (C : Addr) (name : Str) (k : Nat) (sp : Sp) : Prop where
  ex : ∃ (f : Addr) (fd : FuncData) (ps : List Str), FnOk P w K mg base CX0 k f fd ps sp ∧ Binds K fd ps [] ∧ PySem.W.findIn K (.ref C) name = some (some (.ref f)) ∧ PySem.W.isFn K (.ref f) = true

def IsI (H : Hp) (C a : Addr) : Prop := ∃ dx fs, H a = some (.ins C dx fs)

/-- what comes back is an object -/
abbrev RefQ (Q : VK) : VK := fun v H => ∃ c, v = .ref c ∧ Q v H

theorem back_ref {pins : List (Addr × Obj)} {σ : L2.St} {Q : VK} {u : Value} {s' : Shared} (h : EP X pins σ (RefQ Q) u s') : PySem.W.CmpBack (EP X pins σ Q) u s' := by
  obtain ⟨v, H', I', rv, c, rfl, q⟩ := h
  cases rv
  exact ⟨.ref c, H', I', rfl, q⟩

def rOO (C : Addr) (sp : Sp) : R2 := fun x y H Q => ∃ a b, x = .ref a ∧ y = .ref b ∧ IsI H C a ∧ IsI H C b ∧ sp [.ref a, .ref b] H (RefQ Q) E0
theorem op_OO {op : Operator} (S : Sl X.prog X.w X.K X.mg X.base C (PySem.dunder op.info.2) k sp) (hr : Room j X.A) (hk : k ≤ j) (hc : PySem.W.selfFirst X.K C = true) : OpR X (binaryOp op) (rOO C sp) := by
  obtain ⟨f, fd, ps, F, hb, hs, hf⟩ := S.ex
  intro pins s σ H x y v u Q I rx ry h
  obtain ⟨a, b, rfl, rfl, ⟨dx, fs, ha⟩, ⟨dy, gs, hb'⟩, q⟩ := h
  cases rx
  cases ry
  obtain ⟨mA, J, _⟩ := ins_get I.hok ha
  obtain ⟨mB, J', _⟩ := ins_get I.hok hb'
  obtain ⟨od, J, _⟩ := J.look
  obtain ⟨od', J', _⟩ := J'.look
  obtain ⟨m, hF⟩ := I.fr
  refine PySem.W.binop_K hF I.ok.mod.kin J J'.type hc hs hf ?_
  have rv : Vals [V.ref a, V.ref b] [Value.ref a, Value.ref b] := .cons rfl (.cons rfl .nil)
  exact wpAny_mono (run_fn F (hr.mono hk) hb I rv q) (fun _ _ z => back_ref z) fun _ _ z => z

/-- the int has no part in it: what the class must have -/
structure IntO (K : PySem.W.Frag) (C : Addr) (op : Operator) : Prop where
  r : ∃ g : Addr, PySem.W.findIn K (.ref C) (dunderR op.info.2) = some (some (.ref g))
  i1 : ∃ fo, PySem.W.findIn K (.type "int") (PySem.dunder op.info.2) = some fo
  i2 : ∃ ro, PySem.W.findIn K (.type "int") (dunderR op.info.2) = some ro
  sub : PySem.W.subIn K (.type "int") (.ref C) = some false
def rOI (C : Addr) (sp : Sp) : R2 := fun x y H Q => ∃ a n, x = .ref a ∧ y = .int n ∧ IsI H C a ∧ sp [.ref a, .int n] H (RefQ Q) E0
theorem op_OI {op : Operator} (S : Sl X.prog X.w X.K X.mg X.base C (PySem.dunder op.info.2) k sp) (O : IntO X.K C op) (hr : Room j X.A) (hk : k ≤ j) (hc : PySem.W.selfFirst X.K C = true) : OpR X (binaryOp op) (rOI C sp) := by
  obtain ⟨f, fd, ps, F, hb, hs, hf⟩ := S.ex
  obtain ⟨g, hg⟩ := O.r
  obtain ⟨fo, h1⟩ := O.i1
  obtain ⟨ro, h2⟩ := O.i2
  intro pins s σ H x y v u Q I rx ry h
  obtain ⟨a, n, rfl, rfl, ⟨dx, fs, ha⟩, q⟩ := h
  cases rx
  obtain ⟨t, rfl⟩ := ry
  obtain ⟨mA, J, _⟩ := ins_get I.hok ha
  obtain ⟨od, J, _⟩ := J.look
  obtain ⟨m, hF⟩ := I.fr
  refine PySem.W.ksp_binT (T := "int") hF I.ok.mod.kin J rfl hc hs hf hg (.inr ⟨g, rfl⟩) h1 h2 O.sub ?_
  have rv : Vals [V.ref a, V.int n] [Value.ref a, Value.int n t] := .cons rfl (.cons ⟨t, rfl⟩ .nil)
  exact wpAny_mono (run_fn F (hr.mono hk) hb I rv q) (fun _ _ z => back_ref z) fun _ _ z => z

def rO1 (C : Addr) (sp : Sp) : V → Hp → VK → Prop := fun x H Q => ∃ a, x = .ref a ∧ IsI H C a ∧ sp [.ref a] H Q E0
theorem un_O (S : Sl X.prog X.w X.K X.mg X.base C "__neg__" k sp) (hr : Room j X.A) (hk : k ≤ j) : UnR X (unaryOp .USub) (rO1 C sp) := by
  obtain ⟨f, fd, ps, F, hb, hs, hf⟩ := S.ex
  intro pins s σ H x v Q I rx h
  obtain ⟨a, rfl, ⟨dx, fs, ha⟩, q⟩ := h
  cases rx
  obtain ⟨mA, J, _⟩ := ins_get I.hok ha
  obtain ⟨od, J, _⟩ := J.look
  obtain ⟨m, hF⟩ := I.fr
  refine PySem.W.ksp_neg hF I.ok.mod.kin J hs hf ?_
  have rv : Vals [V.ref a] [Value.ref a] := .cons rfl .nil
  exact run_fn F (hr.mono hk) hb I rv q

/-! ### an int on the left -/
section
open PySem.W
/-- an int's own method has no word for an own object -/
def Declines (name : Str) : Prop := ∀ (prog : Program) (w : World) (A : Around) (E : Value → Shared → Prop) (s : Shared) (n : Int) (t : Tok) (x C : Addr) (ox : Obj) (od : Option Obj) (Q : Option Value → Shared → Prop), InstAt s.heap x ox C od → ox.data = .plain → Q none s → wpAny (model prog w) A (tryMethod (.int n t) name (.ref x)) Q E s
theorem decl_of {name : Str} {id : String} {f : Int → Int → Sem Fin} {sym : String} (slot : Slot "int" name id) {b : Builtin} (entry : entryFor table id = some b) (hb : b = Builtin.Int.intBinary sym f) (hargs : ∀ a b : Value, argsOk id ⟨[a, b], []⟩) : Declines name := by
  subst hb
  intro prog w A E s n t x C ox od Q I hp q
  unfold tryMethod
  refine wpAny_bind (wpAny_callSpecial?_slot (typeIs_int s n t) slot ?_)
  refine wpAny_call_entry slot (typeIs_int s n t) entry ?_ (hargs _ _)
  unfold Builtin.Int.intBinary
  refine wpAny_bind (m := slotArgs sym 1 _) (wpAny_pure ?_)
  refine wpAny_bind (m := Builtin.Int.intOfSelf (.int n t)) (wpAny_pure ?_)
  refine wpAny_bind (m := asInt? (.ref x)) ?_
  unfold asInt?
  refine wpAny_bind (wpAny_load I.at_ ?_)
  rw [hp]
  refine wpAny_pure ?_
  refine wpAny_bind (wpAny_rule (wpAny_pure ⟨_, rfl, ?_⟩))
  exact wpAny_pure q
theorem decl_add {name : Str} (hn : name = PySem.dunder "add") : Declines name := by
  have e1 := F.slot_int_add
  rw [← hn] at e1
  have e2 := F.entry_int_add
  have e3 := F.args_int_add_2
  have e4 := Builtin.«int.__add__».eq_1
  generalize Builtin.«int.__add__» = b at e2 e4
  exact decl_of (id := "int.__add__") (b := b) (sym := "__add__") e1 e2 e4 e3
theorem decl_sub {name : Str} (hn : name = PySem.dunder "sub") : Declines name := by
  have e1 := F.slot_int_sub
  rw [← hn] at e1
  have e2 := F.entry_int_sub
  have e3 := F.args_int_sub_2
  have e4 := Builtin.«int.__sub__».eq_1
  generalize Builtin.«int.__sub__» = b at e2 e4
  exact decl_of (id := "int.__sub__") (b := b) (sym := "__sub__") e1 e2 e4 e3
theorem decl_mul {name : Str} (hn : name = PySem.dunder "mul") : Declines name := by
  have e1 := F.slot_int_mul
  rw [← hn] at e1
  have e2 := F.entry_int_mul
  have e3 := F.args_int_mul_2
  have e4 := Builtin.«int.__mul__».eq_1
  generalize Builtin.«int.__mul__» = b at e2 e4
  exact decl_of (id := "int.__mul__") (b := b) (sym := "__mul__") e1 e2 e4 e3
structure RefO (K : PySem.W.Frag) (C : Addr) (op : Operator) : Prop where
  d : ∃ g : Addr, PySem.W.findIn K (.ref C) (PySem.dunder op.info.2) = some (some (.ref g))
  i1 : ∃ fo, PySem.W.findIn K (.type "int") (PySem.dunder op.info.2) = some (some (.builtin fo)) ∧ isSeqSlotId fo = false
  i2 : ∃ ro, PySem.W.findIn K (.type "int") (dunderR op.info.2) = some ro
  sub : PySem.W.subIn K (.ref C) (.type "int") = some false
variable {X : Cx} {k j : Nat} {C : Addr} {sp : Sp}
def rIO (C : Addr) (sp : Sp) : R2 := fun x y H Q => ∃ a n, x = .int n ∧ y = .ref a ∧ IsI H C a ∧ sp [.ref a, .int n] H (RefQ Q) E0
theorem op_IO {op : Operator} (S : Sl X.prog X.w X.K X.mg X.base C (dunderR op.info.2) k sp) (O : RefO X.K C op) (D : Declines (PySem.dunder op.info.2)) (hr : Room j X.A) (hk : k ≤ j) (hc : PySem.W.selfFirst X.K C = true) : OpR X (binaryOp op) (rIO C sp) := by
  obtain ⟨f, fd, ps, F, hb, hs, hf⟩ := S.ex
  obtain ⟨g, hg⟩ := O.d
  obtain ⟨fo, h1, hq⟩ := O.i1
  obtain ⟨ro, h2⟩ := O.i2
  have hsub := O.sub
  intro pins s σ H x y v u Q I rx ry h
  obtain ⟨a, n, rfl, rfl, ⟨dx, fs, ha⟩, q⟩ := h
  cases ry
  obtain ⟨t, rfl⟩ := rx
  obtain ⟨mA, J, _⟩ := ins_get I.hok ha
  obtain ⟨od, J, _⟩ := J.look
  have rv : Vals [V.ref a, V.int n] [Value.ref a, Value.int n t] := .cons rfl (.cons ⟨t, rfl⟩ .nil)
  have h := wpAny_mono (run_fn F (hr.mono hk) hb I rv q (E := X.xe)) (fun _ _ z => back_ref z) fun _ _ z => z
  have XK := I.kIn
  obtain ⟨cd, rest, hcd, hm⟩ := ksp_first hc
  rcases hi : op.info with ⟨sym, nm'⟩
  rw [hi] at hs hg h1 h2 D
  dsimp only at hs hg h1 h2 D
  have one := ksp_try XK J hs hf h
  have dec : ∀ {Q : Option Value → Shared → Prop}, Q none s → wpAny (model X.prog X.w) X.A (tryMethod (.int n t) (PySem.dunder nm') (.ref a)) Q X.xe s := fun q => D _ _ _ _ _ _ _ _ _ _ _ _ J rfl q
  obtain ⟨hh, gg, d, tt, os⟩ := s
  have L1 : Looks (model X.prog X.w) hh (typeOf (.ref a)) (.ref C) := J.type
  have L2 : Looks (model X.prog X.w) hh (typeOf (.int n t)) (.type "int") := Looks.of_pure rfl
  have L3 : Looks (model X.prog X.w) hh (fillsNumberSlot (.ref C) nm') true := fills_K XK hcd hm hg
  have L4 : Looks (model X.prog X.w) hh (fillsNumberSlot (.type "int") nm') true := by
    have := ksp_fillsT (M := model X.prog X.w) XK h1 h2
    have e : ((some (Value.builtin fo)).isSome && !isSeqSlot (some (.builtin fo)) || (ro.isSome && !isSeqSlot ro)) = true := by
      show ((true && !isSeqSlotId fo) || _) = true
      rw [hq]
      rfl
    rw [e] at this
    exact this
  have L5 : Looks (model X.prog X.w) hh (isSubtype (.ref C) (.type "int")) false := looks_subIn XK hsub
  have L7 : Looks (model X.prog X.w) hh (numberSlotInPython (.type "int") nm') false := Looks.of_pure rfl
  have hne : (Value.type "int" == Value.ref C) = false := Bool.eq_false_iff.mpr fun q => by cases beq_iff_eq.mp q
  simp only [binaryOp, hi]
  refine wpAny_holding (wpAny_bind ?_)
  unfold binaryOp1
  refine wpAny_bind (L2.at (wpAny_bind (L1.at (wpAny_bind (L4.at ?_)))))
  simp only [hne, Bool.false_eq_true, if_false]
  ksp_lk
  refine dec ?_
  ksp_lk
  refine wpAny_mono one (fun r s' hr' => ?_) fun _ _ e => e
  obtain ⟨v, rfl, hq⟩ := hr'
  ksp_lk
  exact hq
end
end
end KG
end

/-! ## Rl -/
section
/-! repr of a list whose items have a repr of their own class. -/
namespace KG
open PySem PySem.Spec PyProof.Rows L2 Builtin Builtin.List

theorem Same.updN {H : Hp} {p : Addr} {o : HO} (h : H p = none) : Same H (upd H p o) := fun b u e => by
  rw [upd_ne (ne_of_none e h)]
  exact e

/-- somewhere below X's body, within a repr -/
structure At (X : Cx) (k : Nat) (A : Around) : Prop where
  fr : A.frames = X.A.frames
  rm : Room k A

theorem under_fr (A : Around) (args : Args) : (A.under (.builtin "list.__repr__.loop" args)).frames = A.frames := by
  first | rfl | simp [Around.under, Code.isFrame, Code.frames]
theorem under_hd (A : Around) (args : Args) : (A.under (.builtin "list.__repr__.loop" args)).handled = A.handled := by
  first | rfl | simp [Around.under]
theorem under_dp (A : Around) (args : Args) : (A.under (.builtin "list.__repr__.loop" args)).depth ≤ A.depth + 1 := by
  first | exact Nat.le_succ _ | exact Nat.le_refl _ | (simp [Around.under, Code.weight, Code.isCreation, Code.isGuard, Code.isCaller, Code.frames, Code.isFrame, guardIds] <;> omega)
theorem At.under {X : Cx} {k : Nat} {A : Around} (h : At X (k + 1) A) (args : Args) : At X k (A.under (.builtin "list.__repr__.loop" args)) := by
  refine ⟨(under_fr A args).trans h.fr, (under_hd A args).trans h.rm.hd, ?_, ?_⟩
  · have := under_dp A args
    have := h.rm.dp
    omega
  · have e := units_under_list_loop A args
    have := h.rm.un
    omega
theorem At.in1 {X : Cx} {k : Nat} {A : Around} (h : At X (k + 1) A) : At X k A.in1 := ⟨h.fr, h.rm.in1⟩

/-- the item's text is t: wherever it is asked, nothing tracked changes -/
def ItemR (X : Cx) (k : Nat) (pins : List (Addr × Obj)) (σ : L2.St) (H : Hp) (x : V) (t : Str) : Prop :=
  ∀ (base : Nat), base + t.length ≤ sizeLine → ∀ (A : Around) (E : Value → Shared → Prop) (s : Shared) (H' : Hp) (u : Value) (Q : Str → Shared → Prop), At X k A → Same H H' → Inv X pins σ H' s → RelV x u →
    (∀ s', Inv X pins σ H' s' → Q t s') → wpAny (model X.prog X.w) A (pyReprUnder base u) Q E s

theorem piled_two : ∀ ts : List Str, 2 * ts.length ≤ piled ts
  | [] => Nat.le_refl _
  | t :: ts => by
    have := piled_two ts
    rw [piled_cons, List.length_cons]
    omega
theorem vals_str : ∀ {ts : List Str} {its : List Value}, Vals (ts.map V.str) its → ∃ done, its = strValues done ∧ done.map (·.1) = ts
  | [], _, h => by
    cases h
    exact ⟨[], rfl, rfl⟩
  | t :: ts, _, .cons r rs => by
    obtain ⟨tk, rfl⟩ := r
    obtain ⟨d, rfl, e⟩ := vals_str rs
    exact ⟨(t, tk) :: d, rfl, by rw [List.map_cons, e]⟩

section
variable {X : Cx} {k : Nat} {pins : List (Addr × Obj)} {σ : L2.St} {H : Hp} {a P : Addr} {xs : List V} {ts : List Str} {A : Around} {R : Result → Shared → Prop}

theorem loopI (ha : H a = some (.lst xs)) (hP : H P = none) (hat : At X (k + 1) A) (hlen : ts.length = xs.length)
    (hT : ∀ (i : Nat) (x : V) (t : Str), xs[i]? = some x → ts[i]? = some t → ItemR X k pins σ H x t) {base : Nat}
    (hsz : base + (listText ts).length ≤ sizeLine)
    (hR : ∀ s' u, Inv X pins σ (upd H P (.lst (ts.map V.str))) s' → R (.ok (.ret (.str (listText ts) u))) s') :
    ∀ (m i : Nat) (s : Shared), xs.length - i = m → i ≤ xs.length → Inv X pins σ (upd H P (.lst ((ts.take i).map V.str))) s →
    codeAny (model X.prog X.w) A (.builtin "list.__repr__.loop" ⟨[.ref a, rawInt i, .ref P, rawInt ((base + piled (ts.take i) : Nat) : Int)], []⟩) R s := by
  have whole : (listText ts).length ≤ sizeLine := by omega
  have each : ∀ {t : Str}, t ∈ ts → t.length ≤ sizeLine := fun m => Nat.le_trans (listText_mem_le m) whole
  have pile : piled ts ≤ (listText ts).length := piled_le_listText ts
  have many : ts.length ≤ sizeLine := by
    have := piled_two ts
    omega
  have naP : a ≠ P := fun e => by
    rw [e, hP] at ha
    cases ha
  intro m
  induction m with
  | zero =>
    intro i s hk hi I
    have hin : i = xs.length := by omega
    obtain ⟨z, its, n, r, hl, e⟩ := I.lstM (l := a) (by rw [upd_ne naP]; exact ha)
    obtain ⟨z2, its2, n2, r2, hl2, e2⟩ := I.lstM (l := P) upd_same
    apply codeAny_builtin F.entry_list_repr_loop
    show wpAny _ _ («list.__repr__.loop» ⟨[.ref a, .int i 0, .ref P, .int _ 0], []⟩) _ _ s
    rw [repr_loop_tree]
    refine wpAny_bind (wpAny_listItems e rfl ?_)
    have hnone : its.toArray[(i : Int).toNat]? = none := by simp [hin, hl]
    simp only [hnone]
    unfold reprEnd
    refine wpAny_bind (wpAny_listItems e2 rfl ?_)
    have hall : ts.take i = ts := by rw [hin, ← hlen, List.take_length]
    rw [hall] at r2 I
    obtain ⟨done, ed, em⟩ := vals_str r2
    have e3 : its2.toArray.toList = strValues done := by rw [← ed]
    rw [e3, repr_fold]
    refine wpAny_bind (wpAny_pure ?_)
    rw [em]
    refine wpAny_bind (wpAny_mkStr (wpAny_pure ?_) whole)
    exact hR _ _ (I.tok _)
  | succ m ih =>
    intro i s hk hi I
    have hlt : i < xs.length := by omega
    have hlt2 : i < ts.length := by omega
    obtain ⟨z, its, n, r, hl, e⟩ := I.lstM (l := a) (by rw [upd_ne naP]; exact ha)
    have ht : ts[i]? = some ts[i] := List.getElem?_eq_getElem hlt2
    have hp1 := piled_take_succ ht
    have hp2 := piled_take_le ts (i + 1)
    obtain ⟨u, hu, ru⟩ := r.get (List.getElem?_eq_getElem hlt)
    have hrep := hT i xs[i] ts[i] (List.getElem?_eq_getElem hlt) ht
    apply codeAny_builtin F.entry_list_repr_loop
    show wpAny _ _ («list.__repr__.loop» ⟨[.ref a, .int i 0, .ref P, .int _ 0], []⟩) _ _ s
    rw [repr_loop_tree]
    refine wpAny_bind (wpAny_listItems e rfl ?_)
    have hsome : its.toArray[(i : Int).toNat]? = some u := by simp [hu]
    simp only [hsome]
    rw [Int.toNat_natCast]
    refine wpAny_bind (wpAny_holding (hrep (base + piled (ts.take i) + 1) (by omega) _ _ _ _ _ _ (hat.under _) (Same.updN hP) I ru fun s1 I1 => ?_))
    refine wpAny_bind (wpAny_mkStr ?_ (each (List.mem_of_getElem? ht)))
    refine wpAny_bind ?_
    show wpAny _ _ (updateSeq P _) _ _ _
    have I2 := I1.tok (s1.toks + 1)
    obtain ⟨z2, its2, n2, r2, hl2, e2⟩ := I2.lstM (l := P) upd_same
    refine wpAny_updateSeq e2 rfl (wpAny_pure ⟨F.quiet_list_repr_loop _, ?_⟩) (by rw [List.size_toArray]; omega)
    have e3 : ((i : Int) + 1) = ((i + 1 : Nat) : Int) := by omega
    have e4 : base + piled (ts.take i) + (ts[i].length + 2) = base + piled (ts.take (i + 1)) := by omega
    rw [e3, e4]
    have zn : ((ts.take (i + 1)).map V.str).length ≤ sizeLine := by
      rw [List.length_map, List.length_take]
      omega
    have et : (ts.take (i + 1)).map V.str = (ts.take i).map V.str ++ [V.str ts[i]] := by
      rw [List.take_succ, ht, List.map_append]
      rfl
    have rr : Vals ((ts.take (i + 1)).map V.str) (its2 ++ [.str ts[i] s1.toks]) := by
      rw [et]
      exact r2.append (.cons ⟨_, rfl⟩ .nil)
    have I3 := I2.lset (its' := its2 ++ [.str ts[i] s1.toks]) (f := fun b => b.push (.str ts[i] s1.toks)) (ys := (ts.take (i + 1)).map V.str) (t' := s1.toks + 1) upd_same e2 (by simp) rr zn
    refine ih (i + 1) _ (by omega) hlt ?_
    rw [upd_upd] at I3
    exact I3

/-- a text comes back, nothing tracked has changed -/
theorem itemG {C : Addr} {sp : Sp} {f : Addr} {fd : FuncData} {ps : List Str} {x : V} {t : Str} (F : FnOk X.prog X.w X.K X.mg X.base CX0 k f fd ps sp) (hb : Binds X.K fd ps [])
    (hs : PySem.W.findIn X.K (.ref C) "__repr__" = some (some (.ref f))) (hf : PySem.W.isFn X.K (.ref f) = true)
    (hx : ∃ b, x = .ref b ∧ IsI H C b ∧ ∀ H', Same H H' → sp [.ref b] H' (fun v H2 => v = .str t ∧ H2 = H') E0) : ItemR X k pins σ H x t := by
  obtain ⟨b, rfl, ⟨dx, fs, hi⟩, hq⟩ := hx
  intro base hz A E s H' u Q hat e I ru q
  cases ru
  obtain ⟨mA, J, _⟩ := ins_get I.hok (e _ _ hi)
  obtain ⟨od, J, _⟩ := J.look
  refine wpAny_pyReprUnder_ref (by omega) ?_
  unfold pyReprObjUnder pyReprObjBy
  refine wpAny_bind (wpAny_cRoomFor (by have := hat.rm.un; omega) ?_)
  refine wpAny_bind (wpAny_bind (J.type.here ((PySem.W.looks_findIn I.kIn hs).here ?_)))
  show wpAny _ _ (if (some (Value.ref f)).isNone = true then _ else _) _ _ _
  rw [if_neg (by simp)]
  refine wpAny_bind (m := callSpecialIfBoundBy? _ (.ref b) (Str.ofString "__repr__")) ?_
  simp only [callSpecialIfBoundBy?, bindSpecialIfBound?]
  refine wpAny_holding (wpAny_bind (wpAny_bind (wpAny_bind (J.type.here ((PySem.W.looks_findIn I.kIn hs).here ?_)))))
  have rv : Vals [V.ref b] [Value.ref b] := .cons rfl .nil
  have e0 : Env0 X.prog X.w X.K X.mg X.base A X.stack s H' := by
    have e := I.env0
    exact ⟨by rw [hat.fr]; exact e.frames, e.mod, e.bs, e.bsz, e.funs, e.frf, e.hok, e.bare⟩
  have hsp := hq H' e
  have hl := F.len _ _ _ _ hsp
  have bnd : BindsTo s fd ⟨[.ref b], []⟩ (ps.zip [.ref b]) := by
    have := hb s [.ref b] I.kIn (by simpa using hl)
    simpa using this
  have core : wpAny (model X.prog X.w) A (call (.ref f) ([.ref b] ++ [])) (fun v s' => ∃ tk, v = .str t tk ∧ Inv X pins σ H' s') E s := by
    refine wpAny_call (codeAny_mono (F.run A X.stack s H' ⟨[.ref b], []⟩ [.ref b] [.ref b] _ E0 hat.rm e0 bnd rv hsp) fun r s' hq => ?_)
    cases r with
    | error e => exact hq.elim
    | ok fl =>
      cases fl with
      | ret w =>
        obtain ⟨z, H2, I', rz, ez, eh⟩ := I.after hq
        subst ez
        subst eh
        obtain ⟨tk, rfl⟩ := rz
        exact ⟨tk, rfl, I'⟩
      | next => exact hq.elim
      | brk => exact hq.elim
      | cont => exact hq.elim
  have hru : reprUnder? (.ref f) = none := rfl
  refine wpAny_bind (wpAny_askSetting (wpAny_ite ?_))
  have fin : wpAny (model X.prog X.w) A (call (.ref f) ([.ref b] ++ []) >>= fun v => pure (some v)) (fun r s' => ∃ tk, r = some (.str t tk) ∧ Inv X pins σ H' s') E s := wpAny_bind (wpAny_mono core (fun v s' h' => by
    obtain ⟨tk, rfl, I'⟩ := h'
    exact wpAny_pure ⟨tk, rfl, I'⟩) fun _ _ h' => h')
  have out : ∀ {r : Option Value} {s' : Shared}, (∃ tk, r = some (.str t tk) ∧ Inv X pins σ H' s') → wpAny (model X.prog X.w) A (match r with
      | some r => (do if ← isInstance r (.type "str") then pure r else raiseError "TypeError" s!"__repr__ returned non-string (type {← typeNameOf r})")
      | none => unsupported "repr:special-get-raises") (fun v s' => ∃ x u, v = .str x u ∧ Q x s') E s' := by
    rintro r s' ⟨tk, rfl, I'⟩
    exact wpAny_bind (wpAny_isInstance (T := "str") (b := true) rfl isSubtype_str_str (wpAny_pure ⟨_, _, rfl, q _ I'⟩))
  split
  · refine wpAny_bind ((PySem.W.bind_fn I.kIn _ (beq_iff_eq.mp hf)).here (wpAny_pure ?_))
    exact wpAny_mono fin (fun r s' h => out h) fun _ _ h => h
  · refine wpAny_tryCatch (wpAny_bind ((PySem.W.bind_fn I.kIn _ (beq_iff_eq.mp hf)).here (wpAny_pure ?_)))
    exact wpAny_mono fin (fun r s' h => out h) fun _ _ h => h

/-- repr of a list of such -/
theorem call_reprL (hg : X.A.guards = some []) (hr : Room (k + 4) X.A) : CallR X (.builtin "repr") (fun ys H Q => ∃ (a : Addr) (x : V) (xs : List V) (ts : List Str), ys = [.ref a] ∧ H a = some (.lst (x :: xs)) ∧ ts.length = (x :: xs).length ∧
    (∀ (pins : List (Addr × Obj)) (σ : L2.St) (i : Nat) (y : V) (t : Str), (x :: xs)[i]? = some y → ts[i]? = some t → ItemR X k pins σ H y t) ∧ (listText ts).length ≤ sizeLine ∧ ∀ H', Same H H' → Q (.str (listText ts)) H') := by
  intro pins s σ H ys us Q I r h
  obtain ⟨a, x, xs, ts, rfl, ha, hlen, hT, hz, q⟩ := h
  obtain ⟨u, rfl, ru⟩ := vals1 r
  cases ru
  obtain ⟨z, its, n, r1, hl, e⟩ := I.lstM (l := a) ha
  obtain ⟨v, vs, rfl⟩ : ∃ v vs, its = v :: vs := by
    cases its with
    | nil => cases hl
    | cons v vs => exact ⟨v, vs, rfl⟩
  have hat : At X (k + 2) X.A.in1.in1 := ⟨rfl, hr.in1.in1⟩
  have hTy : s.TypeIs (.ref a) "list" := ⟨_, e, rfl⟩
  refine call_repr_slot (by have := hr.un; omega) hTy F.slot_list_repr.toG ?_
  refine wpAny_call (codeAny_call_builtin F.slot_list_repr.plain F.entry_list_repr (F.slot_list_repr.check _ _ _ _ _ _ _ _ hTy (F.args_list_repr_1 _) ?_))
  refine wpAny_list_repr_head (A := X.A.in1.in1) (g := []) hg (fun v rest kw hm => absurd hm List.not_mem_nil) e rfl ?_
  refine wpAny_bind (m := newList []) (wpAny_newObj_type ?_)
  refine wpAny_pure ⟨F.quiet_list_repr_loop _, ?_⟩
  have hP : H s.heap.objs.size = none := I.hok.fresh (Nat.le_refl _)
  have I1 := I.laid (a := s.heap.objs.size) (o := .lst []) (t' := s.toks) (h' := s.heap.push { cls := .type "list", data := .seq #[] }) (fun b o e => Heap.get?_push_of_some _ e) (Nat.le_refl _) ⟨Nat.zero_le _, [], 0, .nil, Heap.get?_push_size s.heap rfl⟩
  have h0 : (0 : Nat) = 0 + piled (ts.take 0) := by rfl
  refine loopI (X := X) (k := k) (pins := pins) (σ := σ) (H := H) (P := s.heap.objs.size) (base := 0) ha hP (A := X.A.in1) ⟨rfl, hr.in1.mono (by omega)⟩ hlen (hT pins σ) (by omega) (fun s' u I' => ?_) _ 0 _ rfl (Nat.zero_le _) I1
  exact ⟨_, _, rfl, .str _, _, I', ⟨_, rfl⟩, q _ (Same.updN hP)⟩
end
end KG
end

/-! ## Ma -/
section
/-! Fractions in lowest terms, as pairs. -/
namespace Cm
/-- by what both parts are divided -/
def lowBy (t b : Int) : Int := if b < 0 then -((Nat.gcd t.natAbs b.natAbs : Nat) : Int) else ((Nat.gcd t.natAbs b.natAbs : Nat) : Int)
theorem lowBy_ne {t b : Int} (h : b ≠ 0) : lowBy t b ≠ 0 := by
  have g : 0 < Nat.gcd t.natAbs b.natAbs := Nat.gcd_pos_of_pos_right _ (by omega)
  unfold lowBy
  split <;> omega
theorem lowBy_abs (t b : Int) : (lowBy t b).natAbs = Nat.gcd t.natAbs b.natAbs := by
  unfold lowBy
  split <;> omega
theorem lowBy_dvd (t b : Int) : lowBy t b ∣ t ∧ lowBy t b ∣ b := by
  have h1 : ((Nat.gcd t.natAbs b.natAbs : Nat) : Int) ∣ t := Int.gcd_dvd_left (a := t) (b := b)
  have h2 : ((Nat.gcd t.natAbs b.natAbs : Nat) : Int) ∣ b := Int.gcd_dvd_right (a := t) (b := b)
  unfold lowBy
  split
  · exact ⟨Int.neg_dvd.mpr h1, Int.neg_dvd.mpr h2⟩
  · exact ⟨h1, h2⟩
def low (t b : Int) : Int × Int := (t.fdiv (lowBy t b), b.fdiv (lowBy t b))
/-- in lowest terms -/
def Lw (p : Int × Int) : Prop := 0 < p.2 ∧ Nat.gcd p.1.natAbs p.2.natAbs = 1
theorem low_mul (t b : Int) : t = lowBy t b * (low t b).1 ∧ b = lowBy t b * (low t b).2 := by
  obtain ⟨h1, h2⟩ := lowBy_dvd t b
  refine ⟨?_, ?_⟩
  · show t = lowBy t b * t.fdiv (lowBy t b)
    rw [Int.fdiv_eq_ediv_of_dvd h1, Int.mul_ediv_cancel' h1]
  · show b = lowBy t b * b.fdiv (lowBy t b)
    rw [Int.fdiv_eq_ediv_of_dvd h2, Int.mul_ediv_cancel' h2]
theorem low_lw {t b : Int} (h : b ≠ 0) : Lw (low t b) := by
  obtain ⟨e1, e2⟩ := low_mul t b
  have hn := lowBy_ne (t := t) h
  have ha := lowBy_abs t b
  have hg : 0 < Nat.gcd t.natAbs b.natAbs := Nat.gcd_pos_of_pos_right _ (by omega)
  constructor
  · by_cases hp : 0 < (low t b).2
    · exact hp
    exfalso
    have hy : 0 ≤ -(low t b).2 := by omega
    by_cases hb : b < 0
    · have hgn : 0 ≤ -lowBy t b := by
        unfold lowBy
        rw [if_pos hb]
        omega
      have := Int.mul_nonneg hgn hy
      have e3 : -lowBy t b * -(low t b).2 = b := by rw [Int.neg_mul_neg]; exact e2.symm
      omega
    · have hgn : 0 ≤ lowBy t b := by
        unfold lowBy
        rw [if_neg hb]
        omega
      have := Int.mul_nonneg hgn hy
      have e3 : lowBy t b * -(low t b).2 = -b := by rw [Int.mul_neg, ← e2]
      omega
  · have n1 : t.natAbs = Nat.gcd t.natAbs b.natAbs * (low t b).1.natAbs := by
      conv => lhs; rw [e1]
      rw [Int.natAbs_mul, ha]
    have n2 : b.natAbs = Nat.gcd t.natAbs b.natAbs * (low t b).2.natAbs := by
      conv => lhs; rw [e2]
      rw [Int.natAbs_mul, ha]
    have c := Nat.coprime_div_gcd_div_gcd hg
    have d1 : t.natAbs / Nat.gcd t.natAbs b.natAbs = (low t b).1.natAbs := Nat.div_eq_of_eq_mul_right hg n1
    have d2 : b.natAbs / Nat.gcd t.natAbs b.natAbs = (low t b).2.natAbs := Nat.div_eq_of_eq_mul_right hg n2
    rw [d1, d2] at c
    exact c
theorem lw_eq {p q : Int × Int} (hp : Lw p) (hq : Lw q) (h : p.1 * q.2 = q.1 * p.2) : p = q := by
  have n : p.1.natAbs * q.2.natAbs = q.1.natAbs * p.2.natAbs := by rw [← Int.natAbs_mul, ← Int.natAbs_mul, h]
  have c1 : Nat.Coprime p.2.natAbs p.1.natAbs := (Nat.gcd_comm _ _).trans hp.2
  have c2 : Nat.Coprime q.2.natAbs q.1.natAbs := (Nat.gcd_comm _ _).trans hq.2
  have d1 : p.2.natAbs ∣ q.2.natAbs := c1.dvd_of_dvd_mul_left (n ▸ Nat.dvd_mul_left _ _)
  have d2 : q.2.natAbs ∣ p.2.natAbs := c2.dvd_of_dvd_mul_left (n ▸ Nat.dvd_mul_left _ _)
  have e := Nat.dvd_antisymm d1 d2
  have e2 : p.2 = q.2 := by
    have := hp.1
    have := hq.1
    omega
  rw [e2] at h
  have e1 : p.1 = q.1 := Int.eq_of_mul_eq_mul_right (by have := hq.1; omega) h
  exact Prod.ext e1 e2
theorem low_eq {a b c d : Int} (hb : b ≠ 0) (hd : d ≠ 0) (h : a * d = c * b) : low a b = low c d := by
  refine lw_eq (low_lw hb) (low_lw hd) ?_
  obtain ⟨e1, e2⟩ := low_mul a b
  obtain ⟨e3, e4⟩ := low_mul c d
  have hn := Int.mul_ne_zero (lowBy_ne (t := a) hb) (lowBy_ne (t := c) hd)
  generalize lowBy a b = g at *
  generalize lowBy c d = k at *
  generalize (low a b) = p at *
  generalize (low c d) = q at *
  refine Int.eq_of_mul_eq_mul_right hn ?_
  rw [e1, e2, e3, e4] at h
  grind
theorem low_id {p : Int × Int} (h : Lw p) : low p.1 p.2 = p := by
  have hn : p.2 ≠ 0 := by have := h.1; omega
  refine lw_eq (low_lw hn) h ?_
  obtain ⟨e1, e2⟩ := low_mul p.1 p.2
  have hg := lowBy_ne (t := p.1) hn
  generalize lowBy p.1 p.2 = g at *
  generalize (low p.1 p.2) = q at *
  refine Int.eq_of_mul_eq_mul_right hg ?_
  grind
theorem one_ne (n : Int) : ((n, 1) : Int × Int).2 ≠ 0 := show (1 : Int) ≠ 0 by decide
theorem one_ne' : (1 : Int) ≠ 0 := by decide
theorem lw_int (n : Int) : Lw (n, 1) := ⟨show (0 : Int) < 1 by decide, Nat.gcd_one_right _⟩
theorem low_int (n : Int) : low n 1 = (n, 1) := low_id (lw_int n)
theorem lw_neg {p : Int × Int} (h : Lw p) : Lw (-p.1, p.2) := ⟨h.1, by
  show Nat.gcd (-p.1).natAbs p.2.natAbs = 1
  rw [Int.natAbs_neg]
  exact h.2⟩

def sumP (p q : Int × Int) : Int × Int := low (p.1 * q.2 + q.1 * p.2) (p.2 * q.2)
def mulP (p q : Int × Int) : Int × Int := low (p.1 * q.1) (p.2 * q.2)
def negP (p : Int × Int) : Int × Int := low (-p.1) p.2
def divP (p q : Int × Int) : Int × Int := low (p.1 * q.2) (p.2 * q.1)
theorem neg_lw {p : Int × Int} (h : Lw p) : negP p = (-p.1, p.2) := low_id (lw_neg h)
theorem mul_ne {a b : Int} (h : a ≠ 0) (k : b ≠ 0) : a * b ≠ 0 := Int.mul_ne_zero h k
theorem Lw.ne {p : Int × Int} (h : Lw p) : p.2 ≠ 0 := by have := h.1; omega
theorem lw_sum {p q : Int × Int} (h : p.2 ≠ 0) (k : q.2 ≠ 0) : Lw (sumP p q) := low_lw (mul_ne h k)
theorem lw_mul {p q : Int × Int} (h : p.2 ≠ 0) (k : q.2 ≠ 0) : Lw (mulP p q) := low_lw (mul_ne h k)
theorem lw_div {p q : Int × Int} (h : p.2 ≠ 0) (k : q.1 ≠ 0) : Lw (divP p q) := low_lw (mul_ne h k)
theorem sum_comm (p q : Int × Int) : sumP p q = sumP q p := by
  unfold sumP
  congr 1 <;> grind
theorem mul_comm' (p q : Int × Int) : mulP p q = mulP q p := by
  unfold mulP
  congr 1 <;> grind
/-- a fraction not yet in lowest terms may be added -/
theorem sum_low {a b : Int} {q : Int × Int} (hb : b ≠ 0) (hq : q.2 ≠ 0) : sumP (low a b) q = low (a * q.2 + q.1 * b) (b * q.2) := by
  obtain ⟨e1, e2⟩ := low_mul a b
  have hl := (low_lw (t := a) hb).ne
  refine low_eq (mul_ne hl hq) (mul_ne hb hq) ?_
  generalize lowBy a b = g at *
  generalize (low a b) = p at *
  rw [e1, e2]
  grind
theorem low_mul_eq {a b c d : Int} (hb : b ≠ 0) (hd : d ≠ 0) (h : a * d = c * b) : low a b = low c d := low_eq hb hd h
/-- one + n + two, begun at 0 -/
theorem total3 {p q : Int × Int} (n : Int) (hp : Lw p) (hq : Lw q) : sumP (sumP (sumP (0, 1) p) (n, 1)) q = sumP (sumP p q) (n, 1) := by
  have h1 := hp.ne
  have h2 := hq.ne
  have a0 : sumP (0, 1) p = low (0 * p.2 + p.1 * 1) (1 * p.2) := rfl
  have n1 : (1 : Int) * p.2 ≠ 0 := by omega
  rw [a0, sum_low n1 (one_ne n), sum_low (mul_ne n1 (one_ne n)) h2]
  have a1 : sumP p q = low (p.1 * q.2 + q.1 * p.2) (p.2 * q.2) := rfl
  rw [a1, sum_low (mul_ne h1 h2) (one_ne n)]
  refine low_eq (mul_ne (mul_ne n1 (one_ne n)) h2) (mul_ne (mul_ne h1 h2) (one_ne n)) ?_
  grind
theorem total2 {p q : Int × Int} (hp : Lw p) (hq : Lw q) : sumP (sumP (0, 1) q) p = sumP p q := by
  have h1 := hp.ne
  have h2 := hq.ne
  have a0 : sumP (0, 1) q = low (0 * q.2 + q.1 * 1) (1 * q.2) := rfl
  have n1 : (1 : Int) * q.2 ≠ 0 := by omega
  rw [a0, sum_low n1 h1]
  refine low_eq (mul_ne n1 h1) (mul_ne h1 h2) ?_
  grind
theorem total1 (n : Int) : sumP (0, 1) (n, 1) = (n, 1) := by
  have a0 : sumP (0, 1) (n, 1) = low (0 * 1 + n * 1) (1 * 1) := rfl
  rw [a0]
  have : (0 * 1 + n * 1 : Int) = n := by omega
  rw [this]
  exact low_int n
theorem total4 {p : Int × Int} (n : Int) (hp : Lw p) : sumP (sumP (sumP (sumP (0, 1) (n, 1)) (n, 1)) p) (n, 1) = sumP p (3 * n, 1) := by
  have h1 := hp.ne
  rw [total1]
  have a0 : sumP (n, 1) (n, 1) = low (n * 1 + n * 1) (1 * 1) := rfl
  rw [a0, sum_low (by decide) h1, sum_low (mul_ne (by decide) h1) (one_ne n)]
  refine low_eq (mul_ne (mul_ne (by decide) h1) (one_ne n)) (mul_ne h1 (one_ne (3 * n))) ?_
  grind

/-! ### sizes -/
theorem fdiv_le {t g : Int} (h : g ∣ t) (hg : g ≠ 0) : (t.fdiv g).natAbs ≤ t.natAbs := by
  obtain ⟨c, rfl⟩ := h
  rw [Int.mul_fdiv_cancel_left _ hg, Int.natAbs_mul]
  exact Nat.le_mul_of_pos_left _ (by omega)
/-- the upper part below 2^k, the lower one at most 2^l and not 0 -/
def Bd (k l : Nat) (p : Int × Int) : Prop := p.1.natAbs < 2 ^ k ∧ p.2.natAbs ≤ 2 ^ l ∧ p.2 ≠ 0
theorem bd_low {a b : Int} {k l : Nat} (h : a.natAbs < 2 ^ k) (g : b.natAbs ≤ 2 ^ l) (n : b ≠ 0) : Bd k l (low a b) := by
  obtain ⟨h1, h2⟩ := lowBy_dvd a b
  have hn := lowBy_ne (t := a) n
  exact ⟨Nat.lt_of_le_of_lt (fdiv_le h1 hn) h, Nat.le_trans (fdiv_le h2 hn) g, (low_lw (t := a) n).ne⟩
theorem Bd.mono {k l k' l' : Nat} {p : Int × Int} (h : Bd k l p) (a : k ≤ k') (b : l ≤ l') : Bd k' l' p :=
  ⟨Nat.lt_of_lt_of_le h.1 (Nat.pow_le_pow_right (by decide) a), Nat.le_trans h.2.1 (Nat.pow_le_pow_right (by decide) b), h.2.2⟩
theorem abs_mul_le {a b : Int} {k l : Nat} (h : a.natAbs ≤ 2 ^ k) (g : b.natAbs ≤ 2 ^ l) : (a * b).natAbs ≤ 2 ^ (k + l) := by
  rw [Int.natAbs_mul, Nat.pow_add]
  exact Nat.mul_le_mul h g
theorem abs_mul_lt {a b : Int} {k l : Nat} (h : a.natAbs < 2 ^ k) (g : b.natAbs ≤ 2 ^ l) : (a * b).natAbs < 2 ^ (k + l) := by
  rw [Int.natAbs_mul, Nat.pow_add]
  have hp : 0 < 2 ^ l := Nat.pow_pos (by decide)
  exact Nat.lt_of_le_of_lt (Nat.mul_le_mul_left _ g) ((Nat.mul_lt_mul_right hp).mpr h)
theorem pow_le {a b : Nat} (h : a ≤ b) : 2 ^ a ≤ 2 ^ b := Nat.pow_le_pow_right (by decide) h
theorem abs_add_lt {a b : Int} {k l m : Nat} (h : a.natAbs < 2 ^ k) (g : b.natAbs < 2 ^ l) (h1 : k + 1 ≤ m) (h2 : l + 1 ≤ m) : (a + b).natAbs < 2 ^ m := by
  have e1 : 2 ^ k ≤ 2 ^ (m - 1) := pow_le (by omega)
  have e2 : 2 ^ l ≤ 2 ^ (m - 1) := pow_le (by omega)
  have e3 : 2 ^ m = 2 ^ (m - 1) + 2 ^ (m - 1) := by
    have : m = (m - 1) + 1 := by omega
    conv => lhs; rw [this, Nat.pow_succ]
    omega
  have := Int.natAbs_add_le a b
  omega
theorem bd_sum {k l k' l' m j : Nat} {p q : Int × Int} (h : Bd k l p) (g : Bd k' l' q) (h1 : k + l' + 1 ≤ m) (h2 : k' + l + 1 ≤ m) (h3 : l + l' ≤ j) : Bd m j (sumP p q) :=
  bd_low (abs_add_lt (abs_mul_lt h.1 g.2.1) (abs_mul_lt g.1 h.2.1) h1 h2) (Nat.le_trans (abs_mul_le h.2.1 g.2.1) (pow_le h3)) (mul_ne h.2.2 g.2.2)
theorem bd_mul {k l k' l' m j : Nat} {p q : Int × Int} (h : Bd k l p) (g : Bd k' l' q) (h1 : k + k' ≤ m) (h3 : l + l' ≤ j) : Bd m j (mulP p q) :=
  bd_low (Nat.lt_of_lt_of_le (abs_mul_lt h.1 (Nat.le_of_lt g.1)) (pow_le h1)) (Nat.le_trans (abs_mul_le h.2.1 g.2.1) (pow_le h3)) (mul_ne h.2.2 g.2.2)
theorem bd_div {k l k' l' m j : Nat} {p q : Int × Int} (h : Bd k l p) (g : Bd k' l' q) (n : q.1 ≠ 0) (h1 : k + l' ≤ m) (h3 : l + k' ≤ j) : Bd m j (divP p q) :=
  bd_low (Nat.lt_of_lt_of_le (abs_mul_lt h.1 g.2.1) (pow_le h1)) (Nat.le_trans (abs_mul_le h.2.1 (Nat.le_of_lt g.1)) (pow_le h3)) (mul_ne h.2.2 n)
theorem bd_neg {k l : Nat} {p : Int × Int} (h : Bd k l p) : Bd k l (negP p) := bd_low (by rw [Int.natAbs_neg]; exact h.1) h.2.1 h.2.2
theorem bd_int {k : Nat} {n : Int} (h : n.natAbs < 2 ^ k) : Bd k 0 (n, 1) := ⟨h, show (1 : Int).natAbs ≤ 2 ^ 0 by decide, one_ne n⟩
end Cm
end

/-! ## Bs24 -/
section
set_option pp.maxSteps 400
/-! sorted of pairs of texts. -/
namespace KG
open PySem PySem.Spec PyProof.Rows L2 SrtO
abbrev SL (x : Str) : List Nat := x.cps.toList
theorem sl_inj {x y : Str} (h : SL x = SL y) : x = y := by
  cases x
  cases y
  rename_i a b
  have : a = b := Array.toList_inj.mp h
  rw [this]
def lexS (p q : Str × Str) : Bool := if p.1 = q.1 then decide (SL p.2 < SL q.2) else decide (SL p.1 < SL q.1)
theorem ll_irr (a : List Nat) : ¬ a < a := List.lt_irrefl a
theorem ll_asym {a b : List Nat} (h : a < b) : ¬ b < a := List.lt_asymm h
theorem ll_tri {a b : List Nat} (h1 : ¬ a < b) (h2 : ¬ b < a) : a = b := List.le_antisymm (List.not_lt.mp h2) (List.not_lt.mp h1)
theorem ll_le {a b c : List Nat} (h1 : ¬ b < a) (h2 : ¬ c < b) : ¬ c < a := List.not_lt.mpr (List.le_trans (List.not_lt.mp h1) (List.not_lt.mp h2))
theorem lexS_iff {p q : Str × Str} : lexS p q = true ↔ SL p.1 < SL q.1 ∨ (p.1 = q.1 ∧ SL p.2 < SL q.2) := by
  unfold lexS
  by_cases e : p.1 = q.1
  · rw [if_pos e, decide_eq_true_eq]
    constructor
    · exact fun h => .inr ⟨e, h⟩
    · rintro (h | ⟨_, h⟩)
      · rw [e] at h
        exact absurd h (ll_irr _)
      · exact h
  · rw [if_neg e, decide_eq_true_eq]
    constructor
    · exact .inl
    · rintro (h | ⟨h, _⟩)
      · exact h
      · exact absurd h e
theorem lexS_no {p q : Str × Str} : lexS p q = false ↔ ¬ (SL p.1 < SL q.1 ∨ (p.1 = q.1 ∧ SL p.2 < SL q.2)) := by
  rw [← lexS_iff]
  cases lexS p q <;> simp
theorem swo_lexS : Swo lexS := by
  refine ⟨fun p q h => ?_, fun p q r h1 h2 => ?_⟩
  · have a := lexS_iff.mp h
    refine lexS_no.mpr ?_
    rintro (b | ⟨e, b⟩)
    · rcases a with a | ⟨e, a⟩
      · exact ll_asym a b
      · rw [e] at b
        exact ll_irr _ b
    · rcases a with a | ⟨_, a⟩
      · rw [e] at a
        exact ll_irr _ a
      · exact ll_asym a b
  · have a := lexS_no.mp h1
    have b := lexS_no.mp h2
    refine lexS_no.mpr ?_
    have a1 : ¬ SL q.1 < SL p.1 := fun z => a (.inl z)
    have b1 : ¬ SL r.1 < SL q.1 := fun z => b (.inl z)
    rintro (c | ⟨e, c⟩)
    · exact ll_le a1 b1 c
    · have e1 : q.1 = p.1 := by
        rw [e] at b1
        exact sl_inj (ll_tri a1 b1)
      have e2 : r.1 = q.1 := e.trans e1.symm
      exact ll_le (fun z => a (.inr ⟨e1, z⟩)) (fun z => b (.inr ⟨e2, z⟩)) c
theorem swo_map {α β : Type} {lt : β → β → Bool} (O : Swo lt) (k : α → β) : Swo fun x y => lt (k x) (k y) := ⟨fun x y => O.asym (k x) (k y), fun x y z => O.tr (k x) (k y) (k z)⟩
/-- the value is a tuple of these two texts -/
def IsPairS (h : Heap) (v : Value) (x y : Str) : Prop := ∃ a o t u n, v = .ref a ∧ h.get? a = some o ∧ o.cls = .type "tuple" ∧ o.data = .seq #[.str x t, .str y u] n
theorem IsPairS.keeps {h h' : Heap} {v : Value} {x y : Str} (p : IsPairS h v x y) (k : ∀ b o, h.get? b = some o → o.cls = .type "tuple" → h'.get? b = some o) : IsPairS h' v x y := by
  obtain ⟨a, o, t, u, n, e, ho, hc, hd⟩ := p
  exact ⟨a, o, t, u, n, e, k _ _ ho hc, hc, hd⟩
section
variable {prog : Program} {w : World} {A : Around} {E : Value → Shared → Prop} {s : Shared}
theorem pairS_cmp {vs : List Value} {k : Value → Str × Str} (hp : ∀ v ∈ vs, IsPairS s.heap v (k v).1 (k v).2) : SrtO.Cmp prog w A s (tuples' true) (fun p => p.1 ∈ vs) (lt2 fun v u => lexS (k v) (k u)) := by
  intro p q hm hm'
  have h1 := hp _ hm
  have h2 := hp _ hm'
  show wpAny (model prog w) A (keyLt' (tuples' true) p.1 q.1) (fun r s' => s' = s ∧ r = lexS (k p.1) (k q.1)) (fun _ _ => False) s
  unfold lexS
  generalize (k p.1).1 = x at h1 ⊢
  generalize (k p.1).2 = y at h1 ⊢
  generalize (k q.1).1 = x' at h2 ⊢
  generalize (k q.1).2 = y' at h2 ⊢
  obtain ⟨a, o, t, u, n, e, ho, hc, hd⟩ := h1
  obtain ⟨a', o', t', u', n', e', ho', hc', hd'⟩ := h2
  rw [e, e']
  refine PySem.W.kat_lt ho hd ho' hd' ?_
  show PySem.W.KatLex prog w A true (decide (2 < 2)) _ [(.str x t, .str x' t'), (.str y u, .str y' u')] 0 s
  refine PySem.W.kat_cons (SeqAt.EqAt.str_str x t x' t' prog w _ _ ?_)
  refine PySem.W.kat_go (fun e1 => ?_) (fun e1 => ?_)
  · have ex : x = x' := by simpa using e1
    refine PySem.W.kat_yes (PySem.W.kat_cons (SeqAt.EqAt.str_str y u y' u' prog w _ _ ?_))
    refine PySem.W.kat_go (fun e2 => ?_) (fun e2 => ?_)
    · have ey : y = y' := by simpa using e2
      have e3 : (if x = x' then decide (SL y < SL y') else decide (SL x < SL x')) = false := by
        rw [if_pos ex, ey]
        exact decide_eq_false (ll_irr _)
      exact PySem.W.kat_yes (PySem.W.kat_nil ⟨rfl, e3.symm⟩)
    · have e3 : (if x = x' then decide (SL y < SL y') else decide (SL x < SL x')) = decide (SL y < SL y') := if_pos ex
      refine PySem.W.kat_no (PySem.W.kat_one _ _ (PyProof.Rows.lt_str ?_))
      exact (show s = s ∧ decide (SL y < SL y') = (if x = x' then decide (SL y < SL y') else decide (SL x < SL x')) from ⟨rfl, e3.symm⟩)
  · have ex : ¬ x = x' := by simpa using e1
    have e3 : (if x = x' then decide (SL y < SL y') else decide (SL x < SL x')) = decide (SL x < SL x') := if_neg ex
    exact PySem.W.kat_no (oneLt_str ⟨rfl, e3.symm⟩)
theorem firstsS_of {h : Heap} : ∀ {vs : List Value}, (∀ v ∈ vs, ∃ x y, IsPairS h v x y) → ∃ fs : List Value, PySem.W.KatTups h vs fs ∧ fs.length = vs.length ∧ ∀ f ∈ fs, ∃ x t, f = Value.str x t
  | [], _ => ⟨[], PySem.W.KatTups.nil, rfl, fun _ hm => by simp at hm⟩
  | v :: vs, hp => by
    obtain ⟨fs, h1, h2, h3⟩ := firstsS_of (vs := vs) fun v' hm => hp v' (List.mem_cons_of_mem _ hm)
    obtain ⟨x, y, a, o, t, u, n, e, ho, hc, hd⟩ := hp v (List.mem_cons_self ..)
    subst e
    refine ⟨.str x t :: fs, PySem.W.KatTups.cons ho hc hd rfl h1, by rw [List.length_cons, List.length_cons, h2], fun f hm => ?_⟩
    rcases List.mem_cons.mp hm with rfl | hm
    · exact ⟨x, t, rfl⟩
    · exact h3 f hm
theorem pairsS_sortableO {a : Addr} {vs : List Value} {k : Value → Str × Str} (h0 : 0 < vs.length) (hp : ∀ v ∈ vs, IsPairS s.heap v (k v).1 (k v).2) (ha : ∀ o, s.heap.get? a = some o → o.cls ≠ .type "tuple") : SortableO prog w A s a vs fun v u => lexS (k v) (k u) := by
  intro h' keep
  have hp' : ∀ v ∈ vs, IsPairS h' v (k v).1 (k v).2 := fun v hm => (hp v hm).keeps fun b o e c => keep b o (fun z => by subst z; exact ha o e c) e
  obtain ⟨fs, h1, h2, h3⟩ := firstsS_of fun v hm => ⟨_, _, hp' v hm⟩
  refine ⟨tuples' true, fun Q E hq => ?_, pairS_cmp hp'⟩
  refine PySem.W.kat_kind (T := .type "str") h1 (by omega) (fun f hm => ?_) (by rfl) ?_
  · obtain ⟨x, t, rfl⟩ := h3 f hm
    exact PySem.W.Looks.now
  · have e : (Value.type "str" != Value.type "tuple") = true := by first | decide +kernel | rfl | decide
    rw [e]
    exact hq
theorem sorted_pairsS {l : Addr} {vs : List Value} {k : Value → Str × Str} {Q : Value → Shared → Prop} (hl : s.heap.IsList l vs.toArray) (hz : vs.length ≤ sizeLine) (hp : ∀ v ∈ vs, IsPairS s.heap v (k v).1 (k v).2)
    (h : ∀ (h' : Heap) (d : Addr) (out : List Value), Srtd (fun v u => lexS (k v) (k u)) out → Stb (fun v u => lexS (k v) (k u)) out vs → (∀ b o, s.heap.get? b = some o → h'.get? b = some o) → s.heap.objs.size ≤ d → (∃ n, h'.get? d = some (seqObj "list" out.toArray n)) → Q (.ref d) { s with heap := h' }) :
    wpAny (model prog w) A (call (.builtin "sorted") [.ref l]) Q E s := by
  refine sorted_ord (swo_map swo_lexS k) hl hz (fun h2 h₁ a ha kk => ?_) fun out hs hb => ?_
  · refine pairsS_sortableO (s := { s with heap := h₁ }) (by omega) (fun v hm => (hp v hm).keeps fun b o e _ => (kk b o e).2) fun o e => ?_
    have e' : some o = some (seqObj "list" vs.toArray 0) := e.symm.trans ha
    cases e'
    intro c
    exact absurd (Value.type.inj c) (by decide)
  · exact h _ _ out hs hb (fun b o e => sortedAll_old e) (Nat.le_succ _) (sortedAll_at s.heap vs out.toArray)
end
/-- sorted(xs), xs a list of pairs of texts (k says which): a new list, sorted -/
def rSortedPS (K : PySem.W.Frag) : List V → Hp → VK → Prop := fun vs H Q => ∃ (a : Addr) (xs : List V) (k : V → Str × Str), vs = [V.ref a] ∧ SqL K H a xs ∧ (∀ x ∈ xs, ∃ t, x = V.ref t ∧ H t = some (.tup [.str (k x).1, .str (k x).2])) ∧
  ∀ ys p, Srtd (fun x y => lexS (k x) (k y)) ys → ys.Perm xs → H p = none → Q (.ref p) (upd H p (.lst ys))
section
variable {X : Cx}
theorem cr_sortedPS : CallR X (.builtin "sorted") (rSortedPS X.K) := by
  intro pins s σ H vs us Q I r h
  obtain ⟨a, xs, k, rfl, hs, hx, q⟩ := h
  obtain ⟨its, rv, hl, hz⟩ := I.list hs
  obtain ⟨u, rfl, ru⟩ := vals1 r
  obtain rfl : u = Value.ref a := ru
  obtain ⟨e1, e2⟩ := refs_back rv fun x m => by
    obtain ⟨t, e, _⟩ := hx x m
    exact ⟨t, e⟩
  refine sorted_pairsS (k := fun u => k (backV u)) hl.isList (by rw [← rv.length]; exact hz) (fun v hv => ?_) fun h' d out h1 h2 kp hd hn => ?_
  · obtain ⟨t, rfl⟩ := e2 v hv
    have hm : V.ref t ∈ xs := by rw [e1]; exact List.mem_map.mpr ⟨_, hv, rfl⟩
    obtain ⟨t', e, ht⟩ := hx _ hm
    cases e
    obtain ⟨_, its2, r2, o, ho, hc, n, hd⟩ := I.hok _ _ ht
    obtain ⟨u1, u2, rfl, ri, rj⟩ := vals2 r2
    obtain ⟨t1, rfl⟩ := ri
    obtain ⟨t2, rfl⟩ := rj
    exact ⟨t, o, t1, t2, n, rfl, ho, hc, hd⟩
  · have h3 : ∀ u ∈ out, ∃ a, u = Value.ref a := fun u hu => e2 u (h2.perm.mem_iff.mp hu)
    obtain ⟨n, hn⟩ := hn
    have hb : Stb (fun x y => lexS (k x) (k y)) (out.map backV) xs := by
      rw [e1]
      exact Stb.map (swo_map swo_lexS k) backV h2
    refine ⟨.ref d, upd H d (.lst (out.map backV)), I.laid (t' := s.toks) kp hd ⟨?_, out, n, vals_back h3, hn⟩, rfl, q _ d (srtd_map h1) hb.perm (I.hok.fresh hd)⟩
    rw [hb.len]
    exact hz
end
end KG
end

/-! ## D24 -/
section
namespace Cm
open PySem PySem.Spec PyProof.Rows L2 KG

def top (i : Nat) : Stmt := PySem.Challenge.pw_calledmidway_k24_what_is_reached.main.body.getD i (.Pass ⟨0, 0, 0, 0⟩)
abbrev sJar : Stmt := top 38
abbrev sDip : Stmt := top 39
abbrev sChoice : Stmt := top 40

/-- a jar of draws -/
def JarAt (H : Hp) (p : Addr) : Prop := ∃ c s : Int, H p = some (.lst [.int c, .int s]) ∧ 0 ≤ c ∧ 0 ≤ s ∧ s ≤ 2147483648
/-- all that was tracked, but the jar, is as it was -/
def Kp (p : Addr) (H H' : Hp) : Prop := ∀ b o, H b = some o → b ≠ p → H' b = some o
theorem Kp.refl (p : Addr) (H : Hp) : Kp p H H := fun _ _ h _ => h
theorem Kp.trans {p : Addr} {H H1 H2 : Hp} (a : Kp p H H1) (b : Kp p H1 H2) : Kp p H H2 := fun c o h n => b c o (a c o h n) n
theorem Kp.same {p : Addr} {H H1 : Hp} (a : Same H H1) : Kp p H H1 := fun c o h _ => a c o h
theorem JarAt.keep {H H' : Hp} {p : Addr} (j : JarAt H p) (k : Same H H') : JarAt H' p := by
  obtain ⟨c, s, e, r⟩ := j
  exact ⟨c, s, k _ _ e, r⟩
theorem Same.upd_new {H : Hp} {p : Addr} {o : HO} (h : H p = none) : Same H (upd H p o) := fun b u e => by
  rw [upd_ne (ne_of_none e h)]
  exact e

theorem Kp.free {p t : Addr} {H H' : Hp} (k : Kp p H H') (j : JarAt H' p) (h : H' t = none) : H t = none := by
  cases e : H t with
  | none => rfl
  | some o =>
    by_cases tp : t = p
    · subst tp
      obtain ⟨_, _, e2, _⟩ := j
      rw [h] at e2
      cases e2
    · rw [k _ _ e tp] at h
      cases h

structure Txt (mg : Str → Option Value) : Prop where
  len : mg "len" = none
  abs : mg "abs" = none
  max : mg "max" = none
  min : mg "min" = none
  int : mg "int" = none
  divmod : mg "divmod" = none
  range : mg "range" = none
  all : mg "all" = none

/-- a def that may be called by its name, every parameter given -/
structure Cl (P : Program) (w : World) (K : PySem.W.Frag) (mg : Str → Option Value) (base : Heap) (k : Nat) (x : Str) (ps : List Str) (sp : Sp) : Prop where
  ex : ∃ (f : Addr) (fd : FuncData), FnOk P w K mg base CX0 k f fd ps sp ∧ mg x = some (.ref f) ∧ PySem.W.keepIn K (.ref f) = true ∧ Binds K fd ps []
section
variable {X : Cx} {k j : Nat} {x : Str} {ps : List Str} {sp : Sp} {p pos : Pos} {e : Expr} {es : List Expr} {t : TA} {te : TE}
theorem pe_k (c : Cl X.prog X.w X.K X.mg X.base k x ps sp) (hr : Room j X.A) (hk : k ≤ j) (gl : Gl X x) (ha : PA X (e :: es) t)
    (hdb : (x == ("__debug__" : Str)) = false := by decide)
    (he : starEach (e :: es) X.env = (false, eval e X.env) :: starEach es X.env := by rfl)
    (hpl : (backTo pos (starEach es X.env)).any (·.1) = false := by rfl) :
    PE X (.Call (.Name x p) (e :: es) [] pos) (tK sp t) := by
  obtain ⟨f, fd, F, hm, hkp, hb⟩ := c.ex
  constructor
  intro pins s σ H Q I h
  refine (pe_call (p := p) F (hr.mono hk) gl hm hkp hb .nil pass0 ha hdb he hpl).run pins s σ H Q I ?_
  show t σ H fun vs H1 => sp (vs ++ []) H1 Q E0
  simp only [List.append_nil]
  exact h
/-- a word about a part's value: what follows is shown once, from Mid -/
def tMid (t : TE) : TE := fun σ H Q => ∃ Mid : V → Hp → Prop, t σ H Mid ∧ ∀ v H', Mid v H' → Q v H'
theorem pe_mid (h : PE X e te) : PE X e (tMid te) := by
  constructor
  rintro pins s σ H Q I ⟨Mid, hm, hu⟩
  refine thn (h.run pins s σ H Mid I hm) ?_
  rintro u s1 ⟨x, H1, I1, r, q⟩
  exact ⟨x, H1, I1, r, hu _ _ q⟩
end

def spJar (K : PySem.W.Frag) : Sp := fun vs H Q _ => ∃ (a : Addr) (ns : List Int) (k : Nat), vs = [.ref a, .int (k : Int)] ∧ SqL K H a (ns.map V.int) ∧ ns.length ≤ 63 ∧ k ≤ 63 ∧
  ∀ (H' : Hp) (p : Addr), Same H H' → H p = none → JarAt H' p → Q (.ref p) H'
theorem Kp.seq {K : PySem.W.Frag} {H H' : Hp} {p a : Addr} {xs : List V} (k : Kp p H H') (n : a ≠ p) (h : SqL K H a xs) : SqL K H' a xs := by
  rcases h with (h | ⟨o, h⟩) | h
  · exact .inl (.inl (k _ _ h n))
  · exact .inl (.inr ⟨o, k _ _ h n⟩)
  · exact .inr h
/-- a list or a text to choose from, apart from the jar -/
def spChoice (K : PySem.W.Frag) : Sp := fun vs H Q _ => ∃ (p : Addr) (x : V), vs = [.ref p, x] ∧ JarAt H p ∧
  ((∃ (a : Addr) (xs : List V), x = .ref a ∧ a ≠ p ∧ SqL K H a xs ∧ 0 < xs.length ∧ xs.length < 1000 ∧
      ∀ (H' : Hp) (j : Nat) (v : V), JarAt H' p → Kp p H H' → xs[j]? = some v → Q v H') ∨
   (∃ z : Str, x = .str z ∧ 0 < z.length ∧ z.length < 1000 ∧ ∀ (H' : Hp) (c : Nat), JarAt H' p → Kp p H H' → c ∈ z.cps.toList → Q (.str ⟨#[c]⟩) H'))
def spInteger : Sp := fun vs H Q _ => ∃ (p : Addr), vs = [.ref p] ∧ JarAt H p ∧
  ∀ (H' : Hp) (n : Int), JarAt H' p → Kp p H H' → n.natAbs < 2 ^ 100 → Q (.int n) H'
def spParts : Sp := fun vs H Q _ => ∃ (p : Addr), vs = [.ref p] ∧ JarAt H p ∧
  ∀ (H' : Hp) (t : Addr) (n m : Int), JarAt H' p → Kp p H H' → H t = none → H' t = some (.tup [.int n, .int m]) → n.natAbs < 2 ^ 100 → m.natAbs < 2 ^ 100 → m ≠ 0 → Q (.ref t) H'
def spDip : Sp := fun vs H Q _ => ∃ (p : Addr) (m : Int), vs = [.ref p, .int m] ∧ JarAt H p ∧ 0 < m ∧ m < 2 ^ 200 ∧
  ∀ (H' : Hp) (r : Int), JarAt H' p → Kp p H H' → 0 ≤ r → r < m → Q (.int r) H'

section
variable {P : Program} {w : World} {K : PySem.W.Frag} {mg : Str → Option Value} {base : Heap}

theorem scJar : FnScope ["_law_script", "_law_k", "_law_cell"] ["_law_script", "_law_k"] (defScope sJar) := ⟨rfl, rfl, rfl, by decide +kernel, rfl, by decide +kernel, by decide +kernel⟩
theorem ok_jar {f : Addr} {fd : FuncData} (F : Fun K "_law_pot" "_law_pot" sJar f fd) (T : Txt mg) : FnOk P w K mg base CX0 1 f fd ["_law_script", "_law_k"] (spJar K) := by
  refine F.ok scJar (fun vs H Q E h => ?_) (fun cdv A outer s H vs Q E hr h => ?_)
  · obtain ⟨a, ns, k, rfl, _⟩ := h
    rfl
  · obtain ⟨a, ns, k, rfl, hS, hlen, hk, q⟩ := h
    refine ⟨_, pss_cons (ps_set (i := 2) scJar.nd rfl (Or.inl rfl) (pe_op op_add (pe_op op_mul pe_int (pv 1)) pe_int))
      (C8.pss_cut (ps_if (pt_cmpR op_lt (pv 1) (pe_callB call_len (by rfl) T.len PySem.boot_len (pa_cons (pv 0) pa_nil)) (nomark _))
          (pss_one (ps_set (i := 2) scJar.nd rfl (Or.inl rfl) (pe_callB call_abs (by rfl) T.abs (by decide +kernel) (pa_cons (pe_ix ix_list (pv 0) (pv 1) (fun _ _ => rfl)) pa_nil)))) pss_nil)
      (pss_one (ps_ret (pe_lst (pa_cons
          (pe_callB (call_max2 rfl) (by rfl) T.max (by decide +kernel) (pa_cons pe_int (pa_cons (pe_op op_sub (pv 2) (pe_op op_pow pe_int pe_int)) pa_nil)))
        (pa_cons (pe_op op_add (pe_op op_mod (pe_op op_mul (pe_callTy call_int1 (by rfl) T.int (by decide +kernel) (pa_cons (pe_op op_add (pe_op op_mod (pe_callTy call_int1 (by rfl) T.int (by decide +kernel) (pa_cons (pv 2) pa_nil)) pe_int) pe_int) pa_nil))
            (pe_op op_pow (pe_op op_add (pe_op op_mul pe_int (pv 1)) pe_int) pe_int)) pe_int) pe_int) pa_nil)))))), ?_⟩
    refine ⟨_, rfl, _, _, rfl, rfl, .inl ⟨by decide, by decide⟩, _, _, rfl, rfl, ?_⟩
    refine ⟨fun σ H' => ∃ z : Int, 0 ≤ z ∧ σ = [some (.ref a), some (.int (k : Int)), some (.int z)] ∧ H' = H, ?_, ?_⟩
    · refine ⟨_, rfl, _, rfl, _, _, rfl, .inl ⟨_, hS, rfl⟩, _, _, rfl, rfl, _, rfl, ?_⟩
      refine ite2 (fun c => ?_) (fun c => ?_)
      · have c1 : k < ns.length := by
          have c2 := of_decide_eq_true c
          rw [List.length_map] at c2
          omega
        refine ⟨_, rfl, _, rfl, a, _, _, V.int ns[k], rfl, rfl, hS, atI_nat (by rw [List.getElem?_map, List.getElem?_eq_getElem c1]; rfl), _, rfl, ?_⟩
        exact ⟨if ns[k] < 0 then -ns[k] else ns[k], by split <;> omega, rfl, rfl⟩
      · exact ⟨37 * (k : Int) + 11, by omega, rfl, rfl⟩
    · rintro σ H' ⟨z, hz, rfl, rfl⟩
      refine ⟨_, rfl, _, _, rfl, rfl, ⟨by decide, by decide, by decide⟩, _, _, rfl, rfl, _, _, rfl, ?_⟩
      have m0 := Int.emod_nonneg z (show (2147483543 : Int) ≠ 0 by decide)
      have m1 := Int.emod_lt_of_pos z (show (0 : Int) < 2147483543 by decide)
      refine ⟨_, rfl, .inl ⟨_, rfl, _, _, rfl, rfl, (by show (0 : Int) < 2147483543; decide), _, _, rfl, rfl, .inl ⟨_, rfl, _, rfl, _, _, rfl, rfl, .inl ⟨by decide, by decide⟩, _, _, rfl, rfl, _, _, rfl, rfl, ⟨by decide, by decide, by omega⟩, _, _, rfl, rfl, .inl ⟨by omega, by omega⟩, _, _, rfl, rfl, (by show (0 : Int) < 2147483477; decide), _, _, rfl, rfl, ?_⟩⟩⟩
      refine ⟨(by show 2 ≤ sizeLine; decide), fun p hp => ?_⟩
      refine q _ p (Same.upd_new hp) hp ⟨_, _, upd_same, ?_, ?_, ?_⟩
      · split <;> omega
      · have := Int.emod_nonneg ((z % 2147483543 + 7) * (2 * (k : Int) + 5) ^ (3 : Int).toNat) (show (2147483477 : Int) ≠ 0 by decide)
        omega
      · have := Int.emod_lt_of_pos ((z % 2147483543 + 7) * (2 * (k : Int) + 5) ^ (3 : Int).toNat) (show (0 : Int) < 2147483477 by decide)
        omega

theorem scDip : FnScope ["_law_pot_here", "_law_bound", "_law_digit"] ["_law_pot_here", "_law_bound"] (defScope sDip) := ⟨rfl, rfl, rfl, by decide +kernel, rfl, by decide +kernel, by decide +kernel⟩
theorem divp_of {i j : Int} (h : 0 < j) (hb : j < 2 ^ 200) : CDivP i j := by
  refine ⟨h, PyProof.noPylong_of_log2 ?_⟩
  have h1 : j.natAbs < 2 ^ 200 := by omega
  have := PySem.Flt.log2_lt_of (show 0 < 200 by decide) h1
  omega
theorem ok_dip {f : Addr} {fd : FuncData} (F : Fun K "_law_draw" "_law_draw" sDip f fd) (T : Txt mg) : FnOk P w K mg base CX0 1 f fd ["_law_pot_here", "_law_bound"] spDip := by
  refine F.ok scDip (fun vs H Q E h => ?_) (fun cdv A outer s H vs Q E hr h => ?_)
  · obtain ⟨p, m, rfl, _⟩ := h
    rfl
  · obtain ⟨p, m, rfl, ⟨c, z, hp, hc0, hz0, hz1⟩, hm, hm2, q⟩ := h
    refine ⟨_, pss_cons (ps_if (pt_cmpR op_gt (pe_ix ix_list (pv 0) pe_int (fun _ _ => rfl)) pe_int (nomark _))
        (pss_cons (ps_asg (pe_callB call_divmodW (by rfl) T.divmod (by decide +kernel) (pa_cons (pe_ix ix_list (pv 0) pe_int (fun _ _ => rfl)) (pa_cons (pv 1) pa_nil)))
            (pg_tup rfl (pgs_cons (pg_sub (pv 0) pe_int set_list) (pgs_cons (pg_name (i := 2) scDip.nd rfl (Or.inl rfl)) pgs_nil))))
          (pss_one (ps_ret (pv 2)))) pss_nil)
      (pss_cons (ps_asg (pe_op op_mod (pe_callTy call_int1 (by rfl) T.int (by decide +kernel) (pa_cons
            (pe_op op_add (pe_op op_mul (pe_ix ix_list (pv 0) pe_int (fun _ _ => rfl)) pe_int) pe_int) pa_nil)) pe_int) (pg_sub (pv 0) pe_int set_list))
        (pss_one (ps_ret (pe_op op_mod (pe_callTy call_int1 (by rfl) T.int (by decide +kernel) (pa_cons (pe_op op_fdiv (pe_op op_mod
            (pe_callTy call_int1 (by rfl) T.int (by decide +kernel) (pa_cons (pe_op op_mul (pe_ix ix_list (pv 0) pe_int (fun _ _ => rfl)) (pe_ix ix_list (pv 0) pe_int (fun _ _ => rfl))) pa_nil)) pe_int) pe_int) pa_nil)) (pv 1))))), ?_⟩
    refine ⟨_, rfl, p, _, _, _, rfl, rfl, SqL.of hp, rfl, _, _, rfl, rfl, _, rfl, ?_⟩
    refine ite2 (fun h1 => ?_) (fun h1 => ?_)
    · have h2 : 0 < c := of_decide_eq_true h1
      refine ⟨_, rfl, p, _, _, _, rfl, rfl, SqL.of hp, rfl, _, rfl, _, _, rfl, divp_of hm hm2, fun d hd => ?_⟩
      have np : p ≠ d := ne_of_none hp hd
      refine ⟨d, _, rfl, SqT.of upd_same, rfl, _, _, rfl, _, rfl, p, _, _, 0, rfl, rfl, (by rw [upd_ne np]; exact hp), rfl, _, _, rfl, rfl, ?_⟩
      refine ⟨_, rfl, q _ _ ⟨_, _, upd_same, Int.ediv_nonneg hc0 (by omega), hz0, hz1⟩ (fun b o e hb => ?_) (Int.emod_nonneg _ (by omega)) (Int.emod_lt_of_pos _ hm)⟩
      rw [upd_ne hb, upd_ne (ne_of_none e hd)]
      exact e
    · refine ⟨_, rfl, p, _, _, _, rfl, rfl, SqL.of hp, rfl, _, _, rfl, rfl, .inr ⟨by decide, by decide⟩, _, _, rfl, rfl, .inl ⟨_, rfl, _, _, rfl, rfl, (by show (0 : Int) < 2147483587; decide), ?_⟩⟩
      refine ⟨_, rfl, p, _, _, 1, rfl, rfl, hp, rfl, ?_⟩
      have g0 := Int.emod_nonneg (z * 48271 + 12343) (show (2147483587 : Int) ≠ 0 by decide)
      have g1 := Int.emod_lt_of_pos (z * 48271 + 12343) (show (0 : Int) < 2147483587 by decide)
      refine ⟨_, rfl, p, _, _, _, rfl, rfl, SqL.of upd_same, rfl, _, rfl, p, _, _, _, rfl, rfl, SqL.of upd_same, rfl, _, _, rfl, rfl, .inl ⟨by omega, by omega⟩, .inl ⟨_, rfl, _, _, rfl, rfl, (by show (0 : Int) < 2147483549; decide), _, _, rfl, rfl, ⟨by decide, by decide⟩, .inl ⟨_, rfl, _, rfl, _, _, rfl, rfl, hm, ?_⟩⟩⟩
      refine q _ _ ⟨_, _, upd_same, hc0, g0, by omega⟩ (fun b o e hb => by rw [upd_ne hb]; exact e) (Int.emod_nonneg _ (by omega)) (Int.emod_lt_of_pos _ hm)

theorem scChoice : FnScope ["_law_pot_here", "_law_some"] ["_law_pot_here", "_law_some"] (defScope sChoice) := ⟨rfl, rfl, rfl, by decide +kernel, rfl, by decide +kernel, by decide +kernel⟩
theorem ok_choice {f : Addr} {fd : FuncData} (F : Fun K "_law_pick" "_law_pick" sChoice f fd) (T : Txt mg) (cD : Cl P w K mg base 1 "_law_draw" ["_law_pot_here", "_law_bound"] spDip) : FnOk P w K mg base CX0 2 f fd ["_law_pot_here", "_law_some"] (spChoice K) := by
  refine F.ok scChoice (fun vs H Q E h => ?_) (fun cdv A outer s H vs Q E hr h => ?_)
  · obtain ⟨p, x, rfl, _⟩ := h
    rfl
  · obtain ⟨p, x, rfl, J, h⟩ := h
    refine ⟨_, pss_one (ps_ret (pe_ix ix_seq (pv 1) (pe_k cD hr (Nat.le_refl _) rfl (pa_cons (pv 0) (pa_cons (pe_callB call_len (by rfl) T.len PySem.boot_len (pa_cons (pv 1) pa_nil)) pa_nil))) (fun _ _ => rfl))), ?_⟩
    rcases h with ⟨a, xs, rfl, na, hS, h0, h1, q⟩ | ⟨z, rfl, h0, h1, q⟩
    · refine ⟨_, rfl, _, rfl, _, rfl, _, _, rfl, .inl ⟨_, hS, rfl⟩, p, _, rfl, J, by omega, by omega, fun H' r J' k r0 r1 => ?_⟩
      obtain ⟨j, rfl⟩ : ∃ j : Nat, r = (j : Int) := ⟨r.toNat, by omega⟩
      have hj : j < xs.length := by omega
      exact .inl ⟨a, xs, _, xs[j], rfl, rfl, k.seq na hS, atI_nat (List.getElem?_eq_getElem hj), q H' j _ J' k (List.getElem?_eq_getElem hj)⟩
    · have hz : z.length ≤ sizeLine := Nat.le_trans (Nat.le_of_lt h1) (by decide)
      refine ⟨_, rfl, _, rfl, _, rfl, _, _, rfl, ⟨hz, rfl⟩, p, _, rfl, J, by omega, by omega, fun H' r J' k r0 r1 => ?_⟩
      obtain ⟨j, rfl⟩ : ∃ j : Nat, r = (j : Int) := ⟨r.toNat, by omega⟩
      have hj : j < z.cps.toList.length := by
        have : z.cps.toList.length = z.length := by simp [Str.length]
        omega
      exact .inr (.inr ⟨z, _, z.cps.toList[j], rfl, rfl, hz, atI_nat (List.getElem?_eq_getElem hj), q H' _ J' k (List.getElem_mem hj)⟩)

end
end Cm
end

/-! ## Pt24 -/
section
set_option pp.maxSteps 400
namespace Cm
open PySem PySem.Spec PyProof.Rows L2 KG
abbrev sIsInt : Stmt := top 19
abbrev sIsName : Stmt := top 20
abbrev sIsList : Stmt := top 22
abbrev sIsPair : Stmt := top 23
abbrev sIsOne : Stmt := top 24
abbrev sIsMot : Stmt := top 25
abbrev sIsArr : Stmt := top 26
abbrev sAreMot : Stmt := top 27
abbrev sChSc : Stmt := top 28
abbrev sChTh : Stmt := top 29
abbrev sChThs : Stmt := top 30
abbrev sChScs : Stmt := top 31
abbrev sChArr : Stmt := top 32
abbrev sChRes : Stmt := top 33
structure TxtP (mg : Str → Option Value) : Prop where
  isi : mg "isinstance" = none
  int : mg "int" = none
  bool : mg "bool" = none
  str : mg "str" = none
  len : mg "len" = none
  list : mg "list" = none
  tuple : mg "tuple" = none
  dict : mg "dict" = none
  all : mg "all" = none
  enumerate : mg "enumerate" = none
  sorted : mg "sorted" = none
  most : ∃ t, mg "LONGEST_NAME" = some (.int 8 t)
def nameOk (z : Str) : Bool := decide (z.length ≤ 8) && (Txt.isascii z && (Txt.isalpha z && Txt.islower z))
/-- either reading -/
def tAlt (t1 t2 : TE) : TE := fun σ H Q => t1 σ H Q ∨ t2 σ H Q
theorem pe_alt {X : Cx} {e : Expr} {t1 t2 : TE} (h1 : PE X e t1) (h2 : PE X e t2) : PE X e (tAlt t1 t2) := ⟨fun pins s σ H Q I h => h.elim (h1.run pins s σ H Q I) (h2.run pins s σ H Q I)⟩
theorem ty_tup {K : PySem.W.Frag} {H : Hp} {t : Addr} {xs : List V} (h : SqT K H t xs) : TyX K H (.ref t) (.type "tuple") := by
  rcases h with (h | ⟨o, h⟩) | ⟨o, its, n, h1, h2, h3, h4⟩
  · exact .base (.tup h)
  · exact .fTuple h
  · exact .kTuple h1 (by assumption)
theorem all_true (n : Nat) : (List.replicate n true).all id = true := by
  rw [List.all_eq_true]
  intro b hb
  exact (List.mem_replicate.mp hb).2
theorem Same.trans' {H H1 H2 : Hp} (a : Same H H1) (b : Same H1 H2) : Same H H2 := fun c o h => b c o (a c o h)
/-- names are kept at d: the keys of a dict, or a list -/
def NamesAt (H : Hp) (d : Addr) (ss : List Str) : Prop := (∃ kvs : List (Key × V), H d = some (.dK kvs) ∧ kvs.map (·.1) = ss.map Sum.inr) ∨ H d = some (.lst (ss.map V.str))
theorem NamesAt.keep {H H' : Hp} {d : Addr} {ss : List Str} (h : NamesAt H d ss) (e : Same H H') : NamesAt H' d ss := by
  rcases h with ⟨kvs, h1, h2⟩ | h
  · exact .inl ⟨kvs, e _ _ h1, h2⟩
  · exact .inr (e _ _ h)
theorem val_isSome {kvs : List (Key × V)} {ss : List Str} (h : kvs.map (·.1) = ss.map Sum.inr) (z : Str) : (valV kvs (Sum.inr z : Key)).isSome = decide (z ∈ ss) := by
  unfold valV
  rw [Option.isSome_map, Bool.eq_iff_iff, List.find?_isSome, decide_eq_true_eq]
  constructor
  · rintro ⟨q, hq, e⟩
    have e1 : q.1 = Sum.inr z := of_decide_eq_true e
    have : (Sum.inr z : Key) ∈ ss.map Sum.inr := by
      rw [← h, ← e1]
      exact List.mem_map_of_mem hq
    obtain ⟨y, hy, e2⟩ := List.mem_map.mp this
    cases e2
    exact hy
  · intro hz
    have : (Sum.inr z : Key) ∈ kvs.map (·.1) := by
      rw [h]
      exact List.mem_map_of_mem hz
    obtain ⟨q, hq, e⟩ := List.mem_map.mp this
    exact ⟨q, hq, decide_eq_true e⟩
theorem inV_str (z : Str) (ss : List Str) : inV (.str z) (ss.map V.str) = decide (z ∈ ss) := by
  unfold inV
  rw [List.any_map, Bool.eq_iff_iff, List.any_eq_true, decide_eq_true_eq]
  constructor
  · rintro ⟨y, hy, e⟩
    have : y = z := by
      have e' : (y == z) = true := e
      exact beq_iff_eq.mp e'
    rw [← this]
    exact hy
  · intro hz
    exact ⟨z, hz, (beq_self_eq_true z : (z == z) = true)⟩
theorem flat_strs (ss : List Str) : (ss.map V.str).all flatV = true := by
  rw [List.all_eq_true]
  intro v hv
  obtain ⟨z, _, rfl⟩ := List.mem_map.mp hv
  rfl

def spInt : Sp := fun vs H Q _ => ∃ n : Int, vs = [.int n] ∧ Q (.bl true) H
def spName : Sp := fun vs H Q _ => ∃ z : Str, vs = [.str z] ∧ z.length ≤ sizeLine ∧ Q (.bl (nameOk z)) H
def spIsList : Sp := fun vs H Q _ => ∃ (a : Addr) (xs : List V), vs = [.ref a] ∧ H a = some (.lst xs) ∧ ∀ H', Same H H' → Q (.bl true) H'
def spPair (K : PySem.W.Frag) : Sp := fun vs H Q _ => ∃ (t : Addr) (x y : V), vs = [.ref t] ∧ SqT K H t [x, y] ∧ Q (.bl true) H
def spOne : Sp := fun vs H Q _ => ∃ (d : Addr) (z : Str) (ss : List Str), vs = [.ref d, .str z] ∧ NamesAt H d ss ∧ Q (.bl (decide (z ∈ ss))) H
def spMot (K : PySem.W.Frag) : Sp := fun vs H Q _ => ∃ (t : Addr) (g l : Int), vs = [.ref t] ∧ SqT K H t [.int g, .int l] ∧ 1 ≤ l ∧ Q (.bl true) H
def spArr (K : PySem.W.Frag) : Sp := fun vs H Q _ => ∃ (d t : Addr) (x y : Str) (ss : List Str), vs = [.ref d, .ref t] ∧ NamesAt H d ss ∧ SqT K H t [.str x, .str y] ∧ x ∈ ss ∧ y ∈ ss ∧ ∀ H', Same H H' → Q (.bl true) H'
def MotAt (K : PySem.W.Frag) (H : Hp) (m : Addr) : Prop := ∃ (t : Addr) (g l : Int), H m = some (.dK [(Sum.inr "a", .ref t)]) ∧ SqT K H t [.int g, .int l] ∧ 1 ≤ l
theorem MotAt.keep {K : PySem.W.Frag} {H H' : Hp} {m : Addr} (h : MotAt K H m) (e : Same H H') : MotAt K H' m := by
  obtain ⟨t, g, l, h1, h2, h3⟩ := h
  exact ⟨t, g, l, e _ _ h1, SqT.ext h2 e, h3⟩
def spAreM (K : PySem.W.Frag) : Sp := fun vs H Q _ => ∃ (l m : Addr), vs = [.ref l, .ref m] ∧ H l = some (.lst [.str "a"]) ∧ MotAt K H m ∧ ∀ H', Same H H' → Q (.bl true) H'
def spChSc : Sp := fun vs H Q _ => ∃ (d : Addr) (z : Str) (ss : List Str), vs = [.ref d, .str z] ∧ NamesAt H d ss ∧ z ∈ ss ∧ Q .non H

section
variable {P : Program} {w : World} {K : PySem.W.Frag} {mg : Str → Option Value} {base : Heap}
theorem scIsInt : FnScope ["value"] ["value"] (defScope sIsInt) := ⟨rfl, rfl, rfl, by decide +kernel, rfl, by decide +kernel, by decide +kernel⟩
theorem ok_isInt {f : Addr} {fd : FuncData} (F : Fun K "is_integer" "is_integer" sIsInt f fd) (T : TxtP mg) : FnOk P w K mg base CX0 1 f fd ["value"] spInt := by
  refine F.ok scIsInt (fun vs H Q E h => ?_) (fun cdv A outer s H vs Q E hr h => ?_)
  · obtain ⟨n, rfl, _⟩ := h
    rfl
  · obtain ⟨n, rfl, q⟩ := h
    refine ⟨_, pss_one (ps_ret (pe_and (pe_callB call_isi (by rfl) T.isi (by decide +kernel) (pa_cons (pv 0) (pa_cons (pe_bltn (v := .ty "int") (by rfl) T.int (by decide +kernel) rfl) pa_nil)))
      (pe_one (pe_not (pe_callB call_isi (by rfl) T.isi (by decide +kernel) (pa_cons (pv 0) (pa_cons (pe_bltn (v := .ty "bool") (by rfl) T.bool (by decide +kernel) rfl) pa_nil))))))), ?_⟩
    refine ⟨_, rfl, _, _, _, _, _, rfl, .ty _, .base (.int n), kit_ty (r := true) (by decide +kernel), _, rfl, ?_⟩
    refine iteT ⟨_, rfl, _, _, _, _, _, rfl, .ty _, .base (.int n), kit_ty (r := false) (by decide +kernel), _, rfl, q⟩
theorem scIsName : FnScope ["value"] ["value"] (defScope sIsName) := ⟨rfl, rfl, rfl, by decide +kernel, rfl, by decide +kernel, by decide +kernel⟩
theorem ok_isName {f : Addr} {fd : FuncData} (F : Fun K "is_name" "is_name" sIsName f fd) (T : TxtP mg) : FnOk P w K mg base CX0 1 f fd ["value"] spName := by
  obtain ⟨t8, m8⟩ := T.most
  refine F.ok scIsName (fun vs H Q E h => ?_) (fun cdv A outer s H vs Q E hr h => ?_)
  · obtain ⟨x, rfl, _⟩ := h
    rfl
  · obtain ⟨z, rfl, hz, q⟩ := h
    refine ⟨_, pss_cons (ps_if (PW.pt (pw_or (pt_not (pt_val (pe_callB call_isi (by rfl) T.isi (by decide +kernel) (pa_cons (pv 0) (pa_cons (pe_bltn (v := .ty "str") (by rfl) T.str (by decide +kernel) rfl) pa_nil)))))
          (pw_or1 (pt_cmpR op_gt (pe_callB call_len_str (by rfl) T.len PySem.boot_len (pa_cons (pv 0) pa_nil)) (pe_glob (v := .int 8) (by rfl) m8 ⟨_, rfl⟩) (nomark _)))))
        (pss_one (ps_ret pe_bl)) pss_nil)
      (pss_one (ps_ret (pe_and (pe_bm0 PySem.F.plainAttrs_str PySem.F.slot_str_isascii PySem.F.type_str_isascii mt_isascii (pv 0))
        (pe_and (pe_bm0 PySem.F.plainAttrs_str PySem.F.slot_str_isalpha PySem.F.type_str_isalpha mt_isalpha (pv 0))
          (pe_one (pe_bm0 PySem.F.plainAttrs_str PySem.F.slot_str_islower PySem.F.type_str_islower mt_islower (pv 0))))))), ?_⟩
    refine ⟨_, rfl, _, _, _, _, _, rfl, .ty _, .base (.str z), kit_ty (r := true) (by decide +kernel), _, rfl, ?_⟩
    refine iteF ⟨_, rfl, _, rfl, hz, _, _, rfl, rfl, _, rfl, ?_⟩
    unfold nameOk at q
    refine ite2 (fun h1 => ?_) (fun h1 => ?_)
    · have h2 : ¬ z.length ≤ 8 := by
        have h3 : (8 : Int) < (z.length : Int) := of_decide_eq_true h1
        omega
      rw [decide_eq_false h2] at q
      exact q
    · have h2 : z.length ≤ 8 := by
        have h3 : ¬ (8 : Int) < (z.length : Int) := fun y => h1 (decide_eq_true y)
        omega
      rw [decide_eq_true h2, Bool.true_and] at q
      refine ⟨_, rfl, rfl, _, rfl, rfl, trivial, _, rfl, ?_⟩
      revert q
      cases Txt.isascii z with
      | false => exact fun q => iteF q
      | true =>
        intro q
        rw [Bool.true_and] at q
        refine iteT ⟨_, rfl, rfl, _, rfl, rfl, trivial, _, rfl, ?_⟩
        revert q
        cases Txt.isalpha z with
        | false => exact fun q => iteF q
        | true =>
          intro q
          rw [Bool.true_and] at q
          exact iteT ⟨_, rfl, rfl, _, rfl, rfl, trivial, q⟩
theorem scIsList : FnScope ["value"] ["value"] (defScope sIsList) := ⟨rfl, rfl, rfl, by decide +kernel, rfl, by decide +kernel, by decide +kernel⟩
theorem ok_isList {f : Addr} {fd : FuncData} (F : Fun K "is_list" "is_list" sIsList f fd) (T : TxtP mg) : FnOk P w K mg base CX0 1 f fd ["value"] spIsList := by
  refine F.ok scIsList (fun vs H Q E h => ?_) (fun cdv A outer s H vs Q E hr h => ?_)
  · obtain ⟨a, xs, rfl, _⟩ := h
    rfl
  · obtain ⟨a, xs, rfl, ha, q⟩ := h
    refine ⟨_, pss_one (ps_ret (pe_callB call_isiT (by rfl) T.isi (by decide +kernel) (pa_cons (pv 0) (pa_cons (pe_tup (pa_cons (pe_bltn (v := .ty "list") (by rfl) T.list (by decide +kernel) rfl) (pa_cons (pe_bltn (v := .ty "tuple") (by rfl) T.tuple (by decide +kernel) rfl) pa_nil))) pa_nil)))), ?_⟩
    refine ⟨_, rfl, (by show 2 ≤ sizeLine; decide), fun p np => ?_⟩
    have s1 : Same H (upd H p (.tup [.ty "list", .ty "tuple"])) := Same.upd_new np
    exact ⟨_, p, _, _, [.type "list", .type "tuple"], true, rfl, upd_same, .cons (.ty _) (.cons (.ty _) .nil), .base (.lst (s1 _ _ ha)), kitAny_cons (kit_ty (r := true) (by decide +kernel)) (fun z => by cases z) (fun _ => rfl), q _ s1⟩
theorem scIsPair : FnScope ["value"] ["value"] (defScope sIsPair) := ⟨rfl, rfl, rfl, by decide +kernel, rfl, by decide +kernel, by decide +kernel⟩
theorem ok_isPair {f : Addr} {fd : FuncData} (F : Fun K "is_pair" "is_pair" sIsPair f fd) (T : TxtP mg) : FnOk P w K mg base CX0 1 f fd ["value"] (spPair K) := by
  refine F.ok scIsPair (fun vs H Q E h => ?_) (fun cdv A outer s H vs Q E hr h => ?_)
  · obtain ⟨a, x, y, rfl, _⟩ := h
    rfl
  · obtain ⟨t, x, y, rfl, ht, q⟩ := h
    refine ⟨_, pss_one (ps_ret (pe_and (pe_callB call_isi (by rfl) T.isi (by decide +kernel) (pa_cons (pv 0) (pa_cons (pe_bltn (v := .ty "tuple") (by rfl) T.tuple (by decide +kernel) rfl) pa_nil)))
      (pe_one (pe_cmpR op_eq (pe_callB call_len (by rfl) T.len PySem.boot_len (pa_cons (pv 0) pa_nil)) pe_int (nomark _))))), ?_⟩
    refine ⟨_, rfl, _, _, _, _, _, rfl, .ty _, ty_tup ht, kit_ty (r := true) (by decide +kernel), _, rfl, ?_⟩
    exact iteT ⟨_, rfl, _, _, rfl, .inr ⟨_, ht, rfl⟩, rfl, q⟩
theorem scIsOne : FnScope ["names", "value"] ["names", "value"] (defScope sIsOne) := ⟨rfl, rfl, rfl, by decide +kernel, rfl, by decide +kernel, by decide +kernel⟩
theorem ok_isOne {f : Addr} {fd : FuncData} (F : Fun K "is_one_of" "is_one_of" sIsOne f fd) (T : TxtP mg) : FnOk P w K mg base CX0 1 f fd ["names", "value"] spOne := by
  refine F.ok scIsOne (fun vs H Q E h => ?_) (fun cdv A outer s H vs Q E hr h => ?_)
  · obtain ⟨d, z, ss, rfl, _⟩ := h
    rfl
  · obtain ⟨d, z, ss, rfl, hd, q⟩ := h
    have hu := hu_of hr
    refine ⟨_, pss_one (ps_ret (pe_and (pe_callB call_isi (by rfl) T.isi (by decide +kernel) (pa_cons (pv 1) (pa_cons (pe_bltn (v := .ty "str") (by rfl) T.str (by decide +kernel) rfl) pa_nil)))
      (pe_one (pe_alt (pe_cmp (pc_din hu (pv 1) (pv 0))) (pe_cmpR op_in_seq (pv 1) (pv 0) (by rfl)))))), ?_⟩
    refine ⟨_, rfl, _, _, _, _, _, rfl, .ty _, .base (.str z), kit_ty (r := true) (by decide +kernel), _, rfl, ?_⟩
    rcases hd with ⟨kvs, h1, h2⟩ | h1
    · refine iteT (.inl ⟨_, rfl, _, rfl, d, _, rfl, DGet.k (k := Sum.inr z) h1, ?_⟩)
      rw [val_isSome h2]
      exact q
    · refine iteT (.inr ⟨_, rfl, _, rfl, d, _, rfl, .inl (SqL.of h1), rfl, flat_strs ss, ?_⟩)
      show Q (.bl (if false = true then _ else _)) H
      rw [if_neg (by decide), inV_str]
      exact q
theorem scIsMot : FnScope ["value", "goal", "length"] ["value"] (defScope sIsMot) := ⟨rfl, rfl, rfl, by decide +kernel, rfl, by decide +kernel, by decide +kernel⟩
theorem ok_isMot {f : Addr} {fd : FuncData} (F : Fun K "is_motion" "is_motion" sIsMot f fd) (cP : Cl P w K mg base 1 "is_pair" ["value"] (spPair K)) (cI : Cl P w K mg base 1 "is_integer" ["value"] spInt) : FnOk P w K mg base CX0 2 f fd ["value"] (spMot K) := by
  refine F.ok scIsMot (fun vs H Q E h => ?_) (fun cdv A outer s H vs Q E hr h => ?_)
  · obtain ⟨t, g, l, rfl, _⟩ := h
    rfl
  · obtain ⟨t, g, l, rfl, ht, hl, q⟩ := h
    refine ⟨_, pss_cons (ps_if (pt_not (pt_val (pe_k cP hr (by decide) (by rfl) (pa_cons (pv 0) pa_nil)))) (pss_one (ps_ret pe_bl)) pss_nil)
      (pss_cons (ps_asg (pv 0) (pg_tup (by rfl) (pgs_cons (pg_name (i := 1) scIsMot.nd rfl (Or.inl rfl)) (pgs_cons (pg_name (i := 2) scIsMot.nd rfl (Or.inl rfl)) pgs_nil))))
      (pss_one (ps_ret (pe_and (pe_k cI hr (by decide) (by rfl) (pa_cons (pv 1) pa_nil)) (pe_and (pe_k cI hr (by decide) (by rfl) (pa_cons (pv 2) pa_nil)) (pe_one (pe_cmpR op_ge (pv 2) pe_int (nomark _)))))))), ?_⟩
    refine ⟨_, rfl, t, _, _, rfl, ht, _, rfl, ?_⟩
    refine iteF ⟨_, rfl, t, _, rfl, ht, rfl, _, _, rfl, _, _, rfl, rfl, ?_⟩
    refine ⟨_, rfl, _, rfl, _, rfl, ?_⟩
    refine iteT ⟨_, rfl, _, rfl, _, rfl, ?_⟩
    refine iteT ⟨_, rfl, _, _, rfl, rfl, ?_⟩
    show Q (.bl (decide ((1 : Int) ≤ l))) H
    rw [decide_eq_true hl]
    exact q
theorem scIsArr : FnScope ["scenes", "value", "scene"] ["scenes", "value"] (defScope sIsArr) := ⟨rfl, rfl, rfl, by decide +kernel, rfl, by decide +kernel, by decide +kernel⟩
theorem ok_isArr {f : Addr} {fd : FuncData} (F : Fun K "is_arrow" "is_arrow" sIsArr f fd) (T : TxtP mg) (cP : Cl P w K mg base 1 "is_pair" ["value"] (spPair K)) (cO : Cl P w K mg base 1 "is_one_of" ["names", "value"] spOne) : FnOk P w K mg base CX0 2 f fd ["scenes", "value"] (spArr K) := by
  refine F.ok scIsArr (fun vs H Q E h => ?_) (fun cdv A outer s H vs Q E hr h => ?_)
  · obtain ⟨d, t, x, y, ss, rfl, _⟩ := h
    rfl
  · obtain ⟨d, t, x, y, ss, rfl, hd, ht, hx, hy, q⟩ := h
    refine ⟨_, pss_one (ps_ret (pe_and (pe_k cP hr (by decide) (by rfl) (pa_cons (pv 1) pa_nil)) (pe_one (pe_callB (cr_all (by rfl)) (by rfl) T.all (by decide +kernel) (pa_cons
      (pe_lc (own := [("scene", 2)]) (g := gName 2) (by rfl) scIsArr.nd (pi_tup (pv 1)) (blkOk_by (own := [("scene", 2)]) (N := ["scenes", "value", "scene"]) (sc := defScope sIsArr) (by decide +kernel)) (fun _ _ _ _ _ => pg_name (i := 2) scIsArr.nd rfl (Or.inl rfl)) (fun _ _ _ _ _ => pts_nil)
        (fun _ _ _ _ _ => pe_k cO hr (by decide) (by rfl) (pa_cons (pv 0) (pa_cons (pv 2) pa_nil)))) pa_nil))))), ?_⟩
    refine ⟨_, rfl, t, _, _, rfl, ht, _, rfl, ?_⟩
    refine iteT ⟨_, rfl, t, rfl, ⟨_, ht⟩, fun D nD => ?_⟩
    refine lc_it (walk_tup (xs := [V.str x, V.str y])) (fun i G => Same H G ∧ G D = some (.lst ((List.replicate i true).map V.bl))) ⟨Same.upd_new nD, upd_same⟩ (fun i G _ p => SqT.ext ht p.1) ?_ ?_
    · rintro i v G G' hi ⟨s1, d1⟩ ⟨rfl, hv⟩
      obtain ⟨z, rfl, hz⟩ : ∃ z, v = V.str z ∧ z ∈ ss := by
        have := List.mem_of_getElem? hv
        simp only [List.mem_cons, List.not_mem_nil, or_false] at this
        rcases this with rfl | rfl
        · exact ⟨x, rfl, hx⟩
        · exact ⟨y, rfl, hy⟩
      refine ⟨rfl, _, rfl, _, rfl, d, z, ss, rfl, hd.keep s1, ?_⟩
      rw [decide_eq_true hz]
      refine ⟨_, d1, ?_, ?_, ?_⟩
      · rw [List.length_map, List.length_replicate]
        have h2 : i < 2 := hi
        have : (2 : Nat) < sizeLine := by decide
        omega
      · intro b o e
        rw [upd_ne (ne_of_none e nD)]
        exact s1 b o e
      · rw [upd_same, List.replicate_succ', List.map_append]
        rfl
    · rintro G ⟨s1, d1⟩
      refine ⟨D, List.replicate 2 true, rfl, SqL.of d1, ?_⟩
      rw [all_true]
      exact q G s1
theorem scAreMot : FnScope ["things", "value", "thing"] ["things", "value"] (defScope sAreMot) := ⟨rfl, rfl, rfl, by decide +kernel, rfl, by decide +kernel, by decide +kernel⟩
theorem ok_areM {f : Addr} {fd : FuncData} (F : Fun K "are_motions" "are_motions" sAreMot f fd) (T : TxtP mg) (cM : Cl P w K mg base 2 "is_motion" ["value"] (spMot K)) : FnOk P w K mg base CX0 3 f fd ["things", "value"] (spAreM K) := by
  refine F.ok scAreMot (fun vs H Q E h => ?_) (fun cdv A outer s H vs Q E hr h => ?_)
  · obtain ⟨l, m, rfl, _⟩ := h
    rfl
  · obtain ⟨l, m, rfl, hl, hm, q⟩ := h
    have hu := hu_of hr
    refine ⟨_, pss_cons (ps_if (PW.pt (pw_or (pt_not (pt_val (pe_callB call_isi (by rfl) T.isi (by decide +kernel) (pa_cons (pv 1) (pa_cons (pe_bltn (v := .ty "dict") (by rfl) T.dict (by decide +kernel) rfl) pa_nil)))))
        (pw_or1 (pt_cmpR op_ne (pe_callB call_lenD (by rfl) T.len PySem.boot_len (pa_cons (pv 1) pa_nil)) (pe_callB call_len (by rfl) T.len PySem.boot_len (pa_cons (pv 0) pa_nil)) (nomark _))))) (pss_one (ps_ret pe_bl)) pss_nil)
      (pss_one (ps_ret (pe_callB (cr_all (by rfl)) (by rfl) T.all (by decide +kernel) (pa_cons
      (pe_lc (own := [("thing", 2)]) (g := gName 2) (by rfl) scAreMot.nd (pi_list (pv 0)) (blkOk_by (own := [("thing", 2)]) (N := ["things", "value", "thing"]) (sc := defScope sAreMot) (by decide +kernel)) (fun _ _ _ _ _ => pg_name (i := 2) scAreMot.nd rfl (Or.inl rfl)) (fun _ _ _ _ _ => pts_nil)
        (fun _ _ _ _ _ => pe_and (pe_cmp (pc_din hu (pv 2) (pv 1))) (pe_one (pe_k cM hr (by decide) (by rfl) (pa_cons (pe_dget hu (pv 1) (pv 2) (fun _ _ => rfl)) pa_nil))))) pa_nil)))), ?_⟩
    obtain ⟨t, g, n, hm1, ht, hn⟩ := id hm
    refine ⟨_, rfl, _, _, _, _, _, rfl, .ty _, .base (.dK hm1), kit_ty (r := true) (by decide +kernel), _, rfl, ?_⟩
    refine iteF ⟨_, rfl, m, _, rfl, hm1, _, rfl, _, _, rfl, .inl ⟨_, SqL.of hl, rfl⟩, rfl, _, rfl, ?_⟩
    refine ite2 (fun h => absurd h (by simp)) (fun _ => ?_)
    refine ⟨_, rfl, l, rfl, ⟨_, SqL.of hl⟩, fun D nD => ?_⟩
    refine lc_it (walk_list (xs := [V.str "a"])) (fun i G => Same H G ∧ G D = some (.lst ((List.replicate i true).map V.bl))) ⟨Same.upd_new nD, upd_same⟩ (fun i G _ p => SqL.of (p.1 _ _ hl)) ?_ ?_
    · rintro i v G G' hi ⟨s1, d1⟩ ⟨rfl, hv⟩
      have ev : v = V.str "a" := by
        have := List.mem_of_getElem? hv
        simpa using this
      subst ev
      refine ⟨rfl, _, rfl, _, rfl, m, _, rfl, DGet.k (k := Sum.inr ("a" : Str)) (s1 _ _ hm1), _, rfl, ?_⟩
      have e1 : valV [((Sum.inr ("a" : Str) : Key), V.ref t)] (Sum.inr ("a" : Str)) = some (.ref t) := by
        unfold valV
        simp
      rw [e1]
      refine iteT ⟨_, rfl, _, rfl, m, .ref t, rfl, by rw [← e1]; exact DGet.k (k := Sum.inr ("a" : Str)) (s1 _ _ hm1), t, g, n, rfl, SqT.ext ht s1, hn, ?_⟩
      refine ⟨_, d1, ?_, ?_, ?_⟩
      · rw [List.length_map, List.length_replicate]
        have h2 : i < 1 := hi
        have : (2 : Nat) < sizeLine := by decide
        omega
      · intro b o e
        rw [upd_ne (ne_of_none e nD)]
        exact s1 b o e
      · rw [upd_same, List.replicate_succ', List.map_append]
        rfl
    · rintro G ⟨s1, d1⟩
      refine ⟨D, List.replicate 1 true, rfl, SqL.of d1, ?_⟩
      rw [all_true]
      exact q G s1
theorem scChSc : FnScope ["scenes", "value"] ["scenes", "value"] (defScope sChSc) := ⟨rfl, rfl, rfl, by decide +kernel, rfl, by decide +kernel, by decide +kernel⟩
theorem ok_chSc {f : Addr} {fd : FuncData} (F : Fun K "check_scene" "check_scene" sChSc f fd) (cO : Cl P w K mg base 1 "is_one_of" ["names", "value"] spOne) : FnOk P w K mg base CX0 2 f fd ["scenes", "value"] spChSc := by
  refine F.ok scChSc (fun vs H Q E h => ?_) (fun cdv A outer s H vs Q E hr h => ?_)
  · obtain ⟨d, z, ss, rfl, _⟩ := h
    rfl
  · obtain ⟨d, z, ss, rfl, hd, hz, q⟩ := h
    refine ⟨_, PSs.nox (pss_one (ps_if (pt_not (pt_val (pe_k cO hr (by decide) (by rfl) (pa_cons (pv 0) (pa_cons (pv 1) pa_nil))))) (pss_one ps_never) pss_nil)), ?_⟩
    refine ⟨_, rfl, _, rfl, d, z, ss, rfl, hd, _, rfl, ?_⟩
    rw [decide_eq_true hz]
    exact iteF q
end
end Cm
end

/-! ## Ck24 -/
section
set_option pp.maxSteps 400
namespace Cm
open PySem PySem.Spec PyProof.Rows L2 KG
structure ClG (P : Program) (w : World) (K : PySem.W.Frag) (mg : Str → Option Value) (base : Heap) (k : Nat) (x : Str) (sp : Sp) : Prop where
  ex : ∃ f : Addr, FnG P w K mg base k f sp ∧ mg x = some (.ref f) ∧ PySem.W.keepIn K (.ref f) = true
section
variable {X : Cx} {k j : Nat} {x : Str} {sp : Sp} {p pos : Pos} {e : Expr} {es : List Expr} {t : TA}
theorem pe_g (c : ClG X.prog X.w X.K X.mg X.base k x sp) (hr : Room j X.A) (hj : k ≤ j) (hg : X.A.guards = some []) (gl : Gl X x) (ha : PA X (e :: es) t)
    (hdb : (x == ("__debug__" : Str)) = false := by decide)
    (he : starEach (e :: es) X.env = (false, eval e X.env) :: starEach es X.env := by rfl)
    (hpl : (backTo pos (starEach es X.env)).any (·.1) = false := by rfl) : PE X (.Call (.Name x p) (e :: es) [] pos) (tK sp t) := by
  obtain ⟨f, F, hm, hk⟩ := c.ex
  exact pe_callG F (hr.mono hj) hg gl hm hk ha hdb he hpl
end
/-- all but lists stand as before -/
def SmL (H H' : Hp) : Prop := ∀ b o, H b = some o → (∀ xs, o ≠ .lst xs) → H' b = some o
theorem SmL.of {H H' : Hp} (e : Same H H') : SmL H H' := fun b o h _ => e b o h
theorem SmL.kp {H H' : Hp} {p : Addr} (J : JarAt H p) (k : Kp p H H') : SmL H H' := fun b o e n => by
  by_cases h : b = p
  · subst h
    obtain ⟨c, s, e2, _⟩ := J
    rw [e2] at e
    cases e
    exact absurd rfl (n _)
  · exact k b o e h
theorem SmL.upd {H : Hp} {l : Addr} {xs ys : List V} (h : H l = some (.lst xs)) : SmL H (L2.upd H l (.lst ys)) := fun b o e n => by
  have : b ≠ l := fun z => by
    rw [z, h] at e
    cases e
    exact n _ rfl
  rw [upd_ne this]
  exact e
theorem SqT.keepL {K : PySem.W.Frag} {H H' : Hp} {t : Addr} {xs : List V} (h : SqT K H t xs) (e : SmL H H') : SqT K H' t xs :=
  h.elim (fun h => .inl (h.elim (fun h => .inl (e _ _ h (fun _ z => by cases z))) fun ⟨o, h⟩ => .inr ⟨o, e _ _ h (fun _ z => by cases z)⟩)) fun h => .inr h
abbrev RP := V → Hp → Prop
def MonR (R : RP) : Prop := ∀ v H H', SmL H H' → R v H → R v H'
/-- values that are as R says of things, one by one -/
def AllQ {α : Type} (R : α → RP) : List α → List V → Hp → Prop
  | [], [], _ => True
  | q :: qs, v :: vs, H => R q v H ∧ AllQ R qs vs H
  | _, _, _ => False
section
variable {α : Type} {R : α → RP}
theorem AllQ.keep : ∀ {qs : List α} {vs : List V} {H H' : Hp}, (∀ q, MonR (R q)) → SmL H H' → AllQ R qs vs H → AllQ R qs vs H'
  | [], [], _, _, _, _, _ => trivial
  | q :: qs, v :: vs, H, H', m, e, h => ⟨m q v H H' e h.1, AllQ.keep m e h.2⟩
  | [], _ :: _, _, _, _, _, h => h.elim
  | _ :: _, [], _, _, _, _, h => h.elim
theorem AllQ.len : ∀ {qs : List α} {vs : List V} {H : Hp}, AllQ R qs vs H → vs.length = qs.length
  | [], [], _, _ => rfl
  | q :: qs, v :: vs, H, h => by rw [List.length_cons, List.length_cons, AllQ.len h.2]
  | [], _ :: _, _, h => h.elim
  | _ :: _, [], _, h => h.elim
theorem AllQ.append : ∀ {qs rs : List α} {vs ws : List V} {H : Hp}, AllQ R qs vs H → AllQ R rs ws H → AllQ R (qs ++ rs) (vs ++ ws) H
  | [], _, [], _, _, _, g => g
  | q :: qs, _, v :: vs, _, H, h, g => ⟨h.1, AllQ.append h.2 g⟩
  | [], _, _ :: _, _, _, h, _ => h.elim
  | _ :: _, _, [], _, _, h, _ => h.elim
theorem AllQ.get : ∀ {qs : List α} {vs : List V} {H : Hp} {i : Nat} {v : V}, AllQ R qs vs H → vs[i]? = some v → ∃ q, qs[i]? = some q ∧ R q v H
  | [], [], _, _, _, _, h => by cases h
  | q :: qs, v :: vs, H, 0, _, h, e => ⟨q, rfl, by cases e; exact h.1⟩
  | q :: qs, v :: vs, H, i + 1, w, h, e => AllQ.get (i := i) h.2 e
  | [], _ :: _, _, _, _, h, _ => h.elim
  | _ :: _, [], _, _, _, h, _ => h.elim
theorem AllQ.at : ∀ {qs : List α} {vs : List V} {H : Hp} {i : Nat} {q : α}, AllQ R qs vs H → qs[i]? = some q → ∃ v, vs[i]? = some v ∧ R q v H
  | [], [], _, _, _, _, h => by cases h
  | q :: qs, v :: vs, H, 0, _, h, e => ⟨v, rfl, by cases e; exact h.1⟩
  | q :: qs, v :: vs, H, i + 1, w, h, e => AllQ.at (i := i) h.2 e
  | [], _ :: _, _, _, _, h, _ => h.elim
  | _ :: _, [], _, _, _, h, _ => h.elim
theorem AllQ.take : ∀ {qs : List α} {vs : List V} {H : Hp} (i : Nat), AllQ R qs vs H → AllQ R (qs.take i) (vs.take i) H
  | _, _, _, 0, _ => by rw [List.take_zero, List.take_zero]; trivial
  | [], [], _, _ + 1, _ => trivial
  | q :: qs, v :: vs, H, i + 1, h => ⟨h.1, AllQ.take i h.2⟩
  | [], _ :: _, _, _ + 1, h => h.elim
  | _ :: _, [], _, _ + 1, h => h.elim
theorem AllQ.any {g : α → Bool} {e : V → Bool} : ∀ {qs : List α} {vs : List V} {H : Hp}, AllQ R qs vs H → (∀ q v, R q v H → e v = g q) → vs.any e = qs.any g
  | [], [], _, _, _ => rfl
  | q :: qs, v :: vs, H, h, z => by rw [List.any_cons, List.any_cons, z q v h.1, AllQ.any h.2 z]
  | [], _ :: _, _, h, _ => h.elim
  | _ :: _, [], _, h, _ => h.elim
end

theorem cut_take (xs : List V) (k : Nat) (hk : k ≤ xs.length) : cutV xs none (some (k : Int)) = xs.take k := by
  unfold cutV
  rw [HT.sIx_none, HT.sIx_nat, List.drop_zero, Nat.min_eq_left hk, Nat.sub_zero]
abbrev Ar := Str × Str
/-- an arrow stands there -/
def isA (K : PySem.W.Frag) (p : Ar) : RP := fun v H => ∃ t, v = .ref t ∧ H t = some (.tup [.str p.1, .str p.2])
theorem mon_isA (K : PySem.W.Frag) (p : Ar) : MonR (isA K p) := fun v H H' e h => by
  obtain ⟨t, h1, h2⟩ := h
  exact ⟨t, h1, e _ _ h2 fun _ z => by cases z⟩
def pds (p : Ar) : PyData := .tuple [.str p.1, .str p.2]
theorem eqv_pds (p q : Ar) : PyData.eqv (pds p) (pds q) = decide (p = q) := by
  have e : decide (p = q) = (decide (p.1 = q.1) && decide (p.2 = q.2)) := by
    rw [Bool.eq_iff_iff, Bool.and_eq_true, decide_eq_true_eq, decide_eq_true_eq, decide_eq_true_eq]
    exact ⟨fun h => by rw [h]; exact ⟨rfl, rfl⟩, fun h => Prod.ext h.1 h.2⟩
  rw [e]
  unfold pds
  simp [PyData.eqv, PyData.eqvAll]
  cases h1 : decide (p.1 = q.1) <;> cases h2 : decide (p.2 = q.2) <;> simp_all
theorem dp_arrow {K : PySem.W.Frag} {H : Hp} {t : Addr} {p : Ar} (h : SqT K H t [.str p.1, .str p.2]) : Dp K H (.ref t) (pds p) := .tup h (.cons (.str _) (.cons (.str _) .nil))
theorem AllQ.dpA {K : PySem.W.Frag} {H : Hp} : ∀ {qs : List Ar} {vs : List V}, AllQ (isA K) qs vs H → DpAll K H vs (qs.map pds)
  | [], [], _ => .nil
  | q :: qs, v :: vs, h => by
    obtain ⟨t, rfl, ht⟩ := h.1
    exact .cons (dp_arrow (SqT.of ht)) (AllQ.dpA h.2)
  | [], _ :: _, h => h.elim
  | _ :: _, [], h => h.elim
/-- names as the scenes of this law -/
def Nm (z : Str) : Prop := nameOk z = true ∧ z.length ≤ sizeLine ∧ PyData.strOk z = true
def NmA (p : Ar) : Prop := PyData.strOk p.1 = true ∧ PyData.strOk p.2 = true
theorem lay_pds : ∀ qs : List Ar, (∀ q ∈ qs, NmA q) → PyData.canLayAll0 (qs.map pds) = true
  | [], _ => by rfl
  | q :: qs, h => by
    have h1 := h q List.mem_cons_self
    rw [List.map_cons, PyData.canLayAll0, lay_pds qs fun r hr => h r (List.mem_cons_of_mem _ hr)]
    unfold pds
    rw [PyData.canLay0, PyData.canLayAll0, PyData.canLayAll0, PyData.canLayAll0, PyData.canLay0, PyData.canLay0, h1.1, h1.2]
    rfl
theorem depth_pds : ∀ qs : List Ar, PyData.depthAll (qs.map pds) ≤ 2
  | [] => by decide
  | q :: qs => by
    rw [List.map_cons, PyData.depthAll]
    have := depth_pds qs
    have e : (pds q).depth = 1 := rfl
    omega
theorem shaped_pds (qs : List Ar) (h : ∀ q ∈ qs, NmA q) : SeqAt.shaped (.list (qs.map pds)) = true := by
  unfold SeqAt.shaped
  rw [Bool.and_eq_true]
  refine ⟨?_, decide_eq_true ?_⟩
  · rw [PyData.canLay0]
    exact lay_pds qs h
  · rw [PyData.depth]
    have := depth_pds qs
    omega
theorem shaped_pd1 (q : Ar) (h : NmA q) : SeqAt.shaped (pds q) = true := by
  unfold SeqAt.shaped
  rw [Bool.and_eq_true]
  refine ⟨?_, decide_eq_true ?_⟩
  · unfold pds
    rw [PyData.canLay0, PyData.canLayAll0, PyData.canLayAll0, PyData.canLayAll0, PyData.canLay0, PyData.canLay0, h.1, h.2]
    rfl
  · have e : (pds q).depth = 1 := rfl
    omega
theorem any_pds (qs : List Ar) (q : Ar) : (qs.map pds).any (fun z => PyData.eqv z (pds q)) = decide (q ∈ qs) := by
  rw [List.any_map, Bool.eq_iff_iff, List.any_eq_true, decide_eq_true_eq]
  constructor
  · rintro ⟨r, hr, e⟩
    have e' : PyData.eqv (pds r) (pds q) = true := e
    rw [eqv_pds, decide_eq_true_eq] at e'
    rw [← e']
    exact hr
  · intro h
    refine ⟨q, h, ?_⟩
    show PyData.eqv (pds q) (pds q) = true
    rw [eqv_pds, decide_eq_true rfl]
theorem Room.units65 {k : Nat} {A : Around} (h : Room (k + 1) A) : A.units + 65 < cLine := by have := h.un; omega
theorem nodup_take {α : Type} {l : List α} (h : l.Nodup) {i : Nat} {x : α} (e : l[i]? = some x) : x ∉ l.take i := by
  intro hx
  obtain ⟨j, hj⟩ := List.getElem?_of_mem hx
  rw [List.getElem?_take] at hj
  split at hj
  · rename_i hji
    have := (List.getElem?_inj (by rw [List.getElem?_eq_some_iff] at hj; exact hj.1) h).mp (hj.trans e.symm)
    omega
  · cases hj
/-- the chart: names with their motions -/
def ChartAt (K : PySem.W.Frag) (H : Hp) (d : Addr) (ns : List Str) : Prop := ∃ kvs : List (Key × V), H d = some (.dK kvs) ∧ kvs.map (·.1) = ns.map Sum.inr ∧ ∀ q ∈ kvs, ∃ m, q.2 = .ref m ∧ MotAt K H m
theorem ChartAt.keep {K : PySem.W.Frag} {H H' : Hp} {d : Addr} {ns : List Str} (h : ChartAt K H d ns) (e : Same H H') : ChartAt K H' d ns := by
  obtain ⟨kvs, h1, h2, h3⟩ := h
  exact ⟨kvs, e _ _ h1, h2, fun q hq => by
    obtain ⟨m, a, b⟩ := h3 q hq
    exact ⟨m, a, b.keep e⟩⟩
theorem ChartAt.names {K : PySem.W.Frag} {H : Hp} {d : Addr} {ns : List Str} (h : ChartAt K H d ns) : NamesAt H d ns := by
  obtain ⟨kvs, h1, h2, _⟩ := h
  exact .inl ⟨kvs, h1, h2⟩
theorem val_mem {kvs : List (Key × V)} {ns : List Str} (h : kvs.map (·.1) = ns.map Sum.inr) {z : Str} (hz : z ∈ ns) : ∃ q ∈ kvs, valV kvs (Sum.inr z : Key) = some q.2 ∧ q.1 = Sum.inr z := by
  have e := val_isSome h z
  rw [decide_eq_true hz] at e
  unfold valV at e ⊢
  rw [Option.isSome_map] at e
  obtain ⟨q, hq⟩ := Option.isSome_iff_exists.mp e
  refine ⟨q, List.mem_of_find?_eq_some hq, by rw [hq]; rfl, ?_⟩
  have := List.find?_some hq
  exact of_decide_eq_true this
def spChThs : Sp := fun vs H Q _ => ∃ l : Addr, vs = [.ref l] ∧ H l = some (.lst [.str "a"]) ∧ ∀ H', Same H H' → Q .non H'
def spChScs (K : PySem.W.Frag) : Sp := fun vs H Q _ => ∃ (l d : Addr) (ns : List Str), vs = [.ref l, .ref d] ∧ H l = some (.lst [.str "a"]) ∧ ChartAt K H d ns ∧ ns ≠ [] ∧ ns.length < 60 ∧ (∀ z ∈ ns, Nm z) ∧ ∀ H', Same H H' → Q .non H'
def spChArr (K : PySem.W.Frag) : Sp := fun vs H Q _ => ∃ (d a : Addr) (ss : List Str) (ar : List Ar) (xs : List V), vs = [.ref d, .ref a] ∧ NamesAt H d ss ∧ H a = some (.lst xs) ∧ AllQ (isA K) ar xs H ∧ ar.Nodup ∧ (∀ p ∈ ar, p.1 ∈ ss ∧ p.2 ∈ ss ∧ NmA p) ∧ ∀ H', Same H H' → Q .non H'
def spChRes : Sp := fun vs H Q _ => ∃ (d a : Addr) (ss rs : List Str), vs = [.ref d, .ref a] ∧ NamesAt H d ss ∧ H a = some (.lst (rs.map V.str)) ∧ rs.Nodup ∧ (∀ z ∈ rs, z ∈ ss) ∧ ∀ H', Same H H' → Q .non H'
section
variable {P : Program} {w : World} {K : PySem.W.Frag} {mg : Str → Option Value} {base : Heap}
theorem scChThs : FnScope ["things", "position", "thing"] ["things"] (defScope sChThs) := ⟨rfl, rfl, rfl, by decide +kernel, rfl, by decide +kernel, by decide +kernel⟩
theorem ok_chThs {f : Addr} {fd : FuncData} (F : Fun K "check_things" "check_things" sChThs f fd) (T : TxtP mg) (cL : Cl P w K mg base 1 "is_list" ["value"] spIsList) (cN : Cl P w K mg base 1 "is_name" ["value"] spName) : FnOk P w K mg base CX0 2 f fd ["things"] spChThs := by
  refine F.ok scChThs (fun vs H Q E h => ?_) (fun cdv A outer s H vs Q E hr h => ?_)
  · obtain ⟨l, rfl, _⟩ := h
    rfl
  · obtain ⟨l, rfl, hl, q⟩ := h
    refine ⟨_, PSs.nox (pss_cons (ps_if (PW.pt (pw_or (pt_not (pt_val (pe_k cL hr (by decide) (by rfl) (pa_cons (pv 0) pa_nil)))) (pw_or1 (pt_cmpR op_eq (pe_callB call_len (by rfl) T.len PySem.boot_len (pa_cons (pv 0) pa_nil)) pe_int (nomark _))))) (pss_one ps_never) pss_nil)
      (pss_one (ps_for PassesOwn.never rfl (pi_enum (by rfl) T.enumerate (pa_cons (pv 0) pa_nil)) (pg_tup (by rfl) (pgs_cons (pg_name (i := 1) scChThs.nd rfl (Or.inl rfl)) (pgs_cons (pg_name (i := 2) scChThs.nd rfl (Or.inl rfl)) pgs_nil)))
        (pss_one (ps_if (PW.pt (pw_or (pt_not (pt_val (pe_k cN hr (by decide) (by rfl) (pa_cons (pv 2) pa_nil)))) (pw_or1 (pt_cmpR op_in_seq (pv 2) (pe_slice sl_list (pv 0) po_none (po_some (pv 1))) (by rfl))))) (pss_one ps_never) pss_nil))))), ?_⟩
    refine ⟨_, rfl, l, _, rfl, hl, fun H1 s1 => ⟨_, rfl, ?_⟩⟩
    refine iteF ⟨_, rfl, _, _, rfl, .inl ⟨_, SqL.of (s1 _ _ hl), rfl⟩, rfl, _, rfl, ?_⟩
    refine ite2 (fun h => absurd h (by simp)) (fun _ => ?_)
    refine ⟨_, rfl, l, _, rfl, SqL.of (s1 _ _ hl), for_it (walk_enum (xs := [V.str "a"])) (fun i σ G => (∃ x1 x2, σ = [some (.ref l), x1, x2]) ∧ Same H G) ⟨⟨none, none, rfl⟩, s1⟩ (fun i σ G _ p => SqL.of (p.2 _ _ hl)) ?_ ?_⟩
    · rintro i x σ G G' hi ⟨⟨x1, x2, rfl⟩, sg⟩ ⟨T0, y0, y, rfl, nT, rfl, e0, hy⟩
      cases e0
      have i0 : i = 0 := by
        have : i < 1 := hi
        omega
      subst i0
      have ey : y = V.str "a" := by
        have h1 : some (V.str "a") = some y := hy
        exact (Option.some.inj h1).symm
      subst ey
      have s2 := Same.trans' sg (Same.upd_new (o := .tup [.int (0 : Nat), V.str "a"]) nT)
      refine ⟨T0, _, rfl, SqT.of upd_same, rfl, _, _, rfl, _, _, rfl, rfl, ?_⟩
      refine ⟨_, rfl, _, rfl, (by show ("a" : Str).length ≤ sizeLine; decide), _, rfl, ?_⟩
      rw [show nameOk "a" = true by decide +kernel]
      refine iteF ⟨_, rfl, _, rfl, _, rfl, _, rfl, l, _, rfl, SqL.of (s2 _ _ hl), fun p1 n1 => ?_⟩
      rw [cut_take _ 0 (Nat.zero_le _)]
      refine ⟨p1, [], rfl, .inl (SqL.of upd_same), rfl, rfl, _, rfl, ?_⟩
      refine ite2 (fun h => absurd h (by decide)) (fun _ => ?_)
      exact ⟨⟨_, _, rfl⟩, Same.trans' s2 (Same.upd_new n1)⟩
    · rintro σ G ⟨_, sg⟩
      exact q G sg
theorem scChScs : FnScope ["things", "scenes", "name"] ["things", "scenes"] (defScope sChScs) := ⟨rfl, rfl, rfl, by decide +kernel, rfl, by decide +kernel, by decide +kernel⟩
theorem ok_chScs {f : Addr} {fd : FuncData} (F : Fun K "check_scenes" "check_scenes" sChScs f fd) (T : TxtP mg) (cN : Cl P w K mg base 1 "is_name" ["value"] spName) (cM : Cl P w K mg base 3 "are_motions" ["things", "value"] (spAreM K)) : FnOk P w K mg base CX0 4 f fd ["things", "scenes"] (spChScs K) := by
  refine F.ok scChScs (fun vs H Q E h => ?_) (fun cdv A outer s H vs Q E hr h => ?_)
  · obtain ⟨l, d, ns, rfl, _⟩ := h
    rfl
  · obtain ⟨l, d, ns, rfl, hl, hd, h0, h60, hn, q⟩ := h
    have hu := hu_of hr
    obtain ⟨kvs, hd1, hd2, hd3⟩ := id hd
    have el : kvs.length = ns.length := by
      have := congrArg List.length hd2
      rwa [List.length_map, List.length_map] at this
    have npos : 0 < ns.length := List.length_pos_iff.mpr h0
    refine ⟨_, PSs.nox (pss_cons (ps_if (PW.pt (pw_or (pt_not (pt_val (pe_callB call_isi (by rfl) T.isi (by decide +kernel) (pa_cons (pv 1) (pa_cons (pe_bltn (v := .ty "dict") (by rfl) T.dict (by decide +kernel) rfl) pa_nil)))))
        (pw_or (pt_cmpR op_eq (pe_callB call_lenD (by rfl) T.len PySem.boot_len (pa_cons (pv 1) pa_nil)) pe_int (nomark _))
        (pw_or1 (pt_not (pt_val (pe_callB (cr_all (by rfl)) (by rfl) T.all (by decide +kernel) (pa_cons (pe_lock (pe_lc (own := [("name", 2)]) (g := gName 2) (by rfl) scChScs.nd (pi_keys (pv 1))
          (blkOk_by (own := [("name", 2)]) (N := ["things", "scenes", "name"]) (sc := defScope sChScs) (by decide +kernel)) (fun _ _ _ _ _ => pg_name (i := 2) scChScs.nd rfl (Or.inl rfl)) (fun _ _ _ _ _ => pts_nil)
          (fun _ _ _ _ _ => pe_k cN hr (by decide) (by rfl) (pa_cons (pv 2) pa_nil)))) pa_nil)))))))) (pss_one ps_never) pss_nil)
      (pss_one (ps_for PassesOwn.never rfl (pi_list (pe_callB (call_sortedD (by rfl)) (by rfl) T.sorted (by decide +kernel) (pa_cons (pv 1) pa_nil))) (pg_name (i := 2) scChScs.nd rfl (Or.inl rfl))
        (pss_one (ps_if (pt_not (pt_val (pe_k cM hr (by decide) (by rfl) (pa_cons (pv 0) (pa_cons (pe_dget hu (pv 1) (pv 2) (fun _ _ => rfl)) pa_nil))))) (pss_one ps_never) pss_nil))))), ?_⟩
    refine ⟨_, rfl, _, _, _, _, _, rfl, .ty _, .base (.dK hd1), kit_ty (r := true) (by decide +kernel), _, rfl, ?_⟩
    refine iteF ⟨_, rfl, d, kvs, rfl, hd1, rfl, _, rfl, ?_⟩
    refine ite2 (fun h => absurd (V.int.inj (of_decide_eq_true h)) (by omega)) (fun _ => ?_)
    refine ⟨d, _, hd1, trivial, fun od => ⟨_, rfl, d, od, rfl, .inl ⟨kvs, upd_same, fun D hD => ?_⟩⟩⟩
    have ndD : d ≠ D := fun e => by
      rw [← e, upd_same] at hD
      cases hD
    have hD0 : H D = none := by
      rw [upd_ne ndD.symm] at hD
      exact hD
    refine lc_it walk_keys (fun i G => G d = some (.frz od (.dK kvs)) ∧ (∀ b o, H b = some o → b ≠ d → G b = some o) ∧ G D = some (.lst ((List.replicate i true).map V.bl))) ?_ (fun _ _ _ p => p.1) ?_ ?_
    · refine ⟨by rw [upd_ne ndD]; exact upd_same, fun b o e hb => ?_, upd_same⟩
      rw [upd_ne (ne_of_none e hD0), upd_ne hb]
      exact e
    · rintro i x G G' hi ⟨p1, p2, p3⟩ ⟨rfl, k, v, hk, rfl⟩
      obtain ⟨z, hz, rfl⟩ : ∃ z ∈ ns, k = Sum.inr z := by
        have h1 : k ∈ kvs.map (·.1) := List.mem_map.mpr ⟨(k, v), List.mem_of_getElem? hk, rfl⟩
        rw [hd2] at h1
        obtain ⟨z, hz, e⟩ := List.mem_map.mp h1
        exact ⟨z, hz, e.symm⟩
      obtain ⟨n1, n2, n3⟩ := hn z hz
      refine ⟨rfl, _, rfl, z, rfl, n2, ?_⟩
      rw [n1]
      refine ⟨_, p3, ?_, by rw [upd_ne ndD]; exact p1, fun b o e hb => ?_, ?_⟩
      · rw [List.length_map, List.length_replicate]
        have : (60 : Nat) < sizeLine := by decide
        omega
      · rw [upd_ne (ne_of_none e hD0)]
        exact p2 b o e hb
      · rw [upd_same, List.replicate_succ', List.map_append]
        rfl
    · rintro G ⟨p1, p2, p3⟩
      have s1 : Same H (upd G d (.dK kvs)) := fun b o e => by
        by_cases hb : b = d
        · subst hb
          rw [upd_same, ← hd1]
          exact e
        · rw [upd_ne hb]
          exact p2 b o e hb
      refine ⟨p1, D, List.replicate kvs.length true, rfl, SqL.of (by rw [upd_ne ndD.symm]; exact p3), ?_⟩
      rw [all_true]
      refine ⟨_, rfl, ?_⟩
      refine iteF ⟨_, rfl, d, kvs, ns, rfl, .inl (s1 _ _ hd1), hd2, by omega, fun ys p perm srt np => ?_⟩
      have s2 := Same.trans' s1 (Same.upd_new (o := .lst (ys.map V.str)) np)
      refine ⟨p, rfl, ⟨_, SqL.of upd_same⟩, for_list (K := K) (a := p) (xs := ys.map V.str) (fun i σ G' => (∃ x2, σ = [some (.ref l), some (.ref d), x2]) ∧ Same (upd (upd G d (.dK kvs)) p (.lst (ys.map V.str))) G') ⟨⟨none, rfl⟩, Same.refl _⟩ (fun i σ G' _ p => SqL.of (p.2 _ _ upd_same)) ?_ ?_⟩
      · rintro i x σ G' hx ⟨⟨x2, rfl⟩, sg⟩
        rw [List.getElem?_map] at hx
        obtain ⟨z, ez, rfl⟩ : ∃ z, ys[i]? = some z ∧ x = .str z := by
          cases e : ys[i]? with
          | none => rw [e] at hx; cases hx
          | some z => rw [e] at hx; cases hx; exact ⟨z, rfl, rfl⟩
        have hz : z ∈ ns := perm.mem_iff.mp (List.mem_of_getElem? ez)
        obtain ⟨qq, hq, eq, _⟩ := val_mem hd2 hz
        obtain ⟨m, em, hm⟩ := hd3 qq hq
        have sH := Same.trans' s2 sg
        refine ⟨_, rfl, _, rfl, _, rfl, d, .ref m, rfl, by rw [← em, ← eq]; exact DGet.k (k := Sum.inr z) (sH _ _ hd1), l, m, rfl, sH _ _ hl, hm.keep sH, fun G2 s3 => ⟨_, rfl, ?_⟩⟩
        exact iteF ⟨⟨_, rfl⟩, Same.trans' sg s3⟩
      · rintro σ G' ⟨_, sg⟩
        exact q G' (Same.trans' s2 sg)
theorem scChArr : FnScope ["scenes", "arrows", "position", "arrow"] ["scenes", "arrows"] (defScope sChArr) := ⟨rfl, rfl, rfl, by decide +kernel, rfl, by decide +kernel, by decide +kernel⟩
theorem ok_chArr {f : Addr} {fd : FuncData} (F : Fun K "check_arrows" "check_arrows" sChArr f fd) (T : TxtP mg) (cL : Cl P w K mg base 1 "is_list" ["value"] spIsList) (cA : Cl P w K mg base 2 "is_arrow" ["scenes", "value"] (spArr K)) : FnOk P w K mg base CX0 3 f fd ["scenes", "arrows"] (spChArr K) := by
  refine F.ok scChArr (fun vs H Q E h => ?_) (fun cdv A outer s H vs Q E hr h => ?_)
  · obtain ⟨d, a, ss, ar, xs, rfl, _⟩ := h
    rfl
  · obtain ⟨d, a, ss, ar, xs, rfl, hd, ha, hal, nd, har, q⟩ := h
    refine ⟨_, PSs.nox (pss_cons (ps_if (pt_not (pt_val (pe_k cL hr (by decide) (by rfl) (pa_cons (pv 1) pa_nil)))) (pss_one ps_never) pss_nil)
      (pss_one (ps_for PassesOwn.never rfl (pi_enum (by rfl) T.enumerate (pa_cons (pv 1) pa_nil)) (pg_tup (by rfl) (pgs_cons (pg_name (i := 2) scChArr.nd rfl (Or.inl rfl)) (pgs_cons (pg_name (i := 3) scChArr.nd rfl (Or.inl rfl)) pgs_nil)))
        (pss_one (ps_if (PW.pt (pw_or (pt_not (pt_val (pe_k cA hr (by decide) (by rfl) (pa_cons (pv 0) (pa_cons (pv 3) pa_nil))))) (pw_or1 (pt_cmpR (op_inD (Room.units65 hr)) (pv 3) (pe_slice sl_list (pv 1) po_none (po_some (pv 2))) (by rfl))))) (pss_one ps_never) pss_nil))))), ?_⟩
    refine ⟨_, rfl, a, _, rfl, ha, fun H1 s1 => ⟨_, rfl, ?_⟩⟩
    refine iteF ⟨_, rfl, a, xs, rfl, SqL.of (s1 _ _ ha), for_it (walk_enum (xs := xs)) (fun i σ G => (∃ x1 x2, σ = [some (.ref d), some (.ref a), x1, x2]) ∧ Same H G) ⟨⟨none, none, rfl⟩, s1⟩ (fun i σ G _ p => SqL.of (p.2 _ _ ha)) ?_ ?_⟩
    · rintro i x σ G G' hi ⟨⟨x1, x2, rfl⟩, sg⟩ ⟨T0, y0, y, rfl, nT, rfl, e0, hy⟩
      cases e0
      have s2 := Same.trans' sg (Same.upd_new (o := .tup [.int (i : Nat), y]) nT)
      have al2 := hal.keep (mon_isA K) (.of s2)
      obtain ⟨p, ep, t, rfl, ht⟩ := AllQ.get al2 hy
      obtain ⟨p1, p2, p3⟩ := har p (List.mem_of_getElem? ep)
      refine ⟨T0, _, rfl, SqT.of upd_same, rfl, _, _, rfl, _, _, rfl, rfl, ?_⟩
      generalize upd G T0 (.tup [.int (i : Nat), .ref t]) = G0 at s2 al2 ht
      refine ⟨_, rfl, _, rfl, d, t, p.1, p.2, ss, rfl, hd.keep s2, SqT.of ht, p1, p2, fun G1 s3 => ⟨_, rfl, ?_⟩⟩
      have s13 := Same.trans' s2 s3
      refine iteF ⟨_, rfl, _, rfl, _, rfl, _, rfl, a, xs, rfl, SqL.of (s13 _ _ ha), fun q1 n1 => ?_⟩
      rw [cut_take xs i (Nat.le_of_lt hi)]
      have s14 := Same.trans' s13 (Same.upd_new (o := .lst (xs.take i)) n1)
      have al4 : AllQ (isA K) (ar.take i) (xs.take i) (upd G1 q1 (.lst (xs.take i))) := (hal.keep (mon_isA K) (.of s14)).take i
      refine ⟨pds p, (ar.take i).map pds, dp_arrow (SqT.ext (SqT.of ht) (Same.trans' s3 (Same.upd_new n1))), .lst (SqL.of upd_same) (AllQ.dpA al4), shaped_pd1 p p3, shaped_pds _ (fun r hr => (har r (List.mem_of_mem_take hr)).2.2), _, rfl, ?_⟩
      rw [any_pds, decide_eq_false (nodup_take nd ep)]
      exact iteF ⟨⟨_, _, rfl⟩, s14⟩
    · rintro σ G ⟨_, sg⟩
      exact q G sg
theorem scChRes : FnScope ["scenes", "resting", "position", "scene"] ["scenes", "resting"] (defScope sChRes) := ⟨rfl, rfl, rfl, by decide +kernel, rfl, by decide +kernel, by decide +kernel⟩
theorem ok_chRes {f : Addr} {fd : FuncData} (F : Fun K "check_resting" "check_resting" sChRes f fd) (T : TxtP mg) (cL : Cl P w K mg base 1 "is_list" ["value"] spIsList) (cO : Cl P w K mg base 1 "is_one_of" ["names", "value"] spOne) : FnOk P w K mg base CX0 3 f fd ["scenes", "resting"] spChRes := by
  refine F.ok scChRes (fun vs H Q E h => ?_) (fun cdv A outer s H vs Q E hr h => ?_)
  · obtain ⟨d, a, ss, rs, rfl, _⟩ := h
    rfl
  · obtain ⟨d, a, ss, rs, rfl, hd, ha, nd, hrs, q⟩ := h
    refine ⟨_, PSs.nox (pss_cons (ps_if (pt_not (pt_val (pe_k cL hr (by decide) (by rfl) (pa_cons (pv 1) pa_nil)))) (pss_one ps_never) pss_nil)
      (pss_one (ps_for PassesOwn.never rfl (pi_enum (by rfl) T.enumerate (pa_cons (pv 1) pa_nil)) (pg_tup (by rfl) (pgs_cons (pg_name (i := 2) scChRes.nd rfl (Or.inl rfl)) (pgs_cons (pg_name (i := 3) scChRes.nd rfl (Or.inl rfl)) pgs_nil)))
        (pss_one (ps_if (PW.pt (pw_or (pt_not (pt_val (pe_k cO hr (by decide) (by rfl) (pa_cons (pv 0) (pa_cons (pv 3) pa_nil))))) (pw_or1 (pt_cmpR op_in_seq (pv 3) (pe_slice sl_list (pv 1) po_none (po_some (pv 2))) (by rfl))))) (pss_one ps_never) pss_nil))))), ?_⟩
    refine ⟨_, rfl, a, _, rfl, ha, fun H1 s1 => ⟨_, rfl, ?_⟩⟩
    refine iteF ⟨_, rfl, a, _, rfl, SqL.of (s1 _ _ ha), for_it (walk_enum (xs := rs.map V.str)) (fun i σ G => (∃ x1 x2, σ = [some (.ref d), some (.ref a), x1, x2]) ∧ Same H G) ⟨⟨none, none, rfl⟩, s1⟩ (fun i σ G _ p => SqL.of (p.2 _ _ ha)) ?_ ?_⟩
    · rintro i x σ G G' hi ⟨⟨x1, x2, rfl⟩, sg⟩ ⟨T0, y0, y, rfl, nT, rfl, e0, hy⟩
      cases e0
      have s2 := Same.trans' sg (Same.upd_new (o := .tup [.int (i : Nat), y]) nT)
      have hy : (rs.map V.str)[i]? = some y := hy
      rw [List.getElem?_map] at hy
      obtain ⟨z, ez, rfl⟩ : ∃ z, rs[i]? = some z ∧ y = .str z := by
        cases e : rs[i]? with
        | none => rw [e] at hy; cases hy
        | some z => rw [e] at hy; cases hy; exact ⟨z, rfl, rfl⟩
      refine ⟨T0, _, rfl, SqT.of upd_same, rfl, _, _, rfl, _, _, rfl, rfl, ?_⟩
      refine ⟨_, rfl, _, rfl, d, z, ss, rfl, hd.keep s2, _, rfl, ?_⟩
      rw [decide_eq_true (hrs z (List.mem_of_getElem? ez))]
      refine iteF ⟨_, rfl, _, rfl, _, rfl, _, rfl, a, _, rfl, SqL.of (s2 _ _ ha), fun q1 n1 => ?_⟩
      rw [cut_take _ i (Nat.le_of_lt hi), ← List.map_take]
      refine ⟨q1, _, rfl, .inl (SqL.of upd_same), rfl, flat_strs _, _, rfl, ?_⟩
      rw [inV_str, decide_eq_false (nodup_take nd ez)]
      exact iteF ⟨⟨_, _, rfl⟩, Same.trans' s2 (Same.upd_new n1)⟩
    · rintro σ G ⟨_, sg⟩
      exact q G sg
end
end Cm
end

/-! ## Mt24 -/
section
set_option pp.maxSteps 400
/-! what is reached, two ways. -/
namespace Cm
open PySem PySem.Spec PyProof.Rows L2 KG
theorem nodup_one (x : Str) : [x].Nodup := List.nodup_cons.mpr ⟨by simp, List.nodup_nil⟩
inductive Reach (ar : List Ar) (f : Str) : Str → Prop
  | base : Reach ar f f
  | step {x y : Str} : Reach ar f x → (x, y) ∈ ar → Reach ar f y
theorem Reach.mono {ar br : List Ar} {f z : Str} (h : ∀ p ∈ ar, p ∈ br) (r : Reach ar f z) : Reach br f z := by
  induction r with
  | base => exact .base
  | step _ e ih => exact .step ih (h _ e)
/-- closed under the arrows -/
def Closed (ar : List Ar) (ks : List Str) : Prop := ∀ p ∈ ar, p.1 ∈ ks → p.2 ∈ ks
theorem reach_in {ar : List Ar} {f : Str} {ks : List Str} (hf : f ∈ ks) (c : Closed ar ks) {z : Str} (r : Reach ar f z) : z ∈ ks := by
  induction r with
  | base => exact hf
  | step _ e ih => exact c _ e ih
def arrStep (ks : List Str) (p : Ar) : List Str := if p.1 ∈ ks then (if p.2 ∈ ks then ks else ks ++ [p.2]) else ks
def round (ar : List Ar) (ks : List Str) : List Str := ar.foldl arrStep ks
def rounds (ar : List Ar) : Nat → List Str → List Str
  | 0, ks => ks
  | n + 1, ks => rounds ar n (round ar ks)
theorem rounds_succ (ar : List Ar) : ∀ (n : Nat) (ks : List Str), rounds ar (n + 1) ks = round ar (rounds ar n ks)
  | 0, _ => rfl
  | n + 1, ks => by
    show rounds ar (n + 1) (round ar ks) = _
    rw [rounds_succ ar n]
    rfl
theorem step_sub {ks : List Str} {p : Ar} {z : Str} (h : z ∈ ks) : z ∈ arrStep ks p := by
  unfold arrStep
  split
  · split
    · exact h
    · exact List.mem_append_left _ h
  · exact h
theorem step_len (ks : List Str) (p : Ar) : ks.length ≤ (arrStep ks p).length := by
  unfold arrStep
  split
  · split
    · exact Nat.le_refl _
    · rw [List.length_append]
      exact Nat.le_add_right _ _
  · exact Nat.le_refl _
theorem step_eq {ks : List Str} {p : Ar} (h : (arrStep ks p).length = ks.length) : arrStep ks p = ks := by
  unfold arrStep at h ⊢
  split
  · rename_i h1
    rw [if_pos h1] at h
    split
    · rfl
    · rename_i h2
      rw [if_neg h2, List.length_append] at h
      simp at h
  · rfl
theorem step_has {ks : List Str} {p : Ar} (h : p.1 ∈ ks) : p.2 ∈ arrStep ks p := by
  unfold arrStep
  rw [if_pos h]
  split
  · assumption
  · exact List.mem_append_right _ (List.mem_singleton_self _)
theorem round_sub : ∀ (ar : List Ar) {ks : List Str} {z : Str}, z ∈ ks → z ∈ round ar ks
  | [], _, _, h => h
  | p :: ar, _, _, h => round_sub ar (step_sub h)
theorem round_len : ∀ (ar : List Ar) (ks : List Str), ks.length ≤ (round ar ks).length
  | [], _ => Nat.le_refl _
  | p :: ar, ks => Nat.le_trans (step_len ks p) (round_len ar (arrStep ks p))
theorem round_eq : ∀ (ar : List Ar) {ks : List Str}, (round ar ks).length = ks.length → round ar ks = ks ∧ Closed ar ks
  | [], _, _ => ⟨rfl, fun p hp => by cases hp⟩
  | p :: ar, ks, h => by
    have h' : (round ar (arrStep ks p)).length = ks.length := h
    have a := step_len ks p
    have b := round_len ar (arrStep ks p)
    have e := step_eq (ks := ks) (p := p) (by omega)
    rw [e] at h'
    obtain ⟨e1, c⟩ := round_eq ar h'
    refine ⟨?_, fun q hq hk => ?_⟩
    · show round ar (arrStep ks p) = ks
      rw [e]
      exact e1
    · rcases List.mem_cons.mp hq with rfl | hq
      · have := step_has (p := q) hk
        rw [e] at this
        exact this
      · exact c q hq hk
theorem round_closed {ar : List Ar} {ks : List Str} (c : Closed ar ks) : round ar ks = ks := by
  have : ∀ (br : List Ar), (∀ p ∈ br, p ∈ ar) → round br ks = ks := by
    intro br
    induction br with
    | nil => intro _; rfl
    | cons p br ih =>
      intro h
      have e : arrStep ks p = ks := by
        unfold arrStep
        split
        · rename_i h1
          rw [if_pos (c p (h p List.mem_cons_self) h1)]
        · rfl
      show round br (arrStep ks p) = ks
      rw [e]
      exact ih fun q hq => h q (List.mem_cons_of_mem _ hq)
  exact this ar fun _ h => h
theorem round_all {P : Str → Prop} : ∀ (ar : List Ar) {ks : List Str}, (∀ p ∈ ar, P p.1 → P p.2) → (∀ z ∈ ks, P z) → ∀ z ∈ round ar ks, P z
  | [], _, _, h => h
  | p :: ar, ks, hp, h => round_all ar (fun q hq => hp q (List.mem_cons_of_mem _ hq)) (fun z hz => by
      unfold arrStep at hz
      split at hz
      · rename_i h1
        split at hz
        · exact h z hz
        · rcases List.mem_append.mp hz with hz | hz
          · exact h z hz
          · rw [List.mem_singleton.mp hz]
            exact hp p List.mem_cons_self (h _ h1)
      · exact h z hz)
theorem round_nodup : ∀ (ar : List Ar) {ks : List Str}, ks.Nodup → (round ar ks).Nodup
  | [], _, h => h
  | p :: ar, ks, h => round_nodup ar (by
      unfold arrStep
      split
      · split
        · exact h
        · rename_i h2
          rw [List.nodup_append]
          exact ⟨h, nodup_one _, fun a ha b hb e => h2 (by rw [← List.mem_singleton.mp hb, ← e]; exact ha)⟩
      · exact h)
/-- a list without doubles among others is no longer -/
theorem nodup_le {α : Type} [DecidableEq α] : ∀ {ks ns : List α}, ks.Nodup → (∀ z ∈ ks, z ∈ ns) → ks.length ≤ ns.length
  | [], _, _, _ => Nat.zero_le _
  | k :: ks, ns, h, hs => by
    have h1 := List.nodup_cons.mp h
    have hk := hs k List.mem_cons_self
    have h2 := nodup_le (ks := ks) (ns := ns.erase k) h1.2 (fun z hz => (List.mem_erase_of_ne (fun e => h1.1 (by rw [← e]; exact hz))).mpr (hs z (List.mem_cons_of_mem _ hz)))
    rw [List.length_erase_of_mem hk] at h2
    have := List.length_pos_of_mem hk
    rw [List.length_cons]
    omega
theorem rounds_end {ar : List Ar} {ns : List Str} (hw : ∀ p ∈ ar, p.2 ∈ ns) : ∀ (m : Nat) {ks : List Str}, ks.Nodup → (∀ z ∈ ks, z ∈ ns) → Closed ar (rounds ar m ks) ∨ ks.length + m ≤ (rounds ar m ks).length
  | 0, _, _, _ => .inr (Nat.le_refl _)
  | m + 1, ks, nd, hs => by
    have a := round_len ar ks
    by_cases e : (round ar ks).length = ks.length
    · obtain ⟨e1, c⟩ := round_eq ar e
      refine .inl ?_
      have : ∀ n, rounds ar n ks = ks := by
        intro n
        induction n with
        | zero => rfl
        | succ n ih => rw [rounds_succ, ih, e1]
      rw [this]
      exact c
    · rcases rounds_end hw m (round_nodup ar nd) (round_all ar (fun p hp _ => hw p hp) hs) with c | l
      · exact .inl c
      · refine .inr ?_
        show ks.length + (m + 1) ≤ (rounds ar m (round ar ks)).length
        omega
theorem rounds_all {P : Str → Prop} {ar : List Ar} (hp : ∀ p ∈ ar, P p.1 → P p.2) : ∀ (n : Nat) {ks : List Str}, (∀ z ∈ ks, P z) → ∀ z ∈ rounds ar n ks, P z
  | 0, _, h => h
  | n + 1, _, h => rounds_all hp n (round_all ar hp h)
theorem rounds_nodup {ar : List Ar} : ∀ (n : Nat) {ks : List Str}, ks.Nodup → (rounds ar n ks).Nodup
  | 0, _, h => h
  | n + 1, _, h => rounds_nodup n (round_nodup ar h)
theorem rounds_sub {ar : List Ar} : ∀ (n : Nat) {ks : List Str} {z : Str}, z ∈ ks → z ∈ rounds ar n ks
  | 0, _, _, h => h
  | n + 1, _, _, h => rounds_sub n (round_sub ar h)
/-- all that is reached, none twice -/
def IsR (ar : List Ar) (f : Str) (ks : List Str) : Prop := ks.Nodup ∧ ∀ z, z ∈ ks ↔ Reach ar f z
theorem rounds_reach {ar : List Ar} {ns : List Str} {f : Str} (hw : ∀ p ∈ ar, p.2 ∈ ns) (hf : f ∈ ns) : IsR ar f (rounds ar ns.length [f]) := by
  have nd := rounds_nodup (ar := ar) ns.length (nodup_one f)
  have hin : ∀ z ∈ rounds ar ns.length [f], z ∈ ns := rounds_all (P := fun z => z ∈ ns) (fun p hp _ => hw p hp) ns.length (fun z hz => by rw [List.mem_singleton.mp hz]; exact hf)
  have c : Closed ar (rounds ar ns.length [f]) := by
    rcases rounds_end hw ns.length (nodup_one f) (fun z hz => by rw [List.mem_singleton.mp hz]; exact hf) with c | l
    · exact c
    · have := nodup_le nd hin
      simp at l
      omega
  refine ⟨nd, fun z => ⟨fun hz => ?_, fun r => ?_⟩⟩
  · exact rounds_all (P := Reach ar f) (fun p hp hx => .step hx hp) ns.length (fun z hz => by rw [List.mem_singleton.mp hz]; exact .base) z hz
  · exact reach_in (rounds_sub _ (List.mem_singleton_self f)) c r
/-- the law's own look: what is found, and what was found last -/
def nextL (ss : List Str) (ar : List Ar) (last : List Str) : List Str := ss.filter fun to => last.any fun out => decide ((out, to) ∈ ar)
def wave (ss : List Str) (ar : List Ar) (s : List Str × List Str) : List Str × List Str := (s.1 ++ (nextL ss ar s.2).filter (fun z => decide (z ∉ s.1)), nextL ss ar s.2)
def waves (ss : List Str) (ar : List Ar) : Nat → List Str × List Str → List Str × List Str
  | 0, s => s
  | n + 1, s => waves ss ar n (wave ss ar s)
theorem waves_succ (ss : List Str) (ar : List Ar) : ∀ (n : Nat) (s : List Str × List Str), waves ss ar (n + 1) s = wave ss ar (waves ss ar n s)
  | 0, _ => rfl
  | n + 1, s => by
    show waves ss ar (n + 1) (wave ss ar s) = _
    rw [waves_succ ss ar n]
    rfl
structure WOk (ss : List Str) (ar : List Ar) (f : Str) (s : List Str × List Str) : Prop where
  nd : s.1.Nodup
  sub : ∀ z ∈ s.2, z ∈ s.1
  ins : ∀ z ∈ s.1, z ∈ ss
  rch : ∀ z ∈ s.1, Reach ar f z
  has : f ∈ s.1
  frt : ∀ p ∈ ar, p.1 ∈ s.1 → p.2 ∈ s.1 ∨ p.1 ∈ s.2
theorem mem_next {ss : List Str} {ar : List Ar} {last : List Str} {z : Str} : z ∈ nextL ss ar last ↔ z ∈ ss ∧ ∃ x ∈ last, (x, z) ∈ ar := by
  unfold nextL
  rw [List.mem_filter, List.any_eq_true]
  constructor
  · rintro ⟨h1, x, hx, e⟩
    exact ⟨h1, x, hx, of_decide_eq_true e⟩
  · rintro ⟨h1, x, hx, e⟩
    exact ⟨h1, x, hx, decide_eq_true e⟩
theorem WOk.wave {ss : List Str} {ar : List Ar} {f : Str} {s : List Str × List Str} (h : WOk ss ar f s) (hss : ss.Nodup) (hw : ∀ p ∈ ar, p.2 ∈ ss) : WOk ss ar f (wave ss ar s) := by
  have mem : ∀ {z}, z ∈ (Cm.wave ss ar s).1 ↔ z ∈ s.1 ∨ z ∈ nextL ss ar s.2 := by
    intro z
    unfold Cm.wave
    rw [List.mem_append, List.mem_filter]
    constructor
    · rintro (h1 | ⟨h1, _⟩)
      · exact .inl h1
      · exact .inr h1
    · rintro (h1 | h1)
      · exact .inl h1
      · by_cases h2 : z ∈ s.1
        · exact .inl h2
        · exact .inr ⟨h1, decide_eq_true h2⟩
  have nr : ∀ {z}, z ∈ nextL ss ar s.2 → Reach ar f z := fun hz => by
    obtain ⟨_, x, hx, e⟩ := mem_next.mp hz
    exact .step (h.rch x (h.sub x hx)) e
  refine ⟨?_, fun z hz => mem.mpr (.inr hz), fun z hz => ?_, fun z hz => ?_, mem.mpr (.inl h.has), fun p hp hx => ?_⟩
  · show (s.1 ++ (nextL ss ar s.2).filter (fun z => decide (z ∉ s.1))).Nodup
    rw [List.nodup_append]
    refine ⟨h.nd, (hss.filter _).filter _, fun a ha b hb e => ?_⟩
    have := of_decide_eq_true (List.mem_filter.mp hb).2
    rw [← e] at this
    exact this ha
  · rcases mem.mp hz with hz | hz
    · exact h.ins z hz
    · exact (mem_next.mp hz).1
  · rcases mem.mp hz with hz | hz
    · exact h.rch z hz
    · exact nr hz
  · rcases mem.mp hx with hx | hx
    · rcases h.frt p hp hx with h1 | h1
      · exact .inl (mem.mpr (.inl h1))
      · exact .inl (mem.mpr (.inr (mem_next.mpr ⟨hw p hp, p.1, h1, hp⟩)))
    · exact .inr hx
theorem wave_len {ss : List Str} {ar : List Ar} (s : List Str × List Str) : s.1.length ≤ (wave ss ar s).1.length := by
  unfold wave
  rw [List.length_append]
  exact Nat.le_add_right _ _
theorem wave_stop {ss : List Str} {ar : List Ar} {f : Str} {s : List Str × List Str} (h : WOk ss ar f s) (hw : ∀ p ∈ ar, p.2 ∈ ss) (e : (wave ss ar s).1.length = s.1.length) : Closed ar s.1 := by
  unfold wave at e
  rw [List.length_append] at e
  have e0 : (nextL ss ar s.2).filter (fun z => decide (z ∉ s.1)) = [] := List.eq_nil_of_length_eq_zero (by omega)
  intro p hp hx
  rcases h.frt p hp hx with h1 | h1
  · exact h1
  · by_cases h2 : p.2 ∈ s.1
    · exact h2
    · have : p.2 ∈ (nextL ss ar s.2).filter (fun z => decide (z ∉ s.1)) := List.mem_filter.mpr ⟨mem_next.mpr ⟨hw p hp, p.1, h1, hp⟩, decide_eq_true h2⟩
      rw [e0] at this
      cases this
theorem wave_closed {ss : List Str} {ar : List Ar} {f : Str} {s : List Str × List Str} (h : WOk ss ar f s) (c : Closed ar s.1) : (wave ss ar s).1 = s.1 := by
  have e0 : (nextL ss ar s.2).filter (fun z => decide (z ∉ s.1)) = [] := by
    rw [List.filter_eq_nil_iff]
    intro z hz
    obtain ⟨_, x, hx, e⟩ := mem_next.mp hz
    have := c _ e (h.sub x hx)
    simp [this]
  show s.1 ++ _ = s.1
  rw [e0, List.append_nil]
theorem waves_ok {ss : List Str} {ar : List Ar} {f : Str} (hss : ss.Nodup) (hw : ∀ p ∈ ar, p.2 ∈ ss) : ∀ (n : Nat) {s : List Str × List Str}, WOk ss ar f s → WOk ss ar f (waves ss ar n s)
  | 0, _, h => h
  | n + 1, _, h => waves_ok hss hw n (h.wave hss hw)
theorem waves_end {ss : List Str} {ar : List Ar} {f : Str} (hss : ss.Nodup) (hw : ∀ p ∈ ar, p.2 ∈ ss) : ∀ (m : Nat) {s : List Str × List Str}, WOk ss ar f s → Closed ar (waves ss ar m s).1 ∨ s.1.length + m ≤ (waves ss ar m s).1.length
  | 0, _, _ => .inr (Nat.le_refl _)
  | m + 1, s, h => by
    have a := wave_len (ss := ss) (ar := ar) s
    by_cases e : (wave ss ar s).1.length = s.1.length
    · have c := wave_stop h hw e
      refine .inl ?_
      have : ∀ n, (waves ss ar n s).1 = s.1 ∧ WOk ss ar f (waves ss ar n s) := by
        intro n
        induction n with
        | zero => exact ⟨rfl, h⟩
        | succ n ih =>
          rw [waves_succ]
          refine ⟨?_, ih.2.wave hss hw⟩
          rw [wave_closed ih.2 (by rw [ih.1]; exact c)]
          exact ih.1
      rw [(this _).1]
      exact c
    · rcases waves_end hss hw m (h.wave hss hw) with c | l
      · exact .inl c
      · refine .inr ?_
        show s.1.length + (m + 1) ≤ (waves ss ar m (wave ss ar s)).1.length
        omega
theorem waves_reach {ss : List Str} {ar : List Ar} {f : Str} (hss : ss.Nodup) (hw : ∀ p ∈ ar, p.2 ∈ ss) (hf : f ∈ ss) : IsR ar f (waves ss ar ss.length ([f], [f])).1 := by
  have h0 : WOk ss ar f ([f], [f]) := ⟨nodup_one f, fun z hz => hz, fun z hz => by rw [List.mem_singleton.mp hz]; exact hf, fun z hz => by rw [List.mem_singleton.mp hz]; exact .base, List.mem_singleton_self f, fun p hp hx => .inr hx⟩
  have h := waves_ok hss hw ss.length h0
  have c : Closed ar (waves ss ar ss.length ([f], [f])).1 := by
    rcases waves_end hss hw ss.length h0 with c | l
    · exact c
    · have := nodup_le h.nd h.ins
      simp at l
      omega
  exact ⟨h.nd, fun z => ⟨h.rch z, reach_in h.has c⟩⟩
/-! ### there is one sorted list of them -/
theorem sortedS_head : ∀ {x : Str} {l : List Str}, risingS x l = true → ∀ z ∈ l, ¬ SL z < SL x
  | x, [], _, z, hz => by cases hz
  | x, y :: l, h, z, hz => by
    have h' : (!ltCps y.cps.toList x.cps.toList && risingS y l) = true := h
    rw [Bool.and_eq_true] at h'
    obtain ⟨h1, h2⟩ := h'
    have h3 : ¬ SL y < SL x := by
      rw [ltCps_eq] at h1
      simpa using h1
    rcases List.mem_cons.mp hz with rfl | hz
    · exact h3
    · exact ll_le h3 (sortedS_head h2 z hz)
theorem sortedS_tail : ∀ {x : Str} {l : List Str}, sortedS (x :: l) = true → sortedS l = true
  | x, [], _ => rfl
  | x, y :: l, h => by
    have h' : (!ltCps y.cps.toList x.cps.toList && risingS y l) = true := h
    rw [Bool.and_eq_true] at h'
    exact h'.2
theorem sorted_one : ∀ {l m : List Str}, sortedS l = true → sortedS m = true → l.Nodup → m.Nodup → (∀ z, z ∈ l ↔ z ∈ m) → l = m
  | [], [], _, _, _, _, _ => rfl
  | [], y :: m, _, _, _, _, h => by
    have := (h y).mpr List.mem_cons_self
    cases this
  | x :: l, [], _, _, _, _, h => by
    have := (h x).mp List.mem_cons_self
    cases this
  | x :: l, y :: m, sl, sm, nl, nm, h => by
    have hx : ∀ z ∈ y :: m, ¬ SL z < SL y := fun z hz => by
      rcases List.mem_cons.mp hz with rfl | hz
      · exact ll_irr _
      · exact sortedS_head sm z hz
    have hy : ∀ z ∈ x :: l, ¬ SL z < SL x := fun z hz => by
      rcases List.mem_cons.mp hz with rfl | hz
      · exact ll_irr _
      · exact sortedS_head sl z hz
    have e : x = y := sl_inj (ll_tri (hx x ((h x).mp List.mem_cons_self)) (hy y ((h y).mpr List.mem_cons_self)))
    subst e
    have nl' := List.nodup_cons.mp nl
    have nm' := List.nodup_cons.mp nm
    rw [sorted_one (sortedS_tail sl) (sortedS_tail sm) nl'.2 nm'.2 fun z => ⟨fun hz => by
        rcases List.mem_cons.mp ((h z).mp (List.mem_cons_of_mem _ hz)) with rfl | h1
        · exact absurd hz nl'.1
        · exact h1, fun hz => by
        rcases List.mem_cons.mp ((h z).mpr (List.mem_cons_of_mem _ hz)) with rfl | h1
        · exact absurd hz nm'.1
        · exact h1⟩]
/-- the reached ones, sorted -/
def IsRS (ar : List Ar) (f : Str) (ys : List Str) : Prop := sortedS ys = true ∧ IsR ar f ys
theorem IsR.perm {ar : List Ar} {f : Str} {ks ys : List Str} (h : IsR ar f ks) (p : ys.Perm ks) : IsR ar f ys := ⟨p.nodup_iff.mpr h.1, fun z => p.mem_iff.trans (h.2 z)⟩
theorem IsRS.one {ar : List Ar} {f : Str} {ys zs : List Str} (h : IsRS ar f ys) (g : IsRS ar f zs) : ys = zs := sorted_one h.1 g.1 h.2.1 g.2.1 fun z => (h.2.2 z).trans (g.2.2 z).symm
theorem IsR.congr {ar br : List Ar} {f : Str} {ks : List Str} (h : IsR ar f ks) (e : ∀ p, p ∈ ar ↔ p ∈ br) : IsR br f ks := ⟨h.1, fun z => (h.2 z).trans ⟨Reach.mono fun p hp => (e p).mp hp, Reach.mono fun p hp => (e p).mpr hp⟩⟩
end Cm
end

/-! ## Bk24 -/
section
set_option pp.maxSteps 400
namespace Cm
open PySem PySem.Spec PyProof.Rows L2 KG
abbrev sChSz : Stmt := top 35
abbrev sB (i : Nat) : Stmt := inClass (top 36) i
abbrev sBInit : Stmt := sB 3
/-! ### a book's fields -/
def bf (lt dm la : Addr) (f : Str) (lr : Addr) : List (Str × V) := putF "_resting" (.ref lr) (putF "_first" (.str f) (putF "_arrows" (.ref la) (putF "_motions" (.ref dm) (putF "_things" (.ref lt) []))))
theorem bf_mo (lt dm la : Addr) (f : Str) (lr : Addr) : (bf lt dm la f lr).lookup ("_motions" : Str) = some (.ref dm) := by
  unfold bf
  rw [lookup_putF, if_neg (by decide +kernel), lookup_putF, if_neg (by decide +kernel), lookup_putF, if_neg (by decide +kernel), lookup_putF, if_pos rfl]
theorem bf_th (lt dm la : Addr) (f : Str) (lr : Addr) : (bf lt dm la f lr).lookup ("_things" : Str) = some (.ref lt) := by
  unfold bf
  rw [lookup_putF, if_neg (by decide +kernel), lookup_putF, if_neg (by decide +kernel), lookup_putF, if_neg (by decide +kernel), lookup_putF, if_neg (by decide +kernel), lookup_putF, if_pos rfl]
theorem bf_ar (lt dm la : Addr) (f : Str) (lr : Addr) : (bf lt dm la f lr).lookup ("_arrows" : Str) = some (.ref la) := by
  unfold bf
  rw [lookup_putF, if_neg (by decide +kernel), lookup_putF, if_neg (by decide +kernel), lookup_putF, if_pos rfl]
theorem bf_fi (lt dm la : Addr) (f : Str) (lr : Addr) : (bf lt dm la f lr).lookup ("_first" : Str) = some (.str f) := by
  unfold bf
  rw [lookup_putF, if_neg (by decide +kernel), lookup_putF, if_pos rfl]
theorem bf_re (lt dm la : Addr) (f : Str) (lr : Addr) : (bf lt dm la f lr).lookup ("_resting" : Str) = some (.ref lr) := by
  unfold bf
  rw [lookup_putF, if_pos rfl]
/-- a method's name is no field -/
theorem bf_no (lt dm la : Addr) (f : Str) (lr : Addr) {m : Str} (h1 : ¬ m = "_resting") (h2 : ¬ m = "_first") (h3 : ¬ m = "_arrows") (h4 : ¬ m = "_motions") (h5 : ¬ m = "_things") : (bf lt dm la f lr).lookup m = none := by
  unfold bf
  rw [lookup_putF, if_neg h1, lookup_putF, if_neg h2, lookup_putF, if_neg h3, lookup_putF, if_neg h4, lookup_putF, if_neg h5]
  all_goals rfl
/-- what a book is made of: lawful parts -/
structure Good (ns : List Str) (ar : List Ar) (f : Str) (rs : List Str) : Prop where
  n0 : ns ≠ []
  n6 : ns.length ≤ 6
  nd : ns.Nodup
  nm : ∀ z ∈ ns, Nm z
  and : ar.Nodup
  arw : ∀ p ∈ ar, p.1 ∈ ns ∧ p.2 ∈ ns
  fin : f ∈ ns
  rnd : rs.Nodup
  rin : ∀ z ∈ rs, z ∈ ns
theorem Good.nma {ns : List Str} {ar : List Ar} {f : Str} {rs : List Str} (g : Good ns ar f rs) : ∀ p ∈ ar, p.1 ∈ ns ∧ p.2 ∈ ns ∧ NmA p := fun p hp => ⟨(g.arw p hp).1, (g.arw p hp).2, (g.nm _ (g.arw p hp).1).2.2, (g.nm _ (g.arw p hp).2).2.2⟩
theorem Good.r6 {ns : List Str} {ar : List Ar} {f : Str} {rs : List Str} (g : Good ns ar f rs) : rs.length ≤ 6 := Nat.le_trans (nodup_le g.rnd g.rin) g.n6
theorem Good.perm {ns ns' : List Str} {ar ar' : List Ar} {f : Str} {rs rs' : List Str} (g : Good ns ar f rs) (p1 : ns'.Perm ns) (p2 : ar'.Perm ar) (p3 : rs'.Perm rs) : Good ns' ar' f rs' :=
  ⟨fun e => g.n0 (by rw [e] at p1; exact (List.Perm.nil_eq p1).symm), by rw [p1.length_eq]; exact g.n6, p1.nodup_iff.mpr g.nd, fun z hz => g.nm z (p1.mem_iff.mp hz), p2.nodup_iff.mpr g.and, fun p hp => ⟨p1.mem_iff.mpr (g.arw p (p2.mem_iff.mp hp)).1, p1.mem_iff.mpr (g.arw p (p2.mem_iff.mp hp)).2⟩, p1.mem_iff.mpr g.fin, p3.nodup_iff.mpr g.rnd, fun z hz => p1.mem_iff.mpr (g.rin z (p3.mem_iff.mp hz))⟩
/-- the book stands at b: its parts, in some sequence -/
def BookAt (K : PySem.W.Frag) (CB : Addr) (H : Hp) (b : Addr) (ns : List Str) (ar : List Ar) (f : Str) (rs : List Str) : Prop := ∃ (ns' : List Str) (ar' : List Ar) (rs' : List Str) (dx lt dm la lr : Addr) (xs : List V),
  ns'.Perm ns ∧ ar'.Perm ar ∧ rs'.Perm rs ∧ H b = some (.ins CB dx (bf lt dm la f lr)) ∧ H lt = some (.lst [.str "a"]) ∧ ChartAt K H dm ns' ∧ H la = some (.lst xs) ∧ AllQ (isA K) ar' xs H ∧ H lr = some (.lst (rs'.map V.str))
theorem BookAt.keep {K : PySem.W.Frag} {CB : Addr} {H H' : Hp} {b : Addr} {ns : List Str} {ar : List Ar} {f : Str} {rs : List Str} (h : BookAt K CB H b ns ar f rs) (e : Same H H') : BookAt K CB H' b ns ar f rs := by
  obtain ⟨ns', ar', rs', dx, lt, dm, la, lr, xs, p1, p2, p3, h1, h2, h3, h4, h5, h6⟩ := h
  exact ⟨ns', ar', rs', dx, lt, dm, la, lr, xs, p1, p2, p3, e _ _ h1, e _ _ h2, h3.keep e, e _ _ h4, h5.keep (mon_isA K) (.of e), e _ _ h6⟩
theorem pi_listK {X : Cx} {K : PySem.W.Frag} {tg l : Expr} {tl : TE} (h : X.K = K) (he : PE X l tl) : PI X tg l (iList K tl) := by
  subst h
  exact pi_list he
theorem pe_fldK {X : Cx} {K : PySem.W.Frag} {e : Expr} {f : Str} {pos : Pos} {ta : TE} (h : X.K = K) (he : PE X e ta) (hb : attributeBase e f X.env (eval e X.env) = eval e X.env) : PE X (.Attribute e f pos) (tFld K ta f) := by
  subst h
  exact pe_fld he hb
theorem dc_it {J : It} {n : Nat} {G : Hp → Prop} {Y : Nat → Hp → V → Hp → Prop} (w : Walk J n G Y) {g : TG} {tt : TT} {tk tv : TE} {vs : List Nat} {σ : L2.St} {H1 : Hp} {D : Addr} {R : Hp → Prop}
    (Pv : Nat → Hp → Prop) (h0 : Pv 0 (upd H1 D (.dK []))) (hG : ∀ i H, i ≤ n → Pv i H → G H)
    (turn : ∀ i x H H', i < n → Pv i H → Y i H x H' → g x (wipe σ vs) H' fun σ2 H2 => wipe σ2 vs = wipe σ vs ∧ tt σ2 H2 fun b H3 =>
      if b = true then tk σ2 H3 fun y H4 => tv σ2 H4 fun z H5 => ∃ kvs k, y = kV k ∧ H5 D = some (.dK kvs) ∧ kvs.length < sizeLine ∧ Pv (i + 1) (upd H5 D (.dK (putK kvs k z))) else Pv (i + 1) H3)
    (fin : ∀ H, Pv n H → R H) :
    ∃ W : Nat → Nat → Hp → Prop, (∃ m, W 0 m (upd H1 D (.dK []))) ∧ ∀ i m H, W i m H →
      (J.stop i H ∧ R H) ∨ (J.go i H ∧ ∃ Nx : Hp → Prop, (∀ H', Nx H' → ∃ m', m' < m ∧ W (i + 1) m' H') ∧ ∀ x H', J.yld i H x H' → g x (wipe σ vs) H' fun σ2 H2 => wipe σ2 vs = wipe σ vs ∧ tt σ2 H2 fun b H3 =>
        if b = true then tk σ2 H3 fun y H4 => tv σ2 H4 fun z H5 => ∃ kvs k, y = kV k ∧ H5 D = some (.dK kvs) ∧ kvs.length < sizeLine ∧ Nx (upd H5 D (.dK (putK kvs k z))) else Nx H3) := by
  refine ⟨fun i m H => m + i = n ∧ Pv i H, ⟨n, rfl, h0⟩, ?_⟩
  rintro i m H ⟨e, p⟩
  have g1 := hG i H (by omega) p
  by_cases lt : i < n
  · refine .inr ⟨w.goes i H lt g1, Pv (i + 1), fun H' p' => ⟨n - (i + 1), by omega, by omega, p'⟩, ?_⟩
    intro x H' y
    exact turn i x H H' lt p (w.yields i H x H' lt g1 y)
  · have e2 : i = n := by omega
    subst e2
    exact .inl ⟨w.stops H g1, fin H p⟩
theorem putK_new {kvs : List (Key × V)} {k : Key} {v : V} (h : ∀ q ∈ kvs, q.1 ≠ k) : putK kvs k v = kvs ++ [(k, v)] := by
  unfold putK
  rw [if_neg]
  intro e
  rw [List.any_eq_true] at e
  obtain ⟨q, hq, e⟩ := e
  exact h q hq (of_decide_eq_true e)
theorem MotAt.kp {K : PySem.W.Frag} {H H' : Hp} {m p C dx : Addr} {fs : List (Str × V)} (h : MotAt K H m) (hp : H p = some (.ins C dx fs)) (k : ∀ b o, H b = some o → b ≠ p → H' b = some o) : MotAt K H' m := by
  obtain ⟨t, g, l, h1, h2, h3⟩ := h
  refine ⟨t, g, l, k _ _ h1 (fun e => by rw [e, hp] at h1; cases h1), ?_, h3⟩
  rcases h2 with (h2 | ⟨o, h2⟩) | h2
  · exact .inl (.inl (k _ _ h2 fun e => by rw [e, hp] at h2; cases h2))
  · exact .inl (.inr ⟨o, k _ _ h2 fun e => by rw [e, hp] at h2; cases h2⟩)
  · exact .inr h2
theorem MotAt.updD {K : PySem.W.Frag} {H : Hp} {m D : Addr} {kv kv' : List (Key × V)} (h : MotAt K H m) (e : H D = some (.dK kv)) (n : m ≠ D) : MotAt K (upd H D (.dK kv')) m := by
  obtain ⟨t, g, l, h1, h2, h3⟩ := h
  refine ⟨t, g, l, by rw [upd_ne n]; exact h1, ?_, h3⟩
  rcases h2 with (h2 | ⟨o, h2⟩) | h2
  · exact .inl (.inl (by rw [upd_ne fun z => by rw [z, e] at h2; cases h2]; exact h2))
  · exact .inl (.inr ⟨o, by rw [upd_ne fun z => by rw [z, e] at h2; cases h2]; exact h2⟩)
  · exact .inr h2
theorem AllQ.mapR {α : Type} {R R' : α → RP} : ∀ {qs : List α} {vs : List V} {H H' : Hp}, AllQ R qs vs H → (∀ q v, R q v H → R' q v H') → AllQ R' qs vs H'
  | [], [], _, _, _, _ => trivial
  | q :: qs, v :: vs, _, _, h, f => ⟨f q v h.1, AllQ.mapR h.2 f⟩
  | [], _ :: _, _, _, h, _ => h.elim
  | _ :: _, [], _, _, h, _ => h.elim
/-- which arrow a value is -/
noncomputable def keyA (K : PySem.W.Frag) (G : Hp) (v : V) : Ar := @dite _ (∃ p, isA K p v G) (Classical.propDecidable _) (fun h => Classical.choose h) (fun _ => ("", ""))
theorem keyA_eq {K : PySem.W.Frag} {G : Hp} {v : V} {p : Ar} (h : isA K p v G) : keyA K G v = p := by
  have ex : ∃ p, isA K p v G := ⟨p, h⟩
  unfold keyA
  rw [@dif_pos _ (Classical.propDecidable _) ex]
  obtain ⟨t, e1, h1⟩ := Classical.choose_spec ex
  obtain ⟨t2, e2, h2⟩ := h
  rw [e1] at e2
  cases e2
  rw [h1] at h2
  injection h2 with h2
  injection h2 with h2
  injection h2 with a h2
  injection h2 with b _
  injection a with a
  injection b with b
  exact Prod.ext a b
theorem AllQ.keyed {K : PySem.W.Frag} : ∀ {ar : List Ar} {xs : List V} {G : Hp}, AllQ (isA K) ar xs G → ∃ k : V → Ar, (∀ x ∈ xs, ∃ t, x = V.ref t ∧ G t = some (.tup [.str (k x).1, .str (k x).2])) ∧ xs.map k = ar := fun {ar xs G} h => by
  refine ⟨keyA K G, ?_, ?_⟩
  · intro x hx
    obtain ⟨i, hi⟩ := List.getElem?_of_mem hx
    obtain ⟨p, _, hp⟩ := AllQ.get h hi
    rw [keyA_eq hp]
    exact hp
  · have : ∀ {ar : List Ar} {xs : List V}, AllQ (isA K) ar xs G → xs.map (keyA K G) = ar := by
      intro ar
      induction ar with
      | nil =>
        intro xs h
        cases xs with
        | nil => rfl
        | cons _ _ => exact h.elim
      | cons p ar ih =>
        intro xs h
        cases xs with
        | nil => exact h.elim
        | cons x xs => rw [List.map_cons, keyA_eq h.1, ih h.2]
    exact this h
theorem AllQ.of_key {K : PySem.W.Frag} {k : V → Ar} : ∀ {xs : List V} {G : Hp}, (∀ x ∈ xs, ∃ t, x = V.ref t ∧ G t = some (.tup [.str (k x).1, .str (k x).2])) → AllQ (isA K) (xs.map k) xs G
  | [], _, _ => trivial
  | x :: xs, _, h => ⟨h x List.mem_cons_self, AllQ.of_key fun y hy => h y (List.mem_cons_of_mem _ hy)⟩
structure TxtB (K : PySem.W.Frag) (mg : Str → Option Value) (CB : Addr) : Prop where
  cl : Cls K CB
  nTh : NoAttr K CB "_things"
  nMo : NoAttr K CB "_motions"
  nAr : NoAttr K CB "_arrows"
  nFi : NoAttr K CB "_first"
  nRe : NoAttr K CB "_resting"
  book : mg "Book" = some (.ref CB)
  most : ∃ (mc u4 u6 u15 : Value), ClX.CRead K CB mc ∧ ClX.CVal K CB mc "MOST_THINGS" (.int 4) u4 ∧ ClX.CVal K CB mc "MOST_SCENES" (.int 6) u6 ∧ ClX.CVal K CB mc "MOST_MOTIONS" (.int 15) u15
def spChSz : Sp := fun vs H Q _ => ∃ n : Int, vs = [.int 1, .int n] ∧ 0 ≤ n ∧ n ≤ 6 ∧ Q .non H
def spBInit (K : PySem.W.Frag) (CB : Addr) : Sp := fun vs H Q _ => ∃ (p dx lt d a r : Addr) (ns : List Str) (ar : List Ar) (f : Str) (rs : List Str) (xs : List V), vs = [.ref p, .ref lt, .ref d, .ref a, .str f, .ref r] ∧ H p = some (.ins CB dx []) ∧
  H lt = some (.lst [.str "a"]) ∧ ChartAt K H d ns ∧ H a = some (.lst xs) ∧ AllQ (isA K) ar xs H ∧ H r = some (.lst (rs.map V.str)) ∧ Good ns ar f rs ∧ ∀ H' : Hp, BookAt K CB H' p ns ar f rs → (∀ b o, H b = some o → b ≠ p → H' b = some o) → Q .non H'
section
variable {P : Program} {w : World} {K : PySem.W.Frag} {mg : Str → Option Value} {base : Heap} {CB : Addr}
theorem scChSz : FnScope ["things", "scenes"] ["things", "scenes"] (defScope sChSz) := ⟨rfl, rfl, rfl, by decide +kernel, rfl, by decide +kernel, by decide +kernel⟩
theorem ok_chSz {f : Addr} {fd : FuncData} (F : Fun K "check_sizes" "check_sizes" sChSz f fd) (T : TxtB K mg CB) : FnOk P w K mg base CX0 1 f fd ["things", "scenes"] spChSz := by
  obtain ⟨mc, u4, u6, u15, r, v4, v6, v15⟩ := T.most
  refine F.ok scChSz (fun vs H Q E h => ?_) (fun cdv A outer s H vs Q E hr h => ?_)
  · obtain ⟨n, rfl, _⟩ := h
    rfl
  · obtain ⟨n, rfl, h0, h6, q⟩ := h
    refine ⟨_, PSs.nox (pss_cons (ps_if (pt_cmpR op_gt (pv 0) (ClX.pe_cval (pe_glob (v := .ref CB) (by rfl) T.book rfl)) (nomark _)) (pss_one ps_never) pss_nil)
      (pss_cons (ps_if (pt_cmpR op_gt (pv 1) (ClX.pe_cval (pe_glob (v := .ref CB) (by rfl) T.book rfl)) (nomark _)) (pss_one ps_never) pss_nil)
      (pss_one (ps_if (pt_cmpR op_gt (pe_op op_mul (pv 0) (pv 1)) (ClX.pe_cval (pe_glob (v := .ref CB) (by rfl) T.book rfl)) (nomark _)) (pss_one ps_never) pss_nil)))), ?_⟩
    refine ⟨_, rfl, CB, mc, _, _, rfl, r, v4, _, _, rfl, rfl, _, rfl, ?_⟩
    refine ite2 (fun h => absurd (of_decide_eq_true h) (by omega)) (fun _ => ?_)
    refine ⟨_, rfl, CB, mc, _, _, rfl, r, v6, _, _, rfl, rfl, _, rfl, ?_⟩
    refine ite2 (fun h => absurd (of_decide_eq_true h) (by omega)) (fun _ => ?_)
    refine ⟨_, rfl, _, rfl, _, _, rfl, rfl, .inl ⟨by decide, by decide⟩, CB, mc, _, _, rfl, r, v15, _, _, rfl, rfl, _, rfl, ?_⟩
    refine ite2 (fun h => absurd (of_decide_eq_true h) (by omega)) (fun _ => ?_)
    exact q
theorem scBInit : FnScope ["self", "things", "scenes", "arrows", "first", "resting", "scene", "thing"] ["self", "things", "scenes", "arrows", "first", "resting"] (defScope sBInit) := ⟨rfl, rfl, rfl, by decide +kernel, rfl, by decide +kernel, by decide +kernel⟩
def relS (sc scope : Scope) : Scope := { scope with names := scope.names.map fun (n, k) => if (k == NameKind.free && sc.kind == .function && sc.names.lookup n == some .cell) then (n, NameKind.cell) else (n, k) }
def valOf : Stmt → Expr
  | .Assign _ e _ => e
  | _ => .Constant .none 0 ⟨0, 0, 0, 0⟩
def dcScope : Expr → Scope
  | .DictComp _ _ _ s _ => s
  | .ListComp _ _ s _ => s
  | _ => defScope sBInit
abbrev scMo : Scope := relS (defScope sBInit) (dcScope (valOf ((defBody sBInit).getD 7 (.Pass ⟨0, 0, 0, 0⟩))))
theorem ok_bInit {f : Addr} {fd : FuncData} {dv : V} (F : FunD K "__init__" "Book.__init__" (defArgs sBInit) (defBody sBInit) (defScope sBInit) [dv] [] f fd) (TP : TxtP mg) (T : TxtB K mg CB)
    (c1 : Cl P w K mg base 2 "check_things" ["things"] spChThs) (c2 : Cl P w K mg base 4 "check_scenes" ["things", "scenes"] (spChScs K)) (c3 : Cl P w K mg base 3 "check_arrows" ["scenes", "arrows"] (spChArr K))
    (c4 : Cl P w K mg base 2 "check_scene" ["scenes", "value"] spChSc) (c5 : Cl P w K mg base 3 "check_resting" ["scenes", "resting"] spChRes) (c6 : Cl P w K mg base 1 "check_sizes" ["things", "scenes"] spChSz) :
    FnOk P w K mg base CX0 5 f fd ["self", "things", "scenes", "arrows", "first", "resting"] (spBInit K CB) := by
  refine F.ok scBInit (fun vs H Q E h => ?_) (fun cdv A outer s H vs Q E hr h => ?_)
  · obtain ⟨p, dx, lt, d, a, r, ns, ar, f, rs, xs, rfl, _⟩ := h
    rfl
  · obtain ⟨p, dx, lt, d, a, r, ns, ar, fi, rs, xs, rfl, hp, hlt, hd, ha, hal, hre, g, q⟩ := h
    have hu := hu_of hr
    refine ⟨_, PSs.nox (pss_cons (ps_expr (pe_k c1 hr (by decide) (by rfl) (pa_cons (pv 1) pa_nil)))
      (pss_cons (ps_expr (pe_k c2 hr (by decide) (by rfl) (pa_cons (pv 1) (pa_cons (pv 2) pa_nil))))
      (pss_cons (ps_expr (pe_k c3 hr (by decide) (by rfl) (pa_cons (pv 2) (pa_cons (pv 3) pa_nil))))
      (pss_cons (ps_expr (pe_k c4 hr (by decide) (by rfl) (pa_cons (pv 2) (pa_cons (pv 4) pa_nil))))
      (pss_cons (ps_expr (pe_k c5 hr (by decide) (by rfl) (pa_cons (pv 2) (pa_cons (pv 5) pa_nil))))
      (pss_cons (ps_expr (pe_k c6 hr (by decide) (by rfl) (pa_cons (pe_callB call_len (by rfl) TP.len PySem.boot_len (pa_cons (pv 1) pa_nil)) (pa_cons (pe_callB call_lenD (by rfl) TP.len PySem.boot_len (pa_cons (pv 2) pa_nil)) pa_nil))))
      (pss_cons (ps_fld (pv 0) (pe_callB cr_sortedS (by rfl) TP.sorted (by decide +kernel) (pa_cons (pv 1) pa_nil)) rfl)
      (pss_cons (ps_fld (pv 0) (pe_dc (own := [("scene", 6)]) (g := gName 6) (by rfl) scBInit.nd (pi_list (pe_callB (call_sortedD (by rfl)) (by rfl) TP.sorted (by decide +kernel) (pa_cons (pv 2) pa_nil)))
          (blkOk_by (own := [("scene", 6)]) (N := ["self", "things", "scenes", "arrows", "first", "resting", "scene", "thing"]) (sc := defScope sBInit) (by decide +kernel)) (fun _ _ _ _ _ => pg_name (i := 6) scBInit.nd rfl (Or.inr rfl)) (fun _ _ _ _ _ => pts_nil) (fun _ _ _ _ _ => pv 6)
          (fun _ _ _ _ _ => pe_dc (own := [("thing", 7)]) (g := gName 7) (by rfl) scBInit.nd (by exact pi_listK rfl (pe_fldK rfl (pv 0) rfl))
            (blkOk_by (own := [("thing", 7)]) (N := ["self", "things", "scenes", "arrows", "first", "resting", "scene", "thing"]) (sc := scMo) (by decide +kernel)) (fun _ _ _ _ _ => pg_name (i := 7) scBInit.nd rfl (Or.inl rfl)) (fun _ _ _ _ _ => pts_nil) (fun _ _ _ _ _ => pv 7)
            (fun _ _ _ _ _ => pe_dget hu (pe_dget hu (pv 2) (pv 6) (fun _ _ => rfl)) (pv 7) (fun _ _ => rfl)))) rfl)
      (pss_cons (ps_fld (pv 0) (pe_callB cr_sortedPS (by rfl) TP.sorted (by decide +kernel) (pa_cons (pv 3) pa_nil)) rfl)
      (pss_cons (ps_fld (pv 0) (pv 4) rfl)
      (pss_one (ps_fld (pv 0) (pe_callB cr_sortedS (by rfl) TP.sorted (by decide +kernel) (pa_cons (pv 5) pa_nil)) rfl)))))))))))), ?_⟩
    obtain ⟨kvs, hd1, hd2, hd3⟩ := id hd
    have n60 : ns.length < 60 := by have := g.n6; omega
    have el : kvs.length = ns.length := by
      have := congrArg List.length hd2
      rwa [List.length_map, List.length_map] at this
    refine ⟨_, rfl, lt, rfl, hlt, fun H1 s1 => ?_⟩
    refine ⟨_, rfl, _, rfl, lt, d, ns, rfl, s1 _ _ hlt, hd.keep s1, g.n0, n60, g.nm, fun H2 s2 => ?_⟩
    have s12 := Same.trans' s1 s2
    refine ⟨_, rfl, _, rfl, d, a, ns, ar, xs, rfl, (hd.keep s12).names, s12 _ _ ha, hal.keep (mon_isA K) (.of s12), g.and, g.nma, fun H3 s3 => ?_⟩
    have s13 := Same.trans' s12 s3
    refine ⟨_, rfl, _, rfl, d, fi, ns, rfl, (hd.keep s13).names, g.fin, ?_⟩
    refine ⟨_, rfl, _, rfl, d, r, ns, rs, rfl, (hd.keep s13).names, s13 _ _ hre, g.rnd, g.rin, fun H4 s4 => ?_⟩
    have s14 := Same.trans' s13 s4
    refine ⟨_, rfl, _, _, rfl, .inl ⟨_, SqL.of (s14 _ _ hlt), rfl⟩, _, rfl, d, kvs, rfl, s14 _ _ hd1, kvs.length, rfl, Int.natCast_nonneg _, (by have := g.n6; omega), ?_⟩
    -- things
    refine ⟨_, rfl, lt, [("a" : Str)], rfl, SqL.of (s14 _ _ hlt), by decide, fun ys0 lt' perm0 _ n0 => ?_⟩
    have ey : ys0 = [("a" : Str)] := List.perm_singleton.mp perm0
    subst ey
    have s15 := Same.trans' s14 (Same.upd_new (o := .lst [V.str "a"]) n0)
    refine ⟨_, rfl, p, CB, dx, [], rfl, s15 _ _ hp, T.cl, T.nTh, (by show 0 < 1000; decide), ?_⟩
    have nlp : lt' ≠ p := (ne_of_none (s14 _ _ hp) n0).symm
    obtain ⟨A, hA⟩ : ∃ A, A = upd (upd H4 lt' (.lst ([("a" : Str)].map V.str))) p (.ins CB dx (putF "_things" (.ref lt') [])) := ⟨_, rfl⟩
    have kA : ∀ b o, H b = some o → b ≠ p → A b = some o := fun b o e n => by
      rw [hA, upd_ne n]
      exact s15 b o e
    have hltA : A lt' = some (.lst [.str "a"]) := by
      rw [hA, upd_ne nlp, upd_same]
      rfl
    have hpA : A p = some (.ins CB dx (putF "_things" (.ref lt') [])) := by
      rw [hA, upd_same]
    show tSeq _ _ _ _ (upd (upd H4 lt' (.lst ([("a" : Str)].map V.str))) p (.ins CB dx (putF "_things" (.ref lt') [])))
    rw [← hA]
    clear hA
    have ndp : d ≠ p := fun e => by
      rw [e, hp] at hd1
      cases hd1
    have hdA := kA _ _ hd1 ndp
    have hmA : ∀ q ∈ kvs, ∃ m, q.2 = .ref m ∧ MotAt K A m := fun q hq => by
      obtain ⟨m, e, hm⟩ := hd3 q hq
      exact ⟨m, e, hm.kp hp kA⟩
    -- motions
    refine ⟨_, rfl, d, kvs, ns, rfl, .inl hdA, hd2, by omega, fun ys q1 perm _ nq => ?_⟩
    have t1 := Same.upd_new (H := A) (o := .lst (ys.map V.str)) nq
    have ysnd : ys.Nodup := perm.nodup_iff.mpr g.nd
    refine ⟨q1, rfl, ⟨_, SqL.of upd_same⟩, fun D nD => ?_⟩
    have t2 := Same.trans' t1 (Same.upd_new (o := .dK []) nD)
    have hq1 : (upd (upd A q1 (.lst (ys.map V.str))) D (.dK [])) q1 = some (.lst (ys.map V.str)) := (Same.upd_new nD) _ _ upd_same
    have ADn : A D = none := by
      cases e : A D with
      | none => rfl
      | some o =>
        rw [t1 _ _ e] at nD
        cases nD
    have q1D : q1 ≠ D := ne_of_none (H := upd A q1 (.lst (ys.map V.str))) upd_same nD
    refine dc_it (walk_list (K := K) (a := q1) (xs := ys.map V.str)) (fun i G => Same A G ∧ G q1 = some (.lst (ys.map V.str)) ∧ ∃ kv : List (Key × V), G D = some (.dK kv) ∧ kv.map (·.1) = (ys.take i).map Sum.inr ∧ ∀ q ∈ kv, ∃ m, q.2 = .ref m ∧ m ≠ D ∧ MotAt K G m) ⟨t2, hq1, [], upd_same, by rw [List.take_zero]; rfl, fun q hq => by cases hq⟩ (fun i G _ p => SqL.of p.2.1) ?_ ?_
    · rintro i x G G' hi ⟨sg, lg, kv, hkv, hk1, hk2⟩ ⟨rfl, hx⟩
      rw [List.getElem?_map] at hx
      obtain ⟨z, ez, rfl⟩ : ∃ z, ys[i]? = some z ∧ x = .str z := by
        cases e : ys[i]? with
        | none => rw [e] at hx; cases hx
        | some z => rw [e] at hx; cases hx; exact ⟨z, rfl, rfl⟩
      have hz : z ∈ ns := perm.mem_iff.mp (List.mem_of_getElem? ez)
      obtain ⟨qq, hqq, eqq, _⟩ := val_mem hd2 hz
      obtain ⟨m, em, hm⟩ := hmA qq hqq
      obtain ⟨t, gg, ll, hm1, hm2, hm3⟩ := hm.keep sg
      refine ⟨rfl, _, rfl, _, rfl, p, CB, dx, _, .ref lt', rfl, sg _ _ hpA, T.cl, T.nTh, (by rw [lookup_putF, if_pos rfl]), lt', rfl, ⟨_, SqL.of (sg _ _ hltA)⟩, fun D2 nD2 => ?_⟩
      have u1 := Same.upd_new (H := G') (o := .dK []) nD2
      have D2D : D2 ≠ D := (ne_of_none hkv nD2).symm
      refine dc_it (walk_list (K := K) (a := lt') (xs := [V.str "a"])) (fun i G2 => Same G' G2 ∧ G2 D2 = some (.dK (if i = 0 then [] else [(Sum.inr "a", .ref t)]))) ⟨u1, by rw [upd_same]; rfl⟩ (fun i G2 _ p => SqL.of (p.1 _ _ (sg _ _ hltA))) ?_ ?_
      · rintro i2 x2 G2 G2' hi2 ⟨sg2, h2⟩ ⟨rfl, hx2⟩
        have i0 : i2 = 0 := by
          have : i2 < 1 := hi2
          omega
        subst i0
        have ex2 : x2 = V.str "a" := by
          have h1 : some (V.str "a") = some x2 := hx2
          exact (Option.some.inj h1).symm
        subst ex2
        have sA2 := Same.trans' sg sg2
        refine ⟨rfl, _, rfl, _, rfl, _, rfl, d, .ref m, rfl, by rw [← em, ← eqq]; exact DGet.k (k := Sum.inr z) (sA2 _ _ hdA), _, rfl, m, .ref t, rfl, ?_, [], Sum.inr ("a" : Str), rfl, h2, by show 0 < sizeLine; decide, ?_, ?_⟩
        · have e1 : valV [((Sum.inr ("a" : Str) : Key), V.ref t)] (Sum.inr ("a" : Str)) = some (.ref t) := by
            unfold valV
            simp
          rw [← e1]
          exact DGet.k (k := Sum.inr ("a" : Str)) (sg2 _ _ hm1)
        · intro b o e
          rw [upd_ne (ne_of_none e nD2)]
          exact sg2 b o e
        · rw [upd_same]
          rfl
      · rintro G2 ⟨sg2, h2⟩
        have h2' : G2 D2 = some (.dK [(Sum.inr "a", .ref t)]) := h2
        have hkv2 := sg2 _ _ hkv
        have kl : kv.length = i := by
          have := congrArg List.length hk1
          rw [List.length_map, List.length_map, List.length_take] at this
          have : i < (ys.map V.str).length := hi
          rw [List.length_map] at this
          omega
        have nk : ∀ q ∈ kv, q.1 ≠ (Sum.inr z : Key) := fun q hq e => by
          have h1 : (Sum.inr z : Key) ∈ (ys.take i).map Sum.inr := by
            rw [← hk1, ← e]
            exact List.mem_map_of_mem hq
          obtain ⟨z', hz', e'⟩ := List.mem_map.mp h1
          cases e'
          exact nodup_take ysnd ez hz'
        refine ⟨kv, Sum.inr z, rfl, hkv2, ?_, ?_, ?_, ?_⟩
        · have h1 := perm.length_eq
          have : i < (ys.map V.str).length := hi
          rw [List.length_map] at this
          have big : (60 : Nat) < sizeLine := by decide
          omega
        · intro b o e
          have nb : b ≠ D := fun q => by
            rw [q, ADn] at e
            cases e
          rw [upd_ne nb]
          exact sg2 _ _ (sg b o e)
        · rw [upd_ne q1D]
          exact sg2 _ _ lg
        · refine ⟨_, upd_same, ?_, fun q hq => ?_⟩
          · rw [putK_new nk, List.map_append, hk1, List.take_add_one, ez, List.map_append]
            rfl
          · rw [putK_new nk] at hq
            rcases List.mem_append.mp hq with hq | hq
            · obtain ⟨m2, e2, n2, hm2⟩ := hk2 q hq
              exact ⟨m2, e2, n2, (hm2.keep sg2).updD hkv2 n2⟩
            · rw [List.mem_singleton.mp hq]
              exact ⟨D2, rfl, D2D, MotAt.updD (⟨t, gg, ll, h2', SqT.ext hm2 sg2, hm3⟩ : MotAt K G2 D2) hkv2 D2D⟩
    rintro G ⟨sg, _, kv, hkv, hk1, hk2⟩
    rw [List.length_map, List.take_length] at hk1
    refine ⟨_, rfl, p, CB, dx, _, rfl, sg _ _ hpA, T.cl, T.nMo, (by show 1 < 1000; decide), ?_⟩
    have pD : D ≠ p := fun e => by
      rw [e] at ADn
      rw [ADn] at hpA
      cases hpA
    obtain ⟨B, hB⟩ : ∃ B, B = upd G p (.ins CB dx (putF "_motions" (.ref D) (putF "_things" (.ref lt') []))) := ⟨_, rfl⟩
    have kGB : ∀ b o, G b = some o → b ≠ p → B b = some o := fun b o e n => by rw [hB, upd_ne n]; exact e
    have kB : ∀ b o, H b = some o → b ≠ p → B b = some o := fun b o e n => kGB _ _ (sg _ _ (kA b o e n)) n
    have hpB : B p = some (.ins CB dx (putF "_motions" (.ref D) (putF "_things" (.ref lt') []))) := by rw [hB, upd_same]
    have hltB : B lt' = some (.lst [.str "a"]) := kGB _ _ (sg _ _ hltA) nlp
    have hDB : ChartAt K B D ys := ⟨kv, kGB _ _ hkv pD, hk1, fun q hq => by
      obtain ⟨m, e, _, hm⟩ := hk2 q hq
      exact ⟨m, e, hm.kp (sg _ _ hpA) kGB⟩⟩
    show tSeq _ _ _ _ (upd G p (.ins CB dx (putF "_motions" (.ref D) (putF "_things" (.ref lt') []))))
    rw [← hB]
    clear hB
    -- arrows
    have nap : a ≠ p := fun e => by
      rw [e, hp] at ha
      cases ha
    have halB : AllQ (isA K) ar xs B := hal.mapR fun q v h => by
      obtain ⟨t, e, ht⟩ := h
      exact ⟨t, e, kB _ _ ht fun z => by rw [z, hp] at ht; cases ht⟩
    obtain ⟨kk, hkk, hkx⟩ := halB.keyed
    refine ⟨_, rfl, a, xs, kk, rfl, SqL.of (kB _ _ ha nap), hkk, fun zs la _ permz nla => ?_⟩
    have v1 := Same.upd_new (H := B) (o := .lst zs) nla
    refine ⟨_, rfl, p, CB, dx, _, rfl, v1 _ _ hpB, T.cl, T.nAr, (by show 2 < 1000; decide), ?_⟩
    have nlap : la ≠ p := (ne_of_none hpB nla).symm
    refine ⟨_, rfl, _, rfl, p, CB, dx, _, rfl, upd_same, T.cl, T.nFi, (by show 3 < 1000; decide), ?_⟩
    rw [upd_upd]
    obtain ⟨C, hC⟩ : ∃ C, C = upd (upd B la (.lst zs)) p (.ins CB dx (putF "_first" (.str fi) (putF "_arrows" (.ref la) (putF "_motions" (.ref D) (putF "_things" (.ref lt') []))))) := ⟨_, rfl⟩
    have kBC : ∀ b o, B b = some o → b ≠ p → C b = some o := fun b o e n => by rw [hC, upd_ne n]; exact v1 b o e
    have hpC : C p = some (.ins CB dx (putF "_first" (.str fi) (putF "_arrows" (.ref la) (putF "_motions" (.ref D) (putF "_things" (.ref lt') []))))) := by rw [hC, upd_same]
    have hlaC : C la = some (.lst zs) := by rw [hC, upd_ne nlap, upd_same]
    have kC : ∀ b o, H b = some o → b ≠ p → C b = some o := fun b o e n => kBC _ _ (kB b o e n) n
    have nrp : r ≠ p := fun e => by
      rw [e, hp] at hre
      cases hre
    rw [← hC]
    clear hC
    refine ⟨_, rfl, r, rs, rfl, SqL.of (kC _ _ hre nrp), (by have := g.r6; omega), fun ys3 lr perm3 _ nlr => ?_⟩
    have w1 := Same.upd_new (H := C) (o := .lst (ys3.map V.str)) nlr
    refine ⟨_, rfl, p, CB, dx, _, rfl, w1 _ _ hpC, T.cl, T.nRe, (by show 4 < 1000; decide), ?_⟩
    have nlrp : lr ≠ p := (ne_of_none hpC nlr).symm
    have kE : ∀ b o, C b = some o → b ≠ p → (upd (upd C lr (.lst (ys3.map V.str))) p (.ins CB dx (bf lt' D la fi lr))) b = some o := fun b o e n => by rw [upd_ne n]; exact w1 b o e
    refine q _ ⟨ys, zs.map kk, ys3, dx, lt', D, la, lr, zs, perm, ?_, perm3, upd_same, kE _ _ (kBC _ _ hltB nlp) nlp, ?_, kE _ _ hlaC nlap, AllQ.of_key fun x hx => ?_, by rw [upd_ne nlrp, upd_same]⟩ fun b o e n => kE _ _ (kC b o e n) n
    · have := permz.map kk
      rw [hkx] at this
      exact this
    · obtain ⟨kv2, c1, c2, c3⟩ := hDB
      refine ⟨kv2, kE _ _ (kBC _ _ c1 pD) pD, c2, fun q hq => ?_⟩
      obtain ⟨m, e, hm⟩ := c3 q hq
      exact ⟨m, e, (hm.kp hpB kBC).kp hpC kE⟩
    · obtain ⟨t, e, ht⟩ := hkk x (permz.mem_iff.mp hx)
      have ntp : t ≠ p := fun z => by
        rw [z, hpB] at ht
        cases ht
      exact ⟨t, e, kE _ _ (kBC _ _ ht ntp) ntp⟩
end
end Cm
end

/-! ## Rc24 -/
section
set_option pp.maxSteps 400
namespace Cm
open PySem PySem.Spec PyProof.Rows L2 KG
abbrev sReached : Stmt := sB 14
abbrev sCallers : Stmt := sB 15
abbrev sHas : Stmt := sB 17
abbrev sWith : Stmt := sB 19
abbrev sAdd : Stmt := sB 21
abbrev sSub : Stmt := sB 22
/-- a method called by its name -/
structure Me (P : Program) (w : World) (K : PySem.W.Frag) (mg : Str → Option Value) (base : Heap) (k : Nat) (C : Addr) (m : Str) (ps : List Str) (sp : Sp) : Prop where
  ex : ∃ (f : Addr) (fd : FuncData), Meth K C m f ∧ FnOk P w K mg base CX0 k f fd ps sp ∧ Binds K fd ps []
section
variable {X : Cx} {k j : Nat} {C : Addr} {m : Str} {ps : List Str} {sp : Sp} {pos apos : Pos} {o e : Expr} {es : List Expr} {ta : TE} {t : TA}
theorem pe_m {pl : Sem Bool} (c : Me X.prog X.w X.K X.mg X.base k C m ps sp) (cl : Cls X.K C) (hr : Room j X.A) (hj : k ≤ j) (he : PE X o ta) (ha : PA X (e :: es) t)
    (hst : starEach (e :: es) X.env = (false, eval e X.env) :: starEach es X.env := by rfl) (hpl : (backTo pos (starEach es X.env)).any (·.1) = false := by rfl)
    (ht : eval (.Call (.Attribute o m apos) (e :: es) [] pos) X.env = (do
      let ov ← eval o X.env
      standAt apos.atName
      let (f, first) ← holding [ov] (getMethod ov m pl)
      callWith pos f first (backTo pos (starEach (e :: es) X.env)) (backToKw pos (keywordEach [] X.env))) := by rfl) :
    PE X (.Call (.Attribute o m apos) (e :: es) [] pos) (tMeth C m sp [] E0 ta t) := by
  obtain ⟨f, fd, hm, F, hb⟩ := c.ex
  exact pe_meth he cl hm F (hr.mono hj) hb .nil pass0 ha hst hpl ht
theorem pe_m0 {pl : Sem Bool} (c : Me X.prog X.w X.K X.mg X.base k C m ps sp) (cl : Cls X.K C) (hr : Room j X.A) (hj : k ≤ j) (he : PE X o ta)
    (ht : eval (.Call (.Attribute o m apos) [] [] pos) X.env = (do
      let ov ← eval o X.env
      standAt apos.atName
      let (f, first) ← holding [ov] (getMethod ov m pl)
      callWith pos f first (backTo pos (starEach [] X.env)) (backToKw pos (keywordEach [] X.env))) := by rfl) :
    PE X (.Call (.Attribute o m apos) [] [] pos) (tMeth C m sp [] E0 ta tNil) := by
  obtain ⟨f, fd, hm, F, hb⟩ := c.ex
  exact pe_meth0 he cl hm F (hr.mono hj) hb .nil pass0 ht
end
/-- the dict of what is found -/
def kd (ks : List Str) : List (Key × V) := ks.map fun k => ((Sum.inr k : Key), V.bl true)
theorem kd_keys (ks : List Str) : (kd ks).map (·.1) = ks.map Sum.inr := by
  unfold kd
  rw [List.map_map]
  rfl
theorem putK_kd (ks : List Str) (z : Str) : putK (kd ks) (Sum.inr z : Key) (V.bl true) = kd (if z ∈ ks then ks else ks ++ [z]) := by
  by_cases h : z ∈ ks
  · rw [if_pos h]
    unfold putK
    have e : ((kd ks).any fun kv => decide (kv.1 = (Sum.inr z : Key))) = true := by
      rw [List.any_eq_true]
      exact ⟨(Sum.inr z, V.bl true), List.mem_map.mpr ⟨z, h, rfl⟩, decide_eq_true rfl⟩
    rw [if_pos e]
    unfold kd
    rw [List.map_map]
    refine List.map_congr_left fun k hk => ?_
    show (if (Sum.inr k : Key) = Sum.inr z then ((Sum.inr k : Key), V.bl true) else ((Sum.inr k : Key), V.bl true)) = _
    split <;> rfl
  · rw [if_neg h, putK_new]
    · unfold kd
      rw [List.map_append]
      rfl
    · intro q hq e
      obtain ⟨k, hk, rfl⟩ := List.mem_map.mp hq
      have e' : k = z := Sum.inr.inj e
      rw [e'] at hk
      exact h hk
def spReached (K : PySem.W.Frag) (CB : Addr) : Sp := fun vs H Q _ => ∃ (b : Addr) (ns : List Str) (ar : List Ar) (f : Str) (rs : List Str), vs = [.ref b] ∧ BookAt K CB H b ns ar f rs ∧ Good ns ar f rs ∧
  ∀ (H' : Hp) (p : Addr) (ys : List Str), Same H H' → H' p = some (.lst (ys.map V.str)) → IsRS ar f ys → Q (.ref p) H'
def spCallers (K : PySem.W.Frag) (CB : Addr) : Sp := fun vs H Q _ => ∃ (b : Addr) (z : Str) (ns : List Str) (ar : List Ar) (f : Str) (rs : List Str), vs = [.ref b, .str z] ∧ BookAt K CB H b ns ar f rs ∧ Good ns ar f rs ∧ z ∈ ns ∧
  ∀ (H' : Hp) (p : Addr) (ys : List Str), Same H H' → H' p = some (.lst ((ys.filter fun x => decide ((x, z) ∈ ar)).map V.str)) → IsRS ar f ys → Q (.ref p) H'
section
variable {P : Program} {w : World} {K : PySem.W.Frag} {mg : Str → Option Value} {base : Heap} {CB : Addr}
theorem scReached : FnScope ["self", "found", "_", "one", "other"] ["self"] (defScope sReached) := ⟨rfl, rfl, rfl, by decide +kernel, rfl, by decide +kernel, by decide +kernel⟩
theorem ok_reached {f : Addr} {fd : FuncData} (F : Fun K "reached" "Book.reached" sReached f fd) (TP : TxtP mg) (T : TxtB K mg CB) : FnOk P w K mg base CX0 1 f fd ["self"] (spReached K CB) := by
  refine F.ok scReached (fun vs H Q E h => ?_) (fun cdv A outer s H vs Q E hr h => ?_)
  · obtain ⟨b, ns, ar, f, rs, rfl, _⟩ := h
    rfl
  · obtain ⟨b, ns, ar, fi, rs, rfl, ⟨ns', ar', rs', dx, lt, dm, la, lr, xs, p1, p2, p3, h1, h2, h3, h4, h5, h6⟩, g, q⟩ := h
    have hu := hu_of hr
    have g' := g.perm p1 p2 p3
    obtain ⟨kvs, hd1, hd2, hd3⟩ := id h3
    have el : kvs.length = ns'.length := by
      have := congrArg List.length hd2
      rwa [List.length_map, List.length_map] at this
    refine ⟨_, pss_cons (ps_set (i := 1) scReached.nd rfl (Or.inl rfl) (pe_disp (pps_cons (pe_fld (pv 0) rfl) pe_bl pps_nil) (by rfl) (by rfl) (fun z => by cases z) (by decide)))
      (pss_cons (ps_lock (ps_for PassesOwn.never rfl (pi_keys (pe_fld (pv 0) rfl)) (pg_name (i := 2) scReached.nd rfl (Or.inl rfl))
        (pss_one (ps_for PassesOwn.never rfl (pi_list (pe_fld (pv 0) rfl)) (pg_tup (by rfl) (pgs_cons (pg_name (i := 3) scReached.nd rfl (Or.inl rfl)) (pgs_cons (pg_name (i := 4) scReached.nd rfl (Or.inl rfl)) pgs_nil)))
          (pss_one (ps_if (pt_cmp (pc_din hu (pv 3) (pv 1))) (pss_one (ps_dput hu (pv 1) (pv 4) pe_bl rfl)) pss_nil))))))
      (pss_one (ps_ret (pe_callB (call_sortedD (by rfl)) (by rfl) TP.sorted (by decide +kernel) (pa_cons (pv 1) pa_nil))))), ?_⟩
    refine fun D nD => ⟨_, rfl, b, CB, dx, _, .str fi, rfl, (Same.upd_new nD) _ _ h1, T.cl, T.nFi, bf_fi _ _ _ _ _, upd_same, [((Sum.inr fi : Key), V.bl true)], rfl, (by show 1 ≤ 15; decide), ?_⟩
    rw [upd_upd]
    have s0 : Same H (upd H D (.dK (mergeK [] [((Sum.inr fi : Key), V.bl true)]))) := Same.upd_new nD
    have hD0 : (upd H D (.dK (mergeK [] [((Sum.inr fi : Key), V.bl true)]))) D = some (.dK (kd [fi])) := by
      rw [upd_same]
      rfl
    obtain ⟨A0, hA0⟩ : ∃ A0, A0 = upd H D (.dK (mergeK [] [((Sum.inr fi : Key), V.bl true)])) := ⟨_, rfl⟩
    rw [← hA0] at s0 hD0
    rw [← hA0]
    clear hA0
    have ndD : dm ≠ D := ne_of_none hd1 nD
    have bdm : b ≠ dm := fun e => by rw [e, hd1] at h1; cases h1
    have ladm : la ≠ dm := fun e => by rw [e, hd1] at h4; cases h4
    refine ⟨dm, _, s0 _ _ hd1, trivial, fun od => ?_⟩
    have keep0 : ∀ c o, H c = some o → c ≠ dm → (upd A0 dm (.frz od (.dK kvs))) c = some o := fun c o e n => by rw [upd_ne n]; exact s0 c o e
    refine ⟨_, rfl, b, CB, dx, _, .ref dm, rfl, keep0 _ _ h1 bdm, T.cl, T.nMo, bf_mo _ _ _ _ _, dm, od, rfl, .inl ⟨kvs, upd_same, for_it walk_keys (fun i σ G => (∃ x2 x3 x4, σ = [some (.ref b), some (.ref D), x2, x3, x4]) ∧ G dm = some (.frz od (.dK kvs)) ∧ (∀ c o, H c = some o → c ≠ dm → G c = some o) ∧ G D = some (.dK (kd (rounds ar' i [fi])))) ⟨⟨none, none, none, rfl⟩, upd_same, keep0, by rw [upd_ne ndD.symm]; exact hD0⟩ (fun i σ G _ p => p.2.1) ?_ ?_⟩⟩
    · rintro i x σ G G' hi ⟨⟨x2, x3, x4, rfl⟩, gd, gk, gD⟩ ⟨rfl, k, v, hk, rfl⟩
      have s1nd := rounds_nodup (ar := ar') i (nodup_one fi)
      have s1in : ∀ z ∈ rounds ar' i [fi], z ∈ ns' := rounds_all (P := fun z => z ∈ ns') (fun p hp _ => (g'.arw p hp).2) i fun z hz => by rw [List.mem_singleton.mp hz]; exact g'.fin
      refine ⟨_, rfl, b, CB, dx, _, .ref la, rfl, gk _ _ h1 bdm, T.cl, T.nAr, bf_ar _ _ _ _ _, la, rfl, ⟨_, SqL.of (gk _ _ h4 ladm)⟩, for_list (K := K) (a := la) (xs := xs) (fun j σ G2 => (∃ x2 x3 x4, σ = [some (.ref b), some (.ref D), x2, x3, x4]) ∧ G2 dm = some (.frz od (.dK kvs)) ∧ (∀ c o, H c = some o → c ≠ dm → G2 c = some o) ∧ G2 D = some (.dK (kd (round (ar'.take j) (rounds ar' i [fi]))))) ⟨⟨_, _, _, rfl⟩, gd, gk, by rw [List.take_zero]; exact gD⟩ (fun j σ G2 _ p => SqL.of (p.2.2.1 _ _ h4 ladm)) ?_ ?_⟩
      · rintro j y σ G2 hy ⟨⟨y2, y3, y4, rfl⟩, g2d, g2k, g2D⟩
        obtain ⟨p, ep, t, rfl, ht⟩ := AllQ.get h5 hy
        have ntd : t ≠ dm := fun e => by rw [e, hd1] at ht; cases ht
        have ht2 := g2k _ _ ht ntd
        have nd2 := round_nodup (ar'.take j) s1nd
        have in2 : ∀ z ∈ round (ar'.take j) (rounds ar' i [fi]), z ∈ ns' := round_all (P := fun z => z ∈ ns') (ar'.take j) (fun p hp _ => (g'.arw p (List.mem_of_mem_take hp)).2) s1in
        have le2 := nodup_le nd2 in2
        have est : round (ar'.take (j + 1)) (rounds ar' i [fi]) = arrStep (round (ar'.take j) (rounds ar' i [fi])) p := by
          unfold round
          rw [List.take_add_one, ep, List.foldl_append]
          rfl
        refine ⟨t, _, rfl, SqT.of ht2, rfl, _, _, rfl, _, _, rfl, rfl, ?_⟩
        refine ⟨_, rfl, _, rfl, D, _, rfl, DGet.k (k := Sum.inr p.1) g2D, _, rfl, ?_⟩
        rw [val_isSome (kd_keys _)]
        refine ite2 (fun h => ?_) (fun h => ?_)
        · have hin := of_decide_eq_true h
          refine ⟨_, rfl, _, rfl, D, _, rfl, DPut.k (k := Sum.inr p.2) g2D ?_, ?_⟩
          · unfold kd
            rw [List.length_map]
            have h6' := g'.n6
            have : (60 : Nat) < sizeLine := by decide
            omega
          · refine ⟨⟨_, _, _, rfl⟩, by rw [upd_ne ndD]; exact g2d, fun c o e n => ?_, ?_⟩
            · rw [upd_ne (ne_of_none e nD)]
              exact g2k c o e n
            · rw [upd_same, putK_kd, est]
              unfold arrStep
              rw [if_pos hin]
        · have hin : p.1 ∉ round (ar'.take j) (rounds ar' i [fi]) := fun z => h (decide_eq_true z)
          refine ⟨⟨_, _, _, rfl⟩, g2d, g2k, ?_⟩
          rw [est]
          unfold arrStep
          rw [if_neg hin]
          exact g2D
      · rintro σ G2 ⟨hσ, g2d, g2k, g2D⟩
        refine ⟨hσ, g2d, g2k, ?_⟩
        rw [rounds_succ]
        have e : ar'.take xs.length = ar' := by rw [h5.len, List.take_length]
        rw [e] at g2D
        exact g2D
    · rintro σ G ⟨⟨x2, x3, x4, rfl⟩, gd, gk, gD⟩
      rw [el] at gD
      have sG : Same H (upd G dm (.dK kvs)) := fun c o e => by
        by_cases hc : c = dm
        · rw [hc, hd1] at e
          rw [hc, upd_same]
          exact e
        · rw [upd_ne hc]
          exact gk c o e hc
      have R := rounds_reach (ar := ar') (ns := ns') (f := fi) (fun p hp => (g'.arw p hp).2) g'.fin
      have le := nodup_le R.1 (rounds_all (P := fun z => z ∈ ns') (fun p hp _ => (g'.arw p hp).2) ns'.length fun z hz => by rw [List.mem_singleton.mp hz]; exact g'.fin)
      refine ⟨gd, _, rfl, D, _, _, rfl, .inl (by rw [upd_ne ndD.symm]; exact gD), kd_keys _, ?_, fun ys p perm srt np => ?_⟩
      · have h6' := g'.n6
        omega
      · exact q _ p ys (Same.trans' sG (Same.upd_new np)) upd_same ⟨srt, (R.congr fun p => p2.mem_iff).perm perm⟩
theorem scCallers : FnScope ["self", "scene", "one"] ["self", "scene"] (defScope sCallers) := ⟨rfl, rfl, rfl, by decide +kernel, rfl, by decide +kernel, by decide +kernel⟩
theorem ok_callers {f : Addr} {fd : FuncData} (F : Fun K "callers" "Book.callers" sCallers f fd) (T : TxtB K mg CB) (c4 : Cl P w K mg base 2 "check_scene" ["scenes", "value"] spChSc) (cR : Me P w K mg base 1 CB "reached" ["self"] (spReached K CB)) : FnOk P w K mg base CX0 3 f fd ["self", "scene"] (spCallers K CB) := by
  refine F.ok scCallers (fun vs H Q E h => ?_) (fun cdv A outer s H vs Q E hr h => ?_)
  · obtain ⟨b, z, ns, ar, f, rs, rfl, _⟩ := h
    rfl
  · obtain ⟨b, z, ns, ar, fi, rs, rfl, hB, g, hz, q⟩ := h
    obtain ⟨ns', ar', rs', dx, lt, dm, la, lr, xs, p1, p2, p3, h1, h2, h3, h4, h5, h6⟩ := id hB
    have g' := g.perm p1 p2 p3
    refine ⟨_, pss_cons (ps_expr (pe_k c4 hr (by decide) (by rfl) (pa_cons (pe_fld (pv 0) rfl) (pa_cons (pv 1) pa_nil))))
      (pss_one (ps_ret (pe_lc (own := [("one", 2)]) (g := gName 2) (by rfl) scCallers.nd (pi_list (pe_m0 cR T.cl hr (by decide) (pv 0)))
        (blkOk_by (own := [("one", 2)]) (N := ["self", "scene", "one"]) (sc := defScope sCallers) (by decide +kernel)) (fun _ _ _ _ _ => pg_name (i := 2) scCallers.nd rfl (Or.inl rfl))
        (fun _ _ _ _ _ => pts_one (pt_cmpR (show OpR _ _ (rInD K) from op_inD (Room.units65 hr)) (pe_tup (pa_cons (pv 2) (pa_cons (pv 1) pa_nil))) (pe_fldK rfl (pv 0) rfl) (by rfl))) (fun _ _ _ _ _ => pv 2)))), ?_⟩
    refine ⟨_, rfl, b, CB, dx, _, .ref dm, rfl, h1, T.cl, T.nMo, bf_mo _ _ _ _ _, _, rfl, dm, z, ns', rfl, h3.names, p1.mem_iff.mpr hz, ?_⟩
    refine ⟨_, rfl, b, dx, _, rfl, h1, bf_no _ _ _ _ _ (by decide +kernel) (by decide +kernel) (by decide +kernel) (by decide +kernel) (by decide +kernel), b, ns, ar, fi, rs, rfl, hB, g, fun H1 p ys s1 hp hys => ?_⟩
    refine ⟨p, rfl, ⟨_, SqL.of hp⟩, fun D nD => ?_⟩
    have t1 := Same.upd_new (H := H1) (o := .lst []) nD
    have ysl : ys.length ≤ 6 := Nat.le_trans (nodup_le (ns := ns) hys.2.1 fun z hz => by
      have : ∀ {x}, Reach ar fi x → x ∈ ns := fun r => by
        induction r with
        | base => exact g.fin
        | step _ e _ => exact (g.arw _ e).2
      exact this ((hys.2.2 z).mp hz)) g.n6
    refine lc_it (walk_list (K := K) (a := p) (xs := ys.map V.str)) (fun i G => Same H1 G ∧ G D = some (.lst (((ys.take i).filter fun x => decide ((x, z) ∈ ar)).map V.str))) ⟨t1, by rw [upd_same, List.take_zero]; rfl⟩ (fun i G _ p => SqL.of (p.1 _ _ hp)) ?_ ?_
    · rintro i x G G' hi ⟨sg, gD⟩ ⟨rfl, hx⟩
      rw [List.getElem?_map] at hx
      obtain ⟨y, ey, rfl⟩ : ∃ y, ys[i]? = some y ∧ x = .str y := by
        cases e : ys[i]? with
        | none => rw [e] at hx; cases hx
        | some y => rw [e] at hx; cases hx; exact ⟨y, rfl, rfl⟩
      have hyn : y ∈ ns := by
        have : ∀ {x}, Reach ar fi x → x ∈ ns := fun r => by
          induction r with
          | base => exact g.fin
          | step _ e _ => exact (g.arw _ e).2
        exact this ((hys.2.2 y).mp (List.mem_of_getElem? ey))
      have step : ((ys.take (i + 1)).filter fun x => decide ((x, z) ∈ ar)).map V.str = ((ys.take i).filter fun x => decide ((x, z) ∈ ar)).map V.str ++ (if decide ((y, z) ∈ ar) = true then [V.str y] else []) := by
        rw [List.take_add_one, ey, List.filter_append, List.map_append]
        congr 1
        show List.map V.str (List.filter _ [y]) = _
        rw [List.filter_cons]
        split <;> rfl
      refine ⟨rfl, _, rfl, _, rfl, (by show 2 ≤ sizeLine; decide), fun u nu => ?_⟩
      have su := Same.upd_new (H := G') (o := .tup [V.str y, V.str z]) nu
      have sH := Same.trans' (Same.trans' s1 sg) su
      refine ⟨_, rfl, b, CB, dx, _, .ref la, rfl, sH _ _ h1, T.cl, T.nAr, bf_ar _ _ _ _ _, ?_⟩
      refine ⟨pds (y, z), ar'.map pds, dp_arrow (SqT.of upd_same), .lst (SqL.of (sH _ _ h4)) (AllQ.dpA (h5.keep (mon_isA K) (.of sH))), shaped_pd1 _ ⟨(g.nm y hyn).2.2, (g.nm z hz).2.2⟩, shaped_pds _ (fun r hr => (g'.nma r hr).2.2), _, rfl, ?_⟩
      rw [any_pds, show decide ((y, z) ∈ ar') = decide ((y, z) ∈ ar) from decide_eq_decide.mpr p2.mem_iff]
      have gD' := su _ _ gD
      refine ite2 (fun h => ?_) (fun h => ?_)
      · refine ⟨_, rfl, _, gD', ?_, fun c o e => ?_, ?_⟩
        · rw [List.length_map]
          have h1 := List.length_filter_le (fun x => decide ((x, z) ∈ ar)) (ys.take i)
          have h2 : (ys.take i).length ≤ ys.length := by rw [List.length_take]; omega
          have : (60 : Nat) < sizeLine := by decide
          omega
        · rw [upd_ne (ne_of_none e nD)]
          exact su _ _ (sg c o e)
        · rw [upd_same, step, if_pos h]
      · refine ⟨fun c o e => su _ _ (sg c o e), ?_⟩
        rw [step, if_neg h, List.append_nil]
        exact gD'
    · rintro G ⟨sg, gD⟩
      rw [List.length_map, List.take_length] at gD
      exact q G D ys (Same.trans' s1 sg) gD hys
/-! ### an arrow more or less -/
theorem BookAt.perm {H : Hp} {b : Addr} {ns ns' : List Str} {ar ar' : List Ar} {f : Str} {rs rs' : List Str} (h : BookAt K CB H b ns ar f rs) (p1 : ns.Perm ns') (p2 : ar.Perm ar') (p3 : rs.Perm rs') : BookAt K CB H b ns' ar' f rs' := by
  obtain ⟨n1, a1, r1, dx, lt, dm, la, lr, xs, q1, q2, q3, r⟩ := h
  exact ⟨n1, a1, r1, dx, lt, dm, la, lr, xs, q1.trans p1, q2.trans p2, q3.trans p3, r⟩
def spHas (K : PySem.W.Frag) (CB : Addr) : Sp := fun vs H Q _ => ∃ (b t : Addr) (p : Ar) (ns : List Str) (ar : List Ar) (f : Str) (rs : List Str), vs = [.ref b, .ref t] ∧ BookAt K CB H b ns ar f rs ∧ Good ns ar f rs ∧ H t = some (.tup [.str p.1, .str p.2]) ∧ p.1 ∈ ns ∧ p.2 ∈ ns ∧
  ∀ H', Same H H' → Q (.bl (decide (p ∈ ar))) H'
def spWith (K : PySem.W.Frag) (CB : Addr) : Sp := fun vs H Q _ => ∃ (b l : Addr) (ns : List Str) (ar br : List Ar) (f : Str) (rs : List Str) (xs : List V), vs = [.ref b, .ref l] ∧ BookAt K CB H b ns ar f rs ∧ H l = some (.lst xs) ∧ AllQ (isA K) br xs H ∧ Good ns br f rs ∧
  ∀ (H' : Hp) (c : Addr), Same H H' → BookAt K CB H' c ns br f rs → Q (.ref c) H'
def spAdd (K : PySem.W.Frag) (CB : Addr) : Sp := fun vs H Q _ => ∃ (b t : Addr) (p : Ar) (ns : List Str) (ar : List Ar) (f : Str) (rs : List Str), vs = [.ref b, .ref t] ∧ BookAt K CB H b ns ar f rs ∧ Good ns ar f rs ∧ H t = some (.tup [.str p.1, .str p.2]) ∧ p.1 ∈ ns ∧ p.2 ∈ ns ∧ p ∉ ar ∧
  ∀ (H' : Hp) (c : Addr), Same H H' → BookAt K CB H' c ns (ar ++ [p]) f rs → Q (.ref c) H'
def spSub (K : PySem.W.Frag) (CB : Addr) : Sp := fun vs H Q _ => ∃ (b t : Addr) (p : Ar) (ns : List Str) (ar : List Ar) (f : Str) (rs : List Str), vs = [.ref b, .ref t] ∧ BookAt K CB H b ns ar f rs ∧ Good ns ar f rs ∧ H t = some (.tup [.str p.1, .str p.2]) ∧ p ∈ ar ∧
  ∀ (H' : Hp) (c : Addr), Same H H' → BookAt K CB H' c ns (ar.filter fun q => decide (q ≠ p)) f rs → Q (.ref c) H'
theorem Good.less {ns : List Str} {ar br : List Ar} {f : Str} {rs : List Str} (g : Good ns ar f rs) (nd : br.Nodup) (h : ∀ p ∈ br, p ∈ ar) : Good ns br f rs := ⟨g.n0, g.n6, g.nd, g.nm, nd, fun p hp => g.arw p (h p hp), g.fin, g.rnd, g.rin⟩
theorem Good.more {ns : List Str} {ar : List Ar} {f : Str} {rs : List Str} {p : Ar} (g : Good ns ar f rs) (n : p ∉ ar) (h1 : p.1 ∈ ns) (h2 : p.2 ∈ ns) : Good ns (ar ++ [p]) f rs := ⟨g.n0, g.n6, g.nd, g.nm, by
    rw [List.nodup_append]
    exact ⟨g.and, List.nodup_cons.mpr ⟨by simp, List.nodup_nil⟩, fun a ha b hb e => n (by rw [← List.mem_singleton.mp hb, ← e]; exact ha)⟩, fun q hq => by
    rcases List.mem_append.mp hq with hq | hq
    · exact g.arw q hq
    · rw [List.mem_singleton.mp hq]
      exact ⟨h1, h2⟩, g.fin, g.rnd, g.rin⟩
theorem scHas : FnScope ["self", "value"] ["self", "value"] (defScope sHas) := ⟨rfl, rfl, rfl, by decide +kernel, rfl, by decide +kernel, by decide +kernel⟩
theorem ok_has {f : Addr} {fd : FuncData} (F : Fun K "_has_arrow" "Book._has_arrow" sHas f fd) (T : TxtB K mg CB) (cA : Cl P w K mg base 2 "is_arrow" ["scenes", "value"] (spArr K)) : FnOk P w K mg base CX0 3 f fd ["self", "value"] (spHas K CB) := by
  refine F.ok scHas (fun vs H Q E h => ?_) (fun cdv A outer s H vs Q E hr h => ?_)
  · obtain ⟨b, t, p, ns, ar, f, rs, rfl, _⟩ := h
    rfl
  · obtain ⟨b, t, p, ns, ar, fi, rs, rfl, ⟨ns', ar', rs', dx, lt, dm, la, lr, xs, p1, p2, p3, h1, h2, h3, h4, h5, h6⟩, g, ht, m1, m2, q⟩ := h
    have g' := g.perm p1 p2 p3
    refine ⟨_, pss_one (ps_ret (pe_and (pe_k cA hr (by decide) (by rfl) (pa_cons (pe_fld (pv 0) rfl) (pa_cons (pv 1) pa_nil))) (pe_one (pe_cmpR (op_inD (Room.units65 hr)) (pv 1) (pe_fld (pv 0) rfl) (by rfl))))), ?_⟩
    refine ⟨_, rfl, b, CB, dx, _, .ref dm, rfl, h1, T.cl, T.nMo, bf_mo _ _ _ _ _, _, rfl, dm, t, p.1, p.2, ns', rfl, h3.names, SqT.of ht, p1.mem_iff.mpr m1, p1.mem_iff.mpr m2, fun H1 s1 => ⟨_, rfl, ?_⟩⟩
    refine iteT ⟨_, rfl, _, rfl, b, CB, dx, _, .ref la, rfl, s1 _ _ h1, T.cl, T.nAr, bf_ar _ _ _ _ _, ?_⟩
    refine ⟨pds p, ar'.map pds, dp_arrow (SqT.of (s1 _ _ ht)), .lst (SqL.of (s1 _ _ h4)) (AllQ.dpA (h5.keep (mon_isA K) (.of s1))), shaped_pd1 _ ⟨(g.nm _ m1).2.2, (g.nm _ m2).2.2⟩, shaped_pds _ (fun r hr => (g'.nma r hr).2.2), ?_⟩
    rw [any_pds, show decide (p ∈ ar') = decide (p ∈ ar) from decide_eq_decide.mpr p2.mem_iff]
    exact q H1 s1
end
end Cm
end

/-! ## Ad24 -/
section
set_option pp.maxSteps 400
/-! own operators with a tuple on the right. -/
namespace KG
open PySem PySem.Spec PyProof.Rows L2
section
open PySem.W
variable {prog : Program} {w : World} {A : Around} {E : Value → Shared → Prop} {s : Shared} {h₀ : Heap} {L : Addr} {K : Frag} {m : Str → Option Value} {T : String} {x C f : Addr} {ox : Obj} {od : Option Obj}
theorem ksp_binL {op : Operator} {b : Value} {fo ro rc : Option Value} {Q : Value → Shared → Prop} (X : K.In s.heap) (I : InstAt s.heap x ox C od) (L2 : Looks (model prog w) s.heap (typeOf b) (.type T)) (hc : selfFirst K C = true)
    (hs : findIn K (.ref C) (PySem.dunder op.info.2) = some (some (.ref f))) (hf : isFn K (.ref f) = true) (hr : findIn K (.ref C) (dunderR op.info.2) = some rc) (hp : rc = none ∨ ∃ g : Addr, rc = some (.ref g))
    (h1 : findIn K (.type T) (PySem.dunder op.info.2) = some fo) (h2 : findIn K (.type T) (dunderR op.info.2) = some ro) (hsub : subIn K (.type T) (.ref C) = some false)
    (h : wpAny (model prog w) A (call (.ref f) [.ref x, b]) (PySem.W.CmpBack Q) E s) : wpAny (model prog w) A (binaryOp op (.ref x) b) Q E s := by
  obtain ⟨cd, rest, hcd, hm⟩ := ksp_first hc
  rcases hi : op.info with ⟨sym, nm'⟩
  rw [hi] at hs hr h1 h2
  dsimp only at hs hr h1 h2
  have one := ksp_try X I hs hf h
  obtain ⟨hh, g, d, tt, os⟩ := s
  have L1 : Looks (model prog w) hh (typeOf (.ref x)) (.ref C) := I.type
  have L2 : Looks (model prog w) hh (typeOf b) (.type T) := L2
  have L3 : Looks (model prog w) hh (fillsNumberSlot (.ref C) nm') true := fills_K X hcd hm hs
  have L4 : Looks (model prog w) hh (fillsNumberSlot (.type T) nm') ((fo.isSome && !isSeqSlot fo) || (ro.isSome && !isSeqSlot ro)) := ksp_fillsT X h1 h2
  have L5 : Looks (model prog w) hh (isSubtype (.type T) (.ref C)) false := looks_subIn X hsub
  have L6 : Looks (model prog w) hh (numberSlotInPython (.ref C) nm') true := ksp_inPy X hs hr hp
  have L7 : Looks (model prog w) hh (numberSlotInPython (.type T) nm') false := Looks.of_pure rfl
  have L8 : Looks (model prog w) hh (typeLookup (.type T) (dunderR nm')) ro := looks_findIn X h2
  generalize ((fo.isSome && !isSeqSlot fo) || (ro.isSome && !isSeqSlot ro)) = right at L4
  have hne : (Value.ref C == Value.type T) = false := Bool.eq_false_iff.mpr fun q => by cases beq_iff_eq.mp q
  simp only [binaryOp, hi]
  refine wpAny_holding (wpAny_bind ?_)
  unfold binaryOp1
  refine wpAny_bind (L1.at (wpAny_bind (L2.at (wpAny_bind (L3.at ?_)))))
  simp only [hne, Bool.false_eq_true, if_false]
  cases right with
  | false =>
    ksp_lk
    refine wpAny_mono one (fun r s' hr' => ?_) fun _ _ e => e
    obtain ⟨v, rfl, hq⟩ := hr'
    ksp_lk
    exact hq
  | true =>
    ksp_lk
    refine wpAny_mono one (fun r s' hr' => ?_) fun _ _ e => e
    obtain ⟨v, rfl, hq⟩ := hr'
    ksp_lk
    exact hq
end
/-- what the class says of an operator with a tuple on the right -/
structure TupO (K : PySem.W.Frag) (C : Addr) (op : Operator) : Prop where
  r : PySem.W.findIn K (.ref C) (dunderR op.info.2) = some none
  i1 : ∃ fo, PySem.W.findIn K (.type "tuple") (PySem.dunder op.info.2) = some fo
  i2 : ∃ ro, PySem.W.findIn K (.type "tuple") (dunderR op.info.2) = some ro
  sub : PySem.W.subIn K (.type "tuple") (.ref C) = some false
section
variable {X : Cx} {k j : Nat} {C : Addr} {sp : Sp}
def rOT (C : Addr) (sp : Sp) : R2 := fun x y H Q => ∃ a t xs, x = .ref a ∧ y = .ref t ∧ IsI H C a ∧ H t = some (.tup xs) ∧ sp [.ref a, .ref t] H (RefQ Q) E0
theorem op_OT {op : Operator} (S : Sl X.prog X.w X.K X.mg X.base C (PySem.dunder op.info.2) k sp) (O : TupO X.K C op) (hr : Room j X.A) (hk : k ≤ j) (hc : PySem.W.selfFirst X.K C = true) : OpR X (binaryOp op) (rOT C sp) := by
  obtain ⟨f, fd, ps, F, hb, hs, hf⟩ := S.ex
  obtain ⟨fo, h1⟩ := O.i1
  obtain ⟨ro, h2⟩ := O.i2
  intro pins s σ H x y v u Q I rx ry h
  obtain ⟨a, t, xs, rfl, rfl, ⟨dx, fs, ha⟩, ht, q⟩ := h
  cases rx
  cases ry
  obtain ⟨mA, J, _⟩ := ins_get I.hok ha
  obtain ⟨od, J, _⟩ := J.look
  obtain ⟨P, Z, p, _⟩ := kit_of (x := .ref t) I rfl (.base (.tup ht))
  refine ksp_binL (T := "tuple") I.kIn J (Z.ty _ _ I.kIn p) hc hs hf O.r (.inl rfl) h1 h2 O.sub ?_
  have rv : Vals [V.ref a, V.ref t] [Value.ref a, Value.ref t] := .cons rfl (.cons rfl .nil)
  exact wpAny_mono (run_fn F (hr.mono hk) hb I rv q) (fun _ _ z => back_ref z) fun _ _ z => z
end
end KG
namespace Cm
open PySem PySem.Spec PyProof.Rows L2 KG
/-- a class that may be made by its name; dvs: the defaults that fill up -/
structure MkC (P : Program) (w : World) (K : PySem.W.Frag) (mg : Str → Option Value) (base : Heap) (k : Nat) (x : Str) (C : Addr) (ps : List Str) (dvs : List V) (sp : Sp) : Prop where
  ex : ∃ (f : Addr) (fd : FuncData) (ds : List Value), Mk K C f ∧ FnOk P w K mg base CX0 k f fd ps sp ∧ mg x = some (.ref C) ∧ Vals dvs ds ∧ Binds K fd ps ds
section
variable {X : Cx} {k j : Nat} {x : Str} {C : Addr} {ps : List Str} {dvs : List V} {sp : Sp} {p pos : Pos} {e : Expr} {es : List Expr} {t : TA}
theorem pe_mk (c : MkC X.prog X.w X.K X.mg X.base k x C ps dvs sp) (hr : Room j X.A) (hj : k + 1 ≤ j) (gl : Gl X x) (ha : PA X (e :: es) t)
    (hdb : (x == ("__debug__" : Str)) = false := by decide)
    (he : starEach (e :: es) X.env = (false, eval e X.env) :: starEach es X.env := by rfl)
    (hpl : (backTo pos (starEach es X.env)).any (·.1) = false := by rfl) :
    PE X (.Call (.Name x p) (e :: es) [] pos) (tMake C sp dvs E0 t) := by
  obtain ⟨f, fd, ds, M, F, hm, hd, hb⟩ := c.ex
  exact pe_make M F (hr.mono hj) gl hm hb hd pass0 ha hdb he hpl
end
theorem pairs_len (ns ms : List Str) : (ns.flatMap fun x => ms.map fun y => (x, y)).length = ns.length * ms.length := by
  induction ns with
  | nil => simp
  | cons x ns ih => rw [List.flatMap_cons, List.length_append, ih, List.length_map, List.length_cons, Nat.succ_mul]; omega
theorem Good.a36 {ns : List Str} {ar : List Ar} {f : Str} {rs : List Str} (g : Good ns ar f rs) : ar.length ≤ 36 := by
  have h := nodup_le (ns := ns.flatMap fun x => ns.map fun y => (x, y)) g.and fun p hp => List.mem_flatMap.mpr ⟨p.1, (g.arw p hp).1, List.mem_map.mpr ⟨p.2, (g.arw p hp).2, rfl⟩⟩
  rw [pairs_len] at h
  exact Nat.le_trans h (Nat.mul_le_mul g.n6 g.n6)
theorem Same.made2 {H : Hp} {x dx : Addr} {o u : HO} (n : H x = none) (m : H dx = none) : Same H (upd (upd H dx o) x u) := fun b v e => by
  rw [upd_ne (ne_of_none e n), upd_ne (ne_of_none e m)]
  exact e
section
variable {P : Program} {w : World} {K : PySem.W.Frag} {mg : Str → Option Value} {base : Heap} {CB : Addr}
theorem scWith : FnScope ["self", "arrows"] ["self", "arrows"] (defScope sWith) := ⟨rfl, rfl, rfl, by decide +kernel, rfl, by decide +kernel, by decide +kernel⟩
theorem ok_with {f : Addr} {fd : FuncData} (F : Fun K "_with_arrows" "Book._with_arrows" sWith f fd) (T : TxtB K mg CB) (cB : MkC P w K mg base 5 "Book" CB ["self", "things", "scenes", "arrows", "first", "resting"] [] (spBInit K CB)) : FnOk P w K mg base CX0 7 f fd ["self", "arrows"] (spWith K CB) := by
  refine F.ok scWith (fun vs H Q E h => ?_) (fun cdv A outer s H vs Q E hr h => ?_)
  · obtain ⟨b, l, ns, ar, br, f, rs, xs, rfl, _⟩ := h
    rfl
  · obtain ⟨b, l, ns, ar, br, fi, rs, xs, rfl, ⟨ns', ar', rs', dx, lt, dm, la, lr, ys, p1, p2, p3, h1, h2, h3, h4, h5, h6⟩, hl, hal, g, q⟩ := h
    have g' := g.perm p1 (List.Perm.refl br) p3
    refine ⟨_, pss_one (ps_ret (pe_mk cB hr (by decide) (by rfl) (pa_cons (pe_fld (pv 0) rfl) (pa_cons (pe_fld (pv 0) rfl) (pa_cons (pv 1) (pa_cons (pe_fld (pv 0) rfl) (pa_cons (pe_fld (pv 0) rfl) pa_nil))))))), ?_⟩
    refine ⟨_, rfl, b, CB, dx, _, .ref lt, rfl, h1, T.cl, T.nTh, bf_th _ _ _ _ _, _, rfl, b, CB, dx, _, .ref dm, rfl, h1, T.cl, T.nMo, bf_mo _ _ _ _ _, _, rfl, _, rfl, b, CB, dx, _, .str fi, rfl, h1, T.cl, T.nFi, bf_fi _ _ _ _ _, _, rfl, b, CB, dx, _, .ref lr, rfl, h1, T.cl, T.nRe, bf_re _ _ _ _ _, ?_⟩
    refine fun c dc nc ndc nec => ?_
    have s1 : ∀ o u, Same H (upd (upd H dc o) c u) := fun o u => Same.made2 nc ndc
    refine ⟨c, dc, lt, dm, l, lr, ns', br, fi, rs', xs, rfl, upd_same, s1 _ _ _ _ h2, h3.keep (s1 _ _), s1 _ _ _ _ hl, hal.keep (mon_isA K) (.of (s1 _ _)), s1 _ _ _ _ h6, g', fun H' hB k => ⟨rfl, ?_⟩⟩
    exact q H' c (fun b o e => k b o (s1 _ _ _ _ e) (ne_of_none e nc)) (hB.perm p1 (List.Perm.refl br) p3)
theorem scAdd : FnScope ["self", "other"] ["self", "other"] (defScope sAdd) := ⟨rfl, rfl, rfl, by decide +kernel, rfl, by decide +kernel, by decide +kernel⟩
theorem ok_add {f : Addr} {fd : FuncData} (F : Fun K "__add__" "Book.__add__" sAdd f fd) (T : TxtB K mg CB) (cA : Cl P w K mg base 2 "is_arrow" ["scenes", "value"] (spArr K)) (cW : Me P w K mg base 7 CB "_with_arrows" ["self", "arrows"] (spWith K CB)) : FnOk P w K mg base CX0 8 f fd ["self", "other"] (spAdd K CB) := by
  refine F.ok scAdd (fun vs H Q E h => ?_) (fun cdv A outer s H vs Q E hr h => ?_)
  · obtain ⟨b, t, p, ns, ar, f, rs, rfl, _⟩ := h
    rfl
  · obtain ⟨b, t, p, ns, ar, fi, rs, rfl, hB, g, ht, m1, m2, np, q⟩ := h
    obtain ⟨ns', ar', rs', dx, lt, dm, la, lr, xs, p1, p2, p3, h1, h2, h3, h4, h5, h6⟩ := id hB
    have g' := g.perm p1 p2 p3
    refine ⟨_, PSs.nox (pss_cons (ps_if (pt_not (pt_val (pe_k cA hr (by decide) (by rfl) (pa_cons (pe_fld (pv 0) rfl) (pa_cons (pv 1) pa_nil))))) (pss_one ps_never) pss_nil)
      (pss_cons (ps_if (pt_cmpR (op_inD (Room.units65 hr)) (pv 1) (pe_fld (pv 0) rfl) (by rfl)) (pss_one ps_never) pss_nil)
      (pss_one (ps_ret (pe_m cW T.cl hr (by decide) (pv 0) (pa_cons (pe_lst (StX.pa_star (pe_fld (pv 0) rfl) (pa_cons (pv 1) pa_nil))) pa_nil)))))), ?_⟩
    refine ⟨_, rfl, b, CB, dx, _, .ref dm, rfl, h1, T.cl, T.nMo, bf_mo _ _ _ _ _, _, rfl, dm, t, p.1, p.2, ns', rfl, h3.names, SqT.of ht, p1.mem_iff.mpr m1, p1.mem_iff.mpr m2, fun H1 s1 => ⟨_, rfl, ?_⟩⟩
    refine iteF ⟨_, rfl, _, rfl, b, CB, dx, _, .ref la, rfl, s1 _ _ h1, T.cl, T.nAr, bf_ar _ _ _ _ _, ?_⟩
    refine ⟨pds p, ar'.map pds, dp_arrow (SqT.of (s1 _ _ ht)), .lst (SqL.of (s1 _ _ h4)) (AllQ.dpA (h5.keep (mon_isA K) (.of s1))), shaped_pd1 _ ⟨(g.nm _ m1).2.2, (g.nm _ m2).2.2⟩, shaped_pds _ (fun r hr => (g'.nma r hr).2.2), _, rfl, ?_⟩
    rw [any_pds, decide_eq_false (fun z => np (p2.mem_iff.mp z))]
    refine iteF ⟨_, rfl, b, dx, _, rfl, s1 _ _ h1, bf_no _ _ _ _ _ (by decide +kernel) (by decide +kernel) (by decide +kernel) (by decide +kernel) (by decide +kernel), _, rfl, b, CB, dx, _, .ref la, rfl, s1 _ _ h1, T.cl, T.nAr, bf_ar _ _ _ _ _, la, xs, rfl, .inr (SqL.of (s1 _ _ h4)), _, rfl, ?_, fun l nl => ?_⟩
    · have h7 := h5.len
      have h8 := g'.a36
      have : (60 : Nat) < sizeLine := by decide
      show (xs ++ [V.ref t]).length ≤ sizeLine
      rw [List.length_append, h7]
      show ar'.length + 1 ≤ sizeLine
      omega
    · have s2 := Same.trans' s1 (Same.upd_new (o := .lst (xs ++ [.ref t])) nl)
      refine ⟨b, l, ns, ar, ar' ++ [p], fi, rs, xs ++ [.ref t], rfl, hB.keep s2, upd_same, AllQ.append (h5.keep (mon_isA K) (.of s2)) ⟨⟨t, rfl, s2 _ _ ht⟩, trivial⟩, (g.perm (List.Perm.refl _) p2 (List.Perm.refl _)).more (fun z => np (p2.mem_iff.mp z)) m1 m2, fun H' c s3 hc => ?_⟩
      exact q H' c (Same.trans' s2 s3) (hc.perm (List.Perm.refl _) (p2.append_right _) (List.Perm.refl _))
theorem scSub : FnScope ["self", "other", "arrow"] ["self", "other"] (defScope sSub) := ⟨rfl, rfl, rfl, by decide +kernel, rfl, by decide +kernel, by decide +kernel⟩
theorem ok_sub {f : Addr} {fd : FuncData} (F : Fun K "__sub__" "Book.__sub__" sSub f fd) (T : TxtB K mg CB) (cH : Me P w K mg base 3 CB "_has_arrow" ["self", "value"] (spHas K CB)) (cW : Me P w K mg base 7 CB "_with_arrows" ["self", "arrows"] (spWith K CB)) : FnOk P w K mg base CX0 8 f fd ["self", "other"] (spSub K CB) := by
  refine F.ok scSub (fun vs H Q E h => ?_) (fun cdv A outer s H vs Q E hr h => ?_)
  · obtain ⟨b, t, p, ns, ar, f, rs, rfl, _⟩ := h
    rfl
  · obtain ⟨b, t, p, ns, ar, fi, rs, rfl, hB, g, ht, hp, q⟩ := h
    obtain ⟨ns', ar', rs', dx, lt, dm, la, lr, xs, p1, p2, p3, h1, h2, h3, h4, h5, h6⟩ := id hB
    have g' := g.perm p1 p2 p3
    obtain ⟨m1, m2⟩ := g.arw p hp
    refine ⟨_, PSs.nox (pss_cons (ps_if (pt_not (pt_val (pe_m cH T.cl hr (by decide) (pv 0) (pa_cons (pv 1) pa_nil)))) (pss_one ps_never) pss_nil)
      (pss_one (ps_ret (pe_m cW T.cl hr (by decide) (pv 0) (pa_cons (pe_lc (own := [("arrow", 2)]) (g := gName 2) (by rfl) scSub.nd (pi_list (pe_fld (pv 0) rfl))
        (blkOk_by (own := [("arrow", 2)]) (N := ["self", "other", "arrow"]) (sc := defScope sSub) (by decide +kernel)) (fun _ _ _ _ _ => pg_name (i := 2) scSub.nd rfl (Or.inl rfl))
        (fun _ _ _ _ _ => pts_one (pt_cmpR (show OpR _ _ (rNeD K) from op_neD hr.units) (pv 2) (pv 1) (nomark _))) (fun _ _ _ _ _ => pv 2)) pa_nil))))), ?_⟩
    have nm := bf_no lt dm la fi lr (m := "_has_arrow") (by decide +kernel) (by decide +kernel) (by decide +kernel) (by decide +kernel) (by decide +kernel)
    refine ⟨_, rfl, b, dx, _, rfl, h1, nm, _, rfl, b, t, p, ns, ar, fi, rs, rfl, hB, g, ht, m1, m2, fun H1 s1 => ⟨_, rfl, ?_⟩⟩
    rw [decide_eq_true hp]
    refine iteF ⟨_, rfl, b, dx, _, rfl, s1 _ _ h1, bf_no _ _ _ _ _ (by decide +kernel) (by decide +kernel) (by decide +kernel) (by decide +kernel) (by decide +kernel), _, rfl, b, CB, dx, _, .ref la, rfl, s1 _ _ h1, T.cl, T.nAr, bf_ar _ _ _ _ _, la, rfl, ⟨_, SqL.of (s1 _ _ h4)⟩, fun D nD => ?_⟩
    have t1 := Same.upd_new (H := H1) (o := .lst []) nD
    refine lc_it (walk_list (K := K) (a := la) (xs := xs)) (fun i G => Same H1 G ∧ ∃ ys, G D = some (.lst ys) ∧ ys.length ≤ i ∧ AllQ (isA K) ((ar'.take i).filter fun q => decide (q ≠ p)) ys G) ⟨t1, [], upd_same, Nat.le_refl _, by rw [List.take_zero]; trivial⟩ (fun i G _ p => SqL.of (p.1 _ _ (s1 _ _ h4))) ?_ ?_
    · rintro i x G G' hi ⟨sg, ys, gD, gl, ga⟩ ⟨rfl, hx⟩
      have sH := Same.trans' s1 sg
      obtain ⟨r, er, t2, rfl, ht2⟩ := AllQ.get (h5.keep (mon_isA K) (.of sH)) hx
      have mr := g'.nma r (List.mem_of_getElem? er)
      have step : (ar'.take (i + 1)).filter (fun q => decide (q ≠ p)) = (ar'.take i).filter (fun q => decide (q ≠ p)) ++ (if decide (r ≠ p) = true then [r] else []) := by
        rw [List.take_add_one, er, List.filter_append]
        congr 1
        show List.filter _ [r] = _
        rw [List.filter_cons]
        split <;> rfl
      refine ⟨rfl, _, rfl, _, rfl, pds r, pds p, dp_arrow (SqT.of ht2), dp_arrow (SqT.of (sH _ _ ht)), shaped_pd1 _ mr.2.2, shaped_pd1 _ ⟨(g.nm _ m1).2.2, (g.nm _ m2).2.2⟩, _, rfl, ?_⟩
      rw [eqv_pds]
      refine ite2 (fun h => ?_) (fun h => ?_)
      · have hn : r ≠ p := by simpa using h
        have sm := SmL.upd (ys := ys ++ [.ref t2]) gD
        refine ⟨_, rfl, ys, gD, ?_, fun c o e => ?_, _, upd_same, ?_, ?_⟩
        · have h7 := h5.len
          have h2 : i < xs.length := hi
          have h8 := g'.a36
          have : (60 : Nat) < sizeLine := by decide
          omega
        · rw [upd_ne (ne_of_none e nD)]
          exact sg c o e
        · rw [List.length_append]
          exact Nat.succ_le_succ gl
        · rw [step, if_pos (decide_eq_true hn)]
          exact AllQ.append (ga.keep (mon_isA K) sm) ⟨⟨t2, rfl, by rw [upd_ne fun z => by rw [z, gD] at ht2; cases ht2]; exact ht2⟩, trivial⟩
      · have hn : ¬ r ≠ p := by simpa using h
        refine ⟨sg, ys, gD, Nat.le_succ_of_le gl, ?_⟩
        rw [step, if_neg (by simpa using hn), List.append_nil]
        exact ga
    · rintro G ⟨sg, ys, gD, gl, ga⟩
      have e : ar'.take xs.length = ar' := by rw [h5.len, List.take_length]
      rw [e] at ga
      have sH := Same.trans' s1 sg
      have gl2 : Good ns (ar'.filter fun q => decide (q ≠ p)) fi rs := (g.perm (List.Perm.refl _) p2 (List.Perm.refl _)).less ((g'.and).filter _) fun q hq => (List.mem_filter.mp hq).1
      exact ⟨b, D, ns, ar, _, fi, rs, ys, rfl, hB.keep sH, gD, ga, gl2, fun H' c s3 hc => q H' c (Same.trans' sH s3) (hc.perm (List.Perm.refl _) (p2.filter _) (List.Perm.refl _))⟩
end
end Cm
end

/-! ## Ed24 -/
section
set_option pp.maxSteps 400
namespace Cm
open PySem PySem.Spec PyProof.Rows L2 KG
abbrev sEnds : Stmt := top 41
structure TxtL (mg : Str → Option Value) : Prop where
  any : mg "any" = none
  all : mg "all" = none
  sorted : mg "sorted" = none
  dict : mg "dict" = none
  range : mg "range" = none
def lcScope0 (d : Scope) : Expr → Scope
  | .ListComp _ _ s _ => s
  | _ => d
def firstIf : Expr → Expr
  | .ListComp _ [⟨_, _, [c], _⟩] _ _ => c
  | e => e
def forBody : Stmt → List Stmt
  | .For _ _ b _ _ => b
  | _ => []
abbrev scTo : Scope := relS (defScope sEnds) (lcScope0 (defScope sEnds) (valOf ((forBody ((defBody sEnds).getD 1 (.Pass ⟨0, 0, 0, 0⟩))).getD 0 (.Pass ⟨0, 0, 0, 0⟩))))
abbrev nmsEnds : List Str := ["_law_spots", "_law_ways", "_law_begin", "_law_found", "_law_last", "_law_turn", "_law_to", "_law_out", "_law_one"]
def spEnds (K : PySem.W.Frag) : Sp := fun vs H Q _ => ∃ (a b : Addr) (ss : List Str) (ar : List Ar) (f : Str) (xs : List V), vs = [.ref a, .ref b, .str f] ∧ H a = some (.lst (ss.map V.str)) ∧ H b = some (.lst xs) ∧ AllQ (isA K) ar xs H ∧ ss.Nodup ∧ ss.length ≤ 6 ∧ (∀ z ∈ ss, Nm z) ∧
  (∀ p ∈ ar, p.1 ∈ ss ∧ p.2 ∈ ss) ∧ f ∈ ss ∧ ∀ (H' : Hp) (p : Addr) (ys : List Str), Same H H' → H' p = some (.lst (ys.map V.str)) → IsRS ar f ys → Q (.ref p) H'
theorem strs_get {ss : List Str} {i : Nat} {x : V} (h : (ss.map V.str)[i]? = some x) : ∃ z, ss[i]? = some z ∧ x = .str z := by
  rw [List.getElem?_map] at h
  cases e : ss[i]? with
  | none => rw [e] at h; cases h
  | some z => rw [e] at h; cases h; exact ⟨z, rfl, rfl⟩
theorem filter_succ {α : Type} {ss : List α} {i : Nat} {z : α} (g : α → Bool) (h : ss[i]? = some z) : (ss.take (i + 1)).filter g = (ss.take i).filter g ++ (if g z = true then [z] else []) := by
  rw [List.take_add_one, h, List.filter_append]
  congr 1
  show List.filter g [z] = _
  rw [List.filter_cons]
  split <;> rfl
theorem small6 {n : Nat} (h : n ≤ 60) : n < sizeLine := by
  have : (60 : Nat) < sizeLine := by decide
  omega
section
variable {P : Program} {w : World} {K : PySem.W.Frag} {mg : Str → Option Value} {base : Heap} {CB : Addr}
theorem scEnds : FnScope nmsEnds ["_law_spots", "_law_ways", "_law_begin"] (defScope sEnds) := ⟨rfl, rfl, rfl, by decide +kernel, rfl, by decide +kernel, by decide +kernel⟩
theorem ok_ends {f : Addr} {fd : FuncData} (F : Fun K "_law_ends" "_law_ends" sEnds f fd) (T : TxtL mg) : FnOk P w K mg base CX0 2 f fd ["_law_spots", "_law_ways", "_law_begin"] (spEnds K) := by
  refine F.ok scEnds (fun vs H Q E h => ?_) (fun cdv A outer s H vs Q E hr h => ?_)
  · obtain ⟨a, b, ss, ar, f, xs, rfl, _⟩ := h
    rfl
  · obtain ⟨a, b, ss, ar, fi, xs, rfl, ha, hb, hal, nd, l6, nm, arw, hf, q⟩ := h
    refine ⟨_, pss_cons (ps_asg (pe_tup (pa_cons (pe_lst (pa_cons (pv 2) pa_nil)) (pa_cons (pe_lst (pa_cons (pv 2) pa_nil)) pa_nil))) (pg_tup (by rfl) (pgs_cons (pg_name (i := 3) scEnds.nd rfl (Or.inr rfl)) (pgs_cons (pg_name (i := 4) scEnds.nd rfl (Or.inr rfl)) pgs_nil))))
      (pss_cons (ps_for PassesOwn.never rfl (pi_list (pv 0)) (pg_name (i := 5) scEnds.nd rfl (Or.inl rfl))
        (pss_cons (ps_set (i := 4) scEnds.nd rfl (Or.inr rfl) (pe_lc (own := [("_law_to", 6)]) (g := gName 6) (by rfl) scEnds.nd (pi_list (pv 0)) (blkOk_by (own := [("_law_to", 6)]) (N := nmsEnds) (sc := defScope sEnds) (by decide +kernel)) (fun _ _ _ _ _ => pg_name (i := 6) scEnds.nd rfl (Or.inr rfl))
            (fun _ _ _ _ _ => pts_one (pt_val (pe_callB (show CallR _ (.builtin "any") (rAny K) from cr_any (by rfl)) (by rfl) T.any (by decide +kernel) (pa_cons (pe_lc (own := [("_law_out", 7)]) (g := gName 7) (by rfl) scEnds.nd (by exact pi_listK rfl (pv 4))
              (blkOk_by (own := [("_law_out", 7)]) (N := nmsEnds) (sc := scTo) (by decide +kernel)) (fun _ _ _ _ _ => pg_name (i := 7) scEnds.nd rfl (Or.inl rfl)) (fun _ _ _ _ _ => pts_nil)
              (fun _ _ _ _ _ => pe_cmpR (show OpR _ _ (rInD K) from op_inD (Room.units65 hr)) (pe_tup (pa_cons (pv 7) (pa_cons (pv 6) pa_nil))) (pv 1) (by rfl))) pa_nil))))
            (fun _ _ _ _ _ => pv 6)))
        (pss_one (ps_set (i := 3) scEnds.nd rfl (Or.inr rfl) (pe_op op_cat (pv 3) (pe_lc (own := [("_law_one", 8)]) (g := gName 8) (by rfl) scEnds.nd (pi_list (pv 4)) (blkOk_by (own := [("_law_one", 8)]) (N := nmsEnds) (sc := defScope sEnds) (by decide +kernel)) (fun _ _ _ _ _ => pg_name (i := 8) scEnds.nd rfl (Or.inl rfl))
            (fun _ _ _ _ _ => pts_one (pt_cmpR (show OpR _ _ (rIn K true) from op_notIn_seq) (pv 8) (pv 3) (by rfl))) (fun _ _ _ _ _ => pv 8)))))))
      (pss_one (ps_ret (pe_callB cr_sortedS (by rfl) T.sorted (by decide +kernel) (pa_cons (pv 3) pa_nil))))), ?_⟩
    refine ⟨_, rfl, (by show 1 ≤ sizeLine; decide), fun lf nf => ?_⟩
    have s1 := Same.upd_new (H := H) (o := .lst [V.str fi]) nf
    refine ⟨_, rfl, (by show 1 ≤ sizeLine; decide), fun ll nl => ⟨(by show 2 ≤ sizeLine; decide), fun tt ntt => ?_⟩⟩
    have s2 := Same.trans' s1 (Same.upd_new (o := .lst [V.str fi]) nl)
    have hlf := (Same.upd_new (H := upd (upd H lf (.lst [V.str fi])) ll (.lst [V.str fi])) (o := .tup [.ref lf, .ref ll]) ntt) _ _ ((Same.upd_new (H := upd H lf (.lst [V.str fi])) (o := .lst [V.str fi]) nl) _ _ upd_same)
    have hll := (Same.upd_new (H := upd (upd H lf (.lst [V.str fi])) ll (.lst [V.str fi])) (o := .tup [.ref lf, .ref ll]) ntt) ll _ upd_same
    have s3 := Same.trans' s2 (Same.upd_new (o := .tup [.ref lf, .ref ll]) ntt)
    refine ⟨tt, _, rfl, SqT.of upd_same, rfl, _, _, rfl, _, _, rfl, rfl, ?_⟩
    have w0 : WOk ss ar fi ([fi], [fi]) := ⟨nodup_one fi, fun z hz => hz, fun z hz => by rw [List.mem_singleton.mp hz]; exact hf, fun z hz => by rw [List.mem_singleton.mp hz]; exact .base, List.mem_singleton_self fi, fun p hp hx => .inr hx⟩
    have hw : ∀ p ∈ ar, p.2 ∈ ss := fun p hp => (arw p hp).2
    refine ⟨_, rfl, a, rfl, ⟨_, SqL.of (s3 _ _ ha)⟩, for_list (K := K) (a := a) (xs := ss.map V.str) (fun i σ G => (∃ (lf ll : Addr) (x5 : Option V), σ = [some (.ref a), some (.ref b), some (.str fi), some (.ref lf), some (.ref ll), x5, none, none, none] ∧ G lf = some (.lst ((waves ss ar i ([fi], [fi])).1.map V.str)) ∧ G ll = some (.lst ((waves ss ar i ([fi], [fi])).2.map V.str))) ∧ Same H G) ⟨⟨lf, ll, none, rfl, hlf, hll⟩, s3⟩ (fun i σ G _ p => SqL.of (p.2 _ _ ha)) ?_ ?_⟩
    · rintro i x σ G hx ⟨⟨lf, ll, x5, rfl, hlf, hll⟩, sg⟩
      have wk := waves_ok nd hw i w0
      generalize hs : waves ss ar i ([fi], [fi]) = st at hlf hll wk
      have es : waves ss ar (i + 1) ([fi], [fi]) = wave ss ar st := by rw [waves_succ, hs]
      have len1 := nodup_le wk.nd wk.ins
      refine ⟨_, rfl, a, rfl, ⟨_, SqL.of (sg _ _ ha)⟩, fun D nD => ?_⟩
      have t1 := Same.upd_new (H := G) (o := .lst []) nD
      refine lc_it (walk_list (K := K) (a := a) (xs := ss.map V.str)) (fun j G2 => Same G G2 ∧ G2 D = some (.lst (((ss.take j).filter fun to => st.2.any fun out => decide ((out, to) ∈ ar)).map V.str))) ⟨t1, by rw [upd_same, List.take_zero]; rfl⟩ (fun j G2 _ p => SqL.of (p.1 _ _ (sg _ _ ha))) ?_ ?_
      · rintro j y G2 G2' hj ⟨sg2, gD⟩ ⟨rfl, hy⟩
        obtain ⟨z, ez, rfl⟩ := strs_get hy
        have hz := List.mem_of_getElem? ez
        have hD2 := List.length_filter_le (fun to => st.2.any fun out => decide ((out, to) ∈ ar)) (ss.take j)
        have hD3 : (ss.take j).length ≤ ss.length := by rw [List.length_take]; omega
        refine ⟨rfl, _, rfl, ll, rfl, ⟨_, SqL.of (sg2 _ _ hll)⟩, fun D2 nD2 => ?_⟩
        have u1 := Same.upd_new (H := G2') (o := .lst []) nD2
        refine lc_it (walk_list (K := K) (a := ll) (xs := st.2.map V.str)) (fun m G3 => Same G2' G3 ∧ G3 D2 = some (.lst (((st.2.take m).map fun out => decide ((out, z) ∈ ar)).map V.bl))) ⟨u1, by rw [upd_same, List.take_zero]; rfl⟩ (fun m G3 _ p => SqL.of (p.1 _ _ (sg2 _ _ hll))) ?_ ?_
        · rintro m y2 G3 G3' hm ⟨sg3, gD2⟩ ⟨rfl, hy2⟩
          obtain ⟨o, eo, rfl⟩ := strs_get hy2
          have ho := wk.ins o (wk.sub o (List.mem_of_getElem? eo))
          refine ⟨rfl, _, rfl, _, rfl, (by show 2 ≤ sizeLine; decide), fun u nu => ?_⟩
          have su := Same.upd_new (H := G3') (o := .tup [V.str o, V.str z]) nu
          have sH := Same.trans' (Same.trans' (Same.trans' sg sg2) sg3) su
          refine ⟨_, rfl, pds (o, z), ar.map pds, dp_arrow (SqT.of upd_same), .lst (SqL.of (sH _ _ hb)) (AllQ.dpA (hal.keep (mon_isA K) (.of sH))), shaped_pd1 _ ⟨(nm o ho).2.2, (nm z hz).2.2⟩, shaped_pds _ (fun r hr => ⟨(nm _ (arw r hr).1).2.2, (nm _ (arw r hr).2).2.2⟩), ?_⟩
          rw [any_pds]
          refine ⟨_, su _ _ gD2, ?_, fun c v e => ?_, ?_⟩
          · rw [List.length_map, List.length_map, List.length_take]
            have hm' : m < (st.2.map V.str).length := hm
            rw [List.length_map] at hm'
            have l2 : st.2.length ≤ ss.length ∨ True := .inr trivial
            have : st.2.length ≤ 6 := by
              rw [← hs]
              cases i with
              | zero =>
                show 1 ≤ 6
                decide
              | succ i =>
                rw [waves_succ]
                show (nextL ss ar _).length ≤ 6
                unfold nextL
                exact Nat.le_trans (List.length_filter_le _ _) l6
            exact small6 (by omega)
          · rw [upd_ne (ne_of_none e nD2)]
            exact su _ _ (sg3 c v e)
          · rw [upd_same, List.take_add_one, eo, List.map_append, List.map_append]
            rfl
        · rintro G3 ⟨sg3, gD2⟩
          rw [List.length_map, List.take_length] at gD2
          refine ⟨D2, _, rfl, SqL.of gD2, _, rfl, ?_⟩
          have e1 : ((st.2.map fun out => decide ((out, z) ∈ ar)).any id) = st.2.any fun out => decide ((out, z) ∈ ar) := by
            rw [List.any_map]
            rfl
          rw [e1]
          have gD3 := sg3 _ _ gD
          refine ite2 (fun h => ?_) (fun h => ?_)
          · refine ⟨_, rfl, _, gD3, ?_, fun c v e => ?_, ?_⟩
            · rw [List.length_map]
              exact small6 (by omega)
            · rw [upd_ne (ne_of_none e nD)]
              exact sg3 _ _ (sg2 c v e)
            · rw [upd_same, filter_succ _ ez, if_pos h, List.map_append]
              rfl
          · refine ⟨fun c v e => sg3 _ _ (sg2 c v e), ?_⟩
            rw [filter_succ _ ez, if_neg h, List.append_nil]
            exact gD3
      · rintro G2 ⟨sg2, gD⟩
        rw [List.length_map, List.take_length] at gD
        have gD' : G2 D = some (.lst ((nextL ss ar st.2).map V.str)) := gD
        have nl6 : (nextL ss ar st.2).length ≤ 6 := Nat.le_trans (List.length_filter_le _ _) l6
        have sG2 := Same.trans' sg sg2
        refine ⟨_, rfl, _, rfl, D, rfl, ⟨_, SqL.of gD'⟩, fun D2 nD2 => ?_⟩
        have v1 := Same.upd_new (H := G2) (o := .lst []) nD2
        refine lc_it (walk_list (K := K) (a := D) (xs := (nextL ss ar st.2).map V.str)) (fun m G3 => Same G2 G3 ∧ G3 D2 = some (.lst ((((nextL ss ar st.2).take m).filter fun z => decide (z ∉ st.1)).map V.str))) ⟨v1, by rw [upd_same, List.take_zero]; rfl⟩ (fun m G3 _ p => SqL.of (p.1 _ _ gD')) ?_ ?_
        · rintro m y G3 G3' hm ⟨sg3, gD2⟩ ⟨rfl, hy⟩
          obtain ⟨z, ez, rfl⟩ := strs_get hy
          have k1 := List.length_filter_le (fun z => decide (z ∉ st.1)) ((nextL ss ar st.2).take m)
          have k2 : ((nextL ss ar st.2).take m).length ≤ (nextL ss ar st.2).length := by rw [List.length_take]; omega
          refine ⟨rfl, _, rfl, _, rfl, lf, _, rfl, .inl (SqL.of (sg3 _ _ (sg2 _ _ hlf))), rfl, flat_strs _, _, rfl, ?_⟩
          rw [if_pos rfl, inV_str, show (!decide (z ∈ st.1)) = decide (z ∉ st.1) from decide_not.symm]
          refine ite2 (fun h => ?_) (fun h => ?_)
          · refine ⟨_, rfl, _, gD2, ?_, fun c v e => ?_, ?_⟩
            · rw [List.length_map]
              exact small6 (by omega)
            · rw [upd_ne (ne_of_none e nD2)]
              exact sg3 c v e
            · rw [upd_same, filter_succ _ ez, if_pos h, List.map_append]
              rfl
          · refine ⟨sg3, ?_⟩
            rw [filter_succ _ ez, if_neg h, List.append_nil]
            exact gD2
        · rintro G3 ⟨sg3, gD2⟩
          rw [List.length_map, List.take_length] at gD2
          have k1 := List.length_filter_le (fun z => decide (z ∉ st.1)) (nextL ss ar st.2)
          refine ⟨lf, D2, _, _, rfl, rfl, sg3 _ _ (sg2 _ _ hlf), gD2, ?_, fun p np => ?_⟩
          · rw [List.length_map, List.length_map]
            exact Nat.le_of_lt (small6 (by omega))
          · have w1 := Same.upd_new (H := G3) (o := .lst (st.1.map V.str ++ ((nextL ss ar st.2).filter fun z => decide (z ∉ st.1)).map V.str)) np
            refine ⟨⟨p, D, _, rfl, ?_, ?_⟩, Same.trans' (Same.trans' sG2 sg3) w1⟩
            · rw [upd_same, es]
              show _ = some (HO.lst ((st.1 ++ (nextL ss ar st.2).filter fun z => decide (z ∉ st.1)).map V.str))
              rw [List.map_append]
            · rw [es]
              exact w1 _ _ (sg3 _ _ gD')
    · rintro σ G ⟨⟨lf, ll, x5, rfl, hlf, hll⟩, sg⟩
      rw [List.length_map] at hlf
      have R := waves_reach nd hw hf
      have wk := waves_ok nd hw ss.length w0
      have len1 := nodup_le wk.nd wk.ins
      exact ⟨_, rfl, lf, _, rfl, SqL.of hlf, by omega, fun ys p perm srt np => q _ p ys (Same.trans' sg (Same.upd_new np)) upd_same ⟨srt, R.perm perm⟩⟩
end
end Cm
end

/-! ## Md24 -/
section
set_option pp.maxSteps 400
namespace Cm
open PySem PySem.Spec PyProof.Rows L2 KG
abbrev sMadeL : Stmt := top 42
abbrev sIsR : Stmt := top 43
theorem jar_strs {H : Hp} {j a : Addr} {ss : List Str} (J : JarAt H j) (h : H a = some (.lst (ss.map V.str))) : a ≠ j := fun e => by
  obtain ⟨c, y, ej, _⟩ := J
  rw [e, ej] at h
  cases ss with
  | nil => cases h
  | cons s ss => cases h
theorem jar_ar {K : PySem.W.Frag} {H : Hp} {j a : Addr} {ar : List Ar} {xs : List V} (J : JarAt H j) (h : H a = some (.lst xs)) (al : AllQ (isA K) ar xs H) : a ≠ j := fun e => by
  obtain ⟨c, y, ej, _⟩ := J
  rw [e, ej] at h
  cases h
  cases ar with
  | nil => exact al.elim
  | cons p ar =>
    obtain ⟨t, e, _⟩ := al.1
    cases e
theorem nodup_inr {ss : List Str} (h : ss.Nodup) : (ss.map (Sum.inr : Str → Key)).Nodup := by
  induction ss with
  | nil => exact List.nodup_nil
  | cons s ss ih =>
    rw [List.map_cons, List.nodup_cons]
    rw [List.nodup_cons] at h
    refine ⟨fun m => ?_, ih h.2⟩
    obtain ⟨x, hx, e⟩ := List.mem_map.mp m
    rw [Sum.inr.inj e] at hx
    exact h.1 hx
theorem SmL.trans' {H H1 H2 : Hp} (a : SmL H H1) (b : SmL H1 H2) : SmL H H2 := fun c o h n => b c o (a c o h n) n
theorem MotAt.keepL {K : PySem.W.Frag} {H H' : Hp} {m : Addr} (h : MotAt K H m) (e : SmL H H') : MotAt K H' m := by
  obtain ⟨t, g, l, h1, h2, h3⟩ := h
  exact ⟨t, g, l, e _ _ h1 (fun _ z => by cases z), SqT.keepL h2 e, h3⟩
theorem ChartAt.keepL {K : PySem.W.Frag} {H H' : Hp} {d : Addr} {ns : List Str} (h : ChartAt K H d ns) (e : SmL H H') : ChartAt K H' d ns := by
  obtain ⟨kvs, h1, h2, h3⟩ := h
  exact ⟨kvs, e _ _ h1 (fun _ z => by cases z), h2, fun q hq => by
    obtain ⟨m, a, b⟩ := h3 q hq
    exact ⟨m, a, b.keepL e⟩⟩
/-- a book is kept where all but the pot is -/
theorem BookAt.kp {K : PySem.W.Frag} {CB : Addr} {H H' : Hp} {b j : Addr} {ns : List Str} {ar : List Ar} {f : Str} {rs : List Str} (h : BookAt K CB H b ns ar f rs) (J : JarAt H j) (k : Kp j H H') : BookAt K CB H' b ns ar f rs := by
  obtain ⟨ns', ar', rs', dx, lt, dm, la, lr, xs, p1, p2, p3, h1, h2, h3, h4, h5, h6⟩ := h
  have e := SmL.kp J k
  exact ⟨ns', ar', rs', dx, lt, dm, la, lr, xs, p1, p2, p3, e _ _ h1 (fun _ z => by cases z), k _ _ h2 (jar_strs (ss := ["a"]) J h2), h3.keepL e, k _ _ h4 (jar_ar J h4 h5), h5.keep (mon_isA K) e, k _ _ h6 (jar_strs J h6)⟩
theorem merge_nodup : ∀ (more acc : List (Key × V)), ((acc ++ more).map (·.1)).Nodup → mergeK acc more = acc ++ more
  | [], acc, _ => by rw [List.append_nil]; rfl
  | q :: more, acc, h => by
    have h' : (((acc ++ [q]) ++ more).map (·.1)).Nodup := by rw [List.append_assoc]; exact h
    have e : putK acc q.1 q.2 = acc ++ [q] := by
      refine putK_new fun r hr e => ?_
      rw [List.map_append, List.map_cons, List.nodup_append] at h
      exact h.2.2 _ (List.mem_map_of_mem hr) _ List.mem_cons_self e
    show mergeK (putK acc q.1 q.2) more = _
    rw [e, merge_nodup more (acc ++ [q]) h', List.append_assoc]
    rfl
theorem paired_snoc {α β : Type} {R : α → β → Prop} : ∀ {l : List α} {m : List β} {a : α} {b : β}, Paired R l m → R a b → Paired R (l ++ [a]) (m ++ [b])
  | _, _, _, _, .nil, h => .cons h .nil
  | _, _, _, _, .cons h0 r, h => .cons h0 (paired_snoc r h)
theorem paired_mono {α β : Type} {R R' : α → β → Prop} : ∀ {l : List α} {m : List β}, Paired R l m → (∀ a b, R a b → R' a b) → Paired R' l m
  | _, _, .nil, _ => .nil
  | _, _, .cons h0 r, f => .cons (f _ _ h0) (paired_mono r f)
def spMadeB (K : PySem.W.Frag) (CB : Addr) : Sp := fun vs H Q _ => ∃ (j a b : Addr) (ss : List Str) (ar : List Ar) (f : Str) (xs : List V), vs = [.ref j, .ref a, .ref b, .str f] ∧ JarAt H j ∧ H a = some (.lst (ss.map V.str)) ∧ H b = some (.lst xs) ∧ AllQ (isA K) ar xs H ∧ Good ss ar f [] ∧
  ∀ (H' : Hp) (c : Addr) (rs : List Str), JarAt H' j → Kp j H H' → BookAt K CB H' c ss ar f rs → Good ss ar f rs → Q (.ref c) H'
def spRightB (K : PySem.W.Frag) (CB : Addr) : Sp := fun vs H Q _ => ∃ (b a w : Addr) (ss : List Str) (ar : List Ar) (f : Str) (rs : List Str) (xs : List V), vs = [.ref b, .ref a, .ref w, .str f] ∧ BookAt K CB H b ss ar f rs ∧ Good ss ar f rs ∧ H a = some (.lst (ss.map V.str)) ∧ H w = some (.lst xs) ∧ AllQ (isA K) ar xs H ∧
  ∀ H', Same H H' → Q (.bl true) H'
theorem lay_strs : ∀ ss : List Str, (∀ z ∈ ss, PyData.strOk z = true) → PyData.canLayAll0 (ss.map PyData.str) = true
  | [], _ => by rfl
  | z :: ss, h => by
    rw [List.map_cons, PyData.canLayAll0, lay_strs ss fun r hr => h r (List.mem_cons_of_mem _ hr), PyData.canLay0, h z List.mem_cons_self]
    rfl
theorem depth_strs : ∀ ss : List Str, PyData.depthAll (ss.map PyData.str) ≤ 2
  | [] => by decide
  | z :: ss => by
    rw [List.map_cons, PyData.depthAll]
    have := depth_strs ss
    have e : (PyData.str z).depth = 0 := rfl
    omega
theorem shaped_strs (ss : List Str) (h : ∀ z ∈ ss, PyData.strOk z = true) : SeqAt.shaped (.list (ss.map PyData.str)) = true := by
  unfold SeqAt.shaped
  rw [Bool.and_eq_true]
  refine ⟨?_, decide_eq_true ?_⟩
  · rw [PyData.canLay0]
    exact lay_strs ss h
  · rw [PyData.depth]
    have := depth_strs ss
    omega
theorem dp_strs {K : PySem.W.Frag} {H : Hp} : ∀ ss : List Str, DpAll K H (ss.map V.str) (ss.map PyData.str)
  | [] => .nil
  | z :: ss => .cons (.str z) (dp_strs ss)
theorem eqv_strs {ss : List Str} (h : ∀ z ∈ ss, PyData.strOk z = true) : PyData.eqv (.list (ss.map PyData.str)) (.list (ss.map PyData.str)) = true := SeqAt.eqv_refl _ (SeqAt.canLay_of_shaped (shaped_strs ss h))
theorem Good.reach {ns : List Str} {ar : List Ar} {f : Str} {rs : List Str} (g : Good ns ar f rs) {z : Str} (r : Reach ar f z) : z ∈ ns := by
  induction r with
  | base => exact g.fin
  | step _ e _ => exact (g.arw _ e).2
theorem Good.ok {ns : List Str} {ar : List Ar} {f : Str} {rs ys : List Str} (g : Good ns ar f rs) (h : IsRS ar f ys) : ∀ z ∈ ys, PyData.strOk z = true := fun z hz => (g.nm z (g.reach ((h.2.2 z).mp hz))).2.2
section
variable {P : Program} {w : World} {K : PySem.W.Frag} {mg : Str → Option Value} {base : Heap} {CB : Addr}
abbrev nmsMade : List Str := ["_law_pot_here", "_law_spots", "_law_ways", "_law_begin", "_law_quiet", "_law_chart", "_law_spot"]
theorem scMadeL : FnScope nmsMade ["_law_pot_here", "_law_spots", "_law_ways", "_law_begin"] (defScope sMadeL) := ⟨rfl, rfl, rfl, by decide +kernel, rfl, by decide +kernel, by decide +kernel⟩
theorem ok_madeL {f : Addr} {fd : FuncData} (F : Fun K "_law_made" "_law_made" sMadeL f fd) (T : TxtL mg) (cD : Cl P w K mg base 1 "_law_draw" ["_law_pot_here", "_law_bound"] spDip)
    (cB : MkC P w K mg base 5 "Book" CB ["self", "things", "scenes", "arrows", "first", "resting"] [] (spBInit K CB)) : FnOk P w K mg base CX0 7 f fd ["_law_pot_here", "_law_spots", "_law_ways", "_law_begin"] (spMadeB K CB) := by
  refine F.ok scMadeL (fun vs H Q E h => ?_) (fun cdv A outer s H vs Q E hr h => ?_)
  · obtain ⟨j, a, b, ss, ar, f, xs, rfl, _⟩ := h
    rfl
  · obtain ⟨j, a, b, ss, ar, fi, xs, rfl, J, ha, hb, hal, g, q⟩ := h
    refine ⟨_, pss_cons (ps_setLc (i := 4) (own := [("_law_spot", 6)]) (g := gName 6) (by rfl) scMadeL.nd rfl rfl (sw_true rfl rfl rfl (by decide +kernel)) (pi_list (pv 1)) (blkOk_by (own := [("_law_spot", 6)]) (N := nmsMade) (sc := defScope sMadeL) (by decide +kernel))
          (fun _ _ _ _ _ => pg_name (i := 6) scMadeL.nd rfl (Or.inl rfl)) (fun _ _ _ _ _ => pts_one (pt_cmpR op_eq (pe_k cD hr (by decide) (by rfl) (pa_cons (pv 0) (pa_cons pe_int pa_nil))) pe_int (nomark _))) (fun _ _ _ _ _ => pv 6))
      (pss_cons (ps_set (i := 5) scMadeL.nd rfl (Or.inl rfl) (pe_callTy (call_dictP rfl) (by rfl) T.dict (by decide +kernel) (pa_cons (pe_lc (own := [("_law_spot", 6)]) (g := gName 6) (by rfl) scMadeL.nd (pi_list (pv 1)) (blkOk_by (own := [("_law_spot", 6)]) (N := nmsMade) (sc := defScope sMadeL) (by decide +kernel))
          (fun _ _ _ _ _ => pg_name (i := 6) scMadeL.nd rfl (Or.inl rfl)) (fun _ _ _ _ _ => pts_nil)
          (fun _ _ _ _ _ => pe_tup (pa_cons (pv 6) (pa_cons (pe_disp (pps_cons pe_str (pe_tup (pa_cons (pe_k cD hr (by decide) (by rfl) (pa_cons (pv 0) (pa_cons pe_int pa_nil))) (pa_cons (pe_op op_add pe_int (pe_k cD hr (by decide) (by rfl) (pa_cons (pv 0) (pa_cons pe_int pa_nil)))) pa_nil))) pps_nil) (by rfl) (by rfl) (fun z => by cases z) (by decide)) pa_nil)))) pa_nil)))
      (pss_one (ps_ret (pe_mk cB hr (by decide) (by rfl) (pa_cons (pe_lst (pa_cons pe_str pa_nil)) (pa_cons (pv 5) (pa_cons (pv 2) (pa_cons (pv 3) (pa_cons (pv 4) pa_nil))))))))), ?_⟩
    have naj := jar_strs J ha
    have nbj := jar_ar J hb hal
    refine ⟨_, rfl, a, rfl, ⟨_, SqL.of ha⟩, fun D nD => ?_⟩
    have jD : D ≠ j := by
      obtain ⟨c, y, ej, _⟩ := J
      exact (ne_of_none ej nD).symm
    have s0 := Same.upd_new (H := H) (o := .lst []) nD
    refine lc_it (walk_list (K := K) (a := a) (xs := ss.map V.str)) (fun i G => JarAt G j ∧ Kp j H G ∧ ∃ rs : List Str, G D = some (.lst (rs.map V.str)) ∧ rs.Nodup ∧ rs.length ≤ i ∧ ∀ z ∈ rs, z ∈ ss.take i) ⟨J.keep s0, Kp.same s0, [], upd_same, List.nodup_nil, Nat.le_refl _, fun z hz => by cases hz⟩ (fun i G _ p => SqL.of (p.2.1 _ _ ha naj)) ?_ ?_
    · rintro i x G G' hi ⟨JG, kG, rs, gD, rnd, rl, rin⟩ ⟨rfl, hx⟩
      obtain ⟨z, ez, rfl⟩ := strs_get hx
      have i6 : i < 6 := by
        have h1 : i < (ss.map V.str).length := hi
        rw [List.length_map] at h1
        have := g.n6
        omega
      refine ⟨rfl, _, rfl, j, 4, rfl, JG, by decide, by decide, fun G2 r J2 k2 _ _ => ⟨rfl, _, rfl, ?_⟩⟩
      have gD2 := k2 _ _ gD jD
      refine ite2 (fun _ => ?_) (fun _ => ?_)
      · refine ⟨_, rfl, _, gD2, ?_, ?_, fun c o e n => ?_, rs ++ [z], ?_, ?_, ?_, fun y hy => ?_⟩
        · rw [List.length_map]
          exact small6 (by omega)
        · obtain ⟨c, y, ej, r⟩ := J2
          exact ⟨c, y, by rw [upd_ne jD.symm]; exact ej, r⟩
        · rw [upd_ne (ne_of_none e nD)]
          exact (kG.trans k2) c o e n
        · rw [upd_same, List.map_append]
          rfl
        · rw [List.nodup_append]
          exact ⟨rnd, nodup_one z, fun p hp q hq e => nodup_take g.nd ez (by rw [← List.mem_singleton.mp hq, ← e]; exact rin p hp)⟩
        · rw [List.length_append]
          exact Nat.succ_le_succ rl
        · rw [List.take_add_one, ez]
          rcases List.mem_append.mp hy with hy | hy
          · exact List.mem_append_left _ (rin y hy)
          · rw [List.mem_singleton.mp hy]
            exact List.mem_append_right _ (List.mem_singleton_self z)
      · exact ⟨J2, kG.trans k2, rs, gD2, rnd, Nat.le_succ_of_le rl, fun y hy => by
          rw [List.take_add_one]
          exact List.mem_append_left _ (rin y hy)⟩
    rintro A ⟨JA, kA, rs, aD, rnd, rl, rin⟩
    have haA := kA _ _ ha naj
    have gr : Good ss ar fi rs := ⟨g.n0, g.n6, g.nd, g.nm, g.and, g.arw, g.fin, rnd, fun z hz => List.mem_of_mem_take (rin z hz)⟩
    refine ⟨_, rfl, a, rfl, ⟨_, SqL.of haA⟩, fun D2 nD2 => ?_⟩
    have jD2 : D2 ≠ j := by
      obtain ⟨c, y, ej, _⟩ := JA
      exact (ne_of_none ej nD2).symm
    have s1 := Same.upd_new (H := A) (o := .lst []) nD2
    refine lc_it (walk_list (K := K) (a := a) (xs := ss.map V.str)) (fun i G => JarAt G j ∧ Kp j A G ∧ ∃ (ts : List Addr) (kvs : List (Key × V)), G D2 = some (.lst (ts.map V.ref)) ∧ Paired (fun p kv => SqT K G p [kV kv.1, kv.2]) ts kvs ∧ kvs.map (·.1) = (ss.take i).map Sum.inr ∧ ts.length = i ∧ ∀ q ∈ kvs, ∃ m, q.2 = .ref m ∧ MotAt K G m)
      ⟨JA.keep s1, Kp.same s1, [], [], upd_same, .nil, by rw [List.take_zero]; rfl, rfl, fun q hq => by cases hq⟩ (fun i G _ p => SqL.of (p.2.1 _ _ haA naj)) ?_ ?_
    · rintro i x G G' hi ⟨JG, kG, ts, kvs, gD, gp, gk, gl, gm⟩ ⟨rfl, hx⟩
      obtain ⟨z, ez, rfl⟩ := strs_get hx
      have i6 : i < 6 := by
        have h1 : i < (ss.map V.str).length := hi
        rw [List.length_map] at h1
        have := g.n6
        omega
      refine ⟨rfl, _, rfl, fun m nm => ?_⟩
      have t1 := Same.upd_new (H := G') (o := .dK []) nm
      have J1 := JG.keep t1
      have jm : m ≠ j := by
        obtain ⟨c, y, ej, _⟩ := JG
        exact (ne_of_none ej nm).symm
      refine ⟨_, rfl, j, 3, rfl, J1, by decide, by decide, fun G2 gg J2 k2 _ _ => ?_⟩
      refine ⟨_, rfl, j, 3, rfl, J2, by decide, by decide, fun G3 ll J3 k3 l0 l1 => ⟨_, _, rfl, rfl, (by show 2 ≤ sizeLine; decide), fun t nt => ?_⟩⟩
      have k13 := k2.trans k3
      have hm3 : G3 m = some (.dK []) := k13 _ _ upd_same jm
      have t4 := Same.upd_new (H := G3) (o := .tup [.int gg, .int (1 + ll)]) nt
      refine ⟨t4 _ _ hm3, [((Sum.inr ("a" : Str) : Key), V.ref t)], rfl, (by show 1 ≤ 15; decide), (by show 2 ≤ sizeLine; decide), fun u nu => ?_⟩
      obtain ⟨B, hB⟩ : ∃ B, B = upd (upd G3 t (.tup [.int gg, .int (1 + ll)])) m (.dK (mergeK [] [((Sum.inr ("a" : Str) : Key), V.ref t)])) := ⟨_, rfl⟩
      rw [← hB] at nu
      rw [← hB]
      have hmB : B m = some (.dK [((Sum.inr ("a" : Str) : Key), V.ref t)]) := by
        rw [hB, upd_same]
        rfl
      have ntm : t ≠ m := fun e => by rw [e, hm3] at nt; cases nt
      have htB : B t = some (.tup [.int gg, .int (1 + ll)]) := by rw [hB, upd_ne ntm, upd_same]
      have kB : ∀ c o, G' c = some o → c ≠ j → B c = some o := fun c o e n => by
        have nm' : c ≠ m := ne_of_none e nm
        rw [hB, upd_ne nm']
        exact t4 _ _ (k13 _ _ (t1 _ _ e) n)
      have JB : JarAt B j := by
        obtain ⟨c, y, ej, r⟩ := J3
        exact ⟨c, y, by rw [hB, upd_ne jm.symm]; exact t4 _ _ ej, r⟩
      clear hB
      have su := Same.upd_new (H := B) (o := .tup [V.str z, V.ref m]) nu
      have kU : ∀ c o, G' c = some o → c ≠ j → (upd B u (.tup [V.str z, V.ref m])) c = some o := fun c o e n => su _ _ (kB c o e n)
      have smU : SmL G' (upd B u (.tup [V.str z, V.ref m])) := SmL.kp JG kU
      have gDU := kU _ _ gD jD2
      have smD := SmL.upd (ys := ts.map V.ref ++ [.ref u]) gDU
      have smA := SmL.trans' smU smD
      refine ⟨_, gDU, ?_, ?_, fun c o e n => ?_, ts ++ [u], kvs ++ [((Sum.inr z : Key), V.ref m)], ?_, ?_, ?_, ?_, fun qq hq => ?_⟩
      · rw [List.length_map]
        exact small6 (by omega)
      · obtain ⟨c, y, ej, r⟩ := JB.keep su
        exact ⟨c, y, by rw [upd_ne jD2.symm]; exact ej, r⟩
      · rw [upd_ne (ne_of_none e nD2)]
        exact kU _ _ (kG c o e n) n
      · rw [upd_same, List.map_append]
        rfl
      · refine paired_snoc (paired_mono gp fun p kv h => SqT.keepL h smA) ?_
        exact SqT.keepL (SqT.of (upd_same : (upd B u (.tup [V.str z, V.ref m])) u = _)) smD
      · rw [List.map_append, gk, List.take_add_one, ez, List.map_append]
        rfl
      · rw [List.length_append, gl]
        rfl
      · rcases List.mem_append.mp hq with hq | hq
        · obtain ⟨m2, e2, hm2⟩ := gm qq hq
          exact ⟨m2, e2, hm2.keepL smA⟩
        · rw [List.mem_singleton.mp hq]
          exact ⟨m, rfl, MotAt.keepL ⟨t, gg, 1 + ll, su _ _ hmB, SqT.of (su _ _ htB), by omega⟩ smD⟩
    rintro B ⟨JB, kB, ts, kvs, bD, bp, bk, _, bm⟩
    rw [List.length_map, List.take_length] at bk
    refine ⟨D2, ts, kvs, rfl, SqL.of bD, bp, fun d nd => ?_⟩
    have knd : ((([] : List (Key × V)) ++ kvs).map (fun q => q.1)).Nodup := by
      rw [List.nil_append, bk]
      exact nodup_inr g.nd
    rw [merge_nodup kvs [] knd, List.nil_append]
    have sd := Same.upd_new (H := B) (o := .dK kvs) nd
    refine ⟨(by show 1 ≤ sizeLine; decide), fun lt nlt => ?_⟩
    have sl := Same.upd_new (H := upd B d (.dK kvs)) (o := .lst [V.str "a"]) nlt
    have sdl := Same.trans' sd sl
    refine ⟨_, rfl, _, rfl, _, rfl, _, rfl, fun c dc nc ndc nec => ?_⟩
    have sm2 : ∀ o u, Same (upd (upd B d (.dK kvs)) lt (.lst [V.str "a"])) (upd (upd (upd (upd B d (.dK kvs)) lt (.lst [V.str "a"])) dc o) c u) := fun o u => Same.made2 nc ndc
    have kAll : ∀ b o, H b = some o → b ≠ j → (upd (upd B d (.dK kvs)) lt (.lst [V.str "a"])) b = some o := fun b o e n => sdl _ _ (kB _ _ (kA _ _ e n) n)
    have hch : ChartAt K (upd (upd B d (.dK kvs)) lt (.lst [V.str "a"])) d ss := ⟨kvs, sl _ _ upd_same, bk, fun qq hq => by
      obtain ⟨m, e, hm⟩ := bm qq hq
      exact ⟨m, e, hm.keep sdl⟩⟩
    have hDr := sdl _ _ (kB _ _ aD jD)
    have smH : SmL H (upd (upd B d (.dK kvs)) lt (.lst [V.str "a"])) := SmL.kp J kAll
    refine ⟨c, dc, lt, d, b, D, ss, ar, fi, rs, xs, rfl, upd_same, sm2 _ _ _ _ upd_same, hch.keep (sm2 _ _), sm2 _ _ _ _ (kAll _ _ hb nbj), (hal.keep (mon_isA K) smH).keep (mon_isA K) (.of (sm2 _ _)), sm2 _ _ _ _ hDr, gr, fun H' hB k => ⟨rfl, ?_⟩⟩
    have kE : ∀ b o, (upd (upd B d (.dK kvs)) lt (.lst [V.str "a"])) b = some o → H' b = some o := fun b o e => k b o (sm2 _ _ _ _ e) (ne_of_none e nc)
    have JE : JarAt H' j := by
      obtain ⟨c, y, ej, r⟩ := JB.keep sdl
      exact ⟨c, y, kE _ _ ej, r⟩
    exact q H' c rs JE (fun b o e n => kE _ _ (kAll b o e n)) hB gr
abbrev nmsRightB : List Str := ["_law_made_here", "_law_spots", "_law_ways", "_law_begin", "_law_near", "_law_to", "_law_out"]
theorem scIsR : FnScope nmsRightB ["_law_made_here", "_law_spots", "_law_ways", "_law_begin"] (defScope sIsR) := ⟨rfl, rfl, rfl, by decide +kernel, rfl, by decide +kernel, by decide +kernel⟩
def retVal : Stmt → Expr
  | .Return (some e) _ => e
  | _ => .Constant .none 0 ⟨0, 0, 0, 0⟩
def arg0 : Expr → Expr
  | .Call _ (a :: _) _ _ => a
  | e => e
abbrev scTo2 : Scope := relS (defScope sIsR) (lcScope0 (defScope sIsR) (arg0 (retVal ((defBody sIsR).getD 2 (.Pass ⟨0, 0, 0, 0⟩)))))
theorem ok_isR {f : Addr} {fd : FuncData} (F : Fun K "_law_is_right" "_law_is_right" sIsR f fd) (T : TxtL mg) (TB : TxtB K mg CB) (cE : Cl P w K mg base 2 "_law_ends" ["_law_spots", "_law_ways", "_law_begin"] (spEnds K)) (cR : Me P w K mg base 1 CB "reached" ["self"] (spReached K CB)) (cC : Me P w K mg base 3 CB "callers" ["self", "scene"] (spCallers K CB)) : FnOk P w K mg base CX0 4 f fd ["_law_made_here", "_law_spots", "_law_ways", "_law_begin"] (spRightB K CB) := by
  refine F.ok scIsR (fun vs H Q E h => ?_) (fun cdv A outer s H vs Q E hr h => ?_)
  · obtain ⟨b, a, w, ss, ar, f, rs, xs, rfl, _⟩ := h
    rfl
  · obtain ⟨b, a, w, ss, ar, fi, rs, xs, rfl, hB, g, ha, hw, hal, q⟩ := h
    refine ⟨_, pss_cons (ps_set (i := 4) scIsR.nd rfl (Or.inr rfl) (pe_k cE hr (by decide) (by rfl) (pa_cons (pv 1) (pa_cons (pv 2) (pa_cons (pv 3) pa_nil)))))
      (pss_cons (ps_if (PW.pt (pw_or (pt_cmpR (op_neD hr.units) (pe_m0 cR TB.cl hr (by decide) (pv 0)) (pv 4) (nomark _)) (pw_or1 (pt_cmpR (op_neD hr.units) (pe_m0 cR TB.cl hr (by decide) (pv 0)) (pv 4) (nomark _))))) (pss_one (ps_ret pe_bl)) pss_nil)
      (pss_one (ps_ret (pe_callB (cr_all (by rfl)) (by rfl) T.all (by decide +kernel) (pa_cons (pe_lc (own := [("_law_to", 5)]) (g := gName 5) (by rfl) scIsR.nd (pi_list (pv 1)) (blkOk_by (own := [("_law_to", 5)]) (N := nmsRightB) (sc := defScope sIsR) (by decide +kernel)) (fun _ _ _ _ _ => pg_name (i := 5) scIsR.nd rfl (Or.inr rfl)) (fun _ _ _ _ _ => pts_nil)
        (fun _ _ _ _ _ => pe_cmpR (show OpR _ _ (rEqD K) from op_eqD hr.units) (pe_m cC TB.cl hr (by decide) (pv 0) (pa_cons (pv 5) pa_nil)) (pe_lc (own := [("_law_out", 6)]) (g := gName 6) (by rfl) scIsR.nd (by exact pi_listK rfl (pv 4))
          (blkOk_by (own := [("_law_out", 6)]) (N := nmsRightB) (sc := scTo2) (by decide +kernel)) (fun _ _ _ _ _ => pg_name (i := 6) scIsR.nd rfl (Or.inl rfl))
          (fun _ _ _ _ _ => pts_one (pt_cmpR (show OpR _ _ (rInD K) from op_inD (Room.units65 hr)) (pe_tup (pa_cons (pv 6) (pa_cons (pv 5) pa_nil))) (pv 2) (by rfl))) (fun _ _ _ _ _ => pv 6)) (by rfl))) pa_nil))))), ?_⟩
    refine ⟨_, rfl, _, rfl, _, rfl, a, w, ss, ar, fi, xs, rfl, ha, hw, hal, g.nd, g.n6, g.nm, g.arw, g.fin, fun H1 p ys s1 hp hys => ?_⟩
    have sok := g.ok hys
    obtain ⟨ns', ar', rs', dx, lt, dm, la, lr, xs', e1, e2, e3, h1, r⟩ := id hB
    have nmR := bf_no lt dm la fi lr (m := "reached") (by decide +kernel) (by decide +kernel) (by decide +kernel) (by decide +kernel) (by decide +kernel)
    have nmC := bf_no lt dm la fi lr (m := "callers") (by decide +kernel) (by decide +kernel) (by decide +kernel) (by decide +kernel) (by decide +kernel)
    have ysl : ys.length ≤ 6 := Nat.le_trans (nodup_le (ns := ss) hys.2.1 fun z hz => g.reach ((hys.2.2 z).mp hz)) g.n6
    refine ⟨_, rfl, b, dx, _, rfl, s1 _ _ h1, nmR, b, ss, ar, fi, rs, rfl, hB.keep s1, g, fun H2 p2 ys2 s2 hp2 hys2 => ?_⟩
    cases hys2.one hys
    refine ⟨_, rfl, .list (ys.map PyData.str), .list (ys.map PyData.str), .lst (SqL.of hp2) (dp_strs ys), .lst (SqL.of (s2 _ _ hp)) (dp_strs ys), shaped_strs ys sok, shaped_strs ys sok, _, rfl, ?_⟩
    rw [eqv_strs sok]
    have s12 := Same.trans' s1 s2
    refine iteF ⟨_, rfl, b, dx, _, rfl, s12 _ _ h1, nmR, b, ss, ar, fi, rs, rfl, hB.keep s12, g, fun H3 p3 ys3 s3 hp3 hys3 => ?_⟩
    cases hys3.one hys
    have s23 := Same.trans' s2 s3
    refine ⟨_, rfl, .list (ys.map PyData.str), .list (ys.map PyData.str), .lst (SqL.of hp3) (dp_strs ys), .lst (SqL.of (s23 _ _ hp)) (dp_strs ys), shaped_strs ys sok, shaped_strs ys sok, _, rfl, ?_⟩
    rw [eqv_strs sok]
    have s13 := Same.trans' s12 s3
    refine iteF ⟨_, rfl, a, rfl, ⟨_, SqL.of (s13 _ _ ha)⟩, fun D nD => ?_⟩
    have t1 := Same.upd_new (H := H3) (o := .lst []) nD
    refine lc_it (walk_list (K := K) (a := a) (xs := ss.map V.str)) (fun i G => Same H3 G ∧ G D = some (.lst ((List.replicate i true).map V.bl))) ⟨t1, upd_same⟩ (fun i G _ p => SqL.of (p.1 _ _ (s13 _ _ ha))) ?_ ?_
    · rintro i x G G' hi ⟨sg, gD⟩ ⟨rfl, hx⟩
      obtain ⟨z, ez, rfl⟩ := strs_get hx
      have hz := List.mem_of_getElem? ez
      have i6 : i < 6 := by
        have h1 : i < (ss.map V.str).length := hi
        rw [List.length_map] at h1
        have := g.n6
        omega
      have sH := Same.trans' s13 sg
      refine ⟨rfl, _, rfl, b, dx, _, rfl, sH _ _ h1, nmC, _, rfl, b, z, ss, ar, fi, rs, rfl, hB.keep sH, g, hz, fun G2 p4 ys4 s4 hp4 hys4 => ?_⟩
      cases hys4.one hys
      have sH2 := Same.trans' sH s4
      have hpG := s4 _ _ (sg _ _ (s23 _ _ hp))
      refine ⟨_, rfl, p, rfl, ⟨_, SqL.of hpG⟩, fun D2 nD2 => ?_⟩
      have u1 := Same.upd_new (H := G2) (o := .lst []) nD2
      refine lc_it (walk_list (K := K) (a := p) (xs := ys.map V.str)) (fun m G3 => Same G2 G3 ∧ G3 D2 = some (.lst (((ys.take m).filter fun x => decide ((x, z) ∈ ar)).map V.str))) ⟨u1, by rw [upd_same, List.take_zero]; rfl⟩ (fun m G3 _ p => SqL.of (p.1 _ _ hpG)) ?_ ?_
      · rintro m y G3 G3' hm ⟨sg3, gD2⟩ ⟨rfl, hy⟩
        obtain ⟨o, eo, rfl⟩ := strs_get hy
        have ho := g.reach ((hys.2.2 o).mp (List.mem_of_getElem? eo))
        have k1 := List.length_filter_le (fun x => decide ((x, z) ∈ ar)) (ys.take m)
        have k2 : (ys.take m).length ≤ ys.length := by rw [List.length_take]; omega
        refine ⟨rfl, _, rfl, _, rfl, (by show 2 ≤ sizeLine; decide), fun u nu => ?_⟩
        have su := Same.upd_new (H := G3') (o := .tup [V.str o, V.str z]) nu
        have sH3 := Same.trans' (Same.trans' sH2 sg3) su
        refine ⟨_, rfl, pds (o, z), ar.map pds, dp_arrow (SqT.of upd_same), .lst (SqL.of (sH3 _ _ hw)) (AllQ.dpA (hal.keep (mon_isA K) (.of sH3))), shaped_pd1 _ ⟨(g.nm o ho).2.2, (g.nm z hz).2.2⟩, shaped_pds _ (fun r hr => (g.nma r hr).2.2), _, rfl, ?_⟩
        rw [any_pds]
        have gD3 := su _ _ gD2
        refine ite2 (fun h => ?_) (fun h => ?_)
        · refine ⟨_, rfl, _, gD3, ?_, fun c v e => ?_, ?_⟩
          · rw [List.length_map]
            exact small6 (by omega)
          · rw [upd_ne (ne_of_none e nD2)]
            exact su _ _ (sg3 c v e)
          · rw [upd_same, filter_succ _ eo, if_pos h, List.map_append]
            rfl
        · refine ⟨fun c v e => su _ _ (sg3 c v e), ?_⟩
          rw [filter_succ _ eo, if_neg h, List.append_nil]
          exact gD3
      · rintro G3 ⟨sg3, gD2⟩
        rw [List.length_map, List.take_length] at gD2
        have fok : ∀ y ∈ ys.filter (fun x => decide ((x, z) ∈ ar)), PyData.strOk y = true := fun y hy => sok y (List.mem_filter.mp hy).1
        refine ⟨.list ((ys.filter fun x => decide ((x, z) ∈ ar)).map PyData.str), .list ((ys.filter fun x => decide ((x, z) ∈ ar)).map PyData.str), .lst (SqL.of (sg3 _ _ hp4)) (dp_strs _), .lst (SqL.of gD2) (dp_strs _), shaped_strs _ fok, shaped_strs _ fok, ?_⟩
        rw [eqv_strs fok]
        have sgg := Same.trans' (Same.trans' sg s4) sg3
        refine ⟨_, sg3 _ _ (s4 _ _ gD), ?_, fun c v e => ?_, ?_⟩
        · rw [List.length_map, List.length_replicate]
          exact small6 (by omega)
        · rw [upd_ne (ne_of_none e nD)]
          exact sgg c v e
        · rw [upd_same, List.replicate_succ', List.map_append]
          rfl
    · rintro G ⟨sg, gD⟩
      refine ⟨D, List.replicate _ true, rfl, SqL.of gD, ?_⟩
      rw [all_true]
      exact q G (Same.trans' s13 sg)
end
end Cm
end

/-! ## Oa24 -/
section
set_option pp.maxSteps 400
namespace Cm
open PySem PySem.Spec PyProof.Rows L2 KG
abbrev sOnce : Stmt := top 44
abbrev nmsOnce : List Str := ["_law_pot_here", "_law_spots", "_law_dense", "_law_begin", "_law_ways", "_law_out", "_law_made_here", "_law_turn", "_law_arrow", "_law_other", "_law_left", "_law_less", "_law_far", "_law_again", "_law_to", "_law_one", "_law_spot"]
def stO (i : Nat) : Stmt := (defBody sOnce).getD i (.Pass ⟨0, 0, 0, 0⟩)
abbrev XO (P : Program) (w : World) (K : PySem.W.Frag) (mg : Str → Option Value) (base : Heap) (f : Addr) (cdv : Value) (A : Around) (outer : List Env) (s0 : Shared) (H : Hp) (E : XK) : Cx := (cxOf CX0 P w K mg base nmsOnce "_law_once" (defScope sOnce) f cdv A outer s0 H E).nox
/-- a statement that leads from Pre to Mid, and ends nothing -/
def Tr (X : Cx) (st : Stmt) (Pre Mid : L2.St → Hp → Prop) : Prop := ∃ t : TS, PS X st t ∧ ∀ (D : Ends) σ H, Pre σ H → t { D with nx := Mid } σ H
def TrL (X : Cx) (ss : List Stmt) (Pre Mid : L2.St → Hp → Prop) : Prop := ∃ t : TS, PSs X ss t ∧ ∀ (D : Ends) σ H, Pre σ H → t { D with nx := Mid } σ H
theorem TrL.one {X : Cx} {st : Stmt} {Pre Mid : L2.St → Hp → Prop} (h : Tr X st Pre Mid) : TrL X [st] Pre Mid := by
  obtain ⟨t, p, q⟩ := h
  exact ⟨t, pss_one p, q⟩
theorem TrL.cons {X : Cx} {st : Stmt} {ss : List Stmt} {Pre Mid End : L2.St → Hp → Prop} (h : Tr X st Pre Mid) (g : TrL X ss Mid End) : TrL X (st :: ss) Pre End := by
  obtain ⟨t, p, q⟩ := h
  obtain ⟨u, p2, q2⟩ := g
  exact ⟨_, C8.pss_cut p p2, fun D σ H z => ⟨Mid, q { D with nx := End } σ H z, fun σ' H' z' => q2 D σ' H' z'⟩⟩
structure Sp6 (ss : List Str) : Prop where
  n0 : ss ≠ []
  n6 : ss.length ≤ 6
  nd : ss.Nodup
  nm : ∀ z ∈ ss, Nm z
theorem sp6_take (k : Nat) (h : 1 ≤ k) : Sp6 ((["f", "e", "d", "c", "b", "a"] : List Str).take k) := by
  refine ⟨fun e => ?_, ?_, List.Nodup.sublist (List.take_sublist _ _) (by decide), fun z hz => ?_⟩
  · have := congrArg List.length e
    rw [List.length_take] at this
    have h6 : (["f", "e", "d", "c", "b", "a"] : List Str).length = 6 := rfl
    have h0 : ([] : List Str).length = 0 := rfl
    omega
  · rw [List.length_take]
    have h6 : (["f", "e", "d", "c", "b", "a"] : List Str).length = 6 := rfl
    omega
  · have := List.mem_of_mem_take hz
    have e : ∀ z ∈ (["f", "e", "d", "c", "b", "a"] : List Str), nameOk z = true ∧ z.length = 1 ∧ PyData.strOk z = true := by decide +kernel
    obtain ⟨e1, e2, e3⟩ := e z this
    exact ⟨e1, by rw [e2]; decide, e3⟩
def M0 (j : Addr) (H0 : Hp) : L2.St → Hp → Prop := fun σ H => σ = start nmsOnce [.ref j] ∧ JarAt H j ∧ Kp j H0 H
def M1 (j : Addr) (H0 : Hp) : L2.St → Hp → Prop := fun σ H => ∃ (a : Addr) (ss : List Str), σ = [some (.ref j), some (.ref a), none, none, none, none, none, none, none, none, none, none, none, none, none, none, none] ∧ JarAt H j ∧ Kp j H0 H ∧ H a = some (.lst (ss.map V.str)) ∧ Sp6 ss
def M2 (j : Addr) (H0 : Hp) : L2.St → Hp → Prop := fun σ H => ∃ (a : Addr) (ss : List Str) (d : Int) (f : Str), σ = [some (.ref j), some (.ref a), some (.int d), some (.str f), none, none, none, none, none, none, none, none, none, none, none, none, none] ∧ JarAt H j ∧ Kp j H0 H ∧ H a = some (.lst (ss.map V.str)) ∧ Sp6 ss ∧ f ∈ ss ∧ 1 ≤ d ∧ d ≤ 5
def M3 (j : Addr) (H0 : Hp) : L2.St → Hp → Prop := fun σ H => ∃ (a lw : Addr) (ss : List Str) (d : Int) (f : Str), σ = [some (.ref j), some (.ref a), some (.int d), some (.str f), some (.ref lw), none, none, none, none, none, none, none, none, none, none, none, none] ∧ JarAt H j ∧ Kp j H0 H ∧ H a = some (.lst (ss.map V.str)) ∧ Sp6 ss ∧ f ∈ ss ∧ 1 ≤ d ∧ d ≤ 5 ∧
  H lw = some (.lst []) ∧ H0 lw = none ∧ lw ≠ a ∧ lw ≠ j
def M4 (K : PySem.W.Frag) (j : Addr) (H0 : Hp) : L2.St → Hp → Prop := fun σ H => ∃ (a lw : Addr) (ss : List Str) (x2 x5 : Option V) (f : Str) (ar : List Ar) (xs : List V), σ = [some (.ref j), some (.ref a), x2, some (.str f), some (.ref lw), x5, none, none, none, none, none, none, none, none, none, none, none] ∧ JarAt H j ∧ Kp j H0 H ∧ H a = some (.lst (ss.map V.str)) ∧ Good ss ar f [] ∧
  H lw = some (.lst xs) ∧ AllQ (isA K) ar xs H
section
variable {P : Program} {w : World} {K : PySem.W.Frag} {mg : Str → Option Value} {base : Heap} {CB f : Addr} {cdv : Value} {A : Around} {outer : List Env} {s0 : Shared} {Hs H0 : Hp} {E : XK} {j : Addr}
theorem scOnce : FnScope nmsOnce ["_law_pot_here"] (defScope sOnce) := ⟨rfl, rfl, rfl, by decide +kernel, rfl, by decide +kernel, by decide +kernel⟩
theorem tr0 (cD : Cl P w K mg base 1 "_law_draw" ["_law_pot_here", "_law_bound"] spDip) (hr : Room 8 (XO P w K mg base f cdv A outer s0 Hs E).A) : Tr (XO P w K mg base f cdv A outer s0 Hs E) (stO 0) (M0 j H0) (M1 j H0) := by
  refine ⟨_, ps_set (i := 1) scOnce.nd rfl (Or.inl rfl) (pe_slice sl_list (pe_lst (pa_cons pe_str (pa_cons pe_str (pa_cons pe_str (pa_cons pe_str (pa_cons pe_str (pa_cons pe_str pa_nil))))))) po_none
    (po_some (pe_op op_add pe_int (pe_k cD hr (by decide) (by rfl) (pa_cons (pv 0) (pa_cons pe_int pa_nil)))))), fun D σ H h => ?_⟩
  obtain ⟨rfl, J, kp⟩ := h
  refine ⟨(by show 6 ≤ sizeLine; decide), fun l nl => ?_⟩
  have s1 := Same.upd_new (H := H) (o := .lst ((["f", "e", "d", "c", "b", "a"] : List Str).map V.str)) nl
  have jl : l ≠ j := by
    obtain ⟨c, y, ej, _⟩ := J
    exact (ne_of_none ej nl).symm
  refine ⟨_, rfl, j, 6, rfl, J.keep s1, by decide, by decide, fun H2 r J2 k2 r0 r1 => ?_⟩
  refine ⟨_, _, rfl, rfl, _, rfl, l, _, rfl, SqL.of (k2 _ _ upd_same jl), fun p np => ?_⟩
  obtain ⟨n, rfl⟩ : ∃ n : Nat, r = (n : Int) := ⟨r.toNat, by omega⟩
  have e : cutV ((["f", "e", "d", "c", "b", "a"] : List Str).map V.str) none (some (1 + (n : Int))) = ((["f", "e", "d", "c", "b", "a"] : List Str).take (1 + n)).map V.str := by
    have := cut_take ((["f", "e", "d", "c", "b", "a"] : List Str).map V.str) (1 + n) (by show 1 + n ≤ 6; omega)
    rw [List.map_take, ← this]
    congr 2
  refine ⟨p, _, rfl, J2.keep (Same.upd_new np), kp.trans (Kp.trans (Kp.same s1) (Kp.trans k2 (Kp.same (Same.upd_new np)))), ?_, sp6_take (1 + n) (by omega)⟩
  rw [upd_same]
  exact congrArg (fun z => some (HO.lst z)) e
theorem tr1 (cD : Cl P w K mg base 1 "_law_draw" ["_law_pot_here", "_law_bound"] spDip) (cP : Cl P w K mg base 2 "_law_pick" ["_law_pot_here", "_law_some"] (spChoice K)) (hr : Room 8 (XO P w K mg base f cdv A outer s0 Hs E).A) : Tr (XO P w K mg base f cdv A outer s0 Hs E) (stO 1) (M1 j H0) (M2 j H0) := by
  refine ⟨_, ps_asg (pe_tup (pa_cons (pe_op op_add pe_int (pe_k cD hr (by decide) (by rfl) (pa_cons (pv 0) (pa_cons pe_int pa_nil)))) (pa_cons (pe_k cP hr (by decide) (by rfl) (pa_cons (pv 0) (pa_cons (pv 1) pa_nil))) pa_nil)))
    (pg_tup (by rfl) (pgs_cons (pg_name (i := 2) scOnce.nd rfl (Or.inr rfl)) (pgs_cons (pg_name (i := 3) scOnce.nd rfl (Or.inl rfl)) pgs_nil))), fun D σ H h => ?_⟩
  obtain ⟨a, ss, rfl, J, kp, ha, sp⟩ := h
  refine ⟨_, rfl, j, 5, rfl, J, by decide, by decide, fun H2 r J2 k2 r0 r1 => ?_⟩
  have naj := jar_strs J ha
  have ha2 := k2 _ _ ha naj
  have l0 : 0 < (ss.map V.str).length := by
    rw [List.length_map]
    exact List.length_pos_iff.mpr sp.n0
  have l6 : (ss.map V.str).length ≤ 6 := by
    rw [List.length_map]
    exact sp.n6
  refine ⟨_, _, rfl, rfl, _, rfl, _, rfl, j, _, rfl, J2, .inl ⟨a, _, rfl, naj, SqL.of ha2, l0, by omega, fun H3 i y J3 k3 hy => ?_⟩⟩
  obtain ⟨z, ez, rfl⟩ := strs_get hy
  refine ⟨(by show 2 ≤ sizeLine; decide), fun t nt => ?_⟩
  refine ⟨t, _, rfl, SqT.of upd_same, rfl, _, _, rfl, _, _, rfl, rfl, ?_⟩
  have st := Same.upd_new (H := H3) (o := .tup [V.int (1 + r), V.str z]) nt
  exact ⟨a, ss, _, z, rfl, J3.keep st, kp.trans (k2.trans (k3.trans (Kp.same st))), st _ _ (k3 _ _ ha2 naj), sp, List.mem_of_getElem? ez, by omega, by omega⟩
theorem tr2 : Tr (XO P w K mg base f cdv A outer s0 Hs E) (stO 2) (M2 j H0) (M3 j H0) := by
  refine ⟨_, ps_set (i := 4) scOnce.nd rfl (Or.inl rfl) (pe_lst pa_nil), fun D σ H h => ?_⟩
  obtain ⟨a, ss, d, f, rfl, J, kp, ha, sp, hf, d1, d5⟩ := h
  refine ⟨(by show 0 ≤ sizeLine; decide), fun l nl => ?_⟩
  have s1 := Same.upd_new (H := H) (o := .lst []) nl
  have jl : l ≠ j := by
    obtain ⟨c, y, ej, _⟩ := J
    exact (ne_of_none ej nl).symm
  exact ⟨a, l, ss, d, f, rfl, J.keep s1, kp.trans (Kp.same s1), s1 _ _ ha, sp, hf, d1, d5, upd_same, kp.free J nl, (ne_of_none ha nl).symm, jl⟩
end
end Cm
end

/-! ## Ob24 -/
section
set_option pp.maxSteps 400
namespace Cm
open PySem PySem.Spec PyProof.Rows L2 KG
def LI (K : PySem.W.Frag) (CB j : Addr) (H0 : Hp) : L2.St → Hp → Prop := fun σ H => ∃ (a lw b : Addr) (ss : List Str) (x2 x5 x7 x8 x9 x10 x11 x12 : Option V) (f : Str) (ar : List Ar) (rs : List Str) (xs : List V),
  σ = [some (.ref j), some (.ref a), x2, some (.str f), some (.ref lw), x5, some (.ref b), x7, x8, x9, x10, x11, x12, none, none, none, none] ∧ JarAt H j ∧ Kp j H0 H ∧ H a = some (.lst (ss.map V.str)) ∧ Good ss ar f rs ∧
  H lw = some (.lst xs) ∧ AllQ (isA K) ar xs H ∧ BookAt K CB H b ss ar f rs
theorem ar_len {ss : List Str} {ar : List Ar} (n6 : ss.length ≤ 6) (nd : ar.Nodup) (h : ∀ p ∈ ar, p.1 ∈ ss ∧ p.2 ∈ ss) : ar.length ≤ 36 := by
  have h := nodup_le (ns := ss.flatMap fun x => ss.map fun y => (x, y)) nd fun p hp => List.mem_flatMap.mpr ⟨p.1, (h p hp).1, List.mem_map.mpr ⟨p.2, (h p hp).2, rfl⟩⟩
  rw [pairs_len] at h
  exact Nat.le_trans h (Nat.mul_le_mul n6 n6)
section
variable {P : Program} {w : World} {K : PySem.W.Frag} {mg : Str → Option Value} {base : Heap} {CB f : Addr} {cdv : Value} {A : Around} {outer : List Env} {s0 : Shared} {Hs H0 : Hp} {E : XK} {j : Addr}
theorem tr3 (cD : Cl P w K mg base 1 "_law_draw" ["_law_pot_here", "_law_bound"] spDip) (hr : Room 8 (XO P w K mg base f cdv A outer s0 Hs E).A) : Tr (XO P w K mg base f cdv A outer s0 Hs E) (stO 3) (M3 j H0) (M4 K j H0) := by
  refine ⟨_, ps_for PassesOwn.never rfl (pi_list (pv 1)) (pg_name (i := 5) scOnce.nd rfl (Or.inr rfl)) (pss_one (ps_expr (pe_bm PySem.F.plainAttrs_list PySem.F.slot_list_extend PySem.F.type_list_extend mt_extend (pv 4)
    (pa_cons (pe_lc (own := [("_law_to", 14)]) (g := gName 14) (by rfl) scOnce.nd (pi_list (pv 1)) (blkOk_by (own := [("_law_to", 14)]) (N := nmsOnce) (sc := defScope sOnce) (by decide +kernel)) (fun _ _ _ _ _ => pg_name (i := 14) scOnce.nd rfl (Or.inl rfl))
      (fun _ _ _ _ _ => pts_one (pt_cmpR op_eq (pe_k cD hr (by decide) (by rfl) (pa_cons (pv 0) (pa_cons (pv 2) pa_nil))) pe_int (nomark _))) (fun _ _ _ _ _ => pe_tup (pa_cons (pv 5) (pa_cons (pv 14) pa_nil)))) pa_nil)))), fun D σ H h => ?_⟩
  obtain ⟨a, lw, ss, d, fi, rfl, J, kp, ha, sp, hf, d1, d5, hlw, h0lw, nla, nlj⟩ := h
  have naj := jar_strs J ha
  refine ⟨_, rfl, a, rfl, ⟨_, SqL.of ha⟩, for_list (K := K) (a := a) (xs := ss.map V.str) (fun i σ G => (∃ x5, σ = [some (.ref j), some (.ref a), some (.int d), some (.str fi), some (.ref lw), x5, none, none, none, none, none, none, none, none, none, none, none]) ∧ JarAt G j ∧ (∀ b o, H b = some o → b ≠ j → b ≠ lw → G b = some o) ∧
    ∃ (xs : List V) (ar : List Ar), G lw = some (.lst xs) ∧ AllQ (isA K) ar xs G ∧ ar.Nodup ∧ ∀ p ∈ ar, p.1 ∈ ss.take i ∧ p.2 ∈ ss) ⟨⟨_, rfl⟩, J, fun b o e _ _ => e, [], [], hlw, trivial, List.nodup_nil, fun p hp => by cases hp⟩ (fun i σ G _ p => SqL.of (p.2.2.1 _ _ ha naj nla.symm)) ?_ ?_⟩
  · rintro i x σ G hx ⟨⟨x5, rfl⟩, JG, kG, xs, ar, gw, gal, gnd, gin⟩
    obtain ⟨z, ez, rfl⟩ := strs_get hx
    have hz := List.mem_of_getElem? ez
    have gA := kG _ _ ha naj nla.symm
    refine ⟨_, rfl, .inl ⟨rfl, _, SqL.of gw⟩, _, rfl, a, rfl, ⟨_, SqL.of gA⟩, fun D nD => ?_⟩
    have jD : D ≠ j := by
      obtain ⟨c, y, ej, _⟩ := JG
      exact (ne_of_none ej nD).symm
    have s1 := Same.upd_new (H := G) (o := .lst []) nD
    refine lc_it (walk_list (K := K) (a := a) (xs := ss.map V.str)) (fun m G2 => JarAt G2 j ∧ Kp j G G2 ∧ ∃ (ys : List V) (q : List Ar), G2 D = some (.lst ys) ∧ AllQ (isA K) q ys G2 ∧ ys.length ≤ m ∧ q.Nodup ∧ ∀ p ∈ q, p.1 = z ∧ p.2 ∈ ss.take m)
      ⟨JG.keep s1, Kp.same s1, [], [], upd_same, trivial, Nat.le_refl _, List.nodup_nil, fun p hp => by cases hp⟩ (fun m G2 _ p => SqL.of (p.2.1 _ _ gA naj)) ?_ ?_
    · rintro m y G2 G2' hm ⟨JG2, kG2, ys, q, gD, al, yl, qnd, qin⟩ ⟨rfl, hy⟩
      obtain ⟨z2, ez2, rfl⟩ := strs_get hy
      have i6 : m < 6 := by
        have h1 : m < (ss.map V.str).length := hm
        rw [List.length_map] at h1
        have := sp.n6
        omega
      refine ⟨rfl, _, rfl, _, rfl, j, d, rfl, JG2, by omega, by omega, fun G3 r J3 k3 _ _ => ⟨rfl, _, rfl, ?_⟩⟩
      have gD3 := k3 _ _ gD jD
      have al3 := al.keep (mon_isA K) (SmL.kp JG2 k3)
      refine ite2 (fun _ => ?_) (fun _ => ?_)
      · refine ⟨_, rfl, _, rfl, (by show 2 ≤ sizeLine; decide), fun u nu => ?_⟩
        have su := Same.upd_new (H := G3) (o := .tup [V.str z, V.str z2]) nu
        have gD4 := su _ _ gD3
        have sm := SmL.upd (ys := ys ++ [.ref u]) gD4
        refine ⟨_, gD4, small6 (by omega), ?_, fun c o e n => ?_, ys ++ [.ref u], q ++ [(z, z2)], upd_same, ?_, ?_, ?_, fun p hp => ?_⟩
        · obtain ⟨c, y, ej, r⟩ := J3.keep su
          exact ⟨c, y, by rw [upd_ne jD.symm]; exact ej, r⟩
        · rw [upd_ne (ne_of_none e nD)]
          exact su _ _ (k3 _ _ (kG2 c o e n) n)
        · exact AllQ.append ((al3.keep (mon_isA K) (.of su)).keep (mon_isA K) sm) ⟨⟨u, rfl, sm _ _ upd_same fun _ z => by cases z⟩, trivial⟩
        · rw [List.length_append]
          exact Nat.succ_le_succ yl
        · rw [List.nodup_append]
          refine ⟨qnd, List.nodup_cons.mpr ⟨by simp, List.nodup_nil⟩, fun p hp p2 hp2 e => ?_⟩
          rw [List.mem_singleton.mp hp2] at e
          have := (qin p hp).2
          rw [e] at this
          exact nodup_take sp.nd ez2 this
        · rw [List.take_add_one, ez2]
          rcases List.mem_append.mp hp with hp | hp
          · exact ⟨(qin p hp).1, List.mem_append_left _ (qin p hp).2⟩
          · rw [List.mem_singleton.mp hp]
            exact ⟨rfl, List.mem_append_right _ (List.mem_singleton_self z2)⟩
      · exact ⟨J3, kG2.trans k3, ys, q, gD3, al3, Nat.le_succ_of_le yl, qnd, fun p hp => ⟨(qin p hp).1, by
          rw [List.take_add_one]
          exact List.mem_append_left _ (qin p hp).2⟩⟩
    · rintro G2 ⟨J2, k2, ys, q, gD, al, yl, qnd, qin⟩
      rw [List.length_map, List.take_length] at qin
      have gw2 := k2 _ _ gw nlj
      have nd2 : (ar ++ q).Nodup := by
        rw [List.nodup_append]
        refine ⟨gnd, qnd, fun p hp p2 hp2 e => ?_⟩
        have h1 := (gin p hp).1
        rw [e, (qin p2 hp2).1] at h1
        exact nodup_take sp.nd ez h1
      have in2 : ∀ p ∈ ar ++ q, p.1 ∈ ss.take (i + 1) ∧ p.2 ∈ ss := fun p hp => by
        rw [List.take_add_one, ez]
        rcases List.mem_append.mp hp with hp | hp
        · exact ⟨List.mem_append_left _ (gin p hp).1, (gin p hp).2⟩
        · rw [(qin p hp).1]
          exact ⟨List.mem_append_right _ (List.mem_singleton_self z), (qin p hp).2⟩
      have l1 := gal.len
      have l2 := al.len
      have l3 := ar_len sp.n6 nd2 fun p hp => ⟨List.mem_of_mem_take (in2 p hp).1, (in2 p hp).2⟩
      rw [List.length_append] at l3
      refine ⟨lw, D, xs, ys, rfl, rfl, gw2, gD, Nat.le_of_lt (small6 (by omega)), ⟨_, rfl⟩ , ?_, fun b o e n n2 => ?_, _, ar ++ q, upd_same, ?_, nd2, in2⟩
      · obtain ⟨c, y, ej, r⟩ := J2
        exact ⟨c, y, by rw [upd_ne nlj.symm]; exact ej, r⟩
      · rw [upd_ne n2]
        exact k2 _ _ (kG b o e n n2) n
      · exact (AllQ.append (gal.keep (mon_isA K) (SmL.kp JG k2)) al).keep (mon_isA K) (SmL.upd gw2)
  · rintro σ G ⟨⟨x5, rfl⟩, JG, kG, xs, ar, gw, gal, gnd, gin⟩
    rw [List.length_map, List.take_length] at gin
    exact ⟨a, lw, ss, _, x5, fi, ar, xs, rfl, JG, fun b o e n => kG b o (kp b o e n) n (ne_of_none e h0lw), kG _ _ ha naj nla.symm, ⟨sp.n0, sp.n6, sp.nd, sp.nm, gnd, gin, hf, List.nodup_nil, fun z hz => by cases hz⟩, gw, gal⟩
theorem tr4 (cM : Cl P w K mg base 7 "_law_made" ["_law_pot_here", "_law_spots", "_law_ways", "_law_begin"] (spMadeB K CB)) (hr : Room 8 (XO P w K mg base f cdv A outer s0 Hs E).A) : Tr (XO P w K mg base f cdv A outer s0 Hs E) (stO 4) (M4 K j H0) (LI K CB j H0) := by
  refine ⟨_, ps_set (i := 6) scOnce.nd rfl (Or.inl rfl) (pe_k cM hr (by decide) (by rfl) (pa_cons (pv 0) (pa_cons (pv 1) (pa_cons (pv 4) (pa_cons (pv 3) pa_nil))))), fun D σ H h => ?_⟩
  obtain ⟨a, lw, ss, x2, x5, fi, ar, xs, rfl, J, kp, ha, g, hw, hal⟩ := h
  refine ⟨_, rfl, _, rfl, _, rfl, _, rfl, j, a, lw, ss, ar, fi, xs, rfl, J, ha, hw, hal, g, fun H' c rs J' k hB g' => ?_⟩
  exact ⟨a, lw, c, ss, x2, x5, none, none, none, none, none, none, fi, ar, rs, xs, rfl, J', kp.trans k, k _ _ ha (jar_strs J ha), g', k _ _ hw (jar_ar J hw hal), hal.keep (mon_isA K) (SmL.kp J k), hB⟩
theorem tr5 (cR : Cl P w K mg base 4 "_law_is_right" ["_law_made_here", "_law_spots", "_law_ways", "_law_begin"] (spRightB K CB)) (hr : Room 8 (XO P w K mg base f cdv A outer s0 Hs E).A) : Tr (XO P w K mg base f cdv A outer s0 Hs E) (stO 5) (LI K CB j H0) (LI K CB j H0) := by
  refine ⟨_, ps_if (pt_not (pt_val (pe_k cR hr (by decide) (by rfl) (pa_cons (pv 6) (pa_cons (pv 1) (pa_cons (pv 4) (pa_cons (pv 3) pa_nil))))))) (pss_one (ps_ret pe_bl)) pss_nil, fun D σ H h => ?_⟩
  obtain ⟨a, lw, b, ss, x2, x5, x7, x8, x9, x10, x11, x12, fi, ar, rs, xs, rfl, J, kp, ha, g, hw, hal, hB⟩ := h
  refine ⟨_, rfl, _, rfl, _, rfl, _, rfl, b, a, lw, ss, ar, fi, rs, xs, rfl, hB, g, ha, hw, hal, fun H' s => ⟨_, rfl, iteF ?_⟩⟩
  exact ⟨a, lw, b, ss, x2, x5, x7, x8, x9, x10, x11, x12, fi, ar, rs, xs, rfl, J.keep s, kp.trans (Kp.same s), s _ _ ha, g, s _ _ hw, hal.keep (mon_isA K) (.of s), hB.keep s⟩
end
end Cm
end

/-! ## Oc24 -/
section
set_option pp.maxSteps 400
namespace Cm
open PySem PySem.Spec PyProof.Rows L2 KG
def stB (i : Nat) : Stmt := (forBody (stO 6)).getD i (.Pass ⟨0, 0, 0, 0⟩)
/-- a pick of an arrow -/
def N1 (K : PySem.W.Frag) (CB j : Addr) (H0 : Hp) : L2.St → Hp → Prop := fun σ H => ∃ (a lw b t : Addr) (ss : List Str) (x2 x5 x7 x9 x10 x11 x12 : Option V) (f : Str) (ar : List Ar) (rs : List Str) (xs : List V) (p : Ar),
  σ = [some (.ref j), some (.ref a), x2, some (.str f), some (.ref lw), x5, some (.ref b), x7, some (.ref t), x9, x10, x11, x12, none, none, none, none] ∧ JarAt H j ∧ Kp j H0 H ∧ H a = some (.lst (ss.map V.str)) ∧ Good ss ar f rs ∧
  H lw = some (.lst xs) ∧ AllQ (isA K) ar xs H ∧ BookAt K CB H b ss ar f rs ∧ H t = some (.tup [.str p.1, .str p.2]) ∧ p.1 ∈ ss ∧ p.2 ∈ ss
/-- two books, one with the arrow, one without it -/
structure Two (K : PySem.W.Frag) (CB : Addr) (H : Hp) (a lw b t o wl le fa : Addr) (ss : List Str) (f : Str) (ar br lar far : List Ar) (rs : List Str) (xs ys : List V) (p : Ar) : Prop where
  ha : H a = some (.lst (ss.map V.str))
  g : Good ss ar f rs
  hw : H lw = some (.lst xs)
  hal : AllQ (isA K) ar xs H
  hB : BookAt K CB H b ss ar f rs
  ht : H t = some (.tup [.str p.1, .str p.2])
  g2 : Good ss br f rs
  hw2 : H wl = some (.lst ys)
  hal2 : AllQ (isA K) br ys H
  hO : BookAt K CB H o ss br f rs
  gl : Good ss lar f rs
  hL : BookAt K CB H le ss lar f rs
  gf : Good ss far f rs
  hF : BookAt K CB H fa ss far f rs
  sub : ∀ q ∈ lar, q ∈ far
  one : ∀ q ∈ far, q ∈ lar ∨ q = p
theorem Two.keep {K : PySem.W.Frag} {CB : Addr} {H H' : Hp} {a lw b t o wl le fa : Addr} {ss : List Str} {f : Str} {ar br lar far : List Ar} {rs : List Str} {xs ys : List V} {p : Ar} (h : Two K CB H a lw b t o wl le fa ss f ar br lar far rs xs ys p) (s : Same H H') : Two K CB H' a lw b t o wl le fa ss f ar br lar far rs xs ys p :=
  ⟨s _ _ h.ha, h.g, s _ _ h.hw, h.hal.keep (mon_isA K) (.of s), h.hB.keep s, s _ _ h.ht, h.g2, s _ _ h.hw2, h.hal2.keep (mon_isA K) (.of s), h.hO.keep s, h.gl, h.hL.keep s, h.gf, h.hF.keep s, h.sub, h.one⟩
def N2 (K : PySem.W.Frag) (CB j : Addr) (H0 : Hp) : L2.St → Hp → Prop := fun σ H => ∃ (a lw b t o wl le fa : Addr) (ss : List Str) (x2 x5 x7 : Option V) (f : Str) (ar br lar far : List Ar) (rs : List Str) (xs ys : List V) (p : Ar),
  σ = [some (.ref j), some (.ref a), x2, some (.str f), some (.ref lw), x5, some (.ref b), x7, some (.ref t), some (.ref o), some (.ref wl), some (.ref le), some (.ref fa), none, none, none, none] ∧ JarAt H j ∧ Kp j H0 H ∧ Two K CB H a lw b t o wl le fa ss f ar br lar far rs xs ys p
/-- where the arrow's start is not reached, both reach the same -/
theorem reach_less {lar far : List Ar} {f : Str} {p : Ar} (one : ∀ q ∈ far, q ∈ lar ∨ q = p) (n : ¬ Reach lar f p.1) {z : Str} (r : Reach far f z) : Reach lar f z := by
  induction r with
  | base => exact .base
  | step r1 e ih =>
    rcases one _ e with h | h
    · exact .step ih h
    · exact absurd (by rw [← h]; exact ih) n
section
variable {P : Program} {w : World} {K : PySem.W.Frag} {mg : Str → Option Value} {base : Heap} {CB f : Addr} {cdv : Value} {A : Around} {outer : List Env} {s0 : Shared} {Hs H0 : Hp} {E : XK} {j : Addr}
theorem trB0 (cP : Cl P w K mg base 2 "_law_pick" ["_law_pot_here", "_law_some"] (spChoice K)) (hr : Room 8 (XO P w K mg base f cdv A outer s0 Hs E).A) : Tr (XO P w K mg base f cdv A outer s0 Hs E) (stB 0) (LI K CB j H0) (N1 K CB j H0) := by
  refine ⟨_, ps_set (i := 8) scOnce.nd rfl (Or.inr rfl) (pe_tup (pa_cons (pe_k cP hr (by decide) (by rfl) (pa_cons (pv 0) (pa_cons (pv 1) pa_nil))) (pa_cons (pe_k cP hr (by decide) (by rfl) (pa_cons (pv 0) (pa_cons (pv 1) pa_nil))) pa_nil))), fun D σ H h => ?_⟩
  obtain ⟨a, lw, b, ss, x2, x5, x7, x8, x9, x10, x11, x12, fi, ar, rs, xs, rfl, J, kp, ha, g, hw, hal, hB⟩ := h
  have naj := jar_strs J ha
  have nwj := jar_ar J hw hal
  have l0 : 0 < (ss.map V.str).length := by
    rw [List.length_map]
    exact List.length_pos_iff.mpr g.n0
  have l6 : (ss.map V.str).length ≤ 6 := by
    rw [List.length_map]
    exact g.n6
  refine ⟨_, rfl, _, rfl, j, _, rfl, J, .inl ⟨a, _, rfl, naj, SqL.of ha, l0, by omega, fun H1 i y J1 k1 hy => ?_⟩⟩
  obtain ⟨z, ez, rfl⟩ := strs_get hy
  refine ⟨_, rfl, _, rfl, j, _, rfl, J1, .inl ⟨a, _, rfl, naj, SqL.of (k1 _ _ ha naj), l0, by omega, fun H2 i2 y J2 k2 hy2 => ?_⟩⟩
  obtain ⟨z2, ez2, rfl⟩ := strs_get hy2
  refine ⟨(by show 2 ≤ sizeLine; decide), fun t nt => ?_⟩
  have st := Same.upd_new (H := H2) (o := .tup [V.str z, V.str z2]) nt
  have k12 : Kp j H (upd H2 t (.tup [V.str z, V.str z2])) := k1.trans (k2.trans (Kp.same st))
  exact ⟨a, lw, b, t, ss, x2, x5, x7, x9, x10, x11, x12, fi, ar, rs, xs, (z, z2), rfl, J2.keep st, kp.trans k12, k12 _ _ ha naj, g, k12 _ _ hw nwj, hal.keep (mon_isA K) (SmL.kp J k12), hB.kp J k12, upd_same, List.mem_of_getElem? ez, List.mem_of_getElem? ez2⟩
theorem trB1 (cA : Sl P w K mg base CB (PySem.dunder Operator.Add.info.2) 8 (spAdd K CB)) (cS : Sl P w K mg base CB (PySem.dunder Operator.Sub.info.2) 8 (spSub K CB)) (oA : TupO K CB .Add) (oS : TupO K CB .Sub) (sf : PySem.W.selfFirst K CB = true)
    (hr : Room 8 (XO P w K mg base f cdv A outer s0 Hs E).A) : Tr (XO P w K mg base f cdv A outer s0 Hs E) (stB 1) (N1 K CB j H0) (N2 K CB j H0) := by
  refine ⟨_, ps_if (pt_cmpR (op_inD (Room.units65 hr)) (pv 8) (pv 4) (by rfl))
    (pss_cons (ps_par (i := 9) (j := 10) (by rfl) scOnce.nd rfl rfl (by decide) rfl rfl (pa_cons (pe_op (op_OT (op := .Sub) cS oS hr (by decide) sf) (pv 6) (pv 8)) (pa_cons (pe_lc (own := [("_law_one", 15)]) (g := gName 15) (by rfl) scOnce.nd (pi_list (pv 4))
        (blkOk_by (own := [("_law_one", 15)]) (N := nmsOnce) (sc := defScope sOnce) (by decide +kernel)) (fun _ _ _ _ _ => pg_name (i := 15) scOnce.nd rfl (Or.inl rfl)) (fun _ _ _ _ _ => pts_one (pt_cmpR (show OpR _ _ (rNeD K) from op_neD hr.units) (pv 15) (pv 8) (nomark _))) (fun _ _ _ _ _ => pv 15)) pa_nil)) (by rfl))
      (pss_one (ps_asg (pe_tup (pa_cons (pv 9) (pa_cons (pv 6) pa_nil))) (pg_tup (by rfl) (pgs_cons (pg_name (i := 11) scOnce.nd rfl (Or.inl rfl)) (pgs_cons (pg_name (i := 12) scOnce.nd rfl (Or.inr rfl)) pgs_nil))))))
    (pss_cons (ps_par (i := 9) (j := 10) (by rfl) scOnce.nd rfl rfl (by decide) rfl rfl (pa_cons (pe_op (op_OT (op := .Add) cA oA hr (by decide) sf) (pv 6) (pv 8)) (pa_cons (pe_op op_cat (pv 4) (pe_lst (pa_cons (pv 8) pa_nil))) pa_nil)) (by rfl))
      (pss_one (ps_asg (pe_tup (pa_cons (pv 6) (pa_cons (pv 9) pa_nil))) (pg_tup (by rfl) (pgs_cons (pg_name (i := 11) scOnce.nd rfl (Or.inl rfl)) (pgs_cons (pg_name (i := 12) scOnce.nd rfl (Or.inr rfl)) pgs_nil)))))), fun D σ H h => ?_⟩
  obtain ⟨a, lw, b, t, ss, x2, x5, x7, x9, x10, x11, x12, fi, ar, rs, xs, p, rfl, J, kp, ha, g, hw, hal, hB, ht, m1, m2⟩ := h
  obtain ⟨ns', ar', rs', dx, lt, dm, la, lr, xs', e1, e2, e3, h1, r⟩ := id hB
  refine ⟨_, rfl, _, rfl, pds p, ar.map pds, dp_arrow (SqT.of ht), .lst (SqL.of hw) hal.dpA, shaped_pd1 _ ⟨(g.nm _ m1).2.2, (g.nm _ m2).2.2⟩, shaped_pds _ (fun r hr => (g.nma r hr).2.2), _, rfl, ?_⟩
  rw [any_pds]
  refine ite2 (fun h => ?_) (fun h => ?_)
  · have hp : p ∈ ar := of_decide_eq_true h
    refine ⟨_, rfl, _, rfl, b, t, _, rfl, rfl, ⟨dx, _, h1⟩, ht, b, t, p, ss, ar, fi, rs, rfl, hB, g, ht, hp, fun H1 o s1 hO => ⟨o, rfl, ?_⟩⟩
    have hw1 := s1 _ _ hw
    refine ⟨_, rfl, lw, rfl, ⟨_, SqL.of hw1⟩, fun D nD => ?_⟩
    have t1 := Same.upd_new (H := H1) (o := .lst []) nD
    refine lc_it (walk_list (K := K) (a := lw) (xs := xs)) (fun i G => Same H1 G ∧ ∃ ys, G D = some (.lst ys) ∧ ys.length ≤ i ∧ AllQ (isA K) ((ar.take i).filter fun q => decide (q ≠ p)) ys G) ⟨t1, [], upd_same, Nat.le_refl _, by rw [List.take_zero]; trivial⟩ (fun i G _ p => SqL.of (p.1 _ _ hw1)) ?_ ?_
    · rintro i x G G' hi ⟨sg, ys, gD, gl, ga⟩ ⟨rfl, hx⟩
      have sH := Same.trans' s1 sg
      obtain ⟨r, er, t2, rfl, ht2⟩ := AllQ.get (hal.keep (mon_isA K) (.of sH)) hx
      have mr := g.nma r (List.mem_of_getElem? er)
      have step : (ar.take (i + 1)).filter (fun q => decide (q ≠ p)) = (ar.take i).filter (fun q => decide (q ≠ p)) ++ (if decide (r ≠ p) = true then [r] else []) := by
        rw [List.take_add_one, er, List.filter_append]
        congr 1
        show List.filter _ [r] = _
        rw [List.filter_cons]
        split <;> rfl
      refine ⟨rfl, _, rfl, _, rfl, pds r, pds p, dp_arrow (SqT.of ht2), dp_arrow (SqT.of (sH _ _ ht)), shaped_pd1 _ mr.2.2, shaped_pd1 _ ⟨(g.nm _ m1).2.2, (g.nm _ m2).2.2⟩, _, rfl, ?_⟩
      rw [eqv_pds]
      refine ite2 (fun h => ?_) (fun h => ?_)
      · have hn : r ≠ p := by simpa using h
        have sm := SmL.upd (ys := ys ++ [.ref t2]) gD
        refine ⟨_, rfl, ys, gD, ?_, fun c o e => ?_, _, upd_same, ?_, ?_⟩
        · have h7 := hal.len
          have h2 : i < xs.length := hi
          have h8 := g.a36
          have : (60 : Nat) < sizeLine := by decide
          omega
        · rw [upd_ne (ne_of_none e nD)]
          exact sg c o e
        · rw [List.length_append]
          exact Nat.succ_le_succ gl
        · rw [step, if_pos (decide_eq_true hn)]
          exact AllQ.append (ga.keep (mon_isA K) sm) ⟨⟨t2, rfl, by rw [upd_ne fun z => by rw [z, gD] at ht2; cases ht2]; exact ht2⟩, trivial⟩
      · have hn : ¬ r ≠ p := by simpa using h
        refine ⟨sg, ys, gD, Nat.le_succ_of_le gl, ?_⟩
        rw [step, if_neg (by simpa using hn), List.append_nil]
        exact ga
    · rintro G ⟨sg, ys, gD, gl, ga⟩
      have e : ar.take xs.length = ar := by rw [hal.len, List.take_length]
      rw [e] at ga
      have sH := Same.trans' s1 sg
      have gl2 : Good ss (ar.filter fun q => decide (q ≠ p)) fi rs := g.less ((g.and).filter _) fun q hq => (List.mem_filter.mp hq).1
      refine ⟨_, _, rfl, _, rfl, _, rfl, (by show 2 ≤ sizeLine; decide), fun u nu => ?_⟩
      have su := Same.upd_new (H := G) (o := .tup [.ref o, .ref b]) nu
      refine ⟨u, _, rfl, SqT.of upd_same, rfl, _, _, rfl, _, _, rfl, rfl, ?_⟩
      have sU := Same.trans' sH su
      have sU1 := Same.trans' sg su
      exact ⟨a, lw, b, t, o, D, o, b, ss, x2, x5, x7, fi, ar, _, _, ar, rs, xs, ys, p, rfl, J.keep sU, kp.trans (Kp.same sU), sU _ _ ha, g, sU _ _ hw, hal.keep (mon_isA K) (.of sU), hB.keep sU, sU _ _ ht, gl2, su _ _ gD, ga.keep (mon_isA K) (.of su), hO.keep sU1, gl2, hO.keep sU1, g, hB.keep sU, fun q hq => (List.mem_filter.mp hq).1, fun q hq => by
        by_cases e : q = p
        · exact .inr e
        · exact .inl (List.mem_filter.mpr ⟨hq, decide_eq_true e⟩)⟩
  · have hp : p ∉ ar := fun z => h (decide_eq_true z)
    refine ⟨_, rfl, _, rfl, b, t, _, rfl, rfl, ⟨dx, _, h1⟩, ht, b, t, p, ss, ar, fi, rs, rfl, hB, g, ht, m1, m2, hp, fun H1 o s1 hO => ⟨o, rfl, ?_⟩⟩
    refine ⟨_, rfl, _, rfl, (by show 1 ≤ sizeLine; decide), fun l nl => ?_⟩
    have s2 := Same.trans' s1 (Same.upd_new (H := H1) (o := .lst [.ref t]) nl)
    have h7 := hal.len
    have h8 := g.a36
    refine ⟨lw, l, xs, [.ref t], rfl, rfl, s2 _ _ hw, upd_same, ?_, fun wl nwl => ?_⟩
    · have : (60 : Nat) < sizeLine := by decide
      show xs.length + 1 ≤ sizeLine
      omega
    · have s3 := Same.upd_new (H := upd H1 l (.lst [.ref t])) (o := .lst (xs ++ [.ref t])) nwl
      refine ⟨_, _, rfl, _, rfl, _, rfl, (by show 2 ≤ sizeLine; decide), fun u nu => ?_⟩
      have su := Same.upd_new (H := upd (upd H1 l (.lst [.ref t])) wl (.lst (xs ++ [.ref t]))) (o := .tup [.ref b, .ref o]) nu
      refine ⟨u, _, rfl, SqT.of upd_same, rfl, _, _, rfl, _, _, rfl, rfl, ?_⟩
      have sU := Same.trans' (Same.trans' s2 s3) su
      have sU1 := Same.trans' (Same.trans' (Same.upd_new (H := H1) (o := .lst [.ref t]) nl) s3) su
      have g2 := g.more hp m1 m2
      exact ⟨a, lw, b, t, o, wl, b, o, ss, x2, x5, x7, fi, ar, ar ++ [p], ar, ar ++ [p], rs, xs, xs ++ [.ref t], p, rfl, J.keep sU, kp.trans (Kp.same sU), sU _ _ ha, g, sU _ _ hw, hal.keep (mon_isA K) (.of sU), hB.keep sU, sU _ _ ht, g2, su _ _ upd_same, AllQ.append (hal.keep (mon_isA K) (.of sU)) ⟨⟨t, rfl, sU _ _ ht⟩, trivial⟩, hO.keep sU1, g, hB.keep sU, g2, hO.keep sU1, fun q hq => List.mem_append_left _ hq, fun q hq => by
        rcases List.mem_append.mp hq with hq | hq
        · exact .inl hq
        · exact .inr (List.mem_singleton.mp hq)⟩
end
end Cm
end

/-! ## Od24 -/
section
set_option pp.maxSteps 400
namespace Cm
open PySem PySem.Spec PyProof.Rows L2 KG
section
variable {P : Program} {w : World} {K : PySem.W.Frag} {mg : Str → Option Value} {base : Heap} {CB f : Addr} {cdv : Value} {A : Around} {outer : List Env} {s0 : Shared} {Hs H0 : Hp} {E : XK} {j : Addr}
theorem trB2 (cR : Cl P w K mg base 4 "_law_is_right" ["_law_made_here", "_law_spots", "_law_ways", "_law_begin"] (spRightB K CB)) (hr : Room 8 (XO P w K mg base f cdv A outer s0 Hs E).A) : Tr (XO P w K mg base f cdv A outer s0 Hs E) (stB 2) (N2 K CB j H0) (N2 K CB j H0) := by
  refine ⟨_, ps_if (PW.pt (pw_or (pt_not (pt_val (pe_k cR hr (by decide) (by rfl) (pa_cons (pv 9) (pa_cons (pv 1) (pa_cons (pv 10) (pa_cons (pv 3) pa_nil))))))) (pw_or1 (pt_not (pt_val (pe_k cR hr (by decide) (by rfl) (pa_cons (pv 6) (pa_cons (pv 1) (pa_cons (pv 4) (pa_cons (pv 3) pa_nil)))))))))) (pss_one (ps_ret pe_bl)) pss_nil, fun D σ H h => ?_⟩
  obtain ⟨a, lw, b, t, o, wl, le, fa, ss, x2, x5, x7, fi, ar, br, lar, far, rs, xs, ys, p, rfl, J, kp, T⟩ := h
  refine ⟨_, rfl, _, rfl, _, rfl, _, rfl, o, a, wl, ss, br, fi, rs, ys, rfl, T.hO, T.g2, T.ha, T.hw2, T.hal2, fun H1 s1 => ⟨_, rfl, iteF ?_⟩⟩
  have T1 := T.keep s1
  refine ⟨_, rfl, _, rfl, _, rfl, _, rfl, b, a, lw, ss, ar, fi, rs, xs, rfl, T1.hB, T1.g, T1.ha, T1.hw, T1.hal, fun H2 s2 => ⟨_, rfl, iteF ?_⟩⟩
  exact ⟨a, lw, b, t, o, wl, le, fa, ss, x2, x5, x7, fi, ar, br, lar, far, rs, xs, ys, p, rfl, (J.keep s1).keep s2, kp.trans (Kp.same (Same.trans' s1 s2)), T1.keep s2⟩
theorem trB3 (T : TxtL mg) (TB : TxtB K mg CB) (cR : Me P w K mg base 1 CB "reached" ["self"] (spReached K CB)) (hr : Room 8 (XO P w K mg base f cdv A outer s0 Hs E).A) : Tr (XO P w K mg base f cdv A outer s0 Hs E) (stB 3) (N2 K CB j H0) (N2 K CB j H0) := by
  refine ⟨_, ps_if (pt_not (pt_val (pe_callB (cr_all (by rfl)) (by rfl) T.all (by decide +kernel) (pa_cons (pe_lc (own := [("_law_spot", 16)]) (g := gName 16) (by rfl) scOnce.nd (pi_list (pe_m0 cR TB.cl hr (by decide) (pv 11)))
    (blkOk_by (own := [("_law_spot", 16)]) (N := nmsOnce) (sc := defScope sOnce) (by decide +kernel)) (fun _ _ _ _ _ => pg_name (i := 16) scOnce.nd rfl (Or.inl rfl)) (fun _ _ _ _ _ => pts_nil)
    (fun _ _ _ _ _ => pe_cmpR (show OpR _ _ (rIn K false) from op_in_seq) (pv 16) (pe_m0 cR TB.cl hr (by decide) (pv 12)) (by rfl))) pa_nil)))) (pss_one (ps_ret pe_bl)) pss_nil, fun D σ H h => ?_⟩
  obtain ⟨a, lw, b, t, o, wl, le, fa, ss, x2, x5, x7, fi, ar, br, lar, far, rs, xs, ys, p, rfl, J, kp, TT⟩ := h
  obtain ⟨ns1, ar1, rs1, dx1, lt1, dm1, la1, lr1, xs1, e11, e12, e13, h1, r1⟩ := id TT.hL
  obtain ⟨ns2, ar2, rs2, dx2, lt2, dm2, la2, lr2, xs2, e21, e22, e23, h2, r2⟩ := id TT.hF
  have nm1 := bf_no lt1 dm1 la1 fi lr1 (m := "reached") (by decide +kernel) (by decide +kernel) (by decide +kernel) (by decide +kernel) (by decide +kernel)
  have nm2 := bf_no lt2 dm2 la2 fi lr2 (m := "reached") (by decide +kernel) (by decide +kernel) (by decide +kernel) (by decide +kernel) (by decide +kernel)
  refine ⟨_, rfl, le, dx1, _, rfl, h1, nm1, le, ss, lar, fi, rs, rfl, TT.hL, TT.gl, fun H1 p1 ys1 s1 hp1 hys1 => ⟨p1, rfl, ⟨_, SqL.of hp1⟩, fun D nD => ?_⟩⟩
  have l6 : ys1.length ≤ 6 := Nat.le_trans (nodup_le (ns := ss) hys1.2.1 fun z hz => TT.gl.reach ((hys1.2.2 z).mp hz)) TT.gl.n6
  have t1 := Same.upd_new (H := H1) (o := .lst []) nD
  refine lc_it (walk_list (K := K) (a := p1) (xs := ys1.map V.str)) (fun i G => Same H1 G ∧ G D = some (.lst ((List.replicate i true).map V.bl))) ⟨t1, upd_same⟩ (fun i G _ p => SqL.of (p.1 _ _ hp1)) ?_ ?_
  · rintro i x G G' hi ⟨sg, gD⟩ ⟨rfl, hx⟩
    obtain ⟨z, ez, rfl⟩ := strs_get hx
    have hz := List.mem_of_getElem? ez
    have i6 : i < 6 := by
      have h1 : i < (ys1.map V.str).length := hi
      rw [List.length_map] at h1
      omega
    have sH := Same.trans' s1 sg
    refine ⟨rfl, _, rfl, _, rfl, fa, dx2, _, rfl, sH _ _ h2, nm2, fa, ss, far, fi, rs, rfl, TT.hF.keep sH, TT.gf, fun G2 p2 ys2 s2 hp2 hys2 => ⟨p2, _, rfl, .inl (SqL.of hp2), rfl, flat_strs _, ?_⟩⟩
    have inz : z ∈ ys2 := (hys2.2.2 z).mpr (Reach.mono TT.sub ((hys1.2.2 z).mp hz))
    rw [if_neg Bool.false_ne_true, inV_str, decide_eq_true inz]
    refine ⟨_, s2 _ _ gD, ?_, fun c v e => ?_, ?_⟩
    · rw [List.length_map, List.length_replicate]
      exact small6 (by omega)
    · rw [upd_ne (ne_of_none e nD)]
      exact s2 _ _ (sg c v e)
    · rw [upd_same, List.replicate_succ', List.map_append]
      rfl
  · rintro G ⟨sg, gD⟩
    refine ⟨D, List.replicate _ true, rfl, SqL.of gD, ?_⟩
    rw [all_true]
    refine ⟨_, rfl, iteF ?_⟩
    have sH := Same.trans' s1 sg
    exact ⟨a, lw, b, t, o, wl, le, fa, ss, x2, x5, x7, fi, ar, br, lar, far, rs, xs, ys, p, rfl, J.keep sH, kp.trans (Kp.same sH), TT.keep sH⟩
theorem trB4 (TB : TxtB K mg CB) (cR : Me P w K mg base 1 CB "reached" ["self"] (spReached K CB)) (cC : Me P w K mg base 3 CB "callers" ["self", "scene"] (spCallers K CB)) (hr : Room 8 (XO P w K mg base f cdv A outer s0 Hs E).A) : Tr (XO P w K mg base f cdv A outer s0 Hs E) (stB 4) (N2 K CB j H0) (N2 K CB j H0) := by
  refine ⟨_, ps_if (pt_cmpR op_notIn_seq (pe_ix ix_tup (pv 8) pe_int (fun _ _ => rfl)) (pe_m0 cR TB.cl hr (by decide) (pv 11)) (by rfl))
    (pss_one (ps_if (PW.pt (pw_or (pt_cmpR (op_neD hr.units) (pe_m0 cR TB.cl hr (by decide) (pv 11)) (pe_m0 cR TB.cl hr (by decide) (pv 12)) (nomark _)) (pw_or1 (pt_cmpR (op_neD hr.units) (pe_m cC TB.cl hr (by decide) (pv 11) (pa_cons (pv 3) pa_nil)) (pe_m cC TB.cl hr (by decide) (pv 12) (pa_cons (pv 3) pa_nil)) (nomark _))))) (pss_one (ps_ret pe_bl)) pss_nil)) pss_nil, fun D σ H h => ?_⟩
  obtain ⟨a, lw, b, t, o, wl, le, fa, ss, x2, x5, x7, fi, ar, br, lar, far, rs, xs, ys, p, rfl, J, kp, TT⟩ := h
  obtain ⟨ns1, ar1, rs1, dx1, lt1, dm1, la1, lr1, xs1, e11, e12, e13, h1, r1⟩ := id TT.hL
  obtain ⟨ns2, ar2, rs2, dx2, lt2, dm2, la2, lr2, xs2, e21, e22, e23, h2, r2⟩ := id TT.hF
  have nm1 := bf_no lt1 dm1 la1 fi lr1 (m := "reached") (by decide +kernel) (by decide +kernel) (by decide +kernel) (by decide +kernel) (by decide +kernel)
  have nm2 := bf_no lt2 dm2 la2 fi lr2 (m := "reached") (by decide +kernel) (by decide +kernel) (by decide +kernel) (by decide +kernel) (by decide +kernel)
  have nc1 := bf_no lt1 dm1 la1 fi lr1 (m := "callers") (by decide +kernel) (by decide +kernel) (by decide +kernel) (by decide +kernel) (by decide +kernel)
  have nc2 := bf_no lt2 dm2 la2 fi lr2 (m := "callers") (by decide +kernel) (by decide +kernel) (by decide +kernel) (by decide +kernel) (by decide +kernel)
  have fin : ∀ G, Same H G → N2 K CB j H0 [some (.ref j), some (.ref a), x2, some (.str fi), some (.ref lw), x5, some (.ref b), x7, some (.ref t), some (.ref o), some (.ref wl), some (.ref le), some (.ref fa), none, none, none, none] G := fun G sH =>
    ⟨a, lw, b, t, o, wl, le, fa, ss, x2, x5, x7, fi, ar, br, lar, far, rs, xs, ys, p, rfl, J.keep sH, kp.trans (Kp.same sH), TT.keep sH⟩
  refine ⟨_, rfl, t, _, _, _, rfl, rfl, SqT.of TT.ht, rfl, _, rfl, le, dx1, _, rfl, h1, nm1, le, ss, lar, fi, rs, rfl, TT.hL, TT.gl, fun H1 p1 ys1 s1 hp1 hys1 => ⟨p1, _, rfl, .inl (SqL.of hp1), rfl, flat_strs _, _, rfl, ?_⟩⟩
  rw [if_pos rfl, inV_str]
  refine ite2 (fun h => ?_) (fun _ => fin _ s1)
  have nr : ¬ Reach lar fi p.1 := fun r => by
    have : decide (p.1 ∈ ys1) = false := by simpa using h
    rw [decide_eq_true ((hys1.2.2 _).mpr r)] at this
    cases this
  have T1 := TT.keep s1
  refine ⟨_, rfl, le, dx1, _, rfl, s1 _ _ h1, nm1, le, ss, lar, fi, rs, rfl, T1.hL, T1.gl, fun H2 p2 ys2 s2 hp2 hys2 => ?_⟩
  have s12 := Same.trans' s1 s2
  have T2 := T1.keep s2
  refine ⟨_, rfl, fa, dx2, _, rfl, s12 _ _ h2, nm2, fa, ss, far, fi, rs, rfl, T2.hF, T2.gf, fun H3 p3 ys3 s3 hp3 hys3 => ?_⟩
  have s13 := Same.trans' s12 s3
  have T3 := T2.keep s3
  have up : ∀ {zs : List Str}, IsRS far fi zs → IsRS lar fi zs := fun hz => ⟨hz.1, hz.2.1, fun z => (hz.2.2 z).trans ⟨reach_less TT.one nr, Reach.mono TT.sub⟩⟩
  cases hys2.one hys1
  cases (up hys3).one hys1
  have sok := TT.gl.ok hys1
  refine ⟨.list (ys1.map PyData.str), .list (ys1.map PyData.str), .lst (SqL.of (s3 _ _ hp2)) (dp_strs ys1), .lst (SqL.of hp3) (dp_strs ys1), shaped_strs ys1 sok, shaped_strs ys1 sok, _, rfl, ?_⟩
  rw [eqv_strs sok]
  refine iteF ⟨_, rfl, le, dx1, _, rfl, s13 _ _ h1, nc1, _, rfl, le, fi, ss, lar, fi, rs, rfl, T3.hL, T3.gl, TT.gl.fin, fun H4 p4 ys4 s4 hp4 hys4 => ?_⟩
  have s14 := Same.trans' s13 s4
  have T4 := T3.keep s4
  refine ⟨_, rfl, fa, dx2, _, rfl, s14 _ _ h2, nc2, _, rfl, fa, fi, ss, far, fi, rs, rfl, T4.hF, T4.gf, TT.gl.fin, fun H5 p5 ys5 s5 hp5 hys5 => ?_⟩
  have s15 := Same.trans' s14 s5
  cases hys4.one hys1
  cases (up hys5).one hys1
  have ef : (ys1.filter fun x => decide ((x, fi) ∈ far)) = ys1.filter fun x => decide ((x, fi) ∈ lar) := by
    refine List.filter_congr fun x hx => ?_
    rw [Bool.eq_iff_iff, decide_eq_true_eq, decide_eq_true_eq]
    refine ⟨fun h => ?_, TT.sub _⟩
    rcases TT.one _ h with h | h
    · exact h
    · exact absurd (by rw [← h]; exact (hys1.2.2 x).mp hx) nr
  rw [ef] at hp5
  have fok : ∀ y ∈ ys1.filter (fun x => decide ((x, fi) ∈ lar)), PyData.strOk y = true := fun y hy => sok y (List.mem_filter.mp hy).1
  refine ⟨.list ((ys1.filter fun x => decide ((x, fi) ∈ lar)).map PyData.str), .list ((ys1.filter fun x => decide ((x, fi) ∈ lar)).map PyData.str), .lst (SqL.of (s5 _ _ hp4)) (dp_strs _), .lst (SqL.of hp5) (dp_strs _), shaped_strs _ fok, shaped_strs _ fok, _, rfl, ?_⟩
  rw [eqv_strs fok]
  exact iteF (fin _ s15)
theorem trB5 : Tr (XO P w K mg base f cdv A outer s0 Hs E) (stB 5) (N2 K CB j H0) (LI K CB j H0) := by
  refine ⟨_, ps_par (i := 6) (j := 4) (by rfl) scOnce.nd rfl rfl (by decide) rfl rfl (pa_cons (pv 9) (pa_cons (pv 10) pa_nil)) (by rfl), fun D σ H h => ?_⟩
  obtain ⟨a, lw, b, t, o, wl, le, fa, ss, x2, x5, x7, fi, ar, br, lar, far, rs, xs, ys, p, rfl, J, kp, TT⟩ := h
  exact ⟨_, rfl, _, rfl, _, _, rfl, a, wl, o, ss, x2, x5, x7, _, _, _, _, _, fi, br, rs, ys, rfl, J, kp, TT.ha, TT.g2, TT.hw2, TT.hal2, TT.hO⟩
end
end Cm
end

/-! ## Oe24 -/
section
set_option pp.maxSteps 400
namespace Cm
open PySem PySem.Spec PyProof.Rows L2 KG
theorem AllQ.rev {α : Type} {R : α → RP} : ∀ {qs : List α} {vs : List V} {H : Hp}, AllQ R qs vs H → AllQ R qs.reverse vs.reverse H
  | [], [], _, _ => trivial
  | q :: qs, v :: vs, H, h => by
    rw [List.reverse_cons, List.reverse_cons]
    exact AllQ.append (AllQ.rev h.2) ⟨h.1, trivial⟩
  | [], _ :: _, _, h => h.elim
  | _ :: _, [], _, h => h.elim
theorem Good.rev {ss : List Str} {ar : List Ar} {f : Str} {rs : List Str} (g : Good ss ar f rs) : Good ss.reverse ar.reverse f [] :=
  let g' := g.perm (List.reverse_perm ss) (List.reverse_perm ar) (List.Perm.refl rs)
  ⟨g'.n0, g'.n6, g'.nd, g'.nm, g'.and, g'.arw, g'.fin, List.nodup_nil, fun z hz => by cases hz⟩
/-- statements that end with a value -/
def TrE (X : Cx) (ss : List Stmt) (Pre : L2.St → Hp → Prop) (Post : VK) : Prop := ∃ t : TS, PSs X ss t ∧ ∀ (D : Ends) σ H, Pre σ H → (∀ v G, Post v G → D.rt v G) → t D σ H
theorem TrE.cons {X : Cx} {st : Stmt} {ss : List Stmt} {Pre Mid : L2.St → Hp → Prop} {Post : VK} (h : Tr X st Pre Mid) (g : TrE X ss Mid Post) : TrE X (st :: ss) Pre Post := by
  obtain ⟨t, p, q⟩ := h
  obtain ⟨u, p2, q2⟩ := g
  exact ⟨_, C8.pss_cut p p2, fun D σ H z e => ⟨Mid, q D σ H z, fun σ' H' z' => q2 D σ' H' z' e⟩⟩
def spOnce : Sp := fun vs H Q _ => ∃ p : Addr, vs = [.ref p] ∧ JarAt H p ∧ ∀ H', Kp p H H' → Q (.bl true) H'
def N7 (K : PySem.W.Frag) (CB j : Addr) (H0 : Hp) : L2.St → Hp → Prop := fun σ H => ∃ (a lw b : Addr) (ss : List Str) (x2 x5 x6 x7 x8 x9 x10 x11 x12 : Option V) (f : Str) (ar : List Ar) (rs : List Str) (xs : List V),
  σ = [some (.ref j), some (.ref a), x2, some (.str f), some (.ref lw), x5, x6, x7, x8, x9, x10, x11, x12, some (.ref b), none, none, none] ∧ Kp j H0 H ∧ H a = some (.lst (ss.map V.str)) ∧ Good ss ar f rs ∧
  H lw = some (.lst xs) ∧ AllQ (isA K) ar xs H ∧ BookAt K CB H b ss ar f rs
section
variable {P : Program} {w : World} {K : PySem.W.Frag} {mg : Str → Option Value} {base : Heap} {CB f : Addr} {cdv : Value} {A : Around} {outer : List Env} {s0 : Shared} {Hs H0 : Hp} {E : XK} {j : Addr}
theorem tr6 (T : TxtL mg) (TB : TxtB K mg CB) (cP : Cl P w K mg base 2 "_law_pick" ["_law_pot_here", "_law_some"] (spChoice K)) (cR : Cl P w K mg base 4 "_law_is_right" ["_law_made_here", "_law_spots", "_law_ways", "_law_begin"] (spRightB K CB)) (cA : Sl P w K mg base CB (PySem.dunder Operator.Add.info.2) 8 (spAdd K CB)) (cS : Sl P w K mg base CB (PySem.dunder Operator.Sub.info.2) 8 (spSub K CB)) (oA : TupO K CB .Add) (oS : TupO K CB .Sub) (sf : PySem.W.selfFirst K CB = true)
    (mR : Me P w K mg base 1 CB "reached" ["self"] (spReached K CB)) (mC : Me P w K mg base 3 CB "callers" ["self", "scene"] (spCallers K CB)) (hr : Room 8 (XO P w K mg base f cdv A outer s0 Hs E).A) : Tr (XO P w K mg base f cdv A outer s0 Hs E) (stO 6) (LI K CB j H0) (LI K CB j H0) := by
  obtain ⟨t, pt, qt⟩ := TrL.cons (trB0 (H0 := H0) (j := j) (CB := CB) (f := f) (cdv := cdv) (A := A) (outer := outer) (s0 := s0) (Hs := Hs) (E := E) cP hr) (TrL.cons (trB1 cA cS oA oS sf hr) (TrL.cons (trB2 cR hr) (TrL.cons (trB3 T TB mR hr) (TrL.cons (trB4 TB mR mC hr) (TrL.one trB5)))))
  refine ⟨_, ps_for PassesOwn.never rfl (pi_range1 (by rfl) T.range (pa_cons pe_int pa_nil)) (pg_name (i := 7) scOnce.nd rfl (Or.inl rfl)) pt, fun D σ H h => ?_⟩
  refine ⟨6, rfl, by decide, by decide, for_range (lo := 0) (n := 6) (fun i σ G => LI K CB j H0 σ G) h ?_ (fun σ G h => h)⟩
  rintro i σ G hi ⟨a, lw, b, ss, x2, x5, x7, x8, x9, x10, x11, x12, fi, ar, rs, xs, rfl, r⟩
  exact qt { nx := LI K CB j H0, rt := D.rt, bk := LI K CB j H0, ct := LI K CB j H0 } _ _ ⟨a, lw, b, ss, x2, x5, _, x8, x9, x10, x11, x12, fi, ar, rs, xs, rfl, r⟩
theorem tr7 (cM : Cl P w K mg base 7 "_law_made" ["_law_pot_here", "_law_spots", "_law_ways", "_law_begin"] (spMadeB K CB)) (hr : Room 8 (XO P w K mg base f cdv A outer s0 Hs E).A) : Tr (XO P w K mg base f cdv A outer s0 Hs E) (stO 7) (LI K CB j H0) (N7 K CB j H0) := by
  refine ⟨_, ps_set (i := 13) scOnce.nd rfl (Or.inl rfl) (pe_k cM hr (by decide) (by rfl) (pa_cons (pv 0) (pa_cons (pe_revL (pv 1)) (pa_cons (pe_revL (pv 4)) (pa_cons (pv 3) pa_nil))))), fun D σ H h => ?_⟩
  obtain ⟨a, lw, b, ss, x2, x5, x7, x8, x9, x10, x11, x12, fi, ar, rs, xs, rfl, J, kp, ha, g, hw, hal, hB⟩ := h
  refine ⟨_, rfl, _, rfl, a, _, rfl, SqL.of ha, fun a2 na2 => ?_⟩
  have s1 := Same.upd_new (H := H) (o := .lst (ss.map V.str).reverse) na2
  refine ⟨_, rfl, lw, _, rfl, SqL.of (s1 _ _ hw), fun w2 nw2 => ?_⟩
  have s2 := Same.upd_new (H := upd H a2 (.lst (ss.map V.str).reverse)) (o := .lst xs.reverse) nw2
  have s12 := Same.trans' s1 s2
  have J2 := J.keep s12
  have ha2 : (upd (upd H a2 (.lst (ss.map V.str).reverse)) w2 (.lst xs.reverse)) a2 = some (.lst (ss.reverse.map V.str)) := by
    rw [s2 _ _ upd_same, List.map_reverse]
  refine ⟨_, rfl, j, a2, w2, ss.reverse, ar.reverse, fi, xs.reverse, rfl, J2, ha2, upd_same, (hal.keep (mon_isA K) (.of s12)).rev, g.rev, fun H' c rs' J' k hB' g' => ?_⟩
  have ha3 := k _ _ (s12 _ _ ha) (jar_strs J2 (s12 _ _ ha))
  have hal2 := hal.keep (mon_isA K) (.of s12)
  have hw3 := k _ _ (s12 _ _ hw) (jar_ar J2 (s12 _ _ hw) hal2)
  have p1 := List.reverse_perm ss
  have p2 := List.reverse_perm ar
  exact ⟨a, lw, c, ss, x2, x5, _, x7, x8, x9, x10, x11, x12, fi, ar, rs', xs, rfl, kp.trans ((Kp.same s12).trans k), ha3, g'.perm p1.symm p2.symm (List.Perm.refl _), hw3, hal2.keep (mon_isA K) (SmL.kp J2 k), hB'.perm p1 p2 (List.Perm.refl _)⟩
theorem tr8 (cR : Cl P w K mg base 4 "_law_is_right" ["_law_made_here", "_law_spots", "_law_ways", "_law_begin"] (spRightB K CB)) (hr : Room 8 (XO P w K mg base f cdv A outer s0 Hs E).A) : TrE (XO P w K mg base f cdv A outer s0 Hs E) [stO 8] (N7 K CB j H0) (fun v G => v = .bl true ∧ Kp j H0 G) := by
  refine ⟨_, pss_one (ps_ret (pe_k cR hr (by decide) (by rfl) (pa_cons (pv 13) (pa_cons (pv 1) (pa_cons (pv 4) (pa_cons (pv 3) pa_nil)))))), fun D σ H h e => ?_⟩
  obtain ⟨a, lw, b, ss, x2, x5, x6, x7, x8, x9, x10, x11, x12, fi, ar, rs, xs, rfl, kp, ha, g, hw, hal, hB⟩ := h
  exact ⟨_, rfl, _, rfl, _, rfl, _, rfl, b, a, lw, ss, ar, fi, rs, xs, rfl, hB, g, ha, hw, hal, fun H' s => e _ _ ⟨rfl, kp.trans (Kp.same s)⟩⟩
theorem ok_once {f : Addr} {fd : FuncData} (F : Fun K "_law_once" "_law_once" sOnce f fd) (T : TxtL mg) (TB : TxtB K mg CB) (cD : Cl P w K mg base 1 "_law_draw" ["_law_pot_here", "_law_bound"] spDip) (cP : Cl P w K mg base 2 "_law_pick" ["_law_pot_here", "_law_some"] (spChoice K)) (cM : Cl P w K mg base 7 "_law_made" ["_law_pot_here", "_law_spots", "_law_ways", "_law_begin"] (spMadeB K CB)) (cR : Cl P w K mg base 4 "_law_is_right" ["_law_made_here", "_law_spots", "_law_ways", "_law_begin"] (spRightB K CB)) (cA : Sl P w K mg base CB (PySem.dunder Operator.Add.info.2) 8 (spAdd K CB)) (cS : Sl P w K mg base CB (PySem.dunder Operator.Sub.info.2) 8 (spSub K CB)) (oA : TupO K CB .Add) (oS : TupO K CB .Sub) (sf : PySem.W.selfFirst K CB = true)
    (mR : Me P w K mg base 1 CB "reached" ["self"] (spReached K CB)) (mC : Me P w K mg base 3 CB "callers" ["self", "scene"] (spCallers K CB)) : FnOk P w K mg base CX0 9 f fd ["_law_pot_here"] spOnce := by
  refine F.ok scOnce (fun vs H Q E h => ?_) (fun cdv A outer s H vs Q E hr h => ?_)
  · obtain ⟨p, rfl, _⟩ := h
    rfl
  · obtain ⟨p, rfl, J, q⟩ := h
    obtain ⟨t, pt, qt⟩ := TrE.cons (tr0 (H0 := H) (j := p) (f := f) (cdv := cdv) (A := A) (outer := outer) (s0 := s) (Hs := H) (E := E) cD hr) (TrE.cons (tr1 cD cP hr) (TrE.cons tr2 (TrE.cons (tr3 (K := K) cD hr) (TrE.cons (tr4 (CB := CB) cM hr) (TrE.cons (tr5 cR hr) (TrE.cons (tr6 T TB cP cR cA cS oA oS sf mR mC hr) (TrE.cons (tr7 cM hr) (tr8 cR hr))))))))
    exact ⟨t, pt, qt _ _ _ ⟨rfl, J, Kp.refl _ _⟩ fun v G z => by
      obtain ⟨rfl, k⟩ := z
      exact q G k⟩
end
end Cm
end

/-! ## Lw24 -/
section
namespace Cm
open PySem PySem.Spec PyProof.Rows L2 KG
abbrev sLaw : Stmt := top 45
def spLaw (K : PySem.W.Frag) : Sp := fun vs H Q _ => ∃ (a : Addr) (ns : List Int), vs = [.ref a] ∧ SqL K H a (ns.map V.int) ∧ ns.length ≤ 63 ∧ ∀ H', Q (.bl true) H'
section
variable {P : Program} {w : World} {K : PySem.W.Frag} {mg : Str → Option Value} {base : Heap}
theorem scLaw : FnScope ["_law_script", "_law_k"] ["_law_script"] (defScope sLaw) := ⟨rfl, rfl, rfl, by decide +kernel, rfl, by decide +kernel, by decide +kernel⟩
theorem ok_law {f : Addr} {fd : FuncData} (F : Fun K "law" "law" sLaw f fd) (B : Binds K fd ["_law_script"] []) (T : Txt mg)
    (cJ : Cl P w K mg base 1 "_law_pot" ["_law_script", "_law_k"] (spJar K)) (cO : Cl P w K mg base 9 "_law_once" ["_law_pot_here"] spOnce) : FnG P w K mg base 10 f (spLaw K) := by
  refine fnG_of F scLaw B (fun vs H Q E h => ?_) (fun cdv A outer s H vs Q E hr hg h => ?_)
  · obtain ⟨a, ns, rfl, _⟩ := h
    rfl
  · obtain ⟨a, ns, rfl, hS, hlen, q⟩ := h
    refine ⟨_, pss_one (ps_ret (pe_callB (cr_all (by rfl)) (by rfl) T.all (by decide +kernel) (pa_cons (pe_lc (own := [("_law_k", 1)]) (g := gName 1) (by rfl) scLaw.nd
      (pi_range1 (by rfl) T.range (pa_cons (pe_callB (call_max2 (by rfl)) (by rfl) T.max (by decide +kernel) (pa_cons pe_int (pa_cons (pe_callB (call_min2 (by rfl)) (by rfl) T.min (by decide +kernel)
        (pa_cons (pe_callB call_len (by rfl) T.len PySem.boot_len (pa_cons (pv 0) pa_nil)) (pa_cons pe_int pa_nil))) pa_nil))) pa_nil))
      (blkOk_by (own := [("_law_k", 1)]) (N := ["_law_script", "_law_k"]) (sc := defScope sLaw) (by decide +kernel)) (fun _ _ _ _ _ => pg_name (i := 1) scLaw.nd rfl (Or.inl rfl)) (fun _ _ _ _ _ => pts_nil)
      (fun _ _ _ _ _ => pe_k cO hr (by decide) (by rfl) (pa_cons (pe_k cJ hr (by decide) (by rfl) (pa_cons (pv 0) (pa_cons (pv 1) pa_nil))) pa_nil))) pa_nil))), ?_⟩
    refine ⟨_, rfl, _, _, rfl, .inl ⟨_, hS, rfl⟩, _, _, rfl, _, _, rfl, ?_⟩
    have bd : ∀ z : Int, 0 ≤ (if (if (5 : Int) < z then 5 else z) > 1 then (if (5 : Int) < z then 5 else z) else 1) ∧ (if (if (5 : Int) < z then 5 else z) > 1 then (if (5 : Int) < z then 5 else z) else 1) ≤ 5 := by
      intro z
      split <;> split <;> omega
    obtain ⟨z0, z4⟩ := bd ((ns.map V.int).length : Int)
    generalize (if (if (5 : Int) < ((ns.map V.int).length : Int) then 5 else ((ns.map V.int).length : Int)) > 1 then (if (5 : Int) < ((ns.map V.int).length : Int) then 5 else ((ns.map V.int).length : Int)) else 1) = z at z0 z4
    refine ⟨z, rfl, by omega, by omega, fun D nD => ?_⟩
    refine lc_range (lo := 0) (n := z.toNat) (fun i H' => Same H H' ∧ H' D = some (.lst ((List.replicate i true).map V.bl))) ⟨Same.upd_new nD, upd_same⟩ ?_ ?_
    · rintro i H1 hi ⟨s1, d1⟩
      refine ⟨rfl, _, rfl, _, rfl, a, ns, i, by rw [Int.zero_add], s1.seq hS, hlen, by omega, fun H2 p s2 np J2 => ?_⟩
      refine ⟨p, rfl, J2, fun H3 k3 => ?_⟩
      have nDp : D ≠ p := ne_of_none d1 np
      refine ⟨_, k3 _ _ (s2 _ _ d1) nDp, ?_, ?_, ?_⟩
      · rw [List.length_map, List.length_replicate]
        have : (63 : Nat) < sizeLine := by decide
        omega
      · intro b o e
        have e1 := s1 b o e
        rw [upd_ne (ne_of_none e nD)]
        exact k3 _ _ (s2 _ _ e1) (ne_of_none e1 np)
      · rw [upd_same, List.replicate_succ', List.map_append]
        rfl
    · rintro H1 ⟨s1, d1⟩
      refine ⟨D, List.replicate z.toNat true, rfl, SqL.of d1, ?_⟩
      rw [all_true]
      exact q H1
end
end Cm
end

/-! ## En24 -/
section
set_option pp.maxSteps 400
namespace Cm
open PySem PySem.Spec PyProof.Rows L2 KG
set_option maxHeartbeats 4000000 in
theorem all_mk {l : PySem.W.OpenLaw} {w : World} {K : PySem.W.Frag} {h : Heap} {mg : Str → Option Value} {fa CB TB TE : Addr} (X : K.In h) (G : h.Ns mainGlobals mg) (hfa : mg "law" = some (.ref fa))
    {f_isI f_isN f_isL f_isP f_isO f_isM f_isA f_arM f_cSc f_cTh f_cSs f_cAr f_cRe f_cSz f_jar f_dip f_cho f_end f_mad f_isr f_onc f_law f_bi f_rch f_cal f_has f_wit f_ad f_sb : Addr}
    {od_isI an_isI od_isN an_isN od_isL an_isL od_isP an_isP od_isO an_isO od_isM an_isM od_isA an_isA od_arM an_arM od_cSc an_cSc od_cTh an_cTh od_cSs an_cSs od_cAr an_cAr od_cRe an_cRe od_cSz an_cSz od_jar an_jar od_dip an_dip od_cho an_cho od_end an_end od_mad an_mad od_isr an_isr od_onc an_onc od_law an_law od_bi an_bi od_rch an_rch od_cal an_cal od_has an_has od_wit an_wit od_ad an_ad od_sb an_sb dTB : Option Addr} {sl_isI sl_isN sl_isL sl_isP sl_isO sl_isM sl_isA sl_arM sl_cSc sl_cTh sl_cSs sl_cAr sl_cRe sl_cSz sl_jar sl_dip sl_cho sl_end sl_mad sl_isr sl_onc sl_law sl_bi sl_rch sl_cal sl_has sl_wit sl_ad sl_sb slTB : Array (Option Value)}
    {oc_isI kV_isI dc_isI pm_isI cd_isI ct_isI oc_isN kV_isN dc_isN pm_isN cd_isN ct_isN oc_isL kV_isL dc_isL pm_isL cd_isL ct_isL oc_isP kV_isP dc_isP pm_isP cd_isP ct_isP oc_isO kV_isO dc_isO pm_isO cd_isO ct_isO oc_isM kV_isM dc_isM pm_isM cd_isM ct_isM oc_isA kV_isA dc_isA pm_isA cd_isA ct_isA oc_arM kV_arM dc_arM pm_arM cd_arM ct_arM oc_cSc kV_cSc dc_cSc pm_cSc cd_cSc ct_cSc oc_cTh kV_cTh dc_cTh pm_cTh cd_cTh ct_cTh oc_cSs kV_cSs dc_cSs pm_cSs cd_cSs ct_cSs oc_cAr kV_cAr dc_cAr pm_cAr cd_cAr ct_cAr oc_cRe kV_cRe dc_cRe pm_cRe cd_cRe ct_cRe oc_cSz kV_cSz dc_cSz pm_cSz cd_cSz ct_cSz oc_jar kV_jar dc_jar pm_jar cd_jar ct_jar oc_dip kV_dip dc_dip pm_dip cd_dip ct_dip oc_cho kV_cho dc_cho pm_cho cd_cho ct_cho oc_end kV_end dc_end pm_end cd_end ct_end oc_mad kV_mad dc_mad pm_mad cd_mad ct_mad oc_isr kV_isr dc_isr pm_isr cd_isr ct_isr oc_onc kV_onc dc_onc pm_onc cd_onc ct_onc oc_law kV_law dc_law pm_law cd_law ct_law oc_bi kV_bi dc_bi pm_bi cd_bi ct_bi oc_rch kV_rch dc_rch pm_rch cd_rch ct_rch oc_cal kV_cal dc_cal pm_cal cd_cal ct_cal oc_has kV_has dc_has pm_has cd_has ct_has oc_wit kV_wit dc_wit pm_wit cd_wit ct_wit oc_ad kV_ad dc_ad pm_ad cd_ad ct_ad oc_sb kV_sb dc_sb pm_sb cd_sb ct_sb cTB : Value} {tkTHINGS tkSCENES tkMOTIONS tkM : Tok} {nTB : Nat} {fo_add fo_radd fo_sub fo_rsub : Option Value}
    (a_isI : PySem.W.nsIn K mainGlobals "is_integer" = some (some (.ref f_isI)))
    (l_isI : K.lookup f_isI = some ⟨oc_isI, od_isI, .func (PySem.W.fnOf "is_integer" "is_integer" (defArgs sIsInt) (defBody sIsInt) (defScope sIsInt) .none kV_isI dc_isI pm_isI an_isI cd_isI ct_isI), sl_isI⟩)
    (c_isI : PySem.W.codeIn K cd_isI "is_integer" = true)
    (k_isI : PySem.W.keepIn K (.ref f_isI) = true)
    (a_isN : PySem.W.nsIn K mainGlobals "is_name" = some (some (.ref f_isN)))
    (l_isN : K.lookup f_isN = some ⟨oc_isN, od_isN, .func (PySem.W.fnOf "is_name" "is_name" (defArgs sIsName) (defBody sIsName) (defScope sIsName) .none kV_isN dc_isN pm_isN an_isN cd_isN ct_isN), sl_isN⟩)
    (c_isN : PySem.W.codeIn K cd_isN "is_name" = true)
    (k_isN : PySem.W.keepIn K (.ref f_isN) = true)
    (a_isL : PySem.W.nsIn K mainGlobals "is_list" = some (some (.ref f_isL)))
    (l_isL : K.lookup f_isL = some ⟨oc_isL, od_isL, .func (PySem.W.fnOf "is_list" "is_list" (defArgs sIsList) (defBody sIsList) (defScope sIsList) .none kV_isL dc_isL pm_isL an_isL cd_isL ct_isL), sl_isL⟩)
    (c_isL : PySem.W.codeIn K cd_isL "is_list" = true)
    (k_isL : PySem.W.keepIn K (.ref f_isL) = true)
    (a_isP : PySem.W.nsIn K mainGlobals "is_pair" = some (some (.ref f_isP)))
    (l_isP : K.lookup f_isP = some ⟨oc_isP, od_isP, .func (PySem.W.fnOf "is_pair" "is_pair" (defArgs sIsPair) (defBody sIsPair) (defScope sIsPair) .none kV_isP dc_isP pm_isP an_isP cd_isP ct_isP), sl_isP⟩)
    (c_isP : PySem.W.codeIn K cd_isP "is_pair" = true)
    (k_isP : PySem.W.keepIn K (.ref f_isP) = true)
    (a_isO : PySem.W.nsIn K mainGlobals "is_one_of" = some (some (.ref f_isO)))
    (l_isO : K.lookup f_isO = some ⟨oc_isO, od_isO, .func (PySem.W.fnOf "is_one_of" "is_one_of" (defArgs sIsOne) (defBody sIsOne) (defScope sIsOne) .none kV_isO dc_isO pm_isO an_isO cd_isO ct_isO), sl_isO⟩)
    (c_isO : PySem.W.codeIn K cd_isO "is_one_of" = true)
    (k_isO : PySem.W.keepIn K (.ref f_isO) = true)
    (a_isM : PySem.W.nsIn K mainGlobals "is_motion" = some (some (.ref f_isM)))
    (l_isM : K.lookup f_isM = some ⟨oc_isM, od_isM, .func (PySem.W.fnOf "is_motion" "is_motion" (defArgs sIsMot) (defBody sIsMot) (defScope sIsMot) .none kV_isM dc_isM pm_isM an_isM cd_isM ct_isM), sl_isM⟩)
    (c_isM : PySem.W.codeIn K cd_isM "is_motion" = true)
    (k_isM : PySem.W.keepIn K (.ref f_isM) = true)
    (a_isA : PySem.W.nsIn K mainGlobals "is_arrow" = some (some (.ref f_isA)))
    (l_isA : K.lookup f_isA = some ⟨oc_isA, od_isA, .func (PySem.W.fnOf "is_arrow" "is_arrow" (defArgs sIsArr) (defBody sIsArr) (defScope sIsArr) .none kV_isA dc_isA pm_isA an_isA cd_isA ct_isA), sl_isA⟩)
    (c_isA : PySem.W.codeIn K cd_isA "is_arrow" = true)
    (k_isA : PySem.W.keepIn K (.ref f_isA) = true)
    (a_arM : PySem.W.nsIn K mainGlobals "are_motions" = some (some (.ref f_arM)))
    (l_arM : K.lookup f_arM = some ⟨oc_arM, od_arM, .func (PySem.W.fnOf "are_motions" "are_motions" (defArgs sAreMot) (defBody sAreMot) (defScope sAreMot) .none kV_arM dc_arM pm_arM an_arM cd_arM ct_arM), sl_arM⟩)
    (c_arM : PySem.W.codeIn K cd_arM "are_motions" = true)
    (k_arM : PySem.W.keepIn K (.ref f_arM) = true)
    (a_cSc : PySem.W.nsIn K mainGlobals "check_scene" = some (some (.ref f_cSc)))
    (l_cSc : K.lookup f_cSc = some ⟨oc_cSc, od_cSc, .func (PySem.W.fnOf "check_scene" "check_scene" (defArgs sChSc) (defBody sChSc) (defScope sChSc) .none kV_cSc dc_cSc pm_cSc an_cSc cd_cSc ct_cSc), sl_cSc⟩)
    (c_cSc : PySem.W.codeIn K cd_cSc "check_scene" = true)
    (k_cSc : PySem.W.keepIn K (.ref f_cSc) = true)
    (a_cTh : PySem.W.nsIn K mainGlobals "check_things" = some (some (.ref f_cTh)))
    (l_cTh : K.lookup f_cTh = some ⟨oc_cTh, od_cTh, .func (PySem.W.fnOf "check_things" "check_things" (defArgs sChThs) (defBody sChThs) (defScope sChThs) .none kV_cTh dc_cTh pm_cTh an_cTh cd_cTh ct_cTh), sl_cTh⟩)
    (c_cTh : PySem.W.codeIn K cd_cTh "check_things" = true)
    (k_cTh : PySem.W.keepIn K (.ref f_cTh) = true)
    (a_cSs : PySem.W.nsIn K mainGlobals "check_scenes" = some (some (.ref f_cSs)))
    (l_cSs : K.lookup f_cSs = some ⟨oc_cSs, od_cSs, .func (PySem.W.fnOf "check_scenes" "check_scenes" (defArgs sChScs) (defBody sChScs) (defScope sChScs) .none kV_cSs dc_cSs pm_cSs an_cSs cd_cSs ct_cSs), sl_cSs⟩)
    (c_cSs : PySem.W.codeIn K cd_cSs "check_scenes" = true)
    (k_cSs : PySem.W.keepIn K (.ref f_cSs) = true)
    (a_cAr : PySem.W.nsIn K mainGlobals "check_arrows" = some (some (.ref f_cAr)))
    (l_cAr : K.lookup f_cAr = some ⟨oc_cAr, od_cAr, .func (PySem.W.fnOf "check_arrows" "check_arrows" (defArgs sChArr) (defBody sChArr) (defScope sChArr) .none kV_cAr dc_cAr pm_cAr an_cAr cd_cAr ct_cAr), sl_cAr⟩)
    (c_cAr : PySem.W.codeIn K cd_cAr "check_arrows" = true)
    (k_cAr : PySem.W.keepIn K (.ref f_cAr) = true)
    (a_cRe : PySem.W.nsIn K mainGlobals "check_resting" = some (some (.ref f_cRe)))
    (l_cRe : K.lookup f_cRe = some ⟨oc_cRe, od_cRe, .func (PySem.W.fnOf "check_resting" "check_resting" (defArgs sChRes) (defBody sChRes) (defScope sChRes) .none kV_cRe dc_cRe pm_cRe an_cRe cd_cRe ct_cRe), sl_cRe⟩)
    (c_cRe : PySem.W.codeIn K cd_cRe "check_resting" = true)
    (k_cRe : PySem.W.keepIn K (.ref f_cRe) = true)
    (a_cSz : PySem.W.nsIn K mainGlobals "check_sizes" = some (some (.ref f_cSz)))
    (l_cSz : K.lookup f_cSz = some ⟨oc_cSz, od_cSz, .func (PySem.W.fnOf "check_sizes" "check_sizes" (defArgs sChSz) (defBody sChSz) (defScope sChSz) .none kV_cSz dc_cSz pm_cSz an_cSz cd_cSz ct_cSz), sl_cSz⟩)
    (c_cSz : PySem.W.codeIn K cd_cSz "check_sizes" = true)
    (k_cSz : PySem.W.keepIn K (.ref f_cSz) = true)
    (a_jar : PySem.W.nsIn K mainGlobals "_law_pot" = some (some (.ref f_jar)))
    (l_jar : K.lookup f_jar = some ⟨oc_jar, od_jar, .func (PySem.W.fnOf "_law_pot" "_law_pot" (defArgs sJar) (defBody sJar) (defScope sJar) .none kV_jar dc_jar pm_jar an_jar cd_jar ct_jar), sl_jar⟩)
    (c_jar : PySem.W.codeIn K cd_jar "_law_pot" = true)
    (k_jar : PySem.W.keepIn K (.ref f_jar) = true)
    (a_dip : PySem.W.nsIn K mainGlobals "_law_draw" = some (some (.ref f_dip)))
    (l_dip : K.lookup f_dip = some ⟨oc_dip, od_dip, .func (PySem.W.fnOf "_law_draw" "_law_draw" (defArgs sDip) (defBody sDip) (defScope sDip) .none kV_dip dc_dip pm_dip an_dip cd_dip ct_dip), sl_dip⟩)
    (c_dip : PySem.W.codeIn K cd_dip "_law_draw" = true)
    (k_dip : PySem.W.keepIn K (.ref f_dip) = true)
    (a_cho : PySem.W.nsIn K mainGlobals "_law_pick" = some (some (.ref f_cho)))
    (l_cho : K.lookup f_cho = some ⟨oc_cho, od_cho, .func (PySem.W.fnOf "_law_pick" "_law_pick" (defArgs sChoice) (defBody sChoice) (defScope sChoice) .none kV_cho dc_cho pm_cho an_cho cd_cho ct_cho), sl_cho⟩)
    (c_cho : PySem.W.codeIn K cd_cho "_law_pick" = true)
    (k_cho : PySem.W.keepIn K (.ref f_cho) = true)
    (a_end : PySem.W.nsIn K mainGlobals "_law_ends" = some (some (.ref f_end)))
    (l_end : K.lookup f_end = some ⟨oc_end, od_end, .func (PySem.W.fnOf "_law_ends" "_law_ends" (defArgs sEnds) (defBody sEnds) (defScope sEnds) .none kV_end dc_end pm_end an_end cd_end ct_end), sl_end⟩)
    (c_end : PySem.W.codeIn K cd_end "_law_ends" = true)
    (k_end : PySem.W.keepIn K (.ref f_end) = true)
    (a_mad : PySem.W.nsIn K mainGlobals "_law_made" = some (some (.ref f_mad)))
    (l_mad : K.lookup f_mad = some ⟨oc_mad, od_mad, .func (PySem.W.fnOf "_law_made" "_law_made" (defArgs sMadeL) (defBody sMadeL) (defScope sMadeL) .none kV_mad dc_mad pm_mad an_mad cd_mad ct_mad), sl_mad⟩)
    (c_mad : PySem.W.codeIn K cd_mad "_law_made" = true)
    (k_mad : PySem.W.keepIn K (.ref f_mad) = true)
    (a_isr : PySem.W.nsIn K mainGlobals "_law_is_right" = some (some (.ref f_isr)))
    (l_isr : K.lookup f_isr = some ⟨oc_isr, od_isr, .func (PySem.W.fnOf "_law_is_right" "_law_is_right" (defArgs sIsR) (defBody sIsR) (defScope sIsR) .none kV_isr dc_isr pm_isr an_isr cd_isr ct_isr), sl_isr⟩)
    (c_isr : PySem.W.codeIn K cd_isr "_law_is_right" = true)
    (k_isr : PySem.W.keepIn K (.ref f_isr) = true)
    (a_onc : PySem.W.nsIn K mainGlobals "_law_once" = some (some (.ref f_onc)))
    (l_onc : K.lookup f_onc = some ⟨oc_onc, od_onc, .func (PySem.W.fnOf "_law_once" "_law_once" (defArgs sOnce) (defBody sOnce) (defScope sOnce) .none kV_onc dc_onc pm_onc an_onc cd_onc ct_onc), sl_onc⟩)
    (c_onc : PySem.W.codeIn K cd_onc "_law_once" = true)
    (k_onc : PySem.W.keepIn K (.ref f_onc) = true)
    (a_law : PySem.W.nsIn K mainGlobals "law" = some (some (.ref f_law)))
    (l_law : K.lookup f_law = some ⟨oc_law, od_law, .func (PySem.W.fnOf "law" "law" (defArgs sLaw) (defBody sLaw) (defScope sLaw) .none kV_law dc_law pm_law an_law cd_law ct_law), sl_law⟩)
    (c_law : PySem.W.codeIn K cd_law "law" = true)
    (k_law : PySem.W.keepIn K (.ref f_law) = true)
    (a_CB : PySem.W.nsIn K mainGlobals "Book" = some (some (.ref CB)))
    (pg_CB : PySem.W.plainGet K CB Str.empty = true)
    (hd_CB : PySem.W.hasDictIn K CB = true)
    (po_CB : PySem.W.plainOver K CB = true)
    (sa_CB : PySem.W.findIn K (.ref CB) "__setattr__" = some (some (.builtin "object.__setattr__")))
    (mk_CB : PySem.W.makesIn K CB = true)
    (kc_CB : PySem.W.keepIn K (.ref CB) = true)
    (sf_CB : PySem.W.selfFirst K CB = true)
    (nT : PySem.W.findIn K (.ref CB) "_things" = some none)
    (nM : PySem.W.findIn K (.ref CB) "_motions" = some none)
    (nA : PySem.W.findIn K (.ref CB) "_arrows" = some none)
    (nF : PySem.W.findIn K (.ref CB) "_first" = some none)
    (nR : PySem.W.findIn K (.ref CB) "_resting" = some none)
    (o_rd : PySem.W.readsIn K CB (.type "type") = true)
    (o_ga : PySem.W.specialIn K (.ref CB) "__getattribute__" = some (some (.builtin "type.__getattribute__")))
    (v_THINGS : PySem.W.findCls K (.ref CB) (.type "type") "MOST_THINGS" = some (.val (.int 4 tkTHINGS)))
    (v_SCENES : PySem.W.findCls K (.ref CB) (.type "type") "MOST_SCENES" = some (.val (.int 6 tkSCENES)))
    (v_MOTIONS : PySem.W.findCls K (.ref CB) (.type "type") "MOST_MOTIONS" = some (.val (.int 15 tkMOTIONS)))
    (ra_CB : PySem.W.findIn K (.ref CB) "__radd__" = some none)
    (rs_CB : PySem.W.findIn K (.ref CB) "__rsub__" = some none)
    (t_add : PySem.W.findIn K (.type "tuple") "__add__" = some fo_add)
    (t_radd : PySem.W.findIn K (.type "tuple") "__radd__" = some fo_radd)
    (t_sub : PySem.W.findIn K (.type "tuple") "__sub__" = some fo_sub)
    (t_rsub : PySem.W.findIn K (.type "tuple") "__rsub__" = some fo_rsub)
    (u_tup : PySem.W.subIn K (.type "tuple") (.ref CB) = some false)
    (a_bi : PySem.W.findIn K (.ref CB) "__init__" = some (some (.ref f_bi)))
    (i_bi : PySem.W.isFn K (.ref f_bi) = true)
    (l_bi : K.lookup f_bi = some ⟨oc_bi, od_bi, .func (PySem.W.fnOf "__init__" "Book.__init__" (defArgs sBInit) (defBody sBInit) (defScope sBInit) (.ref TB) kV_bi dc_bi pm_bi an_bi cd_bi ct_bi), sl_bi⟩)
    (c_bi : PySem.W.codeIn K cd_bi "Book.__init__" = true)
    (k_bi : PySem.W.keepIn K (.ref f_bi) = true)
    (d_bi : K.lookup TB = some ⟨cTB, dTB, .seq #[.ref TE] nTB, slTB⟩)
    (a_rch : PySem.W.findIn K (.ref CB) "reached" = some (some (.ref f_rch)))
    (i_rch : PySem.W.isFn K (.ref f_rch) = true)
    (l_rch : K.lookup f_rch = some ⟨oc_rch, od_rch, .func (PySem.W.fnOf "reached" "Book.reached" (defArgs sReached) (defBody sReached) (defScope sReached) .none kV_rch dc_rch pm_rch an_rch cd_rch ct_rch), sl_rch⟩)
    (c_rch : PySem.W.codeIn K cd_rch "Book.reached" = true)
    (k_rch : PySem.W.keepIn K (.ref f_rch) = true)
    (a_cal : PySem.W.findIn K (.ref CB) "callers" = some (some (.ref f_cal)))
    (i_cal : PySem.W.isFn K (.ref f_cal) = true)
    (l_cal : K.lookup f_cal = some ⟨oc_cal, od_cal, .func (PySem.W.fnOf "callers" "Book.callers" (defArgs sCallers) (defBody sCallers) (defScope sCallers) .none kV_cal dc_cal pm_cal an_cal cd_cal ct_cal), sl_cal⟩)
    (c_cal : PySem.W.codeIn K cd_cal "Book.callers" = true)
    (k_cal : PySem.W.keepIn K (.ref f_cal) = true)
    (a_has : PySem.W.findIn K (.ref CB) "_has_arrow" = some (some (.ref f_has)))
    (i_has : PySem.W.isFn K (.ref f_has) = true)
    (l_has : K.lookup f_has = some ⟨oc_has, od_has, .func (PySem.W.fnOf "_has_arrow" "Book._has_arrow" (defArgs sHas) (defBody sHas) (defScope sHas) .none kV_has dc_has pm_has an_has cd_has ct_has), sl_has⟩)
    (c_has : PySem.W.codeIn K cd_has "Book._has_arrow" = true)
    (k_has : PySem.W.keepIn K (.ref f_has) = true)
    (a_wit : PySem.W.findIn K (.ref CB) "_with_arrows" = some (some (.ref f_wit)))
    (i_wit : PySem.W.isFn K (.ref f_wit) = true)
    (l_wit : K.lookup f_wit = some ⟨oc_wit, od_wit, .func (PySem.W.fnOf "_with_arrows" "Book._with_arrows" (defArgs sWith) (defBody sWith) (defScope sWith) .none kV_wit dc_wit pm_wit an_wit cd_wit ct_wit), sl_wit⟩)
    (c_wit : PySem.W.codeIn K cd_wit "Book._with_arrows" = true)
    (k_wit : PySem.W.keepIn K (.ref f_wit) = true)
    (a_ad : PySem.W.findIn K (.ref CB) "__add__" = some (some (.ref f_ad)))
    (i_ad : PySem.W.isFn K (.ref f_ad) = true)
    (l_ad : K.lookup f_ad = some ⟨oc_ad, od_ad, .func (PySem.W.fnOf "__add__" "Book.__add__" (defArgs sAdd) (defBody sAdd) (defScope sAdd) .none kV_ad dc_ad pm_ad an_ad cd_ad ct_ad), sl_ad⟩)
    (c_ad : PySem.W.codeIn K cd_ad "Book.__add__" = true)
    (k_ad : PySem.W.keepIn K (.ref f_ad) = true)
    (a_sb : PySem.W.findIn K (.ref CB) "__sub__" = some (some (.ref f_sb)))
    (i_sb : PySem.W.isFn K (.ref f_sb) = true)
    (l_sb : K.lookup f_sb = some ⟨oc_sb, od_sb, .func (PySem.W.fnOf "__sub__" "Book.__sub__" (defArgs sSub) (defBody sSub) (defScope sSub) .none kV_sb dc_sb pm_sb an_sb cd_sb ct_sb), sl_sb⟩)
    (c_sb : PySem.W.codeIn K cd_sb "Book.__sub__" = true)
    (k_sb : PySem.W.keepIn K (.ref f_sb) = true)
    (g_most : PySem.W.nsIn K mainGlobals "LONGEST_NAME" = some (some (.int 8 tkM)))
    (z_len : PySem.W.nsIn K mainGlobals "len" = some none)
    (z_abs : PySem.W.nsIn K mainGlobals "abs" = some none)
    (z_max : PySem.W.nsIn K mainGlobals "max" = some none)
    (z_min : PySem.W.nsIn K mainGlobals "min" = some none)
    (z_int : PySem.W.nsIn K mainGlobals "int" = some none)
    (z_divmod : PySem.W.nsIn K mainGlobals "divmod" = some none)
    (z_range : PySem.W.nsIn K mainGlobals "range" = some none)
    (z_all : PySem.W.nsIn K mainGlobals "all" = some none)
    (z_any : PySem.W.nsIn K mainGlobals "any" = some none)
    (z_isinstance : PySem.W.nsIn K mainGlobals "isinstance" = some none)
    (z_bool : PySem.W.nsIn K mainGlobals "bool" = some none)
    (z_str : PySem.W.nsIn K mainGlobals "str" = some none)
    (z_list : PySem.W.nsIn K mainGlobals "list" = some none)
    (z_tuple : PySem.W.nsIn K mainGlobals "tuple" = some none)
    (z_sorted : PySem.W.nsIn K mainGlobals "sorted" = some none)
    (z_dict : PySem.W.nsIn K mainGlobals "dict" = some none)
    (z_enumerate : PySem.W.nsIn K mainGlobals "enumerate" = some none)
    : ∀ base : Heap, K.In base → base.Ns mainGlobals mg → base.NoDigits → FnG l.prog w K mg base 10 fa (spLaw K) := by
  intro base _ _ nd
  have e := hfa.symm.trans (PySem.W.mg_of X G a_law)
  cases e
  have F_isI := fun_mk (st := sIsInt) l_isI c_isI k_isI
  have b_isI := F_isI.binds (ps := ["value"]) fun _ _ _ _ _ _ us hl => match us, hl with | [_], _ => rfl
  have m_isI := PySem.W.mg_of X G a_isI
  have F_isN := fun_mk (st := sIsName) l_isN c_isN k_isN
  have b_isN := F_isN.binds (ps := ["value"]) fun _ _ _ _ _ _ us hl => match us, hl with | [_], _ => rfl
  have m_isN := PySem.W.mg_of X G a_isN
  have F_isL := fun_mk (st := sIsList) l_isL c_isL k_isL
  have b_isL := F_isL.binds (ps := ["value"]) fun _ _ _ _ _ _ us hl => match us, hl with | [_], _ => rfl
  have m_isL := PySem.W.mg_of X G a_isL
  have F_isP := fun_mk (st := sIsPair) l_isP c_isP k_isP
  have b_isP := F_isP.binds (ps := ["value"]) fun _ _ _ _ _ _ us hl => match us, hl with | [_], _ => rfl
  have m_isP := PySem.W.mg_of X G a_isP
  have F_isO := fun_mk (st := sIsOne) l_isO c_isO k_isO
  have b_isO := F_isO.binds (ps := ["names", "value"]) fun _ _ _ _ _ _ us hl => match us, hl with | [_, _], _ => rfl
  have m_isO := PySem.W.mg_of X G a_isO
  have F_isM := fun_mk (st := sIsMot) l_isM c_isM k_isM
  have b_isM := F_isM.binds (ps := ["value"]) fun _ _ _ _ _ _ us hl => match us, hl with | [_], _ => rfl
  have m_isM := PySem.W.mg_of X G a_isM
  have F_isA := fun_mk (st := sIsArr) l_isA c_isA k_isA
  have b_isA := F_isA.binds (ps := ["scenes", "value"]) fun _ _ _ _ _ _ us hl => match us, hl with | [_, _], _ => rfl
  have m_isA := PySem.W.mg_of X G a_isA
  have F_arM := fun_mk (st := sAreMot) l_arM c_arM k_arM
  have b_arM := F_arM.binds (ps := ["things", "value"]) fun _ _ _ _ _ _ us hl => match us, hl with | [_, _], _ => rfl
  have m_arM := PySem.W.mg_of X G a_arM
  have F_cSc := fun_mk (st := sChSc) l_cSc c_cSc k_cSc
  have b_cSc := F_cSc.binds (ps := ["scenes", "value"]) fun _ _ _ _ _ _ us hl => match us, hl with | [_, _], _ => rfl
  have m_cSc := PySem.W.mg_of X G a_cSc
  have F_cTh := fun_mk (st := sChThs) l_cTh c_cTh k_cTh
  have b_cTh := F_cTh.binds (ps := ["things"]) fun _ _ _ _ _ _ us hl => match us, hl with | [_], _ => rfl
  have m_cTh := PySem.W.mg_of X G a_cTh
  have F_cSs := fun_mk (st := sChScs) l_cSs c_cSs k_cSs
  have b_cSs := F_cSs.binds (ps := ["things", "scenes"]) fun _ _ _ _ _ _ us hl => match us, hl with | [_, _], _ => rfl
  have m_cSs := PySem.W.mg_of X G a_cSs
  have F_cAr := fun_mk (st := sChArr) l_cAr c_cAr k_cAr
  have b_cAr := F_cAr.binds (ps := ["scenes", "arrows"]) fun _ _ _ _ _ _ us hl => match us, hl with | [_, _], _ => rfl
  have m_cAr := PySem.W.mg_of X G a_cAr
  have F_cRe := fun_mk (st := sChRes) l_cRe c_cRe k_cRe
  have b_cRe := F_cRe.binds (ps := ["scenes", "resting"]) fun _ _ _ _ _ _ us hl => match us, hl with | [_, _], _ => rfl
  have m_cRe := PySem.W.mg_of X G a_cRe
  have F_cSz := fun_mk (st := sChSz) l_cSz c_cSz k_cSz
  have b_cSz := F_cSz.binds (ps := ["things", "scenes"]) fun _ _ _ _ _ _ us hl => match us, hl with | [_, _], _ => rfl
  have m_cSz := PySem.W.mg_of X G a_cSz
  have F_jar := fun_mk (st := sJar) l_jar c_jar k_jar
  have b_jar := F_jar.binds (ps := ["_law_script", "_law_k"]) fun _ _ _ _ _ _ us hl => match us, hl with | [_, _], _ => rfl
  have m_jar := PySem.W.mg_of X G a_jar
  have F_dip := fun_mk (st := sDip) l_dip c_dip k_dip
  have b_dip := F_dip.binds (ps := ["_law_pot_here", "_law_bound"]) fun _ _ _ _ _ _ us hl => match us, hl with | [_, _], _ => rfl
  have m_dip := PySem.W.mg_of X G a_dip
  have F_cho := fun_mk (st := sChoice) l_cho c_cho k_cho
  have b_cho := F_cho.binds (ps := ["_law_pot_here", "_law_some"]) fun _ _ _ _ _ _ us hl => match us, hl with | [_, _], _ => rfl
  have m_cho := PySem.W.mg_of X G a_cho
  have F_end := fun_mk (st := sEnds) l_end c_end k_end
  have b_end := F_end.binds (ps := ["_law_spots", "_law_ways", "_law_begin"]) fun _ _ _ _ _ _ us hl => match us, hl with | [_, _, _], _ => rfl
  have m_end := PySem.W.mg_of X G a_end
  have F_mad := fun_mk (st := sMadeL) l_mad c_mad k_mad
  have b_mad := F_mad.binds (ps := ["_law_pot_here", "_law_spots", "_law_ways", "_law_begin"]) fun _ _ _ _ _ _ us hl => match us, hl with | [_, _, _, _], _ => rfl
  have m_mad := PySem.W.mg_of X G a_mad
  have F_isr := fun_mk (st := sIsR) l_isr c_isr k_isr
  have b_isr := F_isr.binds (ps := ["_law_made_here", "_law_spots", "_law_ways", "_law_begin"]) fun _ _ _ _ _ _ us hl => match us, hl with | [_, _, _, _], _ => rfl
  have m_isr := PySem.W.mg_of X G a_isr
  have F_onc := fun_mk (st := sOnce) l_onc c_onc k_onc
  have b_onc := F_onc.binds (ps := ["_law_pot_here"]) fun _ _ _ _ _ _ us hl => match us, hl with | [_], _ => rfl
  have m_onc := PySem.W.mg_of X G a_onc
  have F_law := fun_mk (st := sLaw) l_law c_law k_law
  have b_law := F_law.binds (ps := ["_law_script"]) fun _ _ _ _ _ _ us hl => match us, hl with | [_], _ => rfl
  have m_law := PySem.W.mg_of X G a_law
  have F_rch := fun_mk (st := sReached) l_rch c_rch k_rch
  have b_rch := F_rch.binds (ps := ["self"]) fun _ _ _ _ _ _ us hl => match us, hl with | [_], _ => rfl
  have F_cal := fun_mk (st := sCallers) l_cal c_cal k_cal
  have b_cal := F_cal.binds (ps := ["self", "scene"]) fun _ _ _ _ _ _ us hl => match us, hl with | [_, _], _ => rfl
  have F_has := fun_mk (st := sHas) l_has c_has k_has
  have b_has := F_has.binds (ps := ["self", "value"]) fun _ _ _ _ _ _ us hl => match us, hl with | [_, _], _ => rfl
  have F_wit := fun_mk (st := sWith) l_wit c_wit k_wit
  have b_wit := F_wit.binds (ps := ["self", "arrows"]) fun _ _ _ _ _ _ us hl => match us, hl with | [_, _], _ => rfl
  have F_ad := fun_mk (st := sAdd) l_ad c_ad k_ad
  have b_ad := F_ad.binds (ps := ["self", "other"]) fun _ _ _ _ _ _ us hl => match us, hl with | [_, _], _ => rfl
  have F_sb := fun_mk (st := sSub) l_sb c_sb k_sb
  have b_sb := F_sb.binds (ps := ["self", "other"]) fun _ _ _ _ _ _ us hl => match us, hl with | [_, _], _ => rfl
  have y_len := PySem.W.mg_none_of X G z_len
  have y_abs := PySem.W.mg_none_of X G z_abs
  have y_max := PySem.W.mg_none_of X G z_max
  have y_min := PySem.W.mg_none_of X G z_min
  have y_int := PySem.W.mg_none_of X G z_int
  have y_divmod := PySem.W.mg_none_of X G z_divmod
  have y_range := PySem.W.mg_none_of X G z_range
  have y_all := PySem.W.mg_none_of X G z_all
  have y_any := PySem.W.mg_none_of X G z_any
  have y_isinstance := PySem.W.mg_none_of X G z_isinstance
  have y_bool := PySem.W.mg_none_of X G z_bool
  have y_str := PySem.W.mg_none_of X G z_str
  have y_list := PySem.W.mg_none_of X G z_list
  have y_tuple := PySem.W.mg_none_of X G z_tuple
  have y_sorted := PySem.W.mg_none_of X G z_sorted
  have y_dict := PySem.W.mg_none_of X G z_dict
  have y_enumerate := PySem.W.mg_none_of X G z_enumerate
  have mB := PySem.W.mg_of X G a_CB
  have clB : Cls K CB := ⟨pg_CB, hd_CB, po_CB, sa_CB⟩
  have T : Txt mg := ⟨y_len, y_abs, y_max, y_min, y_int, y_divmod, y_range, y_all⟩
  have TP : TxtP mg := ⟨y_isinstance, y_int, y_bool, y_str, y_len, y_list, y_tuple, y_dict, y_all, y_enumerate, y_sorted, ⟨_, PySem.W.mg_of X G g_most⟩⟩
  have TL : TxtL mg := ⟨y_any, y_all, y_sorted, y_dict, y_range⟩
  have TB' : TxtB K mg CB := ⟨clB, nT, nM, nA, nF, nR, mB, ⟨_, _, _, _, ⟨o_rd, o_ga⟩, ⟨v_THINGS, ⟨_, rfl⟩⟩, ⟨v_SCENES, ⟨_, rfl⟩⟩, ⟨v_MOTIONS, ⟨_, rfl⟩⟩⟩⟩
  have C_isI : Cl l.prog w K mg base 1 "is_integer" ["value"] spInt := ⟨_, _, ok_isInt F_isI TP, m_isI, k_isI, b_isI⟩
  have C_isN : Cl l.prog w K mg base 1 "is_name" ["value"] spName := ⟨_, _, ok_isName F_isN TP, m_isN, k_isN, b_isN⟩
  have C_isL : Cl l.prog w K mg base 1 "is_list" ["value"] spIsList := ⟨_, _, ok_isList F_isL TP, m_isL, k_isL, b_isL⟩
  have C_isP : Cl l.prog w K mg base 1 "is_pair" ["value"] (spPair K) := ⟨_, _, ok_isPair F_isP TP, m_isP, k_isP, b_isP⟩
  have C_isO : Cl l.prog w K mg base 1 "is_one_of" ["names", "value"] spOne := ⟨_, _, ok_isOne F_isO TP, m_isO, k_isO, b_isO⟩
  have C_isM : Cl l.prog w K mg base 2 "is_motion" ["value"] (spMot K) := ⟨_, _, ok_isMot F_isM C_isP C_isI, m_isM, k_isM, b_isM⟩
  have C_isA : Cl l.prog w K mg base 2 "is_arrow" ["scenes", "value"] (spArr K) := ⟨_, _, ok_isArr F_isA TP C_isP C_isO, m_isA, k_isA, b_isA⟩
  have C_arM : Cl l.prog w K mg base 3 "are_motions" ["things", "value"] (spAreM K) := ⟨_, _, ok_areM F_arM TP C_isM, m_arM, k_arM, b_arM⟩
  have C_cSc : Cl l.prog w K mg base 2 "check_scene" ["scenes", "value"] spChSc := ⟨_, _, ok_chSc F_cSc C_isO, m_cSc, k_cSc, b_cSc⟩
  have C_cTh : Cl l.prog w K mg base 2 "check_things" ["things"] spChThs := ⟨_, _, ok_chThs F_cTh TP C_isL C_isN, m_cTh, k_cTh, b_cTh⟩
  have C_cSs : Cl l.prog w K mg base 4 "check_scenes" ["things", "scenes"] (spChScs K) := ⟨_, _, ok_chScs F_cSs TP C_isN C_arM, m_cSs, k_cSs, b_cSs⟩
  have C_cAr : Cl l.prog w K mg base 3 "check_arrows" ["scenes", "arrows"] (spChArr K) := ⟨_, _, ok_chArr F_cAr TP C_isL C_isA, m_cAr, k_cAr, b_cAr⟩
  have C_cRe : Cl l.prog w K mg base 3 "check_resting" ["scenes", "resting"] spChRes := ⟨_, _, ok_chRes F_cRe TP C_isL C_isO, m_cRe, k_cRe, b_cRe⟩
  have C_cSz : Cl l.prog w K mg base 1 "check_sizes" ["things", "scenes"] spChSz := ⟨_, _, ok_chSz F_cSz TB', m_cSz, k_cSz, b_cSz⟩
  have C_jar : Cl l.prog w K mg base 1 "_law_pot" ["_law_script", "_law_k"] (spJar K) := ⟨_, _, ok_jar F_jar T, m_jar, k_jar, b_jar⟩
  have C_dip : Cl l.prog w K mg base 1 "_law_draw" ["_law_pot_here", "_law_bound"] spDip := ⟨_, _, ok_dip F_dip T, m_dip, k_dip, b_dip⟩
  have C_cho : Cl l.prog w K mg base 2 "_law_pick" ["_law_pot_here", "_law_some"] (spChoice K) := ⟨_, _, ok_choice F_cho T C_dip, m_cho, k_cho, b_cho⟩
  have C_end : Cl l.prog w K mg base 2 "_law_ends" ["_law_spots", "_law_ways", "_law_begin"] (spEnds K) := ⟨_, _, ok_ends F_end TL, m_end, k_end, b_end⟩
  have D_bi : FunD K "__init__" "Book.__init__" (defArgs sBInit) (defBody sBInit) (defScope sBInit) [.ref TE] [] f_bi _ := ⟨⟨_, _, _, _, _, _, _, _, _, _, rfl, l_bi, c_bi, .inr ⟨by simp, TB, _, [.ref TE], _, rfl, d_bi, rfl, .cons rfl .nil⟩, .inl rfl⟩, k_bi⟩
  have O_bi : FnOk l.prog w K mg base CX0 5 f_bi _ ["self", "things", "scenes", "arrows", "first", "resting"] (spBInit K CB) := ok_bInit D_bi TP TB' C_cTh C_cSs C_cAr C_cSc C_cRe C_cSz
  obtain ⟨ds6, v6, b6⟩ := D_bi.binds1 (ps := ["self", "things", "scenes", "arrows", "first", "resting"]) 6 1 (by simp) (by rfl) (fun T kV doc pm an cdv ct us its h1 h2 => match us, h1, its, h2 with | [_, _, _, _, _, _], _, [_], _ => ⟨_, rfl, rfl⟩)
  have M_B : Mk K CB f_bi := ⟨mk_CB, a_bi, i_bi, kc_CB⟩
  have C_B : MkC l.prog w K mg base 5 "Book" CB ["self", "things", "scenes", "arrows", "first", "resting"] [] (spBInit K CB) := ⟨_, _, _, M_B, O_bi, mB, v6, b6⟩
  have N_rch : Me l.prog w K mg base 1 CB "reached" ["self"] (spReached K CB) := ⟨f_rch, _, ⟨a_rch, i_rch, k_rch⟩, ok_reached F_rch TP TB', b_rch⟩
  have N_cal : Me l.prog w K mg base 3 CB "callers" ["self", "scene"] (spCallers K CB) := ⟨f_cal, _, ⟨a_cal, i_cal, k_cal⟩, ok_callers F_cal TB' C_cSc N_rch, b_cal⟩
  have N_has : Me l.prog w K mg base 3 CB "_has_arrow" ["self", "value"] (spHas K CB) := ⟨f_has, _, ⟨a_has, i_has, k_has⟩, ok_has F_has TB' C_isA, b_has⟩
  have N_wit : Me l.prog w K mg base 7 CB "_with_arrows" ["self", "arrows"] (spWith K CB) := ⟨f_wit, _, ⟨a_wit, i_wit, k_wit⟩, ok_with F_wit TB' C_B, b_wit⟩
  have e_add : PySem.dunder "add" = ("__add__" : Str) := by decide +kernel
  have er_add : dunderR "add" = ("__radd__" : Str) := by decide +kernel
  have OT_add : TupO K CB .Add := ⟨er_add.symm ▸ ra_CB, ⟨_, e_add.symm ▸ t_add⟩, ⟨_, er_add.symm ▸ t_radd⟩, u_tup⟩
  have e_sub : PySem.dunder "sub" = ("__sub__" : Str) := by decide +kernel
  have er_sub : dunderR "sub" = ("__rsub__" : Str) := by decide +kernel
  have OT_sub : TupO K CB .Sub := ⟨er_sub.symm ▸ rs_CB, ⟨_, e_sub.symm ▸ t_sub⟩, ⟨_, er_sub.symm ▸ t_rsub⟩, u_tup⟩
  have S_ad : Sl l.prog w K mg base CB (PySem.dunder "add") 8 (spAdd K CB) := ⟨_, _, _, ok_add F_ad TB' C_isA N_wit, b_ad, e_add.symm ▸ a_ad, i_ad⟩
  have S_sb : Sl l.prog w K mg base CB (PySem.dunder "sub") 8 (spSub K CB) := ⟨_, _, _, ok_sub F_sb TB' N_has N_wit, b_sb, e_sub.symm ▸ a_sb, i_sb⟩
  have C_mad : Cl l.prog w K mg base 7 "_law_made" ["_law_pot_here", "_law_spots", "_law_ways", "_law_begin"] (spMadeB K CB) := ⟨_, _, ok_madeL F_mad TL C_dip C_B, m_mad, k_mad, b_mad⟩
  have C_isr : Cl l.prog w K mg base 4 "_law_is_right" ["_law_made_here", "_law_spots", "_law_ways", "_law_begin"] (spRightB K CB) := ⟨_, _, ok_isR F_isr TL TB' C_end N_rch N_cal, m_isr, k_isr, b_isr⟩
  have C_onc : Cl l.prog w K mg base 9 "_law_once" ["_law_pot_here"] spOnce := ⟨_, _, ok_once F_onc TL TB' C_dip C_cho C_mad C_isr S_ad S_sb OT_add OT_sub sf_CB N_rch N_cal, m_onc, k_onc, b_onc⟩
  exact ok_law F_law b_law T C_jar C_onc
end Cm
end

open PySem PySem.W PyProof.Rows
set_option maxRecDepth 100000 in
set_option maxHeartbeats 0 in
theorem PySem.Challenge.cw_calledmidway_k24_what_is_reached_holds : PySem.Challenge.rw_calledmidway_k24_what_is_reached.Holds := by
  w_on; o_law; k_head; (case hw => w_witness2)
  k_fill
  refine KG.walk_ofG (l := PySem.Challenge.rw_calledmidway_k24_what_is_reached) (n := 63) (k := 10) (sp := Cm.spLaw) rfl (by decide) rfl ⟨rfl, by decide, by decide⟩ (fun w h Y => PySem.W.kIn_of Y) ?F (fun K H a ns hl _ hS => ⟨a, ns, rfl, hS, hl, fun _ => rfl⟩)
  case F =>
    intro w mg fa h KX G hmg
    refine' Cm.all_mk KX G hmg ?a_isI ?l_isI ?c_isI ?k_isI ?a_isN ?l_isN ?c_isN ?k_isN ?a_isL ?l_isL ?c_isL ?k_isL ?a_isP ?l_isP ?c_isP ?k_isP ?a_isO ?l_isO ?c_isO ?k_isO ?a_isM ?l_isM ?c_isM ?k_isM ?a_isA ?l_isA ?c_isA ?k_isA ?a_arM ?l_arM ?c_arM ?k_arM ?a_cSc ?l_cSc ?c_cSc ?k_cSc ?a_cTh ?l_cTh ?c_cTh ?k_cTh ?a_cSs ?l_cSs ?c_cSs ?k_cSs ?a_cAr ?l_cAr ?c_cAr ?k_cAr ?a_cRe ?l_cRe ?c_cRe ?k_cRe ?a_cSz ?l_cSz ?c_cSz ?k_cSz ?a_jar ?l_jar ?c_jar ?k_jar ?a_dip ?l_dip ?c_dip ?k_dip ?a_cho ?l_cho ?c_cho ?k_cho ?a_end ?l_end ?c_end ?k_end ?a_mad ?l_mad ?c_mad ?k_mad ?a_isr ?l_isr ?c_isr ?k_isr ?a_onc ?l_onc ?c_onc ?k_onc ?a_law ?l_law ?c_law ?k_law ?a_CB ?pg_CB ?hd_CB ?po_CB ?sa_CB ?mk_CB ?kc_CB ?sf_CB ?nT ?nM ?nA ?nF ?nR ?o_rd ?o_ga ?v_THINGS ?v_SCENES ?v_MOTIONS ?ra_CB ?rs_CB ?t_add ?t_radd ?t_sub ?t_rsub ?u_tup ?a_bi ?i_bi ?l_bi ?c_bi ?k_bi ?d_bi ?a_rch ?i_rch ?l_rch ?c_rch ?k_rch ?a_cal ?i_cal ?l_cal ?c_cal ?k_cal ?a_has ?i_has ?l_has ?c_has ?k_has ?a_wit ?i_wit ?l_wit ?c_wit ?k_wit ?a_ad ?i_ad ?l_ad ?c_ad ?k_ad ?a_sb ?i_sb ?l_sb ?c_sb ?k_sb ?g_most ?z_len ?z_abs ?z_max ?z_min ?z_int ?z_divmod ?z_range ?z_all ?z_any ?z_isinstance ?z_bool ?z_str ?z_list ?z_tuple ?z_sorted ?z_dict ?z_enumerate
    (case a_isI => k_is)
    (case l_isI => k_is)
    (case c_isI => k_is)
    (case k_isI => k_is)
    (case a_isN => k_is)
    (case l_isN => k_is)
    (case c_isN => k_is)
    (case k_isN => k_is)
    (case a_isL => k_is)
    (case l_isL => k_is)
    (case c_isL => k_is)
    (case k_isL => k_is)
    (case a_isP => k_is)
    (case l_isP => k_is)
    (case c_isP => k_is)
    (case k_isP => k_is)
    (case a_isO => k_is)
    (case l_isO => k_is)
    (case c_isO => k_is)
    (case k_isO => k_is)
    (case a_isM => k_is)
    (case l_isM => k_is)
    (case c_isM => k_is)
    (case k_isM => k_is)
    (case a_isA => k_is)
    (case l_isA => k_is)
    (case c_isA => k_is)
    (case k_isA => k_is)
    (case a_arM => k_is)
    (case l_arM => k_is)
    (case c_arM => k_is)
    (case k_arM => k_is)
    (case a_cSc => k_is)
    (case l_cSc => k_is)
    (case c_cSc => k_is)
    (case k_cSc => k_is)
    (case a_cTh => k_is)
    (case l_cTh => k_is)
    (case c_cTh => k_is)
    (case k_cTh => k_is)
    (case a_cSs => k_is)
    (case l_cSs => k_is)
    (case c_cSs => k_is)
    (case k_cSs => k_is)
    (case a_cAr => k_is)
    (case l_cAr => k_is)
    (case c_cAr => k_is)
    (case k_cAr => k_is)
    (case a_cRe => k_is)
    (case l_cRe => k_is)
    (case c_cRe => k_is)
    (case k_cRe => k_is)
    (case a_cSz => k_is)
    (case l_cSz => k_is)
    (case c_cSz => k_is)
    (case k_cSz => k_is)
    (case a_jar => k_is)
    (case l_jar => k_is)
    (case c_jar => k_is)
    (case k_jar => k_is)
    (case a_dip => k_is)
    (case l_dip => k_is)
    (case c_dip => k_is)
    (case k_dip => k_is)
    (case a_cho => k_is)
    (case l_cho => k_is)
    (case c_cho => k_is)
    (case k_cho => k_is)
    (case a_end => k_is)
    (case l_end => k_is)
    (case c_end => k_is)
    (case k_end => k_is)
    (case a_mad => k_is)
    (case l_mad => k_is)
    (case c_mad => k_is)
    (case k_mad => k_is)
    (case a_isr => k_is)
    (case l_isr => k_is)
    (case c_isr => k_is)
    (case k_isr => k_is)
    (case a_onc => k_is)
    (case l_onc => k_is)
    (case c_onc => k_is)
    (case k_onc => k_is)
    (case a_law => k_is)
    (case l_law => k_is)
    (case c_law => k_is)
    (case k_law => k_is)
    (case a_CB => k_is)
    (case pg_CB => k_is)
    (case hd_CB => k_is)
    (case po_CB => k_is)
    (case sa_CB => k_is)
    (case mk_CB => k_is)
    (case kc_CB => k_is)
    (case sf_CB => k_is)
    (case nT => k_is)
    (case nM => k_is)
    (case nA => k_is)
    (case nF => k_is)
    (case nR => k_is)
    (case o_rd => k_is)
    (case o_ga => k_is)
    (case v_THINGS => k_is)
    (case v_SCENES => k_is)
    (case v_MOTIONS => k_is)
    (case ra_CB => k_is)
    (case rs_CB => k_is)
    (case t_add => k_is)
    (case t_radd => k_is)
    (case t_sub => k_is)
    (case t_rsub => k_is)
    (case u_tup => k_is)
    (case a_bi => k_is)
    (case i_bi => k_is)
    (case l_bi => k_is)
    (case c_bi => k_is)
    (case k_bi => k_is)
    (case d_bi => k_is)
    (case a_rch => k_is)
    (case i_rch => k_is)
    (case l_rch => k_is)
    (case c_rch => k_is)
    (case k_rch => k_is)
    (case a_cal => k_is)
    (case i_cal => k_is)
    (case l_cal => k_is)
    (case c_cal => k_is)
    (case k_cal => k_is)
    (case a_has => k_is)
    (case i_has => k_is)
    (case l_has => k_is)
    (case c_has => k_is)
    (case k_has => k_is)
    (case a_wit => k_is)
    (case i_wit => k_is)
    (case l_wit => k_is)
    (case c_wit => k_is)
    (case k_wit => k_is)
    (case a_ad => k_is)
    (case i_ad => k_is)
    (case l_ad => k_is)
    (case c_ad => k_is)
    (case k_ad => k_is)
    (case a_sb => k_is)
    (case i_sb => k_is)
    (case l_sb => k_is)
    (case c_sb => k_is)
    (case k_sb => k_is)
    (case g_most => k_is)
    (case z_len => k_is)
    (case z_abs => k_is)
    (case z_max => k_is)
    (case z_min => k_is)
    (case z_int => k_is)
    (case z_divmod => k_is)
    (case z_range => k_is)
    (case z_all => k_is)
    (case z_any => k_is)
    (case z_isinstance => k_is)
    (case z_bool => k_is)
    (case z_str => k_is)
    (case z_list => k_is)
    (case z_tuple => k_is)
    (case z_sorted => k_is)
    (case z_dict => k_is)
    (case z_enumerate => k_is)
