import PyProof.Rows.All
import Wide.All
import OpenK.AllK
import Wide.FinOn
import HandS.ForMost
import HandS.More
import HandS.Wide
import HandS.WideBits
import HandS.Defaults
import HandS.IsInst
import HandS.Gcd
import HandS.Star
import HandS.ClsMeth
import HandS.Property
import HandS.DictComp
import HandS.StrMore
import HandS.FStr
import KE.KCallOwn
import HandS.OwnEq
import HandS.MakeKw
import HandS.Codes
import HandS.Walk
import HandS.RaiseMore
import HandS.Style
import HandS.Deep
import PySem.Challenge.RW_calledmidway_k12_ratios_compared
set_option Elab.async false
set_option linter.all false
set_option maxRecDepth 100000

/-! ## KG -/
section
/-! A layer of our own over the hand layer: defs whose calls know that no repr is under way. -/
namespace KG
open PySem PySem.Spec PyProof.Rows L2

/-- the positional promise of a def, where nothing is being shown around it -/
def FnG (P : Program) (w : World) (K : PySem.W.Frag) (mg : Str → Option Value) (base : Heap)
    (k : Nat) (f : Addr) (sp : Sp) : Prop :=
  ∀ (A : Around) (outer : List Env) (s : Shared) (H : Hp) (us : List Value) (vs : List V) (Q : VK) (E : XK),
    Room k A → A.guards = some [] → Env0 P w K mg base A outer s H → Vals vs us → sp vs H Q E →
      codeAny (model P w) A (.call (.ref f) ⟨us, []⟩) (CR CX0 outer P w H s Q E) s

theorem FnG.ofR {P : Program} {w : World} {K : PySem.W.Frag} {mg : Str → Option Value} {base : Heap}
    {k : Nat} {f : Addr} {sp : Sp} (F : FnR P w K mg base CX0 k f sp) : FnG P w K mg base k f sp :=
  fun A outer s H us vs Q E hr _ e r h => F A outer s H us vs Q E hr e r h

/-- a def's promise by its body, the guards being known -/
theorem fnG_of {P : Program} {w : World} {K : PySem.W.Frag} {mg : Str → Option Value} {base : Heap}
    {x qual : Str} {st : Stmt} {f : Addr} {fd : FuncData} {N ps : List Str} {k : Nat} {sp : Sp}
    (F : Fun K x qual st f fd) (S : FnScope N ps (defScope st)) (B : Binds K fd ps [])
    (len : ∀ vs H Q E, sp vs H Q E → vs.length = ps.length)
    (body : ∀ (cdv : Value) (A : Around) (outer : List Env) (s : Shared) (H : Hp) (vs : List V) (Q : VK) (E : XK),
      Room k (A.deeper (envOfC qual (defScope st) s.heap.objs.size f cdv)) → A.guards = some [] → sp vs H Q E →
      ∃ t, PSs (cxOf CX0 P w K mg base N qual (defScope st) f cdv A outer s H E).nox (defBody st) t ∧
        t { nx := fun _ H' => Q .non H', rt := Q } (start N vs) H) : FnG P w K mg base (k + 1) f sp := by
  intro A outer s H us vs Q E hr hg e0 r hsp
  obtain ⟨oc, od, kV, doc, pm, an, cdv, ct, osl, efd, lk, hcd⟩ := F.ex
  have inK : K.In s.heap := e0.mod.kin.keeps fun b o e => (e0.bs b o e).1
  have noLim : s.heap.NoLimit := e0.mod.nolimit.keeps fun b o e => (e0.bs b o e).1
  have hlen : us.length = ps.length := by rw [← r.length]; exact len _ _ _ _ hsp
  have hb := B s us inK (by simpa using hlen)
  rw [List.append_nil] at hb
  subst efd
  have kinds : ∀ y ∈ ps.zip us, (defScope st).names.lookup y.1 = some .local ∨
      ((defScope st).names.lookup y.1 = some .cell ∧
        ((cellsFrom (s.heap.objs.size + 1) (defScope st).names []).lookup y.1).isSome = true) := by
    rintro ⟨n, v⟩ hy
    cases S.par n (List.of_mem_zip hy).1 with
    | inl q => exact .inl q
    | inr q => exact .inr ⟨q, PySem.W.cellsFrom_some _ _ _ (.inl q)⟩
  refine codeAny_call_function hr.depth (inK _ _ lk) rfl S.co S.gen rfl (PySem.W.codeRec_of inK hcd)
    (hb _ _ _ _ ?_)
  refine wpAny_newFunctionEnv_cells S.kind kinds ?_
  rintro env rfl s1 y
  refine ⟨noLim.keeps y.toInCall.keep, codeAny_func ?_⟩
  obtain ⟨t, ht, hq⟩ := body cdv A outer s H vs Q E (hr.deeper _) hg hsp
  have J := inv_start (CX := CX0) (E := E) S hr.hd e0 (len _ _ _ _ hsp) r y
  refine wpAny_mono (ht.nox.run [] s1 (start N vs) H _ J hq) ?_ (fun _ _ z => z)
  intro fl s' done
  cases fl with
  | ret u =>
    obtain ⟨v, σ', H', I', rv, q⟩ := done
    exact ⟨v, H', I'.os, I'.bare, I'.base, I'.hok, rv, q⟩
  | next =>
    obtain ⟨σ', H', I', q⟩ := done
    exact ⟨V.non, H', I'.os, I'.bare, I'.base, I'.hok, rfl, q⟩
  | brk => exact done.elim fun _ z => z.elim fun _ z => z.2.elim
  | cont => exact done.elim fun _ z => z.elim fun _ z => z.2.elim

section
variable {X : Cx} {k : Nat} {f : Addr} {sp : Sp} {x : Str} {p pos : Pos} {e : Expr} {es : List Expr} {t : TA}

theorem run_fnG {pins : List (Addr × Obj)} {σ : L2.St} {H : Hp} {s : Shared} {Q : VK} {us : List Value} {vs : List V}
    (F : FnG X.prog X.w X.K X.mg X.base k f sp) (hr : Room k X.A) (hg : X.A.guards = some [])
    (I : Inv X pins σ H s) (r : Vals vs us) (h : sp vs H Q E0) :
    wpAny (model X.prog X.w) X.A (call (.ref f) us) (EP X pins σ Q) X.xe s := by
  refine wpAny_call (codeAny_mono (F X.A X.stack s H us vs Q E0 hr hg I.env0 r h) ?_)
  intro res s' q
  cases res with
  | error e => exact q.elim
  | ok fl =>
    cases fl with
    | ret u => exact I.after q
    | next => exact q.elim
    | brk => exact q.elim
    | cont => exact q.elim

/-- a def's promise asked of the values of t -/
def tK (sp : Sp) (t : TA) : TE := fun σ H Q => t σ H fun vs H1 => sp vs H1 Q E0
/-- f(e, ..) of such a def -/
theorem pe_callG (F : FnG X.prog X.w X.K X.mg X.base k f sp) (hr : Room k X.A) (hg : X.A.guards = some [])
    (gl : Gl X x) (hm : X.mg x = some (.ref f)) (hk : PySem.W.keepIn X.K (.ref f) = true) (ha : PA X (e :: es) t)
    (hdb : (x == ("__debug__" : Str)) = false := by decide)
    (he : starEach (e :: es) X.env = (false, eval e X.env) :: starEach es X.env := by rfl)
    (hpl : (backTo pos (starEach es X.env)).any (·.1) = false := by rfl) :
    PE X (.Call (.Name x p) (e :: es) [] pos) (tK sp t) := by
  constructor
  intro pins s σ H Q I h
  refine wpAny_Call_Name_kw (ld_glob I gl hm ?_ hdb)
  refine PySem.W.callWith_K (h₀ := X.base) I.ok.mod.kin hk ?_ he hpl
  refine thn (ha.run pos pins s σ H _ I h) ?_
  rintro us s1 ⟨vs, H1, I1, r, q⟩
  exact ⟨I1.kIn, run_fnG F hr hg I1 r q⟩

/-- repr of a list or tuple of plain data -/
theorem call_reprD (hg : X.A.guards = some []) (hu : X.A.units + 64 < cLine) :
    CallR X (.builtin "repr") (fun xs H Q => ∃ (a : Addr) (d : PyData), xs = [.ref a] ∧ Dp X.K H (.ref a) d ∧
      d.showable = true ∧ d.hasDict = false ∧ d.depth ≤ 62 ∧ d.shown.length ≤ sizeLine ∧ Q (.str d.shown) H) := by
  intro pins s σ H xs us Q I r h
  obtain ⟨a, d, rfl, hd, hs, hn, hdp, hz, q⟩ := h
  obtain ⟨u, rfl, ru⟩ := vals1 r
  obtain ⟨as, rd⟩ := Dp.reads I d _ _ hd ru
  cases ru
  exact repr_of_reads' rd hs (PyData.noDict_hsm hn) hg (by omega) (fun _ _ z => z)
    (fun h' u tk kp => ⟨.str _, H, I.kept (t' := tk) kp, ⟨_, rfl⟩, q⟩) hz
end
end KG
end

/-! ## KG2 -/
section
namespace KG
open PySem PySem.Spec PyProof.Rows L2

theorem guards_caller : (callerA).guards = some [] := by rfl

/-- the promise of the law's def, met at the head's heap under the tracking H -/
theorem lawG_core {P : Program} {w : World} {K : PySem.W.Frag} {mg mb : Str → Option Value} {k : Nat} {fa a : Addr}
    {sp : Sp} {s1 : Shared} {vs : List Value} {H : Hp}
    (inK : K.In s1.heap) (gl : s1.heap.Ns mainGlobals mg) (bl : s1.heap.Ns builtinsNs mb)
    (bb : ∀ y : Str, y ≠ "__name__" → mb y = bootBuiltins y) (nl : s1.heap.NoLimit) (nd : s1.heap.NoDigits) (g0 : s1.gens = #[])
    (at_ : s1.heap.get? a = some { cls := .type "list", data := .seq vs.toArray }) (rm : Room k callerA)
    (F : ∀ base : Heap, K.In base → base.Ns mainGlobals mg → base.NoDigits → FnG P w K mg base k fa sp)
    (only : Only H) (one : ∀ b u, H b = some u → b = a) (nK : ∀ u, H a = some u → K.lookup a = none) (ok : HOk P w H s1.heap)
    (say : sp [.ref a] H (fun v _ => v = .bl true) E0) :
    codeAny (model P w) callerA (.call (.ref fa) ⟨[.ref a], []⟩)
      (fun r s2 => r = .ok (.ret (.bool true)) ∧ OldK s1.heap s2.heap ∧ s2.os = s1.os ∧ AllBare s2.gens) s1 := by
  have dictFree : ∀ {b : Addr} {o : Obj} {es : Array DictEntry} {ep : Nat},
      s1.heap.get? b = some o → o.data = .dict es ep → H b = none := by
    intro b o es ep eo ed
    cases hb : H b with
    | none => rfl
    | some u =>
      have eb := one b u hb
      rw [eb, at_] at eo
      injection eo with eo
      rw [← eo] at ed
      exact absurd ed (by intro z; cases z)
  have nsB : ∀ {b : Addr} {m : Str → Option Value}, s1.heap.Ns b m → (hidT s1.heap H).Ns b m := by
    rintro b m ⟨o, es, ep, eo, ed, rest⟩
    exact ⟨o, es, ep, hidT_get eo (dictFree eo ed), ed, rest⟩
  have inB : K.In (hidT s1.heap H) := by
    intro b o eb
    refine hidT_get (inK b o eb) ?_
    cases hb : H b with
    | none => rfl
    | some u =>
      have e1 := one b u hb
      subst e1
      rw [nK u hb] at eb
      cases eb
  have modB : Mod K mg (hidT s1.heap H) := by
    obtain ⟨mc, c1, c2⟩ := nl
    exact ⟨inB, nsB gl, ⟨mb, nsB bl, bb⟩, mc, nsB c1, c2⟩
  have ndB : (hidT s1.heap H).NoDigits := by
    obtain ⟨mc, c1, c2⟩ := nd
    exact ⟨mc, nsB c1, c2⟩
  have env : Env0 P w K mg (hidT s1.heap H) callerA [] s1 H := by
    refine ⟨rfl, modB, fun b o z => of_hidT z, Nat.le_of_eq (hidT_size _ _), trivial, ?_, ok, .of_eq g0⟩
    intro b hb
    cases (show b ∈ ([] : List Addr) from hb)
  refine codeAny_mono (F _ inB (nsB gl) ndB callerA [] s1 H [.ref a] [.ref a] _ E0 rm guards_caller env (.cons rfl .nil) say) ?_
  intro r s2 z
  cases r with
  | error e => exact z.elim
  | ok fl =>
    cases fl with
    | next => exact z.elim
    | brk => exact z.elim
    | cont => exact z.elim
    | ret u =>
      obtain ⟨v, H2, eos, bare, un, ok2, rv, ev⟩ := z
      have ev' : v = .bl true := ev
      subst ev'
      cases rv
      refine ⟨rfl, OldK.of_keep ?_, eos, bare⟩
      intro b o eo
      cases hb : H b with
      | none =>
        refine un.keep b o eo hb ?_ ?_
        · intro z; cases (show b ∈ ([] : List Addr) from z)
        · intro z; cases z
      | some u2 =>
        cases only b with
        | inl z => rw [hb] at z; cases z
        | inr z =>
          obtain ⟨ob, xs, z⟩ := z
          have m1 := (ok b _ z).1
          have m2 := (ok2 b _ (un.frzs b ob _ z)).1
          rw [eo] at m1
          injection m1 with m1
          rw [m1]
          exact m2

theorem lawG {P : Program} {w : World} {K : PySem.W.Frag} {mg mb : Str → Option Value} {k : Nat} {fa a : Addr}
    {sp : Sp} {s1 : Shared} {vs : List Value} {ns : List Int}
    (inK : K.In s1.heap) (gl : s1.heap.Ns mainGlobals mg) (bl : s1.heap.Ns builtinsNs mb)
    (bb : ∀ y : Str, y ≠ "__name__" → mb y = bootBuiltins y) (nl : s1.heap.NoLimit) (nd : s1.heap.NoDigits) (g0 : s1.gens = #[])
    (at_ : s1.heap.get? a = some { cls := .type "list", data := .seq vs.toArray }) (hi : IntsAre vs ns)
    (hz : ns.length ≤ sizeLine) (rm : Room k callerA)
    (F : ∀ base : Heap, K.In base → base.Ns mainGlobals mg → base.NoDigits → FnG P w K mg base k fa sp)
    (say : ∀ H : Hp, Only H → SqL K H a (ns.map V.int) → sp [.ref a] H (fun v _ => v = .bl true) E0) :
    codeAny (model P w) callerA (.call (.ref fa) ⟨[.ref a], []⟩)
      (fun r s2 => r = .ok (.ret (.bool true)) ∧ OldK s1.heap s2.heap ∧ s2.os = s1.os ∧ AllBare s2.gens) s1 := by
  have rv := vals_ints hi
  have same := hi.length
  cases hk : K.lookup a with
  | some o =>
    have eo := inK a o hk
    rw [at_] at eo
    injection eo with eo
    subst eo
    have none_ : Only (fun _ => none) := fun _ => .inl rfl
    refine lawG_core inK gl bl bb nl nd g0 at_ rm F (H := fun _ => none) none_ (fun b u z => by cases z) (fun u z => by cases z) (fun b u z => by cases z) (say _ none_ ?_)
    refine .inr ⟨_, vs.toArray, _, hk, rfl, rfl, rfl, ?_, ?_⟩
    · rw [List.size_toArray, same]; exact hz
    · simpa using rv
  | none =>
    let fr : HO := .frz { cls := .type "list", data := .seq vs.toArray } (.lst (ns.map V.int))
    let H1 : Hp := fun b => if b = a then some fr else none
    have hA : H1 a = some fr := if_pos rfl
    have hO : ∀ b u, H1 b = some u → b = a ∧ u = fr := by
      intro b u z
      by_cases e : b = a
      · refine ⟨e, ?_⟩
        have z2 := (if_pos e).symm.trans z
        injection z2 with z2
        exact z2.symm
      · have z2 := (if_neg e).symm.trans z
        cases z2
    have only : Only H1 := by
      intro b
      by_cases e : b = a
      · exact .inr ⟨_, _, if_pos e⟩
      · exact .inl (if_neg e)
    refine lawG_core inK gl bl bb nl nd g0 at_ rm F only (fun b u z => (hO b u z).1) (fun _ _ => hk) ?_ (say H1 only (.inl (.inr ⟨_, hA⟩)))
    intro b u z
    obtain ⟨e1, e2⟩ := hO b u z
    subst e1
    subst e2
    exact ⟨at_, by rw [List.length_map]; exact hz, vs, _, rv, at_⟩

theorem walk_ofG {l : PySem.W.OpenLaw} {n k : Nat} {q : Program} {loose : List Str}
    {XP : (Str → Option Value) → Heap → Prop} {YP : World → Heap → Prop} {d : DefRec} {K : Params → PySem.W.Frag} {sp : PySem.W.Frag → Sp}
    (hn : l.most = some n) (hn2 : n ≤ sizeLine) (hdf : d.params.defaults = []) (rm : Room k callerA)
    (hY : ∀ (w : World) (h : Heap), YP w h → (K w.params).In h)
    (F : ∀ (w : World) (mg : Str → Option Value) (fa : Addr) (h : Heap), (K w.params).In h → h.Ns mainGlobals mg →
      mg d.name = some (.ref fa) → ∀ base : Heap, (K w.params).In base → base.Ns mainGlobals mg → base.NoDigits →
        FnG l.prog w (K w.params) mg base k fa (sp (K w.params)))
    (say : ∀ (K : PySem.W.Frag) (H : Hp) (a : Addr) (ns : List Int), ns.length ≤ n → Only H →
      SqL K H a (ns.map V.int) → sp K [.ref a] H (fun v _ => v = .bl true) E0) :
    PySem.W.WalkO q loose XP YP l.row.toRowW d [] (fun f vs => PySem.call f vs) := by
  refine Att.attach_call hn hdf ?_
  intro w s0 s1 mg mb fa o pm cd doc a vs ns G Y ho hd hcd hmg hobj hints hlen hg
  have inK := hY w _ Y
  exact lawG inK G.T.g G.T.b G.T.builtins G.T.nolimit G.T.nodigits hg hobj hints (Nat.le_trans hlen hn2) rm
    (F w mg fa _ inK G.T.g hmg) fun H h1 h2 => say _ H a ns hlen h1 h2
end KG
end

/-! ## Op -/
section
/-! Operators of own classes, among themselves and with ints on either side; texts of great ints; division of great ints. -/
namespace KG
open PySem PySem.Spec PyProof.Rows L2

@[irreducible] def Big : Nat := 2 ^ 12900
theorem big_eq : Big = 2 ^ 12900 := by unfold Big; rfl
theorem big_dig : Big ≤ 10 ^ 4300 := by rw [big_eq]; exact pow_lo
theorem big_of {n k : Nat} (h : n < 2 ^ k) (hk : k ≤ 12900) : n < Big := by
  rw [big_eq]
  exact Nat.lt_of_lt_of_le h (Nat.pow_le_pow_right (by decide) hk)
theorem big_log {n : Nat} (h : n < Big) : n.log2 < 12900 := by
  rw [big_eq] at h
  exact PySem.Flt.log2_lt_of (by decide) h

theorem inv_dig {X : Cx} {pins : List (Addr × Obj)} {σ : L2.St} {H : Hp} {s : Shared} (I : Inv X pins σ H s) (d : X.base.NoDigits) : s.heap.NoDigits := d.keeps fun b o e => (I.env0.bs b o e).1

/-- how long a text of an int may be -/
theorem big_text {i : Int} (h : i.natAbs < Big) : (Str.ofString (toString i)).length ≤ 12901 := by
  have e := int_text_length_le (k := 12900) (by decide) (big_log h)
  rw [PySem.ofString_length]
  exact e

section
variable {X : Cx}
theorem call_str_intD (d : X.base.NoDigits) (hc : X.calm = true) : CallR X (.type "str") (fun xs H Q => ∃ i, xs = [.int i] ∧ i.natAbs < Big ∧ Q (.str (toString i)) H) := by
  intro pins s σ H xs us Q I r h
  obtain ⟨i, rfl, hz, q⟩ := h
  obtain ⟨u, rfl, t, rfl⟩ := vals1 r
  exact str_of_int_or (I.ok.hd hc) (inv_dig I d) (fun _ => ⟨.str _, H, I.tok _, ⟨_, rfl⟩, q⟩) (fun z => absurd (Nat.lt_of_lt_of_le hz big_dig) (Nat.not_lt.mpr z))
/-- {x}: an int, as a text -/
def tFmtD (te : TE) : TE := fun σ H Q => te σ H fun x H1 => ∃ i : Int, x = .int i ∧ i.natAbs < Big ∧ Q (.str (toString i)) H1
theorem pe_fmtD (d : X.base.NoDigits) (hc : X.calm = true) {e : Expr} {te : TE} {pos : Pos} (he : PE X e te) : PE X (.FormattedValue e (-1) none pos) (tFmtD te) := by
  refine ⟨fun pins s σ H Q I h => ?_⟩
  refine wpAny_FormattedValue_plain (thn (he.run pins s σ H _ I h) fun v s1 hv => ?_)
  obtain ⟨x, H1, I1, r1, i, rfl, hz, q⟩ := hv
  obtain ⟨t, rfl⟩ := r1
  exact formatField_int (I1.ok.hd hc) (inv_dig I1 d) (fun _ => ⟨.str (toString i), H1, I1.tok _, ⟨_, rfl⟩, q⟩) (fun z => absurd (Nat.lt_of_lt_of_le hz big_dig) (Nat.not_lt.mpr z))

theorem noPylong_big {x y : Int} (h : x.natAbs.log2 < 13400) : Builtin.divisionGoesByPylong x y = false := by
  have key : (if x == 0 then 0 else x.natAbs.log2 / 30 + 1) ≤ 450 := by
    by_cases hy : (x == 0) = true
    · rw [if_pos hy]; exact Nat.zero_le _
    · rw [if_neg hy]; omega
  show (decide ((if y == 0 then 0 else y.natAbs.log2 / 30 + 1) > 300) && decide ((if x == 0 then 0 else x.natAbs.log2 / 30 + 1) > (if y == 0 then 0 else y.natAbs.log2 / 30 + 1) + 150)) = false
  by_cases h1 : (if y == 0 then 0 else y.natAbs.log2 / 30 + 1) > 300
  · rw [decide_eq_false (p := (if x == 0 then 0 else x.natAbs.log2 / 30 + 1) > (if y == 0 then 0 else y.natAbs.log2 / 30 + 1) + 150) (by omega), Bool.and_false]
  · rw [decide_eq_false h1, Bool.false_and]
/-- // of ints below 2^13400 by a divisor of either sign -/
def CDivN (i j : Int) : Prop := j ≠ 0 ∧ i.natAbs.log2 < 13400
theorem op_fdivN : OpR X (binaryOp .FloorDiv) (rI CDivN fun i j => .int (i.fdiv j)) := opI fun _ _ _ _ _ _ _ hc q => floordiv_int hc.1 q (.inl (noPylong_big hc.2))

/-! ### own operators -/
variable {k j : Nat} {C f : Addr} {fd : FuncData} {ps : List Str} {sp : Sp}
theorem run_fn (F : FnOk X.prog X.w X.K X.mg X.base CX0 k f fd ps sp) (hr : Room k X.A) (hb : Binds X.K fd ps []) {pins : List (Addr × Obj)} {σ : L2.St} {H : Hp} {s : Shared} {Q : VK} {us : List Value} {vs : List V}
    (I : Inv X pins σ H s) (rv : Vals vs us) (q : sp vs H Q E0) {E : Value → Shared → Prop} : wpAny (model X.prog X.w) X.A (call (.ref f) us) (EP X pins σ Q) E s := by
  have hl : us.length = ps.length := by
    have := F.len _ _ _ _ q
    rw [← rv.length]
    exact this
  have b := hb s us I.kIn (by simpa using hl)
  rw [List.append_nil] at b
  refine wpAny_call (codeAny_mono (F.run X.A X.stack s H ⟨us, []⟩ us vs _ E0 hr I.env0 b rv q) ?_)
  intro res s' z
  cases res with
  | error e => exact z.elim
  | ok fl =>
    cases fl with
    | next => exact z.elim
    | brk => exact z.elim
    | cont => exact z.elim
    | ret u => exact I.after z

/-- the def behind a special name of an own class -/
structure Sl (P : Program) (w : World) (K : PySem.W.Frag) (mg : Str → Option Value) (base : Heap) (C : Addr) (name : Str) (k : Nat) (sp : Sp) : Prop where
  ex : ∃ (f : Addr) (fd : FuncData) (ps : List Str), FnOk P w K mg base CX0 k f fd ps sp ∧ Binds K fd ps [] ∧ PySem.W.findIn K (.ref C) name = some (some (.ref f)) ∧ PySem.W.isFn K (.ref f) = true

def IsI (H : Hp) (C a : Addr) : Prop := ∃ dx fs, H a = some (.ins C dx fs)

/-- what comes back is an object -/
abbrev RefQ (Q : VK) : VK := fun v H => ∃ c, v = .ref c ∧ Q v H

theorem back_ref {pins : List (Addr × Obj)} {σ : L2.St} {Q : VK} {u : Value} {s' : Shared} (h : EP X pins σ (RefQ Q) u s') : PySem.W.CmpBack (EP X pins σ Q) u s' := by
  obtain ⟨v, H', I', rv, c, rfl, q⟩ := h
  cases rv
  exact ⟨.ref c, H', I', rfl, q⟩

def rOO (C : Addr) (sp : Sp) : R2 := fun x y H Q => ∃ a b, x = .ref a ∧ y = .ref b ∧ IsI H C a ∧ IsI H C b ∧ sp [.ref a, .ref b] H (RefQ Q) E0
theorem op_OO {op : Operator} (S : Sl X.prog X.w X.K X.mg X.base C (PySem.dunder op.info.2) k sp) (hr : Room j X.A) (hk : k ≤ j) (hc : PySem.W.selfFirst X.K C = true) : OpR X (binaryOp op) (rOO C sp) := by
  obtain ⟨f, fd, ps, F, hb, hs, hf⟩ := S.ex
  intro pins s σ H x y v u Q I rx ry h
  obtain ⟨a, b, rfl, rfl, ⟨dx, fs, ha⟩, ⟨dy, gs, hb'⟩, q⟩ := h
  cases rx
  cases ry
  obtain ⟨mA, J, _⟩ := ins_get I.hok ha
  obtain ⟨mB, J', _⟩ := ins_get I.hok hb'
  obtain ⟨od, J, _⟩ := J.look
  obtain ⟨od', J', _⟩ := J'.look
  obtain ⟨m, hF⟩ := I.fr
  refine PySem.W.binop_K hF I.ok.mod.kin J J'.type hc hs hf ?_
  have rv : Vals [V.ref a, V.ref b] [Value.ref a, Value.ref b] := .cons rfl (.cons rfl .nil)
  exact wpAny_mono (run_fn F (hr.mono hk) hb I rv q) (fun _ _ z => back_ref z) fun _ _ z => z

/-- the int has no part in it: what the class must have -/
structure IntO (K : PySem.W.Frag) (C : Addr) (op : Operator) : Prop where
  r : ∃ g : Addr, PySem.W.findIn K (.ref C) (dunderR op.info.2) = some (some (.ref g))
  i1 : ∃ fo, PySem.W.findIn K (.type "int") (PySem.dunder op.info.2) = some fo
  i2 : ∃ ro, PySem.W.findIn K (.type "int") (dunderR op.info.2) = some ro
  sub : PySem.W.subIn K (.type "int") (.ref C) = some false
def rOI (C : Addr) (sp : Sp) : R2 := fun x y H Q => ∃ a n, x = .ref a ∧ y = .int n ∧ IsI H C a ∧ sp [.ref a, .int n] H (RefQ Q) E0
theorem op_OI {op : Operator} (S : Sl X.prog X.w X.K X.mg X.base C (PySem.dunder op.info.2) k sp) (O : IntO X.K C op) (hr : Room j X.A) (hk : k ≤ j) (hc : PySem.W.selfFirst X.K C = true) : OpR X (binaryOp op) (rOI C sp) := by
  obtain ⟨f, fd, ps, F, hb, hs, hf⟩ := S.ex
  obtain ⟨g, hg⟩ := O.r
  obtain ⟨fo, h1⟩ := O.i1
  obtain ⟨ro, h2⟩ := O.i2
  intro pins s σ H x y v u Q I rx ry h
  obtain ⟨a, n, rfl, rfl, ⟨dx, fs, ha⟩, q⟩ := h
  cases rx
  obtain ⟨t, rfl⟩ := ry
  obtain ⟨mA, J, _⟩ := ins_get I.hok ha
  obtain ⟨od, J, _⟩ := J.look
  obtain ⟨m, hF⟩ := I.fr
  refine PySem.W.ksp_binT (T := "int") hF I.ok.mod.kin J rfl hc hs hf hg (.inr ⟨g, rfl⟩) h1 h2 O.sub ?_
  have rv : Vals [V.ref a, V.int n] [Value.ref a, Value.int n t] := .cons rfl (.cons ⟨t, rfl⟩ .nil)
  exact wpAny_mono (run_fn F (hr.mono hk) hb I rv q) (fun _ _ z => back_ref z) fun _ _ z => z

def rO1 (C : Addr) (sp : Sp) : V → Hp → VK → Prop := fun x H Q => ∃ a, x = .ref a ∧ IsI H C a ∧ sp [.ref a] H Q E0
theorem un_O (S : Sl X.prog X.w X.K X.mg X.base C "__neg__" k sp) (hr : Room j X.A) (hk : k ≤ j) : UnR X (unaryOp .USub) (rO1 C sp) := by
  obtain ⟨f, fd, ps, F, hb, hs, hf⟩ := S.ex
  intro pins s σ H x v Q I rx h
  obtain ⟨a, rfl, ⟨dx, fs, ha⟩, q⟩ := h
  cases rx
  obtain ⟨mA, J, _⟩ := ins_get I.hok ha
  obtain ⟨od, J, _⟩ := J.look
  obtain ⟨m, hF⟩ := I.fr
  refine PySem.W.ksp_neg hF I.ok.mod.kin J hs hf ?_
  have rv : Vals [V.ref a] [Value.ref a] := .cons rfl .nil
  exact run_fn F (hr.mono hk) hb I rv q

/-! ### an int on the left -/
section
open PySem.W
/-- an int's own method has no word for an own object -/
def Declines (name : Str) : Prop := ∀ (prog : Program) (w : World) (A : Around) (E : Value → Shared → Prop) (s : Shared) (n : Int) (t : Tok) (x C : Addr) (ox : Obj) (od : Option Obj) (Q : Option Value → Shared → Prop), InstAt s.heap x ox C od → ox.data = .plain → Q none s → wpAny (model prog w) A (tryMethod (.int n t) name (.ref x)) Q E s
theorem decl_of {name : Str} {id : String} {f : Int → Int → Sem Fin} {sym : String} (slot : Slot "int" name id) {b : Builtin} (entry : entryFor table id = some b) (hb : b = Builtin.Int.intBinary sym f) (hargs : ∀ a b : Value, argsOk id ⟨[a, b], []⟩) : Declines name := by
  subst hb
  intro prog w A E s n t x C ox od Q I hp q
  unfold tryMethod
  refine wpAny_bind (wpAny_callSpecial?_slot (typeIs_int s n t) slot ?_)
  refine wpAny_call_entry slot (typeIs_int s n t) entry ?_ (hargs _ _)
  unfold Builtin.Int.intBinary
  refine wpAny_bind (m := slotArgs sym 1 _) (wpAny_pure ?_)
  refine wpAny_bind (m := Builtin.Int.intOfSelf (.int n t)) (wpAny_pure ?_)
  refine wpAny_bind (m := asInt? (.ref x)) ?_
  unfold asInt?
  refine wpAny_bind (wpAny_load I.at_ ?_)
  rw [hp]
  refine wpAny_pure ?_
  refine wpAny_bind (wpAny_rule (wpAny_pure ⟨_, rfl, ?_⟩))
  exact wpAny_pure q
theorem decl_add {name : Str} (hn : name = PySem.dunder "add") : Declines name := by
  have e1 := F.slot_int_add
  rw [← hn] at e1
  have e2 := F.entry_int_add
  have e3 := F.args_int_add_2
  have e4 := Builtin.«int.__add__».eq_1
  generalize Builtin.«int.__add__» = b at e2 e4
  exact decl_of (id := "int.__add__") (b := b) (sym := "__add__") e1 e2 e4 e3
theorem decl_sub {name : Str} (hn : name = PySem.dunder "sub") : Declines name := by
  have e1 := F.slot_int_sub
  rw [← hn] at e1
  have e2 := F.entry_int_sub
  have e3 := F.args_int_sub_2
  have e4 := Builtin.«int.__sub__».eq_1
  generalize Builtin.«int.__sub__» = b at e2 e4
  exact decl_of (id := "int.__sub__") (b := b) (sym := "__sub__") e1 e2 e4 e3
theorem decl_mul {name : Str} (hn : name = PySem.dunder "mul") : Declines name := by
  have e1 := F.slot_int_mul
  rw [← hn] at e1
  have e2 := F.entry_int_mul
  have e3 := F.args_int_mul_2
  have e4 := Builtin.«int.__mul__».eq_1
  generalize Builtin.«int.__mul__» = b at e2 e4
  exact decl_of (id := "int.__mul__") (b := b) (sym := "__mul__") e1 e2 e4 e3
structure RefO (K : PySem.W.Frag) (C : Addr) (op : Operator) : Prop where
  d : ∃ g : Addr, PySem.W.findIn K (.ref C) (PySem.dunder op.info.2) = some (some (.ref g))
  i1 : ∃ fo, PySem.W.findIn K (.type "int") (PySem.dunder op.info.2) = some (some (.builtin fo)) ∧ isSeqSlotId fo = false
  i2 : ∃ ro, PySem.W.findIn K (.type "int") (dunderR op.info.2) = some ro
  sub : PySem.W.subIn K (.ref C) (.type "int") = some false
variable {X : Cx} {k j : Nat} {C : Addr} {sp : Sp}
def rIO (C : Addr) (sp : Sp) : R2 := fun x y H Q => ∃ a n, x = .int n ∧ y = .ref a ∧ IsI H C a ∧ sp [.ref a, .int n] H (RefQ Q) E0
theorem op_IO {op : Operator} (S : Sl X.prog X.w X.K X.mg X.base C (dunderR op.info.2) k sp) (O : RefO X.K C op) (D : Declines (PySem.dunder op.info.2)) (hr : Room j X.A) (hk : k ≤ j) (hc : PySem.W.selfFirst X.K C = true) : OpR X (binaryOp op) (rIO C sp) := by
  obtain ⟨f, fd, ps, F, hb, hs, hf⟩ := S.ex
  obtain ⟨g, hg⟩ := O.d
  obtain ⟨fo, h1, hq⟩ := O.i1
  obtain ⟨ro, h2⟩ := O.i2
  have hsub := O.sub
  intro pins s σ H x y v u Q I rx ry h
  obtain ⟨a, n, rfl, rfl, ⟨dx, fs, ha⟩, q⟩ := h
  cases ry
  obtain ⟨t, rfl⟩ := rx
  obtain ⟨mA, J, _⟩ := ins_get I.hok ha
  obtain ⟨od, J, _⟩ := J.look
  have rv : Vals [V.ref a, V.int n] [Value.ref a, Value.int n t] := .cons rfl (.cons ⟨t, rfl⟩ .nil)
  have h := wpAny_mono (run_fn F (hr.mono hk) hb I rv q (E := X.xe)) (fun _ _ z => back_ref z) fun _ _ z => z
  have XK := I.kIn
  obtain ⟨cd, rest, hcd, hm⟩ := ksp_first hc
  rcases hi : op.info with ⟨sym, nm'⟩
  rw [hi] at hs hg h1 h2 D
  dsimp only at hs hg h1 h2 D
  have one := ksp_try XK J hs hf h
  have dec : ∀ {Q : Option Value → Shared → Prop}, Q none s → wpAny (model X.prog X.w) X.A (tryMethod (.int n t) (PySem.dunder nm') (.ref a)) Q X.xe s := fun q => D _ _ _ _ _ _ _ _ _ _ _ _ J rfl q
  obtain ⟨hh, gg, d, tt, os⟩ := s
  have L1 : Looks (model X.prog X.w) hh (typeOf (.ref a)) (.ref C) := J.type
  have L2 : Looks (model X.prog X.w) hh (typeOf (.int n t)) (.type "int") := Looks.of_pure rfl
  have L3 : Looks (model X.prog X.w) hh (fillsNumberSlot (.ref C) nm') true := fills_K XK hcd hm hg
  have L4 : Looks (model X.prog X.w) hh (fillsNumberSlot (.type "int") nm') true := by
    have := ksp_fillsT (M := model X.prog X.w) XK h1 h2
    have e : ((some (Value.builtin fo)).isSome && !isSeqSlot (some (.builtin fo)) || (ro.isSome && !isSeqSlot ro)) = true := by
      show ((true && !isSeqSlotId fo) || _) = true
      rw [hq]
      rfl
    rw [e] at this
    exact this
  have L5 : Looks (model X.prog X.w) hh (isSubtype (.ref C) (.type "int")) false := looks_subIn XK hsub
  have L7 : Looks (model X.prog X.w) hh (numberSlotInPython (.type "int") nm') false := Looks.of_pure rfl
  have hne : (Value.type "int" == Value.ref C) = false := Bool.eq_false_iff.mpr fun q => by cases beq_iff_eq.mp q
  simp only [binaryOp, hi]
  refine wpAny_holding (wpAny_bind ?_)
  unfold binaryOp1
  refine wpAny_bind (L2.at (wpAny_bind (L1.at (wpAny_bind (L4.at ?_)))))
  simp only [hne, Bool.false_eq_true, if_false]
  ksp_lk
  refine dec ?_
  ksp_lk
  refine wpAny_mono one (fun r s' hr' => ?_) fun _ _ e => e
  obtain ⟨v, rfl, hq⟩ := hr'
  ksp_lk
  exact hq
end
end
end KG
end

/-! ## Rl -/
section
/-! repr of a list whose items have a repr of their own class. -/
namespace KG
open PySem PySem.Spec PyProof.Rows L2 Builtin Builtin.List

theorem Same.updN {H : Hp} {p : Addr} {o : HO} (h : H p = none) : Same H (upd H p o) := fun b u e => by
  rw [upd_ne (ne_of_none e h)]
  exact e

/-- somewhere below X's body, within a repr -/
structure At (X : Cx) (k : Nat) (A : Around) : Prop where
  fr : A.frames = X.A.frames
  rm : Room k A

theorem under_fr (A : Around) (args : Args) : (A.under (.builtin "list.__repr__.loop" args)).frames = A.frames := by
  first | rfl | simp [Around.under, Code.isFrame, Code.frames]
theorem under_hd (A : Around) (args : Args) : (A.under (.builtin "list.__repr__.loop" args)).handled = A.handled := by
  first | rfl | simp [Around.under]
theorem under_dp (A : Around) (args : Args) : (A.under (.builtin "list.__repr__.loop" args)).depth ≤ A.depth + 1 := by
  first | exact Nat.le_succ _ | exact Nat.le_refl _ | (simp [Around.under, Code.weight, Code.isCreation, Code.isGuard, Code.isCaller, Code.frames, Code.isFrame, guardIds] <;> omega)
theorem At.under {X : Cx} {k : Nat} {A : Around} (h : At X (k + 1) A) (args : Args) : At X k (A.under (.builtin "list.__repr__.loop" args)) := by
  refine ⟨(under_fr A args).trans h.fr, (under_hd A args).trans h.rm.hd, ?_, ?_⟩
  · have := under_dp A args
    have := h.rm.dp
    omega
  · have e := units_under_list_loop A args
    have := h.rm.un
    omega
theorem At.in1 {X : Cx} {k : Nat} {A : Around} (h : At X (k + 1) A) : At X k A.in1 := ⟨h.fr, h.rm.in1⟩

/-- the item's text is t: wherever it is asked, nothing tracked changes -/
def ItemR (X : Cx) (k : Nat) (pins : List (Addr × Obj)) (σ : L2.St) (H : Hp) (x : V) (t : Str) : Prop :=
  ∀ (base : Nat), base + t.length ≤ sizeLine → ∀ (A : Around) (E : Value → Shared → Prop) (s : Shared) (H' : Hp) (u : Value) (Q : Str → Shared → Prop), At X k A → Same H H' → Inv X pins σ H' s → RelV x u →
    (∀ s', Inv X pins σ H' s' → Q t s') → wpAny (model X.prog X.w) A (pyReprUnder base u) Q E s

theorem piled_two : ∀ ts : List Str, 2 * ts.length ≤ piled ts
  | [] => Nat.le_refl _
  | t :: ts => by
    have := piled_two ts
    rw [piled_cons, List.length_cons]
    omega
theorem vals_str : ∀ {ts : List Str} {its : List Value}, Vals (ts.map V.str) its → ∃ done, its = strValues done ∧ done.map (·.1) = ts
  | [], _, h => by
    cases h
    exact ⟨[], rfl, rfl⟩
  | t :: ts, _, .cons r rs => by
    obtain ⟨tk, rfl⟩ := r
    obtain ⟨d, rfl, e⟩ := vals_str rs
    exact ⟨(t, tk) :: d, rfl, by rw [List.map_cons, e]⟩

section
variable {X : Cx} {k : Nat} {pins : List (Addr × Obj)} {σ : L2.St} {H : Hp} {a P : Addr} {xs : List V} {ts : List Str} {A : Around} {R : Result → Shared → Prop}

theorem loopI (ha : H a = some (.lst xs)) (hP : H P = none) (hat : At X (k + 1) A) (hlen : ts.length = xs.length)
    (hT : ∀ (i : Nat) (x : V) (t : Str), xs[i]? = some x → ts[i]? = some t → ItemR X k pins σ H x t) {base : Nat}
    (hsz : base + (listText ts).length ≤ sizeLine)
    (hR : ∀ s' u, Inv X pins σ (upd H P (.lst (ts.map V.str))) s' → R (.ok (.ret (.str (listText ts) u))) s') :
    ∀ (m i : Nat) (s : Shared), xs.length - i = m → i ≤ xs.length → Inv X pins σ (upd H P (.lst ((ts.take i).map V.str))) s →
    codeAny (model X.prog X.w) A (.builtin "list.__repr__.loop" ⟨[.ref a, rawInt i, .ref P, rawInt ((base + piled (ts.take i) : Nat) : Int)], []⟩) R s := by
  have whole : (listText ts).length ≤ sizeLine := by omega
  have each : ∀ {t : Str}, t ∈ ts → t.length ≤ sizeLine := fun m => Nat.le_trans (listText_mem_le m) whole
  have pile : piled ts ≤ (listText ts).length := piled_le_listText ts
  have many : ts.length ≤ sizeLine := by
    have := piled_two ts
    omega
  have naP : a ≠ P := fun e => by
    rw [e, hP] at ha
    cases ha
  intro m
  induction m with
  | zero =>
    intro i s hk hi I
    have hin : i = xs.length := by omega
    obtain ⟨z, its, n, r, hl, e⟩ := I.lstM (l := a) (by rw [upd_ne naP]; exact ha)
    obtain ⟨z2, its2, n2, r2, hl2, e2⟩ := I.lstM (l := P) upd_same
    apply codeAny_builtin F.entry_list_repr_loop
    show wpAny _ _ («list.__repr__.loop» ⟨[.ref a, .int i 0, .ref P, .int _ 0], []⟩) _ _ s
    rw [repr_loop_tree]
    refine wpAny_bind (wpAny_listItems e rfl ?_)
    have hnone : its.toArray[(i : Int).toNat]? = none := by simp [hin, hl]
    simp only [hnone]
    unfold reprEnd
    refine wpAny_bind (wpAny_listItems e2 rfl ?_)
    have hall : ts.take i = ts := by rw [hin, ← hlen, List.take_length]
    rw [hall] at r2 I
    obtain ⟨done, ed, em⟩ := vals_str r2
    have e3 : its2.toArray.toList = strValues done := by rw [← ed]
    rw [e3, repr_fold]
    refine wpAny_bind (wpAny_pure ?_)
    rw [em]
    refine wpAny_bind (wpAny_mkStr (wpAny_pure ?_) whole)
    exact hR _ _ (I.tok _)
  | succ m ih =>
    intro i s hk hi I
    have hlt : i < xs.length := by omega
    have hlt2 : i < ts.length := by omega
    obtain ⟨z, its, n, r, hl, e⟩ := I.lstM (l := a) (by rw [upd_ne naP]; exact ha)
    have ht : ts[i]? = some ts[i] := List.getElem?_eq_getElem hlt2
    have hp1 := piled_take_succ ht
    have hp2 := piled_take_le ts (i + 1)
    obtain ⟨u, hu, ru⟩ := r.get (List.getElem?_eq_getElem hlt)
    have hrep := hT i xs[i] ts[i] (List.getElem?_eq_getElem hlt) ht
    apply codeAny_builtin F.entry_list_repr_loop
    show wpAny _ _ («list.__repr__.loop» ⟨[.ref a, .int i 0, .ref P, .int _ 0], []⟩) _ _ s
    rw [repr_loop_tree]
    refine wpAny_bind (wpAny_listItems e rfl ?_)
    have hsome : its.toArray[(i : Int).toNat]? = some u := by simp [hu]
    simp only [hsome]
    rw [Int.toNat_natCast]
    refine wpAny_bind (wpAny_holding (hrep (base + piled (ts.take i) + 1) (by omega) _ _ _ _ _ _ (hat.under _) (Same.updN hP) I ru fun s1 I1 => ?_))
    refine wpAny_bind (wpAny_mkStr ?_ (each (List.mem_of_getElem? ht)))
    refine wpAny_bind ?_
    show wpAny _ _ (updateSeq P _) _ _ _
    have I2 := I1.tok (s1.toks + 1)
    obtain ⟨z2, its2, n2, r2, hl2, e2⟩ := I2.lstM (l := P) upd_same
    refine wpAny_updateSeq e2 rfl (wpAny_pure ⟨F.quiet_list_repr_loop _, ?_⟩) (by rw [List.size_toArray]; omega)
    have e3 : ((i : Int) + 1) = ((i + 1 : Nat) : Int) := by omega
    have e4 : base + piled (ts.take i) + (ts[i].length + 2) = base + piled (ts.take (i + 1)) := by omega
    rw [e3, e4]
    have zn : ((ts.take (i + 1)).map V.str).length ≤ sizeLine := by
      rw [List.length_map, List.length_take]
      omega
    have et : (ts.take (i + 1)).map V.str = (ts.take i).map V.str ++ [V.str ts[i]] := by
      rw [List.take_succ, ht, List.map_append]
      rfl
    have rr : Vals ((ts.take (i + 1)).map V.str) (its2 ++ [.str ts[i] s1.toks]) := by
      rw [et]
      exact r2.append (.cons ⟨_, rfl⟩ .nil)
    have I3 := I2.lset (its' := its2 ++ [.str ts[i] s1.toks]) (f := fun b => b.push (.str ts[i] s1.toks)) (ys := (ts.take (i + 1)).map V.str) (t' := s1.toks + 1) upd_same e2 (by simp) rr zn
    refine ih (i + 1) _ (by omega) hlt ?_
    rw [upd_upd] at I3
    exact I3

/-- a text comes back, nothing tracked has changed -/
theorem itemG {C : Addr} {sp : Sp} {f : Addr} {fd : FuncData} {ps : List Str} {x : V} {t : Str} (F : FnOk X.prog X.w X.K X.mg X.base CX0 k f fd ps sp) (hb : Binds X.K fd ps [])
    (hs : PySem.W.findIn X.K (.ref C) "__repr__" = some (some (.ref f))) (hf : PySem.W.isFn X.K (.ref f) = true)
    (hx : ∃ b, x = .ref b ∧ IsI H C b ∧ ∀ H', Same H H' → sp [.ref b] H' (fun v H2 => v = .str t ∧ H2 = H') E0) : ItemR X k pins σ H x t := by
  obtain ⟨b, rfl, ⟨dx, fs, hi⟩, hq⟩ := hx
  intro base hz A E s H' u Q hat e I ru q
  cases ru
  obtain ⟨mA, J, _⟩ := ins_get I.hok (e _ _ hi)
  obtain ⟨od, J, _⟩ := J.look
  refine wpAny_pyReprUnder_ref (by omega) ?_
  unfold pyReprObjUnder pyReprObjBy
  refine wpAny_bind (wpAny_cRoomFor (by have := hat.rm.un; omega) ?_)
  refine wpAny_bind (wpAny_bind (J.type.here ((PySem.W.looks_findIn I.kIn hs).here ?_)))
  show wpAny _ _ (if (some (Value.ref f)).isNone = true then _ else _) _ _ _
  rw [if_neg (by simp)]
  refine wpAny_bind (m := callSpecialIfBoundBy? _ (.ref b) (Str.ofString "__repr__")) ?_
  simp only [callSpecialIfBoundBy?, bindSpecialIfBound?]
  refine wpAny_holding (wpAny_bind (wpAny_bind (wpAny_bind (J.type.here ((PySem.W.looks_findIn I.kIn hs).here ?_)))))
  have rv : Vals [V.ref b] [Value.ref b] := .cons rfl .nil
  have e0 : Env0 X.prog X.w X.K X.mg X.base A X.stack s H' := by
    have e := I.env0
    exact ⟨by rw [hat.fr]; exact e.frames, e.mod, e.bs, e.bsz, e.funs, e.frf, e.hok, e.bare⟩
  have hsp := hq H' e
  have hl := F.len _ _ _ _ hsp
  have bnd : BindsTo s fd ⟨[.ref b], []⟩ (ps.zip [.ref b]) := by
    have := hb s [.ref b] I.kIn (by simpa using hl)
    simpa using this
  have core : wpAny (model X.prog X.w) A (call (.ref f) ([.ref b] ++ [])) (fun v s' => ∃ tk, v = .str t tk ∧ Inv X pins σ H' s') E s := by
    refine wpAny_call (codeAny_mono (F.run A X.stack s H' ⟨[.ref b], []⟩ [.ref b] [.ref b] _ E0 hat.rm e0 bnd rv hsp) fun r s' hq => ?_)
    cases r with
    | error e => exact hq.elim
    | ok fl =>
      cases fl with
      | ret w =>
        obtain ⟨z, H2, I', rz, ez, eh⟩ := I.after hq
        subst ez
        subst eh
        obtain ⟨tk, rfl⟩ := rz
        exact ⟨tk, rfl, I'⟩
      | next => exact hq.elim
      | brk => exact hq.elim
      | cont => exact hq.elim
  have hru : reprUnder? (.ref f) = none := rfl
  refine wpAny_bind (wpAny_askSetting (wpAny_ite ?_))
  have fin : wpAny (model X.prog X.w) A (call (.ref f) ([.ref b] ++ []) >>= fun v => pure (some v)) (fun r s' => ∃ tk, r = some (.str t tk) ∧ Inv X pins σ H' s') E s := wpAny_bind (wpAny_mono core (fun v s' h' => by
    obtain ⟨tk, rfl, I'⟩ := h'
    exact wpAny_pure ⟨tk, rfl, I'⟩) fun _ _ h' => h')
  have out : ∀ {r : Option Value} {s' : Shared}, (∃ tk, r = some (.str t tk) ∧ Inv X pins σ H' s') → wpAny (model X.prog X.w) A (match r with
      | some r => (do if ← isInstance r (.type "str") then pure r else raiseError "TypeError" s!"__repr__ returned non-string (type {← typeNameOf r})")
      | none => unsupported "repr:special-get-raises") (fun v s' => ∃ x u, v = .str x u ∧ Q x s') E s' := by
    rintro r s' ⟨tk, rfl, I'⟩
    exact wpAny_bind (wpAny_isInstance (T := "str") (b := true) rfl isSubtype_str_str (wpAny_pure ⟨_, _, rfl, q _ I'⟩))
  split
  · refine wpAny_bind ((PySem.W.bind_fn I.kIn _ (beq_iff_eq.mp hf)).here (wpAny_pure ?_))
    exact wpAny_mono fin (fun r s' h => out h) fun _ _ h => h
  · refine wpAny_tryCatch (wpAny_bind ((PySem.W.bind_fn I.kIn _ (beq_iff_eq.mp hf)).here (wpAny_pure ?_)))
    exact wpAny_mono fin (fun r s' h => out h) fun _ _ h => h

/-- repr of a list of such -/
theorem call_reprL (hg : X.A.guards = some []) (hr : Room (k + 4) X.A) : CallR X (.builtin "repr") (fun ys H Q => ∃ (a : Addr) (x : V) (xs : List V) (ts : List Str), ys = [.ref a] ∧ H a = some (.lst (x :: xs)) ∧ ts.length = (x :: xs).length ∧
    (∀ (pins : List (Addr × Obj)) (σ : L2.St) (i : Nat) (y : V) (t : Str), (x :: xs)[i]? = some y → ts[i]? = some t → ItemR X k pins σ H y t) ∧ (listText ts).length ≤ sizeLine ∧ ∀ H', Same H H' → Q (.str (listText ts)) H') := by
  intro pins s σ H ys us Q I r h
  obtain ⟨a, x, xs, ts, rfl, ha, hlen, hT, hz, q⟩ := h
  obtain ⟨u, rfl, ru⟩ := vals1 r
  cases ru
  obtain ⟨z, its, n, r1, hl, e⟩ := I.lstM (l := a) ha
  obtain ⟨v, vs, rfl⟩ : ∃ v vs, its = v :: vs := by
    cases its with
    | nil => cases hl
    | cons v vs => exact ⟨v, vs, rfl⟩
  have hat : At X (k + 2) X.A.in1.in1 := ⟨rfl, hr.in1.in1⟩
  have hTy : s.TypeIs (.ref a) "list" := ⟨_, e, rfl⟩
  refine call_repr_slot (by have := hr.un; omega) hTy F.slot_list_repr.toG ?_
  refine wpAny_call (codeAny_call_builtin F.slot_list_repr.plain F.entry_list_repr (F.slot_list_repr.check _ _ _ _ _ _ _ _ hTy (F.args_list_repr_1 _) ?_))
  refine wpAny_list_repr_head (A := X.A.in1.in1) (g := []) hg (fun v rest kw hm => absurd hm List.not_mem_nil) e rfl ?_
  refine wpAny_bind (m := newList []) (wpAny_newObj_type ?_)
  refine wpAny_pure ⟨F.quiet_list_repr_loop _, ?_⟩
  have hP : H s.heap.objs.size = none := I.hok.fresh (Nat.le_refl _)
  have I1 := I.laid (a := s.heap.objs.size) (o := .lst []) (t' := s.toks) (h' := s.heap.push { cls := .type "list", data := .seq #[] }) (fun b o e => Heap.get?_push_of_some _ e) (Nat.le_refl _) ⟨Nat.zero_le _, [], 0, .nil, Heap.get?_push_size s.heap rfl⟩
  have h0 : (0 : Nat) = 0 + piled (ts.take 0) := by rfl
  refine loopI (X := X) (k := k) (pins := pins) (σ := σ) (H := H) (P := s.heap.objs.size) (base := 0) ha hP (A := X.A.in1) ⟨rfl, hr.in1.mono (by omega)⟩ hlen (hT pins σ) (by omega) (fun s' u I' => ?_) _ 0 _ rfl (Nat.zero_le _) I1
  exact ⟨_, _, rfl, .str _, _, I', ⟨_, rfl⟩, q _ (Same.updN hP)⟩
end
end KG
end

/-! ## Ma -/
section
/-! Fractions in lowest terms, as pairs. -/
namespace Cm
/-- by what both parts are divided -/
def lowBy (t b : Int) : Int := if b < 0 then -((Nat.gcd t.natAbs b.natAbs : Nat) : Int) else ((Nat.gcd t.natAbs b.natAbs : Nat) : Int)
theorem lowBy_ne {t b : Int} (h : b ≠ 0) : lowBy t b ≠ 0 := by
  have g : 0 < Nat.gcd t.natAbs b.natAbs := Nat.gcd_pos_of_pos_right _ (by omega)
  unfold lowBy
  split <;> omega
theorem lowBy_abs (t b : Int) : (lowBy t b).natAbs = Nat.gcd t.natAbs b.natAbs := by
  unfold lowBy
  split <;> omega
theorem lowBy_dvd (t b : Int) : lowBy t b ∣ t ∧ lowBy t b ∣ b := by
  have h1 : ((Nat.gcd t.natAbs b.natAbs : Nat) : Int) ∣ t := Int.gcd_dvd_left (a := t) (b := b)
  have h2 : ((Nat.gcd t.natAbs b.natAbs : Nat) : Int) ∣ b := Int.gcd_dvd_right (a := t) (b := b)
  unfold lowBy
  split
  · exact ⟨Int.neg_dvd.mpr h1, Int.neg_dvd.mpr h2⟩
  · exact ⟨h1, h2⟩
def low (t b : Int) : Int × Int := (t.fdiv (lowBy t b), b.fdiv (lowBy t b))
/-- in lowest terms -/
def Lw (p : Int × Int) : Prop := 0 < p.2 ∧ Nat.gcd p.1.natAbs p.2.natAbs = 1
theorem low_mul (t b : Int) : t = lowBy t b * (low t b).1 ∧ b = lowBy t b * (low t b).2 := by
  obtain ⟨h1, h2⟩ := lowBy_dvd t b
  refine ⟨?_, ?_⟩
  · show t = lowBy t b * t.fdiv (lowBy t b)
    rw [Int.fdiv_eq_ediv_of_dvd h1, Int.mul_ediv_cancel' h1]
  · show b = lowBy t b * b.fdiv (lowBy t b)
    rw [Int.fdiv_eq_ediv_of_dvd h2, Int.mul_ediv_cancel' h2]
theorem low_lw {t b : Int} (h : b ≠ 0) : Lw (low t b) := by
  obtain ⟨e1, e2⟩ := low_mul t b
  have hn := lowBy_ne (t := t) h
  have ha := lowBy_abs t b
  have hg : 0 < Nat.gcd t.natAbs b.natAbs := Nat.gcd_pos_of_pos_right _ (by omega)
  constructor
  · by_cases hp : 0 < (low t b).2
    · exact hp
    exfalso
    have hy : 0 ≤ -(low t b).2 := by omega
    by_cases hb : b < 0
    · have hgn : 0 ≤ -lowBy t b := by
        unfold lowBy
        rw [if_pos hb]
        omega
      have := Int.mul_nonneg hgn hy
      have e3 : -lowBy t b * -(low t b).2 = b := by rw [Int.neg_mul_neg]; exact e2.symm
      omega
    · have hgn : 0 ≤ lowBy t b := by
        unfold lowBy
        rw [if_neg hb]
        omega
      have := Int.mul_nonneg hgn hy
      have e3 : lowBy t b * -(low t b).2 = -b := by rw [Int.mul_neg, ← e2]
      omega
  · have n1 : t.natAbs = Nat.gcd t.natAbs b.natAbs * (low t b).1.natAbs := by
      conv => lhs; rw [e1]
      rw [Int.natAbs_mul, ha]
    have n2 : b.natAbs = Nat.gcd t.natAbs b.natAbs * (low t b).2.natAbs := by
      conv => lhs; rw [e2]
      rw [Int.natAbs_mul, ha]
    have c := Nat.coprime_div_gcd_div_gcd hg
    have d1 : t.natAbs / Nat.gcd t.natAbs b.natAbs = (low t b).1.natAbs := Nat.div_eq_of_eq_mul_right hg n1
    have d2 : b.natAbs / Nat.gcd t.natAbs b.natAbs = (low t b).2.natAbs := Nat.div_eq_of_eq_mul_right hg n2
    rw [d1, d2] at c
    exact c
theorem lw_eq {p q : Int × Int} (hp : Lw p) (hq : Lw q) (h : p.1 * q.2 = q.1 * p.2) : p = q := by
  have n : p.1.natAbs * q.2.natAbs = q.1.natAbs * p.2.natAbs := by rw [← Int.natAbs_mul, ← Int.natAbs_mul, h]
  have c1 : Nat.Coprime p.2.natAbs p.1.natAbs := (Nat.gcd_comm _ _).trans hp.2
  have c2 : Nat.Coprime q.2.natAbs q.1.natAbs := (Nat.gcd_comm _ _).trans hq.2
  have d1 : p.2.natAbs ∣ q.2.natAbs := c1.dvd_of_dvd_mul_left (n ▸ Nat.dvd_mul_left _ _)
  have d2 : q.2.natAbs ∣ p.2.natAbs := c2.dvd_of_dvd_mul_left (n ▸ Nat.dvd_mul_left _ _)
  have e := Nat.dvd_antisymm d1 d2
  have e2 : p.2 = q.2 := by
    have := hp.1
    have := hq.1
    omega
  rw [e2] at h
  have e1 : p.1 = q.1 := Int.eq_of_mul_eq_mul_right (by have := hq.1; omega) h
  exact Prod.ext e1 e2
theorem low_eq {a b c d : Int} (hb : b ≠ 0) (hd : d ≠ 0) (h : a * d = c * b) : low a b = low c d := by
  refine lw_eq (low_lw hb) (low_lw hd) ?_
  obtain ⟨e1, e2⟩ := low_mul a b
  obtain ⟨e3, e4⟩ := low_mul c d
  have hn := Int.mul_ne_zero (lowBy_ne (t := a) hb) (lowBy_ne (t := c) hd)
  generalize lowBy a b = g at *
  generalize lowBy c d = k at *
  generalize (low a b) = p at *
  generalize (low c d) = q at *
  refine Int.eq_of_mul_eq_mul_right hn ?_
  rw [e1, e2, e3, e4] at h
  grind
theorem low_id {p : Int × Int} (h : Lw p) : low p.1 p.2 = p := by
  have hn : p.2 ≠ 0 := by have := h.1; omega
  refine lw_eq (low_lw hn) h ?_
  obtain ⟨e1, e2⟩ := low_mul p.1 p.2
  have hg := lowBy_ne (t := p.1) hn
  generalize lowBy p.1 p.2 = g at *
  generalize (low p.1 p.2) = q at *
  refine Int.eq_of_mul_eq_mul_right hg ?_
  grind
theorem one_ne (n : Int) : ((n, 1) : Int × Int).2 ≠ 0 := show (1 : Int) ≠ 0 by decide
theorem one_ne' : (1 : Int) ≠ 0 := by decide
theorem lw_int (n : Int) : Lw (n, 1) := ⟨show (0 : Int) < 1 by decide, Nat.gcd_one_right _⟩
theorem low_int (n : Int) : low n 1 = (n, 1) := low_id (lw_int n)
theorem lw_neg {p : Int × Int} (h : Lw p) : Lw (-p.1, p.2) := ⟨h.1, by
  show Nat.gcd (-p.1).natAbs p.2.natAbs = 1
  rw [Int.natAbs_neg]
  exact h.2⟩

def sumP (p q : Int × Int) : Int × Int := low (p.1 * q.2 + q.1 * p.2) (p.2 * q.2)
def mulP (p q : Int × Int) : Int × Int := low (p.1 * q.1) (p.2 * q.2)
def negP (p : Int × Int) : Int × Int := low (-p.1) p.2
def divP (p q : Int × Int) : Int × Int := low (p.1 * q.2) (p.2 * q.1)
theorem neg_lw {p : Int × Int} (h : Lw p) : negP p = (-p.1, p.2) := low_id (lw_neg h)
theorem mul_ne {a b : Int} (h : a ≠ 0) (k : b ≠ 0) : a * b ≠ 0 := Int.mul_ne_zero h k
theorem Lw.ne {p : Int × Int} (h : Lw p) : p.2 ≠ 0 := by have := h.1; omega
theorem lw_sum {p q : Int × Int} (h : p.2 ≠ 0) (k : q.2 ≠ 0) : Lw (sumP p q) := low_lw (mul_ne h k)
theorem lw_mul {p q : Int × Int} (h : p.2 ≠ 0) (k : q.2 ≠ 0) : Lw (mulP p q) := low_lw (mul_ne h k)
theorem lw_div {p q : Int × Int} (h : p.2 ≠ 0) (k : q.1 ≠ 0) : Lw (divP p q) := low_lw (mul_ne h k)
theorem sum_comm (p q : Int × Int) : sumP p q = sumP q p := by
  unfold sumP
  congr 1 <;> grind
theorem mul_comm' (p q : Int × Int) : mulP p q = mulP q p := by
  unfold mulP
  congr 1 <;> grind
/-- a fraction not yet in lowest terms may be added -/
theorem sum_low {a b : Int} {q : Int × Int} (hb : b ≠ 0) (hq : q.2 ≠ 0) : sumP (low a b) q = low (a * q.2 + q.1 * b) (b * q.2) := by
  obtain ⟨e1, e2⟩ := low_mul a b
  have hl := (low_lw (t := a) hb).ne
  refine low_eq (mul_ne hl hq) (mul_ne hb hq) ?_
  generalize lowBy a b = g at *
  generalize (low a b) = p at *
  rw [e1, e2]
  grind
theorem low_mul_eq {a b c d : Int} (hb : b ≠ 0) (hd : d ≠ 0) (h : a * d = c * b) : low a b = low c d := low_eq hb hd h
/-- one + n + two, begun at 0 -/
theorem total3 {p q : Int × Int} (n : Int) (hp : Lw p) (hq : Lw q) : sumP (sumP (sumP (0, 1) p) (n, 1)) q = sumP (sumP p q) (n, 1) := by
  have h1 := hp.ne
  have h2 := hq.ne
  have a0 : sumP (0, 1) p = low (0 * p.2 + p.1 * 1) (1 * p.2) := rfl
  have n1 : (1 : Int) * p.2 ≠ 0 := by omega
  rw [a0, sum_low n1 (one_ne n), sum_low (mul_ne n1 (one_ne n)) h2]
  have a1 : sumP p q = low (p.1 * q.2 + q.1 * p.2) (p.2 * q.2) := rfl
  rw [a1, sum_low (mul_ne h1 h2) (one_ne n)]
  refine low_eq (mul_ne (mul_ne n1 (one_ne n)) h2) (mul_ne (mul_ne h1 h2) (one_ne n)) ?_
  grind
theorem total2 {p q : Int × Int} (hp : Lw p) (hq : Lw q) : sumP (sumP (0, 1) q) p = sumP p q := by
  have h1 := hp.ne
  have h2 := hq.ne
  have a0 : sumP (0, 1) q = low (0 * q.2 + q.1 * 1) (1 * q.2) := rfl
  have n1 : (1 : Int) * q.2 ≠ 0 := by omega
  rw [a0, sum_low n1 h1]
  refine low_eq (mul_ne n1 h1) (mul_ne h1 h2) ?_
  grind
theorem total1 (n : Int) : sumP (0, 1) (n, 1) = (n, 1) := by
  have a0 : sumP (0, 1) (n, 1) = low (0 * 1 + n * 1) (1 * 1) := rfl
  rw [a0]
  have : (0 * 1 + n * 1 : Int) = n := by omega
  rw [this]
  exact low_int n
theorem total4 {p : Int × Int} (n : Int) (hp : Lw p) : sumP (sumP (sumP (sumP (0, 1) (n, 1)) (n, 1)) p) (n, 1) = sumP p (3 * n, 1) := by
  have h1 := hp.ne
  rw [total1]
  have a0 : sumP (n, 1) (n, 1) = low (n * 1 + n * 1) (1 * 1) := rfl
  rw [a0, sum_low (by decide) h1, sum_low (mul_ne (by decide) h1) (one_ne n)]
  refine low_eq (mul_ne (mul_ne (by decide) h1) (one_ne n)) (mul_ne h1 (one_ne (3 * n))) ?_
  grind

/-! ### sizes -/
theorem fdiv_le {t g : Int} (h : g ∣ t) (hg : g ≠ 0) : (t.fdiv g).natAbs ≤ t.natAbs := by
  obtain ⟨c, rfl⟩ := h
  rw [Int.mul_fdiv_cancel_left _ hg, Int.natAbs_mul]
  exact Nat.le_mul_of_pos_left _ (by omega)
/-- the upper part below 2^k, the lower one at most 2^l and not 0 -/
def Bd (k l : Nat) (p : Int × Int) : Prop := p.1.natAbs < 2 ^ k ∧ p.2.natAbs ≤ 2 ^ l ∧ p.2 ≠ 0
theorem bd_low {a b : Int} {k l : Nat} (h : a.natAbs < 2 ^ k) (g : b.natAbs ≤ 2 ^ l) (n : b ≠ 0) : Bd k l (low a b) := by
  obtain ⟨h1, h2⟩ := lowBy_dvd a b
  have hn := lowBy_ne (t := a) n
  exact ⟨Nat.lt_of_le_of_lt (fdiv_le h1 hn) h, Nat.le_trans (fdiv_le h2 hn) g, (low_lw (t := a) n).ne⟩
theorem Bd.mono {k l k' l' : Nat} {p : Int × Int} (h : Bd k l p) (a : k ≤ k') (b : l ≤ l') : Bd k' l' p :=
  ⟨Nat.lt_of_lt_of_le h.1 (Nat.pow_le_pow_right (by decide) a), Nat.le_trans h.2.1 (Nat.pow_le_pow_right (by decide) b), h.2.2⟩
theorem abs_mul_le {a b : Int} {k l : Nat} (h : a.natAbs ≤ 2 ^ k) (g : b.natAbs ≤ 2 ^ l) : (a * b).natAbs ≤ 2 ^ (k + l) := by
  rw [Int.natAbs_mul, Nat.pow_add]
  exact Nat.mul_le_mul h g
theorem abs_mul_lt {a b : Int} {k l : Nat} (h : a.natAbs < 2 ^ k) (g : b.natAbs ≤ 2 ^ l) : (a * b).natAbs < 2 ^ (k + l) := by
  rw [Int.natAbs_mul, Nat.pow_add]
  have hp : 0 < 2 ^ l := Nat.pow_pos (by decide)
  exact Nat.lt_of_le_of_lt (Nat.mul_le_mul_left _ g) ((Nat.mul_lt_mul_right hp).mpr h)
theorem pow_le {a b : Nat} (h : a ≤ b) : 2 ^ a ≤ 2 ^ b := Nat.pow_le_pow_right (by decide) h
theorem abs_add_lt {a b : Int} {k l m : Nat} (h : a.natAbs < 2 ^ k) (g : b.natAbs < 2 ^ l) (h1 : k + 1 ≤ m) (h2 : l + 1 ≤ m) : (a + b).natAbs < 2 ^ m := by
  have e1 : 2 ^ k ≤ 2 ^ (m - 1) := pow_le (by omega)
  have e2 : 2 ^ l ≤ 2 ^ (m - 1) := pow_le (by omega)
  have e3 : 2 ^ m = 2 ^ (m - 1) + 2 ^ (m - 1) := by
    have : m = (m - 1) + 1 := by omega
    conv => lhs; rw [this, Nat.pow_succ]
    omega
  have := Int.natAbs_add_le a b
  omega
theorem bd_sum {k l k' l' m j : Nat} {p q : Int × Int} (h : Bd k l p) (g : Bd k' l' q) (h1 : k + l' + 1 ≤ m) (h2 : k' + l + 1 ≤ m) (h3 : l + l' ≤ j) : Bd m j (sumP p q) :=
  bd_low (abs_add_lt (abs_mul_lt h.1 g.2.1) (abs_mul_lt g.1 h.2.1) h1 h2) (Nat.le_trans (abs_mul_le h.2.1 g.2.1) (pow_le h3)) (mul_ne h.2.2 g.2.2)
theorem bd_mul {k l k' l' m j : Nat} {p q : Int × Int} (h : Bd k l p) (g : Bd k' l' q) (h1 : k + k' ≤ m) (h3 : l + l' ≤ j) : Bd m j (mulP p q) :=
  bd_low (Nat.lt_of_lt_of_le (abs_mul_lt h.1 (Nat.le_of_lt g.1)) (pow_le h1)) (Nat.le_trans (abs_mul_le h.2.1 g.2.1) (pow_le h3)) (mul_ne h.2.2 g.2.2)
theorem bd_div {k l k' l' m j : Nat} {p q : Int × Int} (h : Bd k l p) (g : Bd k' l' q) (n : q.1 ≠ 0) (h1 : k + l' ≤ m) (h3 : l + k' ≤ j) : Bd m j (divP p q) :=
  bd_low (Nat.lt_of_lt_of_le (abs_mul_lt h.1 g.2.1) (pow_le h1)) (Nat.le_trans (abs_mul_le h.2.1 (Nat.le_of_lt g.1)) (pow_le h3)) (mul_ne h.2.2 n)
theorem bd_neg {k l : Nat} {p : Int × Int} (h : Bd k l p) : Bd k l (negP p) := bd_low (by rw [Int.natAbs_neg]; exact h.1) h.2.1 h.2.2
theorem bd_int {k : Nat} {n : Int} (h : n.natAbs < 2 ^ k) : Bd k 0 (n, 1) := ⟨h, show (1 : Int).natAbs ≤ 2 ^ 0 by decide, one_ne n⟩
end Cm
end

/-! ## D11 -/
section
namespace Cm
open PySem PySem.Spec PyProof.Rows L2 KG

def top (i : Nat) : Stmt := PySem.Challenge.pw_calledmidway_k12_ratios_compared.main.body.getD i (.Pass ⟨0, 0, 0, 0⟩)
abbrev sJar : Stmt := top 21
abbrev sDip : Stmt := top 22
abbrev sChoice : Stmt := top 23
abbrev sInteger : Stmt := top 28
abbrev sParts : Stmt := top 29

/-- a jar of draws -/
def JarAt (H : Hp) (p : Addr) : Prop := ∃ c s : Int, H p = some (.lst [.int c, .int s]) ∧ 0 ≤ c ∧ 0 ≤ s ∧ s ≤ 2147483648
/-- all that was tracked, but the jar, is as it was -/
def Kp (p : Addr) (H H' : Hp) : Prop := ∀ b o, H b = some o → b ≠ p → H' b = some o
theorem Kp.refl (p : Addr) (H : Hp) : Kp p H H := fun _ _ h _ => h
theorem Kp.trans {p : Addr} {H H1 H2 : Hp} (a : Kp p H H1) (b : Kp p H1 H2) : Kp p H H2 := fun c o h n => b c o (a c o h n) n
theorem Kp.same {p : Addr} {H H1 : Hp} (a : Same H H1) : Kp p H H1 := fun c o h _ => a c o h
theorem JarAt.keep {H H' : Hp} {p : Addr} (j : JarAt H p) (k : Same H H') : JarAt H' p := by
  obtain ⟨c, s, e, r⟩ := j
  exact ⟨c, s, k _ _ e, r⟩
theorem Same.upd_new {H : Hp} {p : Addr} {o : HO} (h : H p = none) : Same H (upd H p o) := fun b u e => by
  rw [upd_ne (ne_of_none e h)]
  exact e

theorem Kp.free {p t : Addr} {H H' : Hp} (k : Kp p H H') (j : JarAt H' p) (h : H' t = none) : H t = none := by
  cases e : H t with
  | none => rfl
  | some o =>
    by_cases tp : t = p
    · subst tp
      obtain ⟨_, _, e2, _⟩ := j
      rw [h] at e2
      cases e2
    · rw [k _ _ e tp] at h
      cases h

structure Txt (mg : Str → Option Value) : Prop where
  len : mg "len" = none
  abs : mg "abs" = none
  max : mg "max" = none
  min : mg "min" = none
  int : mg "int" = none
  divmod : mg "divmod" = none
  range : mg "range" = none
  all : mg "all" = none

/-- a def that may be called by its name, every parameter given -/
structure Cl (P : Program) (w : World) (K : PySem.W.Frag) (mg : Str → Option Value) (base : Heap) (k : Nat) (x : Str) (ps : List Str) (sp : Sp) : Prop where
  ex : ∃ (f : Addr) (fd : FuncData), FnOk P w K mg base CX0 k f fd ps sp ∧ mg x = some (.ref f) ∧ PySem.W.keepIn K (.ref f) = true ∧ Binds K fd ps []
section
variable {X : Cx} {k j : Nat} {x : Str} {ps : List Str} {sp : Sp} {p pos : Pos} {e : Expr} {es : List Expr} {t : TA} {te : TE}
theorem pe_k (c : Cl X.prog X.w X.K X.mg X.base k x ps sp) (hr : Room j X.A) (hk : k ≤ j) (gl : Gl X x) (ha : PA X (e :: es) t)
    (hdb : (x == ("__debug__" : Str)) = false := by decide)
    (he : starEach (e :: es) X.env = (false, eval e X.env) :: starEach es X.env := by rfl)
    (hpl : (backTo pos (starEach es X.env)).any (·.1) = false := by rfl) :
    PE X (.Call (.Name x p) (e :: es) [] pos) (tK sp t) := by
  obtain ⟨f, fd, F, hm, hkp, hb⟩ := c.ex
  constructor
  intro pins s σ H Q I h
  refine (pe_call (p := p) F (hr.mono hk) gl hm hkp hb .nil pass0 ha hdb he hpl).run pins s σ H Q I ?_
  show t σ H fun vs H1 => sp (vs ++ []) H1 Q E0
  simp only [List.append_nil]
  exact h
/-- a word about a part's value: what follows is shown once, from Mid -/
def tMid (t : TE) : TE := fun σ H Q => ∃ Mid : V → Hp → Prop, t σ H Mid ∧ ∀ v H', Mid v H' → Q v H'
theorem pe_mid (h : PE X e te) : PE X e (tMid te) := by
  constructor
  rintro pins s σ H Q I ⟨Mid, hm, hu⟩
  refine thn (h.run pins s σ H Mid I hm) ?_
  rintro u s1 ⟨x, H1, I1, r, q⟩
  exact ⟨x, H1, I1, r, hu _ _ q⟩
end

def spJar (K : PySem.W.Frag) : Sp := fun vs H Q _ => ∃ (a : Addr) (ns : List Int) (k : Nat), vs = [.ref a, .int (k : Int)] ∧ SqL K H a (ns.map V.int) ∧ ns.length ≤ 63 ∧ k ≤ 63 ∧
  ∀ (H' : Hp) (p : Addr), Same H H' → H p = none → JarAt H' p → Q (.ref p) H'
theorem Kp.seq {K : PySem.W.Frag} {H H' : Hp} {p a : Addr} {xs : List V} (k : Kp p H H') (n : a ≠ p) (h : SqL K H a xs) : SqL K H' a xs := by
  rcases h with (h | ⟨o, h⟩) | h
  · exact .inl (.inl (k _ _ h n))
  · exact .inl (.inr ⟨o, k _ _ h n⟩)
  · exact .inr h
/-- a list or a text to choose from, apart from the jar -/
def spChoice (K : PySem.W.Frag) : Sp := fun vs H Q _ => ∃ (p : Addr) (x : V), vs = [.ref p, x] ∧ JarAt H p ∧
  ((∃ (a : Addr) (xs : List V), x = .ref a ∧ a ≠ p ∧ SqL K H a xs ∧ 0 < xs.length ∧ xs.length < 1000 ∧
      ∀ (H' : Hp) (j : Nat) (v : V), JarAt H' p → Kp p H H' → xs[j]? = some v → Q v H') ∨
   (∃ z : Str, x = .str z ∧ 0 < z.length ∧ z.length < 1000 ∧ ∀ (H' : Hp) (c : Nat), JarAt H' p → Kp p H H' → c ∈ z.cps.toList → Q (.str ⟨#[c]⟩) H'))
def spInteger : Sp := fun vs H Q _ => ∃ (p : Addr), vs = [.ref p] ∧ JarAt H p ∧
  ∀ (H' : Hp) (n : Int), JarAt H' p → Kp p H H' → n.natAbs < 2 ^ 100 → Q (.int n) H'
def spParts : Sp := fun vs H Q _ => ∃ (p : Addr), vs = [.ref p] ∧ JarAt H p ∧
  ∀ (H' : Hp) (t : Addr) (n m : Int), JarAt H' p → Kp p H H' → H t = none → H' t = some (.tup [.int n, .int m]) → n.natAbs < 2 ^ 100 → m.natAbs < 2 ^ 100 → m ≠ 0 → Q (.ref t) H'
def spDip : Sp := fun vs H Q _ => ∃ (p : Addr) (m : Int), vs = [.ref p, .int m] ∧ JarAt H p ∧ 0 < m ∧ m < 2 ^ 200 ∧
  ∀ (H' : Hp) (r : Int), JarAt H' p → Kp p H H' → 0 ≤ r → r < m → Q (.int r) H'

/-- the end of the jar's def -/
theorem jar_tail {H : Hp} {Q : VK} {a : Addr} {k : Nat} {z : Int} (hz : 0 ≤ z) (hk : k ≤ 63)
    (q : ∀ (H' : Hp) (p : Addr), Same H H' → H p = none → JarAt H' p → Q (V.ref p) H') :
    tRet (tLst (tCons
        (tCB (fun xs H Q => ∃ i j, xs = [V.int i, V.int j] ∧ Q (V.int (if j > i then j else i)) H)
          (tCons (tC (V.int 0)) (tCons (tOp (rI0 fun i j => V.int (i - j)) (tVar 2) (tOp (rI CPow fun i j => V.int (i ^ j.toNat)) (tC (V.int 10)) (tC (V.int 18)))) tNil)))
        (tCons (tOp (rI0 fun i j => V.int (i + j)) (tOp (rI (fun x j => 0 < j) fun i j => V.int (i % j))
          (tCB (fun xs H Q => (∃ i, xs = [V.int i] ∧ Q (V.int i) H) ∨ ∃ k, xs = [V.bl k] ∧ Q (V.int (if k = true then 1 else 0)) H)
            (tCons (tOp (rI0 fun i j => V.int (i + j)) (tOp (rI0 fun i j => V.int (i + j))
              (tOp (rI CMul fun i j => V.int (i * j)) (tOp (rI (fun x j => 0 < j) fun i j => V.int (i % j))
                (tCB (fun xs H Q => (∃ i, xs = [V.int i] ∧ Q (V.int i) H) ∨ ∃ k, xs = [V.bl k] ∧ Q (V.int (if k = true then 1 else 0)) H) (tCons (tVar 2) tNil)) (tC (V.int 2147483489))) (tC (V.int 40699)))
              (tOp (rI CMul fun i j => V.int (i * j)) (tC (V.int 52711)) (tVar 1))) (tC (V.int 17))) tNil)) (tC (V.int 2147483423))) (tC (V.int 1))) tNil)))
      { nx := fun _ H' => Q V.non H', rt := Q } [some (.ref a), some (.int (k : Int)), some (.int z)] H := by
  refine ⟨_, rfl, _, _, rfl, rfl, ⟨by decide, by decide, by decide⟩, _, _, rfl, rfl, _, _, rfl, ?_⟩
  refine ⟨_, rfl, .inl ⟨_, rfl, _, _, rfl, rfl, (by show (0 : Int) < 2147483489; decide), _, _, rfl, rfl, .inr ⟨by decide, by decide⟩, _, rfl, _, _, rfl, rfl, .inl ⟨by decide, by decide⟩, _, _, rfl, rfl, _, _, rfl, rfl, .inl ⟨_, rfl, _, _, rfl, rfl, (by show (0 : Int) < 2147483423; decide), _, _, rfl, rfl, ?_⟩⟩⟩
  refine ⟨(by show 2 ≤ sizeLine; decide), fun p hp => ?_⟩
  refine q _ p (Same.upd_new hp) hp ⟨_, _, upd_same, ?_, ?_, ?_⟩
  · split <;> omega
  · have := Int.emod_nonneg (((z % 2147483489 * 40699 + 52711 * (k : Int)) + 17)) (show (2147483423 : Int) ≠ 0 by decide)
    omega
  · have := Int.emod_lt_of_pos (((z % 2147483489 * 40699 + 52711 * (k : Int)) + 17)) (show (0 : Int) < 2147483423 by decide)
    omega

section
variable {P : Program} {w : World} {K : PySem.W.Frag} {mg : Str → Option Value} {base : Heap}

theorem scJar : FnScope ["_law_script", "_law_k", "_law_cell"] ["_law_script", "_law_k"] (defScope sJar) := ⟨rfl, rfl, rfl, by decide +kernel, rfl, by decide +kernel, by decide +kernel⟩
theorem ok_jar {f : Addr} {fd : FuncData} (F : Fun K "_law_jar" "_law_jar" sJar f fd) (T : Txt mg) : FnOk P w K mg base CX0 1 f fd ["_law_script", "_law_k"] (spJar K) := by
  refine F.ok scJar (fun vs H Q E h => ?_) (fun cdv A outer s H vs Q E hr h => ?_)
  · obtain ⟨a, ns, k, rfl, _⟩ := h
    rfl
  · obtain ⟨a, ns, k, rfl, hS, hlen, hk, q⟩ := h
    refine ⟨_, pss_cons (ps_set (i := 2) scJar.nd rfl (Or.inl rfl)
        (pe_ifExp (pt_cmpR op_lt (pv 1) (pe_callB call_len (by rfl) T.len PySem.boot_len (pa_cons (pv 0) pa_nil)) (nomark _))
          (pe_callB call_abs (by rfl) T.abs (by decide +kernel) (pa_cons (pe_ix ix_list (pv 0) (pv 1) (fun _ _ => rfl)) pa_nil))
          (pe_op op_add (pe_op op_mul pe_int (pv 1)) pe_int)))
      (pss_one (ps_ret (pe_lst (pa_cons
          (pe_callB (call_max2 rfl) (by rfl) T.max (by decide +kernel) (pa_cons pe_int (pa_cons (pe_op op_sub (pv 2) (pe_op op_pow pe_int pe_int)) pa_nil)))
        (pa_cons (pe_op op_add (pe_op op_mod (pe_callTy call_int1 (by rfl) T.int (by decide +kernel) (pa_cons
            (pe_op op_add (pe_op op_add (pe_op op_mul (pe_op op_mod (pe_callTy call_int1 (by rfl) T.int (by decide +kernel) (pa_cons (pv 2) pa_nil)) pe_int) pe_int) (pe_op op_mul pe_int (pv 1))) pe_int) pa_nil)) pe_int) pe_int) pa_nil))))), ?_⟩
    refine ⟨_, rfl, _, rfl, _, _, rfl, .inl ⟨_, hS, rfl⟩, _, _, rfl, rfl, _, rfl, ?_⟩
    refine ite2 (fun c => ?_) (fun c => ?_)
    · have c1 : k < ns.length := by
        have c2 := of_decide_eq_true c
        rw [List.length_map] at c2
        omega
      refine ⟨_, rfl, _, rfl, a, _, _, V.int ns[k], rfl, rfl, hS, atI_nat (by rw [List.getElem?_map, List.getElem?_eq_getElem c1]; rfl), _, rfl, ?_⟩
      refine jar_tail (z := if ns[k] < 0 then -ns[k] else ns[k]) (by split <;> omega) hk q
    · refine ⟨_, rfl, _, _, rfl, rfl, .inl ⟨by decide, by decide⟩, _, _, rfl, rfl, ?_⟩
      refine jar_tail (z := 23 * (k : Int) + 9) (by omega) hk q

theorem scDip : FnScope ["_law_jar_here", "_law_many", "_law_digit"] ["_law_jar_here", "_law_many"] (defScope sDip) := ⟨rfl, rfl, rfl, by decide +kernel, rfl, by decide +kernel, by decide +kernel⟩
theorem divp_of {i j : Int} (h : 0 < j) (hb : j < 2 ^ 200) : CDivP i j := by
  refine ⟨h, PyProof.noPylong_of_log2 ?_⟩
  have h1 : j.natAbs < 2 ^ 200 := by omega
  have := PySem.Flt.log2_lt_of (show 0 < 200 by decide) h1
  omega
theorem ok_dip {f : Addr} {fd : FuncData} (F : Fun K "_law_dip" "_law_dip" sDip f fd) (T : Txt mg) : FnOk P w K mg base CX0 1 f fd ["_law_jar_here", "_law_many"] spDip := by
  refine F.ok scDip (fun vs H Q E h => ?_) (fun cdv A outer s H vs Q E hr h => ?_)
  · obtain ⟨p, m, rfl, _⟩ := h
    rfl
  · obtain ⟨p, m, rfl, ⟨c, z, hp, hc0, hz0, hz1⟩, hm, hm2, q⟩ := h
    refine ⟨_, pss_cons (ps_if (pt_cmpR op_gt (pe_ix ix_list (pv 0) pe_int (fun _ _ => rfl)) pe_int (nomark _))
        (pss_cons (ps_asg (pe_callB call_divmodW (by rfl) T.divmod (by decide +kernel) (pa_cons (pe_ix ix_list (pv 0) pe_int (fun _ _ => rfl)) (pa_cons (pv 1) pa_nil)))
            (pg_tup rfl (pgs_cons (pg_sub (pv 0) pe_int set_list) (pgs_cons (pg_name (i := 2) scDip.nd rfl (Or.inl rfl)) pgs_nil))))
          (pss_one (ps_ret (pv 2)))) pss_nil)
      (pss_cons (ps_asg (pe_op op_mod (pe_callTy call_int1 (by rfl) T.int (by decide +kernel) (pa_cons
            (pe_op op_add (pe_op op_mul (pe_ix ix_list (pv 0) pe_int (fun _ _ => rfl)) pe_int) pe_int) pa_nil)) pe_int) (pg_sub (pv 0) pe_int set_list))
        (pss_one (ps_ret (pe_op op_mod (pe_callTy call_int1 (by rfl) T.int (by decide +kernel) (pa_cons (pe_op op_fdiv (pe_op op_mod
            (pe_callTy call_int1 (by rfl) T.int (by decide +kernel) (pa_cons (pe_op op_mul (pe_ix ix_list (pv 0) pe_int (fun _ _ => rfl)) (pe_ix ix_list (pv 0) pe_int (fun _ _ => rfl))) pa_nil)) pe_int) pe_int) pa_nil)) (pv 1))))), ?_⟩
    refine ⟨_, rfl, p, _, _, _, rfl, rfl, SqL.of hp, rfl, _, _, rfl, rfl, _, rfl, ?_⟩
    refine ite2 (fun h1 => ?_) (fun h1 => ?_)
    · have h2 : 0 < c := of_decide_eq_true h1
      refine ⟨_, rfl, p, _, _, _, rfl, rfl, SqL.of hp, rfl, _, rfl, _, _, rfl, divp_of hm hm2, fun d hd => ?_⟩
      have np : p ≠ d := ne_of_none hp hd
      refine ⟨d, _, rfl, SqT.of upd_same, rfl, _, _, rfl, _, rfl, p, _, _, 0, rfl, rfl, (by rw [upd_ne np]; exact hp), rfl, _, _, rfl, rfl, ?_⟩
      refine ⟨_, rfl, q _ _ ⟨_, _, upd_same, Int.ediv_nonneg hc0 (by omega), hz0, hz1⟩ (fun b o e hb => ?_) (Int.emod_nonneg _ (by omega)) (Int.emod_lt_of_pos _ hm)⟩
      rw [upd_ne hb, upd_ne (ne_of_none e hd)]
      exact e
    · refine ⟨_, rfl, p, _, _, _, rfl, rfl, SqL.of hp, rfl, _, _, rfl, rfl, .inr ⟨by decide, by decide⟩, _, _, rfl, rfl, .inl ⟨_, rfl, _, _, rfl, rfl, (by show (0 : Int) < 2147483563; decide), ?_⟩⟩
      refine ⟨_, rfl, p, _, _, 1, rfl, rfl, hp, rfl, ?_⟩
      have g0 := Int.emod_nonneg (z * 44497 + 27011) (show (2147483563 : Int) ≠ 0 by decide)
      have g1 := Int.emod_lt_of_pos (z * 44497 + 27011) (show (0 : Int) < 2147483563 by decide)
      refine ⟨_, rfl, p, _, _, _, rfl, rfl, SqL.of upd_same, rfl, _, rfl, p, _, _, _, rfl, rfl, SqL.of upd_same, rfl, _, _, rfl, rfl, .inl ⟨by omega, by omega⟩, .inl ⟨_, rfl, _, _, rfl, rfl, (by show (0 : Int) < 2147483497; decide), _, _, rfl, rfl, ⟨by decide, by decide⟩, .inl ⟨_, rfl, _, rfl, _, _, rfl, rfl, hm, ?_⟩⟩⟩
      refine q _ _ ⟨_, _, upd_same, hc0, g0, by omega⟩ (fun b o e hb => by rw [upd_ne hb]; exact e) (Int.emod_nonneg _ (by omega)) (Int.emod_lt_of_pos _ hm)

theorem scChoice : FnScope ["_law_jar_here", "_law_some"] ["_law_jar_here", "_law_some"] (defScope sChoice) := ⟨rfl, rfl, rfl, by decide +kernel, rfl, by decide +kernel, by decide +kernel⟩
theorem ok_choice {f : Addr} {fd : FuncData} (F : Fun K "_law_choice" "_law_choice" sChoice f fd) (T : Txt mg) (cD : Cl P w K mg base 1 "_law_dip" ["_law_jar_here", "_law_many"] spDip) : FnOk P w K mg base CX0 2 f fd ["_law_jar_here", "_law_some"] (spChoice K) := by
  refine F.ok scChoice (fun vs H Q E h => ?_) (fun cdv A outer s H vs Q E hr h => ?_)
  · obtain ⟨p, x, rfl, _⟩ := h
    rfl
  · obtain ⟨p, x, rfl, J, h⟩ := h
    refine ⟨_, pss_one (ps_ret (pe_ix ix_seq (pv 1) (pe_k cD hr (Nat.le_refl _) rfl (pa_cons (pv 0) (pa_cons (pe_callB call_len (by rfl) T.len PySem.boot_len (pa_cons (pv 1) pa_nil)) pa_nil))) (fun _ _ => rfl))), ?_⟩
    rcases h with ⟨a, xs, rfl, na, hS, h0, h1, q⟩ | ⟨z, rfl, h0, h1, q⟩
    · refine ⟨_, rfl, _, rfl, _, rfl, _, _, rfl, .inl ⟨_, hS, rfl⟩, p, _, rfl, J, by omega, by omega, fun H' r J' k r0 r1 => ?_⟩
      obtain ⟨j, rfl⟩ : ∃ j : Nat, r = (j : Int) := ⟨r.toNat, by omega⟩
      have hj : j < xs.length := by omega
      exact .inl ⟨a, xs, _, xs[j], rfl, rfl, k.seq na hS, atI_nat (List.getElem?_eq_getElem hj), q H' j _ J' k (List.getElem?_eq_getElem hj)⟩
    · have hz : z.length ≤ sizeLine := Nat.le_trans (Nat.le_of_lt h1) (by decide)
      refine ⟨_, rfl, _, rfl, _, rfl, _, _, rfl, ⟨hz, rfl⟩, p, _, rfl, J, by omega, by omega, fun H' r J' k r0 r1 => ?_⟩
      obtain ⟨j, rfl⟩ : ∃ j : Nat, r = (j : Int) := ⟨r.toNat, by omega⟩
      have hj : j < z.cps.toList.length := by
        have : z.cps.toList.length = z.length := by simp [Str.length]
        omega
      exact .inr (.inr ⟨z, _, z.cps.toList[j], rfl, rfl, hz, atI_nat (List.getElem?_eq_getElem hj), q H' _ J' k (List.getElem_mem hj)⟩)

theorem scInteger : FnScope ["_law_jar_here", "_law_size", "_law_found"] ["_law_jar_here"] (defScope sInteger) := ⟨rfl, rfl, rfl, by decide +kernel, rfl, by decide +kernel, by decide +kernel⟩
theorem ok_integer {f : Addr} {fd : FuncData} (F : Fun K "_law_integer" "_law_integer" sInteger f fd) (T : Txt mg) (cD : Cl P w K mg base 1 "_law_dip" ["_law_jar_here", "_law_many"] spDip)
    (cC : Cl P w K mg base 2 "_law_choice" ["_law_jar_here", "_law_some"] (spChoice K)) : FnOk P w K mg base CX0 3 f fd ["_law_jar_here"] spInteger := by
  refine F.ok scInteger (fun vs H Q E h => ?_) (fun cdv A outer s H vs Q E hr h => ?_)
  · obtain ⟨p, rfl, _⟩ := h
    rfl
  · obtain ⟨p, rfl, J, q⟩ := h
    have hr1 : Room 1 _ := hr.mono (by decide)
    refine ⟨_, pss_cons (ps_set (i := 1) scInteger.nd rfl (Or.inl rfl) (pe_k cC hr (Nat.le_refl _) rfl (pa_cons (pv 0) (pa_cons (pe_lst (pa_cons pe_int (pa_cons pe_int (pa_cons pe_int (pa_cons pe_int
          (pa_cons (pe_op op_pow pe_int pe_int) (pa_cons (pe_op op_pow pe_int pe_int) (pa_cons (pe_op op_pow pe_int pe_int) pa_nil)))))))) pa_nil))))
      (pss_cons (ps_set (i := 2) scInteger.nd rfl (Or.inl rfl) (pe_k cD hr1 (Nat.le_refl _) rfl (pa_cons (pv 0) (pa_cons (pv 1) pa_nil))))
      (C8.pss_cut (ps_if (PW.pt (pw_and (pt_cmpR op_eq (pv 1) (pe_op op_pow pe_int pe_int) (nomark _)) (pw_and1 (pt_cmpR op_lt (pv 2) (pe_op op_pow pe_int pe_int) (nomark _)))))
          (pss_one (ps_set (i := 2) scInteger.nd rfl (Or.inl rfl) (pe_op op_add (pe_op op_add (pe_op op_mul (pv 2) (pe_op op_pow pe_int pe_int))
            (pe_op op_mul (pe_k cD hr1 (Nat.le_refl _) rfl (pa_cons (pv 0) (pa_cons (pe_op op_pow pe_int pe_int) pa_nil))) (pe_op op_pow pe_int pe_int)))
            (pe_k cD hr1 (Nat.le_refl _) rfl (pa_cons (pv 0) (pa_cons (pe_op op_pow pe_int pe_int) pa_nil)))))) pss_nil)
      (pss_one (ps_ret (pe_ifExp (pt_cmpR op_eq (pe_k cD hr1 (Nat.le_refl _) rfl (pa_cons (pv 0) (pa_cons pe_int pa_nil))) pe_int (nomark _)) (pe_un un_neg (pv 2)) (pv 2)))))), ?_⟩
    have e9 : (10 : Int) ^ (9 : Int).toNat = 1000000000 := by decide
    have e10 : (10 : Int) ^ (10 : Int).toNat = 10000000000 := by decide
    have e19 : (10 : Int) ^ (19 : Int).toNat = 10000000000000000000 := by decide
    have cp : ∀ j : Int, 0 ≤ j → j ≤ 1000 → CPow 10 j := fun j h0 h1 => ⟨h0, by omega, by decide⟩
    refine ⟨_, rfl, _, _, rfl, rfl, cp _ (by decide) (by decide), _, _, rfl, rfl, cp _ (by decide) (by decide), _, _, rfl, rfl, cp _ (by decide) (by decide), (by show 7 ≤ sizeLine; decide), fun l hl => ?_⟩
    have s0 : ∀ o, Same H (upd H l o) := fun _ => Same.upd_new hl
    have nlp : l ≠ p := by
      obtain ⟨c, z, e, _⟩ := J
      exact (ne_of_none e hl).symm
    refine ⟨p, _, rfl, J.keep (s0 _), .inl ⟨l, _, rfl, nlp, SqL.of upd_same, (by decide), (by decide), fun H1 j v J1 k1 hv => ?_⟩⟩
    obtain ⟨m, rfl, m0, m1⟩ : ∃ m : Int, v = V.int m ∧ 0 < m ∧ m ≤ 100000000000000000000000000000 := by
      have hm := List.mem_of_getElem? hv
      simp only [List.mem_cons, List.not_mem_nil, or_false] at hm
      rcases hm with rfl | rfl | rfl | rfl | rfl | rfl | rfl <;> exact ⟨_, rfl, by decide, by decide⟩
    refine ⟨_, rfl, _, rfl, p, _, rfl, J1, m0, by omega, fun H2 r J2 k2 r0 r1 => ?_⟩
    have k02 : Kp p H H2 := ((Kp.same (s0 _)).trans k1).trans k2
    refine ⟨fun σ H' => ∃ n : Int, σ = [some (.ref p), some (.int m), some (.int n)] ∧ JarAt H' p ∧ Kp p H H' ∧ n.natAbs < 2 ^ 100, ?_, ?_⟩
    · have base : ∃ n : Int, [some (V.ref p), some (V.int m), some (V.int r)] = [some (.ref p), some (.int m), some (.int n)] ∧ JarAt H2 p ∧ Kp p H H2 ∧ n.natAbs < 2 ^ 100 := ⟨r, rfl, J2, k02, by omega⟩
      refine ⟨_, rfl, _, _, rfl, rfl, cp _ (by decide) (by decide), rfl, _, rfl, ?_⟩
      refine ite2 (fun _ => ?_) (fun _ => iteF base)
      refine ⟨_, rfl, _, _, rfl, rfl, cp _ (by decide) (by decide), _, _, rfl, rfl, _, rfl, ?_⟩
      refine ite2 (fun h1 => ?_) (fun _ => base)
      have h2 : r < 10 ^ (10 : Int).toNat := of_decide_eq_true h1
      rw [e10] at h2
      refine ⟨_, rfl, _, _, rfl, rfl, cp _ (by decide) (by decide), _, _, rfl, rfl, .inl ⟨by omega, by omega⟩, _, rfl, _, _, rfl, rfl, cp _ (by decide) (by decide), p, _, rfl, J2, (by decide), (by decide), fun H3 r3 J3 k3 a3 b3 => ?_⟩
      rw [e10] at b3
      refine ⟨_, _, rfl, rfl, cp _ (by decide) (by decide), _, _, rfl, rfl, .inl ⟨by omega, by omega⟩, _, _, rfl, rfl, _, rfl, _, _, rfl, rfl, cp _ (by decide) (by decide), p, _, rfl, J3, (by decide), (by decide), fun H4 r4 J4 k4 a4 b4 => ?_⟩
      rw [e9] at b4
      refine ⟨_, _, rfl, rfl, _, rfl, J4, (k02.trans k3).trans k4, ?_⟩
      rw [e19, e9]
      omega
    · rintro σ H5 ⟨n, rfl, J5, k5, hn⟩
      refine ⟨_, rfl, p, _, rfl, J5, (by decide), (by decide), fun H6 r6 J6 k6 a6 b6 => ?_⟩
      refine ⟨rfl, _, rfl, ?_⟩
      refine ite2 (fun _ => ?_) (fun _ => ?_)
      · exact ⟨_, rfl, _, rfl, q _ _ J6 (k5.trans k6) (by omega)⟩
      · exact ⟨_, rfl, q _ _ J6 (k5.trans k6) hn⟩

theorem scParts : FnScope ["_law_jar_here", "_law_up", "_law_low"] ["_law_jar_here"] (defScope sParts) := ⟨rfl, rfl, rfl, by decide +kernel, rfl, by decide +kernel, by decide +kernel⟩
theorem ok_parts {f : Addr} {fd : FuncData} (F : Fun K "_law_parts" "_law_parts" sParts f fd) (cI : Cl P w K mg base 3 "_law_integer" ["_law_jar_here"] spInteger) : FnOk P w K mg base CX0 4 f fd ["_law_jar_here"] spParts := by
  refine F.ok scParts (fun vs H Q E h => ?_) (fun cdv A outer s H vs Q E hr h => ?_)
  · obtain ⟨p, rfl, _⟩ := h
    rfl
  · obtain ⟨p, rfl, J, q⟩ := h
    refine ⟨_, pss_cons (ps_par (i := 1) (j := 2) (by rfl) scParts.nd rfl rfl (by decide) rfl rfl (pa_cons (pe_k cI hr (Nat.le_refl _) rfl (pa_cons (pv 0) pa_nil)) (pa_cons (pe_k cI hr (Nat.le_refl _) rfl (pa_cons (pv 0) pa_nil)) pa_nil)) (by rfl))
      (pss_one (ps_ret (pe_tup (pa_cons (pv 1) (pa_cons (pe_ifExp (pt_cmpR op_ne (pv 2) pe_int (nomark _)) (pv 2) pe_int) pa_nil))))), ?_⟩
    refine ⟨_, rfl, p, rfl, J, fun H1 n J1 k1 hn => ?_⟩
    refine ⟨_, rfl, p, rfl, J1, fun H2 m J2 k2 hm => ?_⟩
    have k02 := k1.trans k2
    refine ⟨_, _, rfl, _, rfl, _, rfl, rfl, _, rfl, ?_⟩
    have fin : ∀ m' : Int, m'.natAbs < 2 ^ 100 → m' ≠ 0 → ∀ t, H2 t = none → Q (.ref t) (upd H2 t (.tup [.int n, .int m'])) := fun m' h1 h2 t ht => by
      exact q _ t n m' (J2.keep (Same.upd_new ht)) (k02.trans (Kp.same (Same.upd_new ht))) (k02.free J2 ht) upd_same hn h1 h2
    refine ite2 (fun hc => ?_) (fun hc => ?_)
    · have hm0 : m ≠ 0 := fun z => by
        subst z
        exact absurd hc (by decide)
      exact ⟨_, rfl, (by show 2 ≤ sizeLine; decide), fun t ht => fin m hm hm0 t ht⟩
    · exact ⟨(by show 2 ≤ sizeLine; decide), fun t ht => fin 1 (by decide) (by decide) t ht⟩
end
end Cm
end

/-! ## N11 -/
section
namespace Cm
open PySem PySem.Spec PyProof.Rows L2 KG

abbrev sIsInt : Stmt := top 11
abbrev sAsRatio : Stmt := top 14

/-- a def that may be called by its name with its parameters' names, too -/
structure ClK (P : Program) (w : World) (K : PySem.W.Frag) (mg : Str → Option Value) (base : Heap) (k : Nat) (x : Str) (ps : List Str) (sp : Sp) : Prop where
  ex : ∃ (f : Addr) (fd : FuncData), FnOk P w K mg base CX0 k f fd ps sp ∧ mg x = some (.ref f) ∧ PySem.W.keepIn K (.ref f) = true ∧ Binds K fd ps [] ∧
    ∀ (s : Shared) (ws : List Value), ws.length = ps.length → BindsTo s fd ⟨[], ps.zip ws⟩ (ps.zip ws)
theorem ClK.cl {P : Program} {w : World} {K : PySem.W.Frag} {mg : Str → Option Value} {base : Heap} {k : Nat} {x : Str} {ps : List Str} {sp : Sp} (c : ClK P w K mg base k x ps sp) : Cl P w K mg base k x ps sp := by
  obtain ⟨f, fd, a, b, c, d, _⟩ := c.ex
  exact ⟨f, fd, a, b, c, d⟩
section
variable {X : Cx} {k j : Nat} {x : Str} {ps : List Str} {sp : Sp} {p pos : Pos} {kws : List Keyword} {tk : TA}
theorem pe_kk (c : ClK X.prog X.w X.K X.mg X.base k x ps sp) (hr : Room j X.A) (hj : k ≤ j) (gl : Gl X x) (hkw : PK X kws tk)
    (hall : (backToKw pos (keywordEach kws X.env)).all (·.1.isSome) = true := by rfl) (hks : (backToKw pos (keywordEach kws X.env)).filterMap (·.1) = ps := by rfl)
    (hdb : (x == ("__debug__" : Str)) = false := by decide)
    (hpl : ((backTo pos (starEach [] X.env)).any (·.1) || (backToKw pos (keywordEach kws X.env)).any (·.1.isNone)) = false := by rfl) :
    PE X (.Call (.Name x p) [] kws pos) (tK sp tk) := by
  obtain ⟨f, fd, F, hm, hkp, _, hb⟩ := c.ex
  constructor
  intro pins s σ H Q I h
  refine wpAny_Call_Name_kw (ld_glob I gl hm ?_ hdb)
  refine PySem.W.callWith_KW0 (h₀ := X.base) I.ok.mod.kin hkp hall ?_ hpl
  refine thn (hkw.run pos pins s σ H _ I h) ?_
  rintro ws s2 ⟨zs, H2, I2, rz, q2⟩
  refine ⟨I2.kIn, ?_⟩
  rw [hks]
  have hl : ws.length = ps.length := by rw [← rz.length]; exact F.len _ _ _ _ q2
  refine wpAny_call (codeAny_mono (F.run X.A X.stack s2 H2 ⟨[], ps.zip ws⟩ ws zs Q E0 (hr.mono hj) I2.env0 (hb s2 ws hl) rz q2) ?_)
  intro res s' q
  cases res with
  | error e => exact q.elim
  | ok fl =>
    cases fl with
    | ret u => exact I2.after q
    | next => exact q.elim
    | brk => exact q.elim
    | cont => exact q.elim
end

/-- what isinstance says of a value -/
def Kind (K : PySem.W.Frag) (CR : Addr) (H : Hp) (x : V) (bi bb bs br : Bool) : Prop := ∃ t : Value, TyX K H x t ∧ PySem.W.kitOne K t (.type "int") = some bi ∧ PySem.W.kitOne K t (.type "bool") = some bb ∧
  PySem.W.kitOne K t (.type "str") = some bs ∧ PySem.W.kitOne K t (.ref CR) = some br

structure TxtN (mg : Str → Option Value) (CR : Addr) : Prop where
  isi : mg "isinstance" = none
  int : mg "int" = none
  bool : mg "bool" = none

def spIsInt (K : PySem.W.Frag) (CR : Addr) : Sp := fun vs H Q _ => ∃ (x : V) (bi bb bs br : Bool), vs = [x] ∧ Kind K CR H x bi bb bs br ∧ Q (.bl (bi && !bb)) H
section
variable {P : Program} {w : World} {K : PySem.W.Frag} {mg : Str → Option Value} {base : Heap} {CR : Addr}

theorem scIsInt : FnScope ["value"] ["value"] (defScope sIsInt) := ⟨rfl, rfl, rfl, by decide +kernel, rfl, by decide +kernel, by decide +kernel⟩
theorem ok_isInt {f : Addr} {fd : FuncData} (F : Fun K "is_integer" "is_integer" sIsInt f fd) (T : TxtN mg CR) : FnOk P w K mg base CX0 1 f fd ["value"] (spIsInt K CR) := by
  refine F.ok scIsInt (fun vs H Q E h => ?_) (fun cdv A outer s H vs Q E hr h => ?_)
  · obtain ⟨x, _, _, _, _, rfl, _⟩ := h
    rfl
  · obtain ⟨x, bi, bb, bs, br, rfl, ⟨t, ty, k1, k2, k3, k4⟩, q⟩ := h
    refine ⟨_, pss_one (ps_ret (pe_and (pe_callB call_isi (by rfl) T.isi (by decide +kernel) (pa_cons (pv 0) (pa_cons (pe_bltn (v := .ty "int") (by rfl) T.int (by decide +kernel) rfl) pa_nil)))
      (pe_one (pe_not (pe_callB call_isi (by rfl) T.isi (by decide +kernel) (pa_cons (pv 0) (pa_cons (pe_bltn (v := .ty "bool") (by rfl) T.bool (by decide +kernel) rfl) pa_nil))))))), ?_⟩
    refine ⟨_, rfl, _, _, t, _, _, rfl, .ty _, ty, k1, _, rfl, ?_⟩
    cases bi with
    | false => exact iteF q
    | true => exact iteT ⟨_, rfl, _, _, t, _, _, rfl, .ty _, ty, k2, _, rfl, q⟩

end
end Cm
end

/-! ## R11 -/
section
namespace Cm
open PySem PySem.Spec PyProof.Rows L2 KG
abbrev sR (i : Nat) : Stmt := inClass (top 15) i
abbrev sRInit : Stmt := sR 0
abbrev sRTop : Stmt := sR 1
abbrev sRBottom : Stmt := sR 2
abbrev sRSign : Stmt := sR 3
abbrev sRAdd : Stmt := sR 4
abbrev sRRadd : Stmt := sR 5
abbrev sRSub : Stmt := sR 6
abbrev sRRsub : Stmt := sR 7
abbrev sRMul : Stmt := sR 8
abbrev sRRmul : Stmt := sR 9
abbrev sRNeg : Stmt := sR 10
abbrev sROver : Stmt := sR 11
abbrev sRTotal : Stmt := sR 13
abbrev sRStr : Stmt := sR 15
abbrev sRRepr : Stmt := sR 16

/-! ### a ratio's attributes -/
theorem tb_ne : ¬ (("_top" : Str) = "_bottom") := by decide +kernel
def rf (x y : Int) : List (Str × V) := putF "_bottom" (.int y) (putF "_top" (.int x) [])
theorem rf_top (x y : Int) : (rf x y).lookup ("_top" : Str) = some (.int x) := by
  unfold rf
  rw [lookup_putF, if_neg tb_ne, lookup_putF, if_pos rfl]
theorem rf_bot (x y : Int) : (rf x y).lookup ("_bottom" : Str) = some (.int y) := by
  unfold rf
  rw [lookup_putF, if_pos rfl]
theorem rf_no (x y : Int) {m : Str} (h1 : ¬ m = "_bottom") (h2 : ¬ m = "_top") : (rf x y).lookup m = none := by
  unfold rf
  rw [lookup_putF, if_neg h1, lookup_putF, if_neg h2]
  all_goals rfl
/-- the ratio p stands at a -/
def RA (CR : Addr) (H : Hp) (a : Addr) (p : Int × Int) : Prop := ∃ dx, H a = some (.ins CR dx (rf p.1 p.2))
theorem RA.keep {CR : Addr} {H H' : Hp} {a : Addr} {p : Int × Int} (h : RA CR H a p) (e : Same H H') : RA CR H' a p := by
  obtain ⟨dx, h⟩ := h
  exact ⟨dx, e _ _ h⟩
theorem RA.isI {CR : Addr} {H : Hp} {a : Addr} {p : Int × Int} (h : RA CR H a p) : IsI H CR a := by
  obtain ⟨dx, h⟩ := h
  exact ⟨dx, _, h⟩
/-- a number: a ratio or an int -/
def Num (CR : Addr) (H : Hp) (x : V) (q : Int × Int) : Prop := (∃ b, x = .ref b ∧ RA CR H b q) ∨ ∃ n : Int, x = .int n ∧ q = (n, 1)
theorem Num.keep {CR : Addr} {H H' : Hp} {x : V} {p : Int × Int} (h : Num CR H x p) (e : Same H H') : Num CR H' x p := by
  rcases h with ⟨b, h1, h2⟩ | h
  · exact .inl ⟨b, h1, h2.keep e⟩
  · exact .inr h

theorem lg_le {n k : Nat} (h : n ≤ 2 ^ k) : n.log2 ≤ k := by
  have : n < 2 ^ (k + 1) := Nat.lt_of_le_of_lt h (Nat.pow_lt_pow_right (by decide) (Nat.lt_succ_self k))
  have := PySem.Flt.log2_lt_of (Nat.succ_pos k) this
  omega
theorem cm_of {i j : Int} {k l : Nat} (h : i.natAbs ≤ 2 ^ k) (g : j.natAbs ≤ 2 ^ l) (hk : k + l < 1000000) : CMulW i j := by
  have := lg_le h
  have := lg_le g
  unfold CMulW
  omega
theorem Bd.m1 {k l k' l' : Nat} {p q : Int × Int} (h : Bd k l p) (g : Bd k' l' q) (hk : k + l' < 1000000) : CMulW p.1 q.2 := cm_of (Nat.le_of_lt h.1) g.2.1 hk
/-- room for every product -/
def Fit (k l k' l' : Nat) : Prop := k + k' < 12990 ∧ k + l' < 12990 ∧ l + k' < 12990 ∧ l + l' < 12990

structure TxtR (K : PySem.W.Frag) (mg : Str → Option Value) (CR : Addr) : Prop where
  cl : Cls K CR
  nT : NoAttr K CR "_top"
  nB : NoAttr K CR "_bottom"
  mgR : mg "Ratio" = some (.ref CR)
  gcd : mg "gcd" = some (.builtin "math.gcd")
  str : mg "str" = none
  isi : mg "isinstance" = none
  sf : PySem.W.selfFirst K CR = true

def spRInit (CR : Addr) : Sp := fun vs H Q _ => ∃ (p dx : Addr) (t b : Int) (k l : Nat), vs = [.ref p, .int t, .int b] ∧ H p = some (.ins CR dx []) ∧ b ≠ 0 ∧ t.natAbs < 2 ^ k ∧ b.natAbs ≤ 2 ^ l ∧ k ≤ 13000 ∧ l ≤ 13000 ∧
  ∀ H' : Hp, H' p = some (.ins CR dx (rf (low t b).1 (low t b).2)) → (∀ a o, H a = some o → a ≠ p → H' a = some o) → Q .non H'
/-- kinds of ints -/
theorem kind_int {K : PySem.W.Frag} {CR : Addr} {H : Hp} (n : Int) (h : PySem.W.kitOne K (.type "int") (.ref CR) = some false) : Kind K CR H (.int n) true false false false :=
  ⟨_, .base (.int n), kit_ty (by decide +kernel), kit_ty (by decide +kernel), kit_ty (by decide +kernel), h⟩

def spRTop (CR : Addr) : Sp := fun vs H Q _ => ∃ (a : Addr) (p : Int × Int), vs = [.ref a] ∧ RA CR H a p ∧ Q (.int p.1) H
def spRBot (CR : Addr) : Sp := fun vs H Q _ => ∃ (a : Addr) (p : Int × Int), vs = [.ref a] ∧ RA CR H a p ∧ Q (.int p.2) H
def spRSign (CR : Addr) : Sp := fun vs H Q _ => ∃ (a : Addr) (p : Int × Int), vs = [.ref a] ∧ RA CR H a p ∧ Q (.int (if p.1 = 0 then 0 else if 0 < p.1 then 1 else -1)) H
/-- the text of an int -/
def iT (n : Int) : Str := Str.ofString (toString n)
def rStr (p : Int × Int) : Str := if p.2 = 1 then iT p.1 else Str.empty ++ iT p.1 ++ "/" ++ iT p.2
def rRepr (p : Int × Int) : Str := Str.empty ++ "Ratio(" ++ iT p.1 ++ ", " ++ iT p.2 ++ ")"
def spRStr (CR : Addr) : Sp := fun vs H Q _ => ∃ (a : Addr) (p : Int × Int), vs = [.ref a] ∧ RA CR H a p ∧ p.1.natAbs < Big ∧ p.2.natAbs < Big ∧ Q (.str (rStr p)) H
def spRRepr (CR : Addr) : Sp := fun vs H Q _ => ∃ (a : Addr) (p : Int × Int), vs = [.ref a] ∧ RA CR H a p ∧ p.1.natAbs < Big ∧ p.2.natAbs < Big ∧ Q (.str (rRepr p)) H

section
variable {P : Program} {w : World} {K : PySem.W.Frag} {mg : Str → Option Value} {base : Heap} {CR : Addr}

theorem scRInit : FnScope ["self", "top", "bottom", "shared"] ["self", "top", "bottom"] (defScope sRInit) := ⟨rfl, rfl, rfl, by decide +kernel, rfl, by decide +kernel, by decide +kernel⟩
theorem ok_rInit {f : Addr} {fd : FuncData} (F : FunD K "__init__" "Ratio.__init__" (defArgs sRInit) (defBody sRInit) (defScope sRInit) [.int 1] [] f fd) (T : TxtR K mg CR)
    (cI : Cl P w K mg base 1 "is_integer" ["value"] (spIsInt K CR)) (kI : PySem.W.kitOne K (.type "int") (.ref CR) = some false) : FnOk P w K mg base CX0 2 f fd ["self", "top", "bottom"] (spRInit CR) := by
  refine F.ok scRInit (fun vs H Q E h => ?_) (fun cdv A outer s H vs Q E hr h => ?_)
  · obtain ⟨p, dx, t, b, _, _, rfl, _⟩ := h
    rfl
  · obtain ⟨p, dx, t, b, k, l, rfl, hp, hb, ht2, hb2, hk, hl, q⟩ := h
    refine ⟨_, PSs.nox (pss_cons (ps_if (pt_not (pt_val (pe_k cI hr (Nat.le_refl _) (by rfl) (pa_cons (pv 1) pa_nil)))) (pss_one ps_never) pss_nil)
      (pss_cons (ps_if (PW.pt (pw_or (pt_not (pt_val (pe_k cI hr (Nat.le_refl _) (by rfl) (pa_cons (pv 2) pa_nil)))) (pw_or1 (pt_cmpR op_eq (pv 2) pe_int (nomark _))))) (pss_one ps_never) pss_nil)
      (pss_cons (ps_set (i := 3) scRInit.nd rfl (Or.inl rfl) (pe_callBfun cr_gcd (by rfl) T.gcd (pa_cons (pv 1) (pa_cons (pv 2) pa_nil))))
      (C8.pss_cut (ps_if (pt_cmpR op_lt (pv 2) pe_int (nomark _)) (pss_one (ps_set (i := 3) scRInit.nd rfl (Or.inl rfl) (pe_un un_neg (pv 3)))) pss_nil)
      (pss_cons (ps_fld (pv 0) (pe_op KG.op_fdivN (pv 1) (pv 3)) rfl) (pss_one (ps_fld (pv 0) (pe_op KG.op_fdivN (pv 2) (pv 3)) rfl))))))), ?_⟩
    refine ⟨_, rfl, _, _, _, _, _, rfl, kind_int t kI, _, rfl, ?_⟩
    refine iteF ⟨_, rfl, _, _, _, _, _, rfl, kind_int b kI, _, rfl, ?_⟩
    refine iteF ⟨_, rfl, rfl, _, rfl, ?_⟩
    have nb : decide (V.int b = V.int 0) = false := by
      rw [dec_int]
      exact decide_eq_false hb
    rw [nb]
    refine iteF ⟨_, rfl, _, rfl, _, _, rfl, ?_⟩
    refine ⟨fun σ H' => σ = [some (.ref p), some (.int t), some (.int b), some (.int (lowBy t b))] ∧ H' = H, ?_, ?_⟩
    · refine ⟨_, rfl, _, _, rfl, rfl, _, rfl, ?_⟩
      unfold lowBy
      refine ite2 (fun h1 => ?_) (fun h1 => ?_)
      · rw [if_pos (show b < 0 from of_decide_eq_true h1)]
        exact ⟨_, rfl, _, rfl, rfl, rfl⟩
      · rw [if_neg (show ¬ b < 0 from fun z => h1 (decide_eq_true z))]
        exact ⟨rfl, rfl⟩
    · rintro σ H' ⟨rfl, rfl⟩
      have l1 := lg_le (Nat.le_of_lt ht2)
      have l2 := lg_le hb2
      have nz := lowBy_ne (t := t) hb
      refine ⟨_, rfl, _, rfl, _, _, rfl, rfl, ⟨nz, by omega⟩, _, rfl, p, CR, dx, _, rfl, hp, T.cl, T.nT, (by show 0 < 1000; decide), ?_⟩
      refine ⟨_, rfl, _, rfl, _, _, rfl, rfl, ⟨nz, by omega⟩, _, rfl, p, CR, dx, _, rfl, upd_same, T.cl, T.nB, (by show 1 < 1000; decide), ?_⟩
      exact q _ upd_same fun a o e ha => by rw [upd_ne ha, upd_ne ha]; exact e

theorem scRTop : FnScope ["self"] ["self"] (defScope sRTop) := ⟨rfl, rfl, rfl, by decide +kernel, rfl, by decide +kernel, by decide +kernel⟩
theorem ok_rTop {f : Addr} {fd : FuncData} (F : Fun K "top" "Ratio.top" sRTop f fd) (T : TxtR K mg CR) : FnOk P w K mg base CX0 1 f fd ["self"] (spRTop CR) := by
  refine F.ok scRTop (fun vs H Q E h => ?_) (fun cdv A outer s H vs Q E hr h => ?_)
  · obtain ⟨a, p, rfl, _⟩ := h
    rfl
  · obtain ⟨a, p, rfl, ⟨dx, ha⟩, q⟩ := h
    refine ⟨_, pss_one (ps_ret (pe_fld (pv 0) rfl)), ?_⟩
    exact ⟨_, rfl, a, CR, dx, _, _, rfl, ha, T.cl, T.nT, rf_top _ _, q⟩
theorem scRBot : FnScope ["self"] ["self"] (defScope sRBottom) := ⟨rfl, rfl, rfl, by decide +kernel, rfl, by decide +kernel, by decide +kernel⟩
theorem ok_rBot {f : Addr} {fd : FuncData} (F : Fun K "bottom" "Ratio.bottom" sRBottom f fd) (T : TxtR K mg CR) : FnOk P w K mg base CX0 1 f fd ["self"] (spRBot CR) := by
  refine F.ok scRBot (fun vs H Q E h => ?_) (fun cdv A outer s H vs Q E hr h => ?_)
  · obtain ⟨a, p, rfl, _⟩ := h
    rfl
  · obtain ⟨a, p, rfl, ⟨dx, ha⟩, q⟩ := h
    refine ⟨_, pss_one (ps_ret (pe_fld (pv 0) rfl)), ?_⟩
    exact ⟨_, rfl, a, CR, dx, _, _, rfl, ha, T.cl, T.nB, rf_bot _ _, q⟩

theorem scRSign : FnScope ["self"] ["self"] (defScope sRSign) := ⟨rfl, rfl, rfl, by decide +kernel, rfl, by decide +kernel, by decide +kernel⟩
theorem ok_rSign {f : Addr} {fd : FuncData} (F : Fun K "sign" "Ratio.sign" sRSign f fd) (T : TxtR K mg CR) : FnOk P w K mg base CX0 1 f fd ["self"] (spRSign CR) := by
  refine F.ok scRSign (fun vs H Q E h => ?_) (fun cdv A outer s H vs Q E hr h => ?_)
  · obtain ⟨a, p, rfl, _⟩ := h
    rfl
  · obtain ⟨a, p, rfl, ⟨dx, hp⟩, q⟩ := h
    refine ⟨_, pss_cons (ps_if (pt_cmpR op_eq (pe_fld (pv 0) rfl) pe_int (nomark _)) (pss_one (ps_ret pe_int)) pss_nil)
      (pss_one (ps_ret (pe_ifExp (pt_cmpR op_gt (pe_fld (pv 0) rfl) pe_int (nomark _)) pe_int (pe_un un_neg pe_int)))), ?_⟩
    refine ⟨_, rfl, a, CR, dx, _, _, rfl, hp, T.cl, T.nT, rf_top _ _, rfl, _, rfl, ?_⟩
    refine ite2 (fun h1 => ?_) (fun h1 => ?_)
    · have h2 : p.1 = 0 := V.int.inj (of_decide_eq_true h1)
      rw [if_pos h2] at q
      exact q
    · have h2 : ¬ p.1 = 0 := fun z => h1 (decide_eq_true (congrArg V.int z))
      rw [if_neg h2] at q
      refine ⟨_, rfl, a, CR, dx, _, _, rfl, hp, T.cl, T.nT, rf_top _ _, _, _, rfl, rfl, _, rfl, ?_⟩
      refine ite2 (fun h3 => ?_) (fun h3 => ?_)
      · rw [if_pos (show 0 < p.1 from of_decide_eq_true h3)] at q
        exact q
      · rw [if_neg (show ¬ 0 < p.1 from fun z => h3 (decide_eq_true z))] at q
        exact ⟨_, rfl, q⟩

theorem iT_len {n : Int} (h : n.natAbs < Big) : (iT n).length ≤ 12901 := big_text h
theorem scRStr : FnScope ["self"] ["self"] (defScope sRStr) := ⟨rfl, rfl, rfl, by decide +kernel, rfl, by decide +kernel, by decide +kernel⟩
theorem ok_rStr {f : Addr} {fd : FuncData} (F : Fun K "__str__" "Ratio.__str__" sRStr f fd) (T : TxtR K mg CR) (nd : base.NoDigits) : FnOk P w K mg base CX0 1 f fd ["self"] (spRStr CR) := by
  refine F.ok scRStr (fun vs H Q E h => ?_) (fun cdv A outer s H vs Q E hr h => ?_)
  · obtain ⟨a, p, rfl, _⟩ := h
    rfl
  · obtain ⟨a, p, rfl, ⟨dx, hp⟩, hx, hy, q⟩ := h
    refine ⟨_, pss_cons (ps_if (pt_cmpR op_eq (pe_fld (pv 0) rfl) pe_int (nomark _)) (pss_one (ps_ret (pe_callTy (call_str_intD nd (by rfl)) (by rfl) T.str (by decide +kernel) (pa_cons (pe_fld (pv 0) rfl) pa_nil)))) pss_nil)
      (pss_one (ps_ret (pe_joined (.cons (pe_fmtD nd (by rfl) (pe_fld (pv 0) rfl)) (.cons pe_str (.cons (pe_fmtD nd (by rfl) (pe_fld (pv 0) rfl)) .nil)))))), ?_⟩
    have tx := iT_len hx
    have ty := iT_len hy
    have e0 : (Str.empty).length = 0 := by decide
    have e1 : (Str.ofString "/").length = 1 := by decide
    have big : (40000 : Nat) < sizeLine := by decide
    refine ⟨_, rfl, a, CR, dx, _, _, rfl, hp, T.cl, T.nB, rf_bot _ _, rfl, _, rfl, ?_⟩
    unfold rStr at q
    refine ite2 (fun h1 => ?_) (fun h1 => ?_)
    · rw [if_pos (show p.2 = 1 from V.int.inj (of_decide_eq_true h1))] at q
      exact ⟨_, rfl, a, CR, dx, _, _, rfl, hp, T.cl, T.nT, rf_top _ _, _, rfl, hx, q⟩
    · rw [if_neg (show ¬ p.2 = 1 from fun z => h1 (decide_eq_true (congrArg V.int z)))] at q
      refine ⟨_, rfl, a, CR, dx, _, _, rfl, hp, T.cl, T.nT, rf_top _ _, _, rfl, hx, _, rfl, ?_, _, rfl, ?_, _, rfl, a, CR, dx, _, _, rfl, hp, T.cl, T.nB, rf_bot _ _, _, rfl, hy, _, rfl, ?_, q⟩
      all_goals simp only [Str.length_append]
      all_goals first | (show (Str.empty).length + (iT p.1).length ≤ _; omega) | (show (Str.empty).length + (iT p.1).length + (Str.ofString "/").length ≤ _; omega) | (show (Str.empty).length + (iT p.1).length + (Str.ofString "/").length + (iT p.2).length ≤ _; omega)

theorem scRRepr : FnScope ["self"] ["self"] (defScope sRRepr) := ⟨rfl, rfl, rfl, by decide +kernel, rfl, by decide +kernel, by decide +kernel⟩
theorem ok_rRepr {f : Addr} {fd : FuncData} (F : Fun K "__repr__" "Ratio.__repr__" sRRepr f fd) (T : TxtR K mg CR) (nd : base.NoDigits) : FnOk P w K mg base CX0 1 f fd ["self"] (spRRepr CR) := by
  refine F.ok scRRepr (fun vs H Q E h => ?_) (fun cdv A outer s H vs Q E hr h => ?_)
  · obtain ⟨a, p, rfl, _⟩ := h
    rfl
  · obtain ⟨a, p, rfl, ⟨dx, hp⟩, hx, hy, q⟩ := h
    refine ⟨_, pss_one (ps_ret (pe_joined (.cons pe_str (.cons (pe_fmtD nd (by rfl) (pe_fld (pv 0) rfl)) (.cons pe_str (.cons (pe_fmtD nd (by rfl) (pe_fld (pv 0) rfl)) (.cons pe_str .nil))))))), ?_⟩
    have tx := iT_len hx
    have ty := iT_len hy
    have e0 : (Str.empty).length = 0 := by decide
    have e1 : (Str.ofString "Ratio(").length = 6 := by decide
    have e2 : (Str.ofString ", ").length = 2 := by decide
    have e3 : (Str.ofString ")").length = 1 := by decide
    have big : (40000 : Nat) < sizeLine := by decide
    refine ⟨_, rfl, ?_, _, rfl, a, CR, dx, _, _, rfl, hp, T.cl, T.nT, rf_top _ _, _, rfl, hx, _, rfl, ?_, _, rfl, ?_, _, rfl, a, CR, dx, _, _, rfl, hp, T.cl, T.nB, rf_bot _ _, _, rfl, hy, _, rfl, ?_, _, rfl, ?_, q⟩
    all_goals simp only [Str.length_append]
    · show (Str.empty).length + (Str.ofString "Ratio(").length ≤ _
      omega
    · show (Str.empty).length + (Str.ofString "Ratio(").length + (iT p.1).length ≤ _
      omega
    · show (Str.empty).length + (Str.ofString "Ratio(").length + (iT p.1).length + (Str.ofString ", ").length ≤ _
      omega
    · show (Str.empty).length + (Str.ofString "Ratio(").length + (iT p.1).length + (Str.ofString ", ").length + (iT p.2).length ≤ _
      omega
    · show (Str.empty).length + (Str.ofString "Ratio(").length + (iT p.1).length + (Str.ofString ", ").length + (iT p.2).length + (Str.ofString ")").length ≤ _
      omega
end
end Cm
end

/-! ## O11 -/
section
namespace Cm
open PySem PySem.Spec PyProof.Rows L2 KG

/-- what a class must have that isinstance may be asked of its instances -/
structure InsK (K : PySem.W.Frag) (C : Addr) : Prop where
  cl : Cls K C
  ha : PySem.W.findIn K (.ref C) "__class__" = some (some (.builtin "object.__class__"))
  hn : PySem.W.specialIn K (.builtin "object.__class__") "__get__" = some (some (.builtin "getset_descriptor.__get__"))
  htk : PySem.W.takesIn K (.builtin "object.__class__") = some true
  hm : PySem.W.mroIn K C (.type "object") = some true
theorem InsK.ty {K : PySem.W.Frag} {C : Addr} {H : Hp} {a dx : Addr} {fs : List (Str × V)} (c : InsK K C) (h : H a = some (.ins C dx fs)) : TyX K H (.ref a) (.ref C) := .base (.ins h c.cl c.ha c.hn c.htk c.hm)

/-- a class that may be made by its name; dvs: the defaults that fill up -/
structure MkC (P : Program) (w : World) (K : PySem.W.Frag) (mg : Str → Option Value) (base : Heap) (k : Nat) (x : Str) (C : Addr) (ps : List Str) (dvs : List V) (sp : Sp) : Prop where
  ex : ∃ (f : Addr) (fd : FuncData) (ds : List Value), Mk K C f ∧ FnOk P w K mg base CX0 k f fd ps sp ∧ mg x = some (.ref C) ∧ Vals dvs ds ∧ Binds K fd ps ds
section
variable {X : Cx} {k j : Nat} {x : Str} {C : Addr} {ps : List Str} {dvs : List V} {sp : Sp} {p pos : Pos} {e : Expr} {es : List Expr} {t : TA}
theorem pe_mk (c : MkC X.prog X.w X.K X.mg X.base k x C ps dvs sp) (hr : Room j X.A) (hj : k + 1 ≤ j) (gl : Gl X x) (ha : PA X (e :: es) t)
    (hdb : (x == ("__debug__" : Str)) = false := by decide)
    (he : starEach (e :: es) X.env = (false, eval e X.env) :: starEach es X.env := by rfl)
    (hpl : (backTo pos (starEach es X.env)).any (·.1) = false := by rfl) :
    PE X (.Call (.Name x p) (e :: es) [] pos) (tMake C sp dvs E0 t) := by
  obtain ⟨f, fd, ds, M, F, hm, hd, hb⟩ := c.ex
  exact pe_make M F (hr.mono hj) gl hm hb hd pass0 ha hdb he hpl
end

/-- a property of an own class -/
structure Pr (P : Program) (w : World) (K : PySem.W.Frag) (mg : Str → Option Value) (base : Heap) (C : Addr) (f : Str) (sp : Sp) : Prop where
  ex : ∃ (p g : Addr) (fd : FuncData), PropOf K C f p g ∧ FnOk P w K mg base CX0 1 g fd ["self"] sp ∧ Binds K fd ["self"] []
section
variable {X : Cx} {j : Nat} {C : Addr} {f : Str} {sp : Sp} {e : Expr} {pos : Pos} {ta : TE}
theorem pe_pr (c : Pr X.prog X.w X.K X.mg X.base C f sp) (cl : Cls X.K C) (hr : Room j X.A) (hj : 2 ≤ j) (he : PE X e ta) (hab : attributeBase e f X.env (eval e X.env) = eval e X.env := by rfl)
    (hx : Passes CX0 X.nox E0 := by exact pass0) :
    PE X (.Attribute e f pos) (tProp C sp [] E0 ta) := by
  obtain ⟨p, g, fd, hp, F, hb⟩ := c.ex
  exact pe_prop he cl hp F (hr.mono hj) hb .nil hx hab
end

theorem Same.made2 {H : Hp} {x dx : Addr} {o u : HO} (n : H x = none) (m : H dx = none) : Same H (upd (upd H dx o) x u) := fun b v e => by
  rw [upd_ne (ne_of_none e n), upd_ne (ne_of_none e m)]
  exact e

/-- Ratio(t, b) -/
theorem mk_low {CR : Addr} {H : Hp} {Q : VK} {t b : Int} {k l : Nat} (h : t.natAbs < 2 ^ k) (g : b.natAbs ≤ 2 ^ l) (n : b ≠ 0) (hk : k ≤ 13000) (hl : l ≤ 13000) (q : ∀ (H' : Hp) (c : Addr), Same H H' → RA CR H' c (low t b) → Q (.ref c) H') :
    ∀ x dx, H x = none → H dx = none → dx ≠ x → spRInit CR [.ref x, .int t, .int b] (upd (upd H dx (.own x)) x (.ins CR dx [])) (fun v H3 => v = .non ∧ Q (.ref x) H3) E0 := by
  intro x dx nx ndx ne
  refine ⟨x, dx, t, b, k, l, rfl, upd_same, n, h, g, hk, hl, fun H' h1 h2 => ⟨rfl, ?_⟩⟩
  refine q H' x (fun b o e => ?_) ⟨dx, h1⟩
  exact h2 b o ((Same.made2 nx ndx) b o e) (ne_of_none e nx)

def spAsRatio (CR : Addr) : Sp := fun vs H Q _ => ∃ (x : V) (q : Int × Int) (k l : Nat), vs = [x] ∧ Num CR H x q ∧ Bd k l q ∧ k ≤ 13000 ∧ ∀ (H' : Hp) (c : Addr), Same H H' → RA CR H' c q → Q (.ref c) H'
/-- an own operator of a ratio and a number -/
def spBin (CR : Addr) (f : Int × Int → Int × Int → Int × Int) (C : Int × Int → Prop) : Sp := fun vs H Q _ => ∃ (a : Addr) (y : V) (p q : Int × Int) (k l k' l' : Nat), vs = [.ref a, y] ∧ RA CR H a p ∧ Num CR H y q ∧ Bd k l p ∧ Bd k' l' q ∧ Fit k l k' l' ∧ C q ∧
  ∀ (H' : Hp) (c : Addr), Same H H' → RA CR H' c (f p q) → Q (.ref c) H'
def spRBin (CR : Addr) (f : Int × Int → Int × Int → Int × Int) : Sp := fun vs H Q _ => ∃ (a : Addr) (n : Int) (p : Int × Int) (k l k' : Nat), vs = [.ref a, .int n] ∧ RA CR H a p ∧ Bd k l p ∧ n.natAbs < 2 ^ k' ∧ Fit k l k' 0 ∧
  ∀ (H' : Hp) (c : Addr), Same H H' → RA CR H' c (f p (n, 1)) → Q (.ref c) H'
def spNeg (CR : Addr) : Sp := fun vs H Q _ => ∃ (a : Addr) (p : Int × Int) (k l : Nat), vs = [.ref a] ∧ RA CR H a p ∧ Bd k l p ∧ k ≤ 13000 ∧ l ≤ 13000 ∧ ∀ (H' : Hp) (c : Addr), Same H H' → RA CR H' c (negP p) → Q (.ref c) H'

structure KI (K : PySem.W.Frag) (CR : Addr) : Prop where
  i : PySem.W.kitOne K (.type "int") (.ref CR) = some false
  r : PySem.W.kitOne K (.ref CR) (.ref CR) = some true

section
variable {P : Program} {w : World} {K : PySem.W.Frag} {mg : Str → Option Value} {base : Heap} {CR : Addr}

theorem scAsRatio : FnScope ["value"] ["value"] (defScope sAsRatio) := ⟨rfl, rfl, rfl, by decide +kernel, rfl, by decide +kernel, by decide +kernel⟩
theorem ok_asRatio {f : Addr} {fd : FuncData} (F : Fun K "as_ratio" "as_ratio" sAsRatio f fd) (T : TxtR K mg CR) (cR : MkC P w K mg base 2 "Ratio" CR ["self", "top", "bottom"] [.int 1] (spRInit CR)) (iR : InsK K CR)
    (kk : KI K CR) : FnOk P w K mg base CX0 4 f fd ["value"] (spAsRatio CR) := by
  refine F.ok scAsRatio (fun vs H Q E h => ?_) (fun cdv A outer s H vs Q E hr h => ?_)
  · obtain ⟨x, _, _, _, rfl, _⟩ := h
    rfl
  · obtain ⟨x, p, k, l, rfl, h, hb, hk, q⟩ := h
    refine ⟨_, pss_cons (ps_if (pt_val (pe_callB call_isi (by rfl) T.isi (by decide +kernel) (pa_cons (pv 0) (pa_cons (pe_glob (v := .ref CR) (by rfl) T.mgR rfl) pa_nil)))) (pss_one (ps_ret (pv 0))) pss_nil)
      (pss_one (ps_ret (pe_mk cR hr (Nat.le_refl _) (by rfl) (pa_cons (pv 0) pa_nil)))), ?_⟩
    rcases h with ⟨a, rfl, ha⟩ | ⟨n, rfl, rfl⟩
    · have ha' := ha
      obtain ⟨dx, ha'⟩ := ha'
      refine ⟨_, rfl, _, _, _, _, _, rfl, .own _, iR.ty ha', kk.r, _, rfl, ?_⟩
      exact iteT ⟨_, rfl, q H a (fun _ _ e => e) ha⟩
    · refine ⟨_, rfl, _, _, _, _, _, rfl, .own _, .base (.int n), kk.i, _, rfl, ?_⟩
      refine iteF ⟨_, rfl, mk_low (l := 0) hb.1 (by decide) (by decide) hk (by decide) fun H' c s1 r1 => q H' c s1 ?_⟩
      rw [low_int] at r1
      exact r1

theorem scRNeg : FnScope ["self"] ["self"] (defScope sRNeg) := ⟨rfl, rfl, rfl, by decide +kernel, rfl, by decide +kernel, by decide +kernel⟩
theorem ok_rNeg {f : Addr} {fd : FuncData} (F : Fun K "__neg__" "Ratio.__neg__" sRNeg f fd) (T : TxtR K mg CR) (cR : MkC P w K mg base 2 "Ratio" CR ["self", "top", "bottom"] [] (spRInit CR)) : FnOk P w K mg base CX0 4 f fd ["self"] (spNeg CR) := by
  refine F.ok scRNeg (fun vs H Q E h => ?_) (fun cdv A outer s H vs Q E hr h => ?_)
  · obtain ⟨x, _, _, _, rfl, _⟩ := h
    rfl
  · obtain ⟨a, p, k, l, rfl, ⟨dx, ha⟩, hb, hk, hl, q⟩ := h
    refine ⟨_, pss_one (ps_ret (pe_mk cR hr (Nat.le_refl _) (by rfl) (pa_cons (pe_un un_neg (pe_fld (pv 0) rfl)) (pa_cons (pe_fld (pv 0) rfl) pa_nil)))), ?_⟩
    refine ⟨_, rfl, a, CR, dx, _, _, rfl, ha, T.cl, T.nT, rf_top _ _, _, rfl, _, rfl, a, CR, dx, _, _, rfl, ha, T.cl, T.nB, rf_bot _ _, ?_⟩
    exact mk_low (by rw [Int.natAbs_neg]; exact hb.1) hb.2.1 hb.2.2 hk hl q

theorem fit_num {k l k' l' : Nat} {p q : Int × Int} (h : Bd k l p) (g : Bd k' l' q) (f : Fit k l k' l') : (p.1 * q.2 + q.1 * p.2).natAbs < 2 ^ 12991 ∧ (p.2 * q.2).natAbs ≤ 2 ^ 12991 ∧ p.2 * q.2 ≠ 0 := by
  obtain ⟨f1, f2, f3, f4⟩ := f
  refine ⟨abs_add_lt (abs_mul_lt h.1 g.2.1) (abs_mul_lt g.1 h.2.1) (by omega) (by omega), Nat.le_trans (abs_mul_le h.2.1 g.2.1) (pow_le (by omega)), mul_ne h.2.2 g.2.2⟩
theorem cmw {i j : Int} {k l : Nat} (h : i.natAbs ≤ 2 ^ k) (g : j.natAbs ≤ 2 ^ l) (hk : k + l < 13000) : CMulW i j := cm_of h g (by omega)

theorem scRAdd : FnScope ["self", "other", "more"] ["self", "other"] (defScope sRAdd) := ⟨rfl, rfl, rfl, by decide +kernel, rfl, by decide +kernel, by decide +kernel⟩
theorem ok_rAdd {f : Addr} {fd : FuncData} (F : Fun K "__add__" "Ratio.__add__" sRAdd f fd) (T : TxtR K mg CR) (cR : MkC P w K mg base 2 "Ratio" CR ["self", "top", "bottom"] [] (spRInit CR))
    (cA : Cl P w K mg base 4 "as_ratio" ["value"] (spAsRatio CR)) (pT : Pr P w K mg base CR "top" (spRTop CR)) (pB : Pr P w K mg base CR "bottom" (spRBot CR)) : FnOk P w K mg base CX0 5 f fd ["self", "other"] (spBin CR sumP fun _ => True) := by
  refine F.ok scRAdd (fun vs H Q E h => ?_) (fun cdv A outer s H vs Q E hr h => ?_)
  · obtain ⟨a, y, _, _, _, _, _, _, rfl, _⟩ := h
    rfl
  · obtain ⟨a, y, p, q, k, l, k', l', rfl, ha, hy, hp, hq, hf, _, z⟩ := h
    refine ⟨_, pss_cons (ps_set (i := 2) scRAdd.nd rfl (Or.inl rfl) (pe_k cA hr (by decide) (by rfl) (pa_cons (pv 1) pa_nil)))
      (pss_one (ps_ret (pe_mk cR hr (by decide) (by rfl) (pa_cons (pe_op op_add (pe_op op_mulW (pe_fld (pv 0) rfl) (pe_pr pB T.cl hr (by decide) (pv 2))) (pe_op op_mulW (pe_pr pT T.cl hr (by decide) (pv 2)) (pe_fld (pv 0) rfl)))
        (pa_cons (pe_op op_mulW (pe_fld (pv 0) rfl) (pe_pr pB T.cl hr (by decide) (pv 2))) pa_nil))))), ?_⟩
    refine ⟨_, rfl, y, q, k', l', rfl, hy, hq, (by have := hf.1; omega), fun H1 c s1 r1 => ?_⟩
    obtain ⟨dx, h1⟩ := ha.keep s1
    obtain ⟨dc, h2⟩ := id r1
    obtain ⟨g1, g2, g3⟩ := fit_num hp hq hf
    obtain ⟨f1, f2, f3, f4⟩ := hf
    refine ⟨_, rfl, a, CR, dx, _, _, rfl, h1, T.cl, T.nT, rf_top _ _, _, rfl, c, dc, _, rfl, h2, c, q, rfl, r1, _, _, rfl, rfl, cmw (Nat.le_of_lt hp.1) hq.2.1 (by omega), ?_⟩
    refine ⟨_, rfl, c, dc, _, rfl, h2, c, q, rfl, r1, _, rfl, a, CR, dx, _, _, rfl, h1, T.cl, T.nB, rf_bot _ _, _, _, rfl, rfl, cmw (Nat.le_of_lt hq.1) hp.2.1 (by omega), _, _, rfl, rfl, ?_⟩
    refine ⟨_, rfl, a, CR, dx, _, _, rfl, h1, T.cl, T.nB, rf_bot _ _, _, rfl, c, dc, _, rfl, h2, c, q, rfl, r1, _, _, rfl, rfl, cmw hp.2.1 hq.2.1 (by omega), ?_⟩
    exact mk_low g1 g2 g3 (by decide) (by decide) fun H2 d s2 r2 => z H2 d (fun b o e => s2 b o (s1 b o e)) r2
end
end Cm
end

/-! ## L11 -/
section
namespace Cm
open PySem PySem.Spec PyProof.Rows L2 KG
theorem Same.trans' {H H1 H2 : Hp} (a : Same H H1) (b : Same H1 H2) : Same H H2 := fun c o h => b c o (a c o h)
abbrev sCommon : Stmt := top 24
abbrev sLowest : Stmt := top 25
abbrev sSum : Stmt := top 26
abbrev sTimes : Stmt := top 27

def spCommon : Sp := fun vs H Q _ => ∃ a b : Int, vs = [.int a, .int b] ∧ Q (.int ((Nat.gcd a.natAbs b.natAbs : Nat) : Int)) H
/-- a fraction stands at t -/
def PA2 (K : PySem.W.Frag) (H : Hp) (t : Addr) (p : Int × Int) : Prop := SqT K H t [.int p.1, .int p.2]
theorem PA2.keep {K : PySem.W.Frag} {H H' : Hp} {t : Addr} {p : Int × Int} (h : PA2 K H t p) (e : Same H H') : PA2 K H' t p := SqT.ext h e
def spLowest (K : PySem.W.Frag) : Sp := fun vs H Q _ => ∃ (a b : Int) (k l : Nat), vs = [.int a, .int b] ∧ b ≠ 0 ∧ a.natAbs < 2 ^ k ∧ b.natAbs ≤ 2 ^ l ∧ k ≤ 13000 ∧ l ≤ 13000 ∧ ∀ (H' : Hp) (t : Addr), Same H H' → PA2 K H' t (low a b) → Q (.ref t) H'
def spP2 (K : PySem.W.Frag) (f : Int × Int → Int × Int → Int × Int) : Sp := fun vs H Q _ => ∃ (s t : Addr) (p q : Int × Int) (k l k' l' : Nat), vs = [.ref s, .ref t] ∧ PA2 K H s p ∧ PA2 K H t q ∧ Bd k l p ∧ Bd k' l' q ∧ Fit k l k' l' ∧
  ∀ (H' : Hp) (t : Addr), Same H H' → PA2 K H' t (f p q) → Q (.ref t) H'

theorem low_sg {a b : Int} (h : b ≠ 0) : ((Nat.gcd a.natAbs b.natAbs : Nat) : Int) * (if decide (0 < b) = true then 1 else -1) = lowBy a b := by
  unfold lowBy
  by_cases h1 : b < 0
  · rw [if_pos h1, if_neg (by rw [decide_eq_true_eq]; omega)]
    omega
  · rw [if_neg h1, if_pos (by rw [decide_eq_true_eq]; omega)]
    omega

section
variable {P : Program} {w : World} {K : PySem.W.Frag} {mg : Str → Option Value} {base : Heap} {CR : Addr}
theorem scCommon : FnScope ["_law_one", "_law_two"] ["_law_one", "_law_two"] (defScope sCommon) := ⟨rfl, rfl, rfl, by decide +kernel, rfl, by decide +kernel, by decide +kernel⟩
theorem ok_common {f : Addr} {fd : FuncData} (F : Fun K "_law_common" "_law_common" sCommon f fd) (T : Txt mg) : FnOk P w K mg base CX0 1 f fd ["_law_one", "_law_two"] spCommon := by
  refine F.ok scCommon (fun vs H Q E h => ?_) (fun cdv A outer s H vs Q E hr h => ?_)
  · obtain ⟨a, b, rfl, _⟩ := h
    rfl
  · obtain ⟨a, b, rfl, q⟩ := h
    refine ⟨_, pss_cons (ps_par (i := 0) (j := 1) (by rfl) scCommon.nd rfl rfl (by decide) rfl rfl (pa_cons (pe_callB call_abs (by rfl) T.abs (by decide +kernel) (pa_cons (pv 0) pa_nil)) (pa_cons (pe_callB call_abs (by rfl) T.abs (by decide +kernel) (pa_cons (pv 1) pa_nil)) pa_nil)) (by rfl))
      (pss_cons (ps_while PassesOwn.never (pt_cmpR op_gt (pv 1) pe_int (nomark _)) (pss_one (ps_par (i := 0) (j := 1) (by rfl) scCommon.nd rfl rfl (by decide) rfl rfl (pa_cons (pv 1) (pa_cons (pe_op op_mod (pe_callTy call_int1 (by rfl) T.int (by decide +kernel) (pa_cons (pv 0) pa_nil)) (pv 1)) pa_nil)) (by rfl))))
      (pss_one (ps_ret (pv 0)))), ?_⟩
    refine ⟨_, rfl, _, rfl, _, rfl, _, rfl, _, _, rfl, ?_⟩
    have ea : ∀ z : Int, (if z < 0 then -z else z) = (z.natAbs : Int) := fun z => by split <;> omega
    rw [ea a, ea b]
    refine while_by (fun σ H' => ∃ x y : Nat, σ = [some (.int (x : Int)), some (.int (y : Int))] ∧ H' = H ∧ Nat.gcd x y = Nat.gcd a.natAbs b.natAbs) (fun σ _ => match σ with
      | [_, some (.int y)] => y.toNat
      | _ => 0) ⟨a.natAbs, b.natAbs, rfl, rfl, rfl⟩ ?_ ?_
    · rintro σ H' ⟨x, y, rfl, rfl, hg⟩
      refine ⟨_, rfl, _, _, rfl, rfl, _, rfl, ?_⟩
      refine ite2 (fun h1 => ?_) (fun h1 => ?_)
      · have h2 : (0 : Int) < (y : Int) := of_decide_eq_true h1
        refine ⟨_, rfl, _, rfl, .inl ⟨_, rfl, _, rfl, _, _, rfl, rfl, h2, _, _, rfl, ?_⟩⟩
        have e1 : (x : Int) % (y : Int) = ((x % y : Nat) : Int) := by omega
        refine ⟨⟨y, x % y, ?_, rfl, ?_⟩, ?_⟩
        · show [some (V.int (y : Int)), some (V.int ((x : Int) % (y : Int)))] = _
          rw [e1]
        · rw [← hg, Nat.gcd_comm x y, Nat.gcd_rec y x, Nat.gcd_comm]
        · show ((x : Int) % (y : Int)).toNat < ((y : Int)).toNat
          have := Nat.mod_lt x (show 0 < y by omega)
          omega
      · have h2 : y = 0 := by
          have : ¬ (0 : Int) < (y : Int) := fun z => h1 (decide_eq_true z)
          omega
        subst h2
        rw [Nat.gcd_zero_right] at hg
        rw [← hg] at q
        exact ⟨_, rfl, q⟩
    · rintro σ H' Q1 Q2 hq ⟨x, h1, i, j, h2, h3, b, h4, q⟩
      exact ⟨x, h1, i, j, h2, h3, b, h4, hq _ _ q⟩

theorem scLowest : FnScope ["_law_up", "_law_low", "_law_by"] ["_law_up", "_law_low"] (defScope sLowest) := ⟨rfl, rfl, rfl, by decide +kernel, rfl, by decide +kernel, by decide +kernel⟩
theorem ok_lowest {f : Addr} {fd : FuncData} (F : Fun K "_law_lowest" "_law_lowest" sLowest f fd) (cC : Cl P w K mg base 1 "_law_common" ["_law_one", "_law_two"] spCommon) : FnOk P w K mg base CX0 2 f fd ["_law_up", "_law_low"] (spLowest K) := by
  refine F.ok scLowest (fun vs H Q E h => ?_) (fun cdv A outer s H vs Q E hr h => ?_)
  · obtain ⟨a, b, _, _, rfl, _⟩ := h
    rfl
  · obtain ⟨a, b, k, l, rfl, hb, h1, h2, hk, hl, q⟩ := h
    refine ⟨_, pss_cons (ps_set (i := 2) scLowest.nd rfl (Or.inl rfl) (pe_op op_mulW (pe_k cC hr (by decide) (by rfl) (pa_cons (pv 0) (pa_cons (pv 1) pa_nil))) (pe_ifExp (pt_cmpR op_gt (pv 1) pe_int (nomark _)) pe_int (pe_un un_neg pe_int))))
      (pss_one (ps_ret (pe_tup (pa_cons (pe_op KG.op_fdivN (pv 0) (pv 2)) (pa_cons (pe_op KG.op_fdivN (pv 1) (pv 2)) pa_nil))))), ?_⟩
    have lg1 := lg_le (Nat.le_of_lt h1)
    have lg2 := lg_le h2
    have nz := lowBy_ne (t := a) hb
    have gl : (((Nat.gcd a.natAbs b.natAbs : Nat) : Int)).natAbs ≤ 2 ^ l := by
      have := Nat.gcd_le_right (n := b.natAbs) a.natAbs (by omega)
      rw [Int.natAbs_natCast]
      exact Nat.le_trans this h2
    have fin : ∀ y : Int, y.natAbs ≤ 2 ^ 0 → ((Nat.gcd a.natAbs b.natAbs : Nat) : Int) * y = lowBy a b → rI CMulW (fun i j => V.int (i * j)) (.int ((Nat.gcd a.natAbs b.natAbs : Nat) : Int)) (.int y) H (fun v H1 => tRet (tTup (tCons (tOp (rI KG.CDivN fun i j => .int (i.fdiv j)) (tVar 0) (tVar 2)) (tCons (tOp (rI KG.CDivN fun i j => .int (i.fdiv j)) (tVar 1) (tVar 2)) tNil))) { nx := fun _ H' => Q V.non H', rt := Q } [some (.int a), some (.int b), some v] H1) := fun y hy ey => by
      refine ⟨_, _, rfl, rfl, cm_of gl hy (by omega), ?_⟩
      dsimp only
      rw [ey]
      refine ⟨_, rfl, _, rfl, _, _, rfl, rfl, ⟨nz, by omega⟩, _, rfl, _, rfl, _, _, rfl, rfl, ⟨nz, by omega⟩, (by show 2 ≤ sizeLine; decide), fun t ht => ?_⟩
      exact q _ t (Same.upd_new ht) (SqT.of upd_same)
    have e := low_sg (a := a) hb
    refine ⟨_, rfl, _, rfl, a, b, rfl, _, rfl, _, _, rfl, rfl, _, rfl, ?_⟩
    refine ite2 (fun h => ?_) (fun h => ?_)
    · rw [if_pos h] at e
      exact fin 1 (by decide) e
    · rw [if_neg h] at e
      exact ⟨_, rfl, fin (-1) (by decide) e⟩

theorem scSum : FnScope ["_law_one", "_law_two"] ["_law_one", "_law_two"] (defScope sSum) := ⟨rfl, rfl, rfl, by decide +kernel, rfl, by decide +kernel, by decide +kernel⟩
theorem ok_sum {f : Addr} {fd : FuncData} (F : Fun K "_law_sum" "_law_sum" sSum f fd) (cL : Cl P w K mg base 2 "_law_lowest" ["_law_up", "_law_low"] (spLowest K)) : FnOk P w K mg base CX0 3 f fd ["_law_one", "_law_two"] (spP2 K sumP) := by
  refine F.ok scSum (fun vs H Q E h => ?_) (fun cdv A outer s H vs Q E hr h => ?_)
  · obtain ⟨a, b, _, _, _, _, _, _, rfl, _⟩ := h
    rfl
  · obtain ⟨a, b, p, q, k, l, k', l', rfl, ha, hb, hp, hq, hf, z⟩ := h
    refine ⟨_, pss_one (ps_ret (pe_k cL hr (by decide) (by rfl) (pa_cons (pe_op op_add (pe_op op_mulW (pe_ix ix_tup (pv 0) pe_int (fun _ _ => rfl)) (pe_ix ix_tup (pv 1) pe_int (fun _ _ => rfl))) (pe_op op_mulW (pe_ix ix_tup (pv 1) pe_int (fun _ _ => rfl)) (pe_ix ix_tup (pv 0) pe_int (fun _ _ => rfl))))
      (pa_cons (pe_op op_mulW (pe_ix ix_tup (pv 0) pe_int (fun _ _ => rfl)) (pe_ix ix_tup (pv 1) pe_int (fun _ _ => rfl))) pa_nil)))), ?_⟩
    obtain ⟨g1, g2, g3⟩ := fit_num hp hq hf
    obtain ⟨f1, f2, f3, f4⟩ := hf
    refine ⟨_, rfl, a, _, _, _, rfl, rfl, ha, rfl, _, rfl, b, _, _, _, rfl, rfl, hb, rfl, _, _, rfl, rfl, cmw (Nat.le_of_lt hp.1) hq.2.1 (by omega), ?_⟩
    refine ⟨_, rfl, b, _, _, _, rfl, rfl, hb, rfl, _, rfl, a, _, _, _, rfl, rfl, ha, rfl, _, _, rfl, rfl, cmw (Nat.le_of_lt hq.1) hp.2.1 (by omega), _, _, rfl, rfl, ?_⟩
    refine ⟨_, rfl, a, _, _, _, rfl, rfl, ha, rfl, _, rfl, b, _, _, _, rfl, rfl, hb, rfl, _, _, rfl, rfl, cmw hp.2.1 hq.2.1 (by omega), ?_⟩
    exact ⟨_, _, _, _, rfl, g3, g1, g2, by decide, by decide, z⟩
theorem scTimes : FnScope ["_law_one", "_law_two"] ["_law_one", "_law_two"] (defScope sTimes) := ⟨rfl, rfl, rfl, by decide +kernel, rfl, by decide +kernel, by decide +kernel⟩
theorem ok_times {f : Addr} {fd : FuncData} (F : Fun K "_law_times" "_law_times" sTimes f fd) (cL : Cl P w K mg base 2 "_law_lowest" ["_law_up", "_law_low"] (spLowest K)) : FnOk P w K mg base CX0 3 f fd ["_law_one", "_law_two"] (spP2 K mulP) := by
  refine F.ok scTimes (fun vs H Q E h => ?_) (fun cdv A outer s H vs Q E hr h => ?_)
  · obtain ⟨a, b, _, _, _, _, _, _, rfl, _⟩ := h
    rfl
  · obtain ⟨a, b, p, q, k, l, k', l', rfl, ha, hb, hp, hq, hf, z⟩ := h
    refine ⟨_, pss_one (ps_ret (pe_k cL hr (by decide) (by rfl) (pa_cons (pe_op op_mulW (pe_ix ix_tup (pv 0) pe_int (fun _ _ => rfl)) (pe_ix ix_tup (pv 1) pe_int (fun _ _ => rfl)))
      (pa_cons (pe_op op_mulW (pe_ix ix_tup (pv 0) pe_int (fun _ _ => rfl)) (pe_ix ix_tup (pv 1) pe_int (fun _ _ => rfl))) pa_nil)))), ?_⟩
    obtain ⟨f1, f2, f3, f4⟩ := hf
    refine ⟨_, rfl, a, _, _, _, rfl, rfl, ha, rfl, _, rfl, b, _, _, _, rfl, rfl, hb, rfl, _, _, rfl, rfl, cmw (Nat.le_of_lt hp.1) (Nat.le_of_lt hq.1) (by omega), ?_⟩
    refine ⟨_, rfl, a, _, _, _, rfl, rfl, ha, rfl, _, rfl, b, _, _, _, rfl, rfl, hb, rfl, _, _, rfl, rfl, cmw hp.2.1 hq.2.1 (by omega), ?_⟩
    exact ⟨_, _, _, _, rfl, mul_ne hp.2.2 hq.2.2, abs_mul_lt hp.1 (Nat.le_of_lt hq.1), abs_mul_le hp.2.1 hq.2.1, by omega, by omega, z⟩

end
end Cm
end

/-! ## Is11 -/
section
namespace KG
open PySem PySem.Spec PyProof.Rows L2
section
variable {X : Cx} {k j : Nat} {C : Addr} {sp : Sp}
/-- a text comes back -/
abbrev StrQ (Q : VK) : VK := fun v H' => ∃ z, v = .str z ∧ Q v H'
theorem back_str {pins : List (Addr × Obj)} {σ : L2.St} {Q : VK} {u : Value} {s' : Shared} (h : EP X pins σ (StrQ Q) u s') : PySem.W.StrBack (EP X pins σ Q) u s' := by
  obtain ⟨v, H', I', rv, z, rfl, q⟩ := h
  obtain ⟨t, rfl⟩ := rv
  exact ⟨.str z, H', I', ⟨t, rfl⟩, q⟩
theorem run_at {f : Addr} {fd : FuncData} {ps : List Str} (F : FnOk X.prog X.w X.K X.mg X.base CX0 k f fd ps sp) (hb : Binds X.K fd ps []) {A : Around} (hA : At X k A) {pins : List (Addr × Obj)} {σ : L2.St} {H : Hp} {s : Shared} {Q : VK} {us : List Value} {vs : List V}
    (I : Inv X pins σ H s) (rv : Vals vs us) (q : sp vs H Q E0) {E : Value → Shared → Prop} : wpAny (model X.prog X.w) A (call (.ref f) us) (EP X pins σ Q) E s := by
  have hl : us.length = ps.length := by
    have := F.len _ _ _ _ q
    rw [← rv.length]
    exact this
  have b := hb s us I.kIn (by simpa using hl)
  rw [List.append_nil] at b
  have e0 : Env0 X.prog X.w X.K X.mg X.base A X.stack s H := by
    have e := I.env0
    exact ⟨by rw [hA.fr]; exact e.frames, e.mod, e.bs, e.bsz, e.funs, e.frf, e.hok, e.bare⟩
  refine wpAny_call (codeAny_mono (F.run A X.stack s H ⟨us, []⟩ us vs _ E0 hA.rm e0 b rv q) ?_)
  intro res s' z
  cases res with
  | error e => exact z.elim
  | ok fl =>
    cases fl with
    | next => exact z.elim
    | brk => exact z.elim
    | cont => exact z.elim
    | ret u => exact I.after z
def rTx (C : Addr) (sp : Sp) : List V → Hp → VK → Prop := fun xs H Q => ∃ a, xs = [.ref a] ∧ IsI H C a ∧ sp [.ref a] H (StrQ Q) E0
/-- str(o) -/
theorem call_strS (S : Sl X.prog X.w X.K X.mg X.base C "__str__" k sp) (hr : Room j X.A) (hk : k + 2 ≤ j) : CallR X (.type "str") (rTx C sp) := by
  obtain ⟨f, fd, ps, F, hb, hs, hf⟩ := S.ex
  have hr2 : Room (k + 2) X.A := hr.mono hk
  intro pins s σ H xs us Q I r h
  obtain ⟨a, rfl, ⟨dx, fs, ha⟩, q⟩ := h
  obtain ⟨u, rfl, ru⟩ := vals1 r
  cases ru
  obtain ⟨mA, O, _⟩ := ins_get I.hok ha
  obtain ⟨od, J, _⟩ := O.look
  have hu : X.A.in1.in1.units < cLine := by
    have := hr2.un
    show X.A.units + 1 + 1 < cLine
    omega
  have rv : Vals [V.ref a] [Value.ref a] := .cons rfl .nil
  refine PySem.W.kso_call hu I.kIn J hs hf ?_
  exact wpAny_mono (run_at F hb (A := X.A.in1.in1) ⟨rfl, hr2.in1.in1⟩ I rv q) (fun _ _ z => back_str z) fun _ _ z => z
/-- repr(o) -/
theorem call_reprS (S : Sl X.prog X.w X.K X.mg X.base C "__repr__" k sp) (hr : Room j X.A) (hk : k + 1 ≤ j) : CallR X (.builtin "repr") (rTx C sp) := by
  obtain ⟨f, fd, ps, F, hb, hs, hf⟩ := S.ex
  have hr2 : Room (k + 1) X.A := hr.mono hk
  intro pins s σ H xs us Q I r h
  obtain ⟨a, rfl, ⟨dx, fs, ha⟩, q⟩ := h
  obtain ⟨u, rfl, ru⟩ := vals1 r
  cases ru
  obtain ⟨mA, O, _⟩ := ins_get I.hok ha
  obtain ⟨od, J, _⟩ := O.look
  obtain ⟨m, hF⟩ := I.fr
  have hu : X.A.in1.units < cLine := by
    have := hr2.un
    show X.A.units + 1 < cLine
    omega
  have rv : Vals [V.ref a] [Value.ref a] := .cons rfl .nil
  refine PySem.W.repr_K hu hF I.ok.mod.kin J hs hf ?_
  exact wpAny_mono (run_at F hb (A := X.A.in1) ⟨rfl, hr2.in1⟩ I rv q) (fun _ _ z => back_str z) fun _ _ z => z
end
end KG
end

/-! ## Cp -/
section
/-! == of an own class with any value, from the left and, reflected, from the right of an int, a truth or a text. -/
namespace KG
open PySem PySem.Spec PyProof.Rows L2
section
variable {X : Cx} {k j : Nat} {C : Addr} {sp : Sp}
abbrev BoolQ (Q : VK) : VK := fun v H' => ∃ b, v = .bl b ∧ Q v H'
theorem back_bool {pins : List (Addr × Obj)} {σ : L2.St} {Q : VK} {u : Value} {s' : Shared} (h : EP X pins σ (BoolQ Q) u s') : PySem.W.CmpBack (EP X pins σ Q) u s' := by
  obtain ⟨v, H', I', rv, b, rfl, q⟩ := h
  cases rv
  exact ⟨.bl b, H', I', rfl, q⟩
/-- o == y -/
def rEqO (K : PySem.W.Frag) (C : Addr) (sp : Sp) : R2 := fun x y H Q => ∃ a t, x = .ref a ∧ IsI H C a ∧ TyX K H y t ∧ PySem.W.notFirst K C t = true ∧ sp [.ref a, y] H (BoolQ Q) E0
theorem op_eqO (S : Sl X.prog X.w X.K X.mg X.base C "__eq__" k sp) (hr : Room j X.A) (hk : k ≤ j) : OpR X (compareOp .Eq) (rEqO X.K C sp) := by
  obtain ⟨f, fd, ps, F, hb, hs, hf⟩ := S.ex
  intro pins s σ H x y v u Q I rx ry h
  obtain ⟨a, t, rfl, ⟨dx, fs, ha⟩, ty, hn, q⟩ := h
  cases rx
  obtain ⟨mA, O, _⟩ := ins_get I.hok ha
  obtain ⟨od, J, _⟩ := O.look
  obtain ⟨m, hF⟩ := I.fr
  obtain ⟨P, Z, p, _⟩ := kit_of I ry ty
  have rv : Vals [V.ref a, y] [Value.ref a, u] := .cons rfl (.cons ry .nil)
  refine PySem.W.cmp_K (op := .Eq) hr.units0 hF I.ok.mod.kin J (Z.ty _ _ I.kIn p) hn hs hf ?_
  exact wpAny_mono (run_fn F (hr.mono hk) hb I rv q) (fun _ _ z => back_bool z) fun _ _ z => z

/-! ### reflected -/
/-- a built-in value's own == has no word for an own object -/
def EqDecl (v : Value) : Prop := ∀ (prog : Program) (w : World) (A : Around) (E : Value → Shared → Prop) (s : Shared) (x C : Addr) (ox : Obj) (od : Option Obj) (Q : Option Value → Shared → Prop), PySem.W.InstAt s.heap x ox C od → ox.data = .plain → A.units + 2 < cLine → Q none s → wpAny (model prog w) A (tryCompare v "__eq__" (.ref x)) Q E s
def rEqR (K : PySem.W.Frag) (C : Addr) (sp : Sp) (D : Value → Prop) : R2 := fun x y H Q => ∃ a t, y = .ref a ∧ IsI H C a ∧ TyX K H x t ∧ (∀ u, RelV x u → D u) ∧ (∀ u b, RelV x u → oneThing? .Eq u (.ref b) = none) ∧ t ≠ .ref C ∧ PySem.W.subIn K (.ref C) t = some false ∧ sp [.ref a, x] H (BoolQ Q) E0
theorem op_eqR (S : Sl X.prog X.w X.K X.mg X.base C "__eq__" k sp) (hr : Room j X.A) (hk : k ≤ j) : OpR X (compareOp .Eq) (rEqR X.K C sp EqDecl) := by
  obtain ⟨f, fd, ps, F, hb, hs, hf⟩ := S.ex
  intro pins s σ H x y v u Q I rx ry h
  obtain ⟨a, t, rfl, ⟨dx, fs, ha⟩, ty, hd, h1, tn, hsub, q⟩ := h
  cases ry
  obtain ⟨mA, O, _⟩ := ins_get I.hok ha
  obtain ⟨od, J, _⟩ := O.look
  obtain ⟨P, Z, p, _⟩ := kit_of I rx ty
  have rv : Vals [V.ref a, x] [Value.ref a, v] := .cons rfl (.cons rx .nil)
  have call := wpAny_mono (run_fn F (hr.mono hk) hb I rv q (E := X.xe)) (fun _ _ z => back_bool z) fun _ _ z => z
  have two : wpAny (model X.prog X.w) X.A (tryCompare (.ref a) (cmpInfo .Eq).2.2 v) (fun r s' => ∃ z, r = some z ∧ EP X pins σ Q z s') X.xe s := by
    unfold tryCompare
    refine wpAny_bind (PySem.W.ifBound_K I.kIn J hs hf (wpAny_mono call (fun v s' hv => ?_) fun _ _ e => e))
    cases v <;> first | exact hv.elim | exact wpAny_pure ⟨_, rfl, hv⟩
  show wpAny _ _ (richCompare .Eq v (.ref a)) _ _ _
  unfold richCompare
  refine wpAny_holding (wpAny_bind (wpAny_cRoomFor hr.units0 ?_))
  rw [h1 v a rx]
  refine wpAny_bind ((Z.ty _ _ I.kIn p).here (wpAny_bind (J.type.here ?_)))
  have ne : (t != Value.ref C) = true := by simpa using tn
  rw [if_pos ne]
  refine wpAny_bind ((PySem.W.looks_subIn I.kIn hsub).here ?_)
  simp only [Bool.false_eq_true, if_false]
  refine wpAny_bind (hd v rx _ _ _ _ _ _ _ _ _ _ J rfl (by have := hr.un; omega) ?_)
  simp only [Bool.not_false, if_true]
  refine wpAny_bind (wpAny_mono two (fun r s' hr' => ?_) fun _ _ e => e)
  obtain ⟨z, rfl, hq⟩ := hr'
  exact wpAny_pure hq
end
end KG
end

/-! ## Cq -/
section
/-! built-in values have no word for an own object when they are asked for == -/
namespace KG
open PySem PySem.Spec PyProof.Rows L2
theorem eqDecl_slot {v : Value} {T : String} {name : Str} {id : String} {b : Builtin} (hn : name = "__eq__") (slot : Slot T name id) (hT : ∀ s : Shared, s.TypeIs v T) (entry : entryFor table id = some b) (hargs : ∀ a b : Value, argsOk id ⟨[a, b], []⟩)
    (body : ∀ (prog : Program) (w : World) (A : Around) (E : Value → Shared → Prop) (s : Shared) (x C : Addr) (ox : Obj) (od : Option Obj) (Q : Fin → Shared → Prop), PySem.W.InstAt s.heap x ox C od → ox.data = .plain → Q (.done (.ret .notImplemented)) s → wpAny (model prog w) A (b ⟨[v, .ref x], []⟩) Q E s) : EqDecl v := by
  subst hn
  intro prog w A E s x C ox od Q I hp hu q
  unfold tryCompare
  refine wpAny_bind (wpAny_callSpecialIfBound?_slot (hT s) slot ?_)
  refine wpAny_call_entry slot (hT s) entry ?_ (hargs _ _)
  exact body prog w A.in1 E s x C ox od _ I hp ⟨_, rfl, wpAny_pure q⟩
theorem asInt_own {prog : Program} {w : World} {A : Around} {E : Value → Shared → Prop} {s : Shared} {x C : Addr} {ox : Obj} {od : Option Obj} {Q : Option Int → Shared → Prop} (I : PySem.W.InstAt s.heap x ox C od) (hp : ox.data = .plain) (q : Q none s) : wpAny (model prog w) A (asInt? (.ref x)) Q E s := by
  unfold asInt?
  refine wpAny_bind (wpAny_load I.at_ ?_)
  rw [hp]
  exact wpAny_pure q
theorem asStr_own {prog : Program} {w : World} {A : Around} {E : Value → Shared → Prop} {s : Shared} {x C : Addr} {ox : Obj} {od : Option Obj} {Q : Option Str → Shared → Prop} (I : PySem.W.InstAt s.heap x ox C od) (hp : ox.data = .plain) (q : Q none s) : wpAny (model prog w) A (asStr? (.ref x)) Q E s := by
  unfold asStr?
  refine wpAny_bind (wpAny_load I.at_ ?_)
  rw [hp]
  exact wpAny_pure q
theorem eqDecl_int (n : Int) (t : Tok) : EqDecl (.int n t) := by
  have e1 := F.slot_int_eq
  have e2 := F.entry_int_eq
  have e3 := F.args_int_eq_2
  have e4 : Builtin.«int.__eq__» = Builtin.Int.intBinary "__eq__" (fun x y => PySem.ret (.bool (x == y))) := rfl
  generalize Builtin.«int.__eq__» = b at e2 e4
  subst e4
  refine eqDecl_slot rfl e1 (fun s => typeIs_int s n t) e2 e3 fun prog w A E s x C ox od Q I hp q => ?_
  unfold Builtin.Int.intBinary
  refine wpAny_bind (m := slotArgs "__eq__" 1 _) (wpAny_pure ?_)
  refine wpAny_bind (m := Builtin.Int.intOfSelf (.int n t)) (wpAny_pure ?_)
  refine wpAny_bind (m := asInt? (.ref x)) (asInt_own I hp ?_)
  exact wpAny_bind (wpAny_rule (wpAny_pure q))
theorem eqDecl_str (z : Str) (t : Tok) : EqDecl (.str z t) := by
  have e1 := F.slot_str_eq
  have e2 := F.entry_str_eq
  have e3 := F.args_str_eq_2
  have e4 : Builtin.«str.__eq__» = Builtin.Str.strCompare "__eq__" (· == ·) := rfl
  generalize Builtin.«str.__eq__» = b at e2 e4
  subst e4
  refine eqDecl_slot rfl e1 (fun s => typeIs_str s z t) e2 e3 fun prog w A E s x C ox od Q I hp q => ?_
  unfold Builtin.Str.strCompare
  refine wpAny_bind (m := Builtin.Str.strSlot "__eq__" 1 _) (wpAny_pure ?_)
  refine wpAny_bind (m := asStr? (.ref x)) (asStr_own I hp ?_)
  exact wpAny_bind (wpAny_rule (wpAny_pure q))
end KG
end

/-! ## Cn -/
section
/-! != of an own class that has a == and no !=. -/
namespace KG
open PySem PySem.Spec PyProof.Rows L2
theorem on_bind (self : Value) : bindSpecial (.builtin "object.__ne__") self = pure (.builtin "object.__ne__", [self]) :=
  (Slot.of (T := "object") (name := "__ne__") (owner := "object") (n := "__ne__") (by rw [typeLookup_type, builtinLookup_eq_fast]; kernel_rfl) (by decide +kernel) (by decide +kernel) (by decide +kernel)
    (.inl (by decide +kernel)) (by rw [isSubtype_type]; kernel_rfl)).bind self
theorem on_plain : plainId "object.__ne__" = true := by decide +kernel
section
open PySem.W
variable {prog : Program} {w : World} {A : Around} {E : Value → Shared → Prop} {s : Shared} {K : Frag} {x C f : Addr} {ox : Obj} {od : Option Obj} {b : Value}
theorem ne_body {Q : Fin → Shared → Prop} (XK : K.In s.heap) (I : InstAt s.heap x ox C od) (he : findIn K (.ref C) "__eq__" = some (some (.ref f))) (hf : isFn K (.ref f) = true) (hu : A.units < cLine)
    (h : wpAny (model prog w) A (call (.ref f) [.ref x, b]) (fun v s' => ∃ k, v = .bool k ∧ Q (.done (.ret (.bool (!k)))) s') E s) : wpAny (model prog w) A (Builtin.«object.__ne__» ⟨[.ref x, b], []⟩) Q E s := by
  unfold Builtin.«object.__ne__»
  refine wpAny_bind (m := slotArgs "__ne__" 1 _) (wpAny_pure ?_)
  refine wpAny_bind (wpAny_cRoomFor hu ?_)
  refine wpAny_bind (m := callSpecialIfBound? (.ref x) (Str.ofString "__eq__") [b]) (ifBound_K XK I he hf (wpAny_mono h (fun v s' hv => ?_) fun _ _ e => e))
  obtain ⟨k, rfl, q⟩ := hv
  exact wpAny_bind (wpAny_truthy_bool (wpAny_pure q))

theorem try_ne {Q : Value → Shared → Prop} (XK : K.In s.heap) (I : InstAt s.heap x ox C od) (hs : findIn K (.ref C) "__ne__" = some (some (.builtin "object.__ne__"))) (he : findIn K (.ref C) "__eq__" = some (some (.ref f))) (hf : isFn K (.ref f) = true)
    (hm : subIn K (.ref C) (.type "object") = some true) (hu : A.units + 2 < cLine)
    (h : wpAny (model prog w) A.in1 (call (.ref f) [.ref x, b]) (fun v s' => ∃ k, v = .bool k ∧ Q (.bool (!k)) s') E s) : wpAny (model prog w) A (tryCompare (.ref x) "__ne__" b) (fun r s' => ∃ v, r = some v ∧ Q v s') E s := by
  have hi : Looks (model prog w) s.heap (isInstance (.ref x) (.type "object")) true := I.type.andThen (looks_subIn XK hm)
  have core : wpAny (model prog w) A (call (.builtin "object.__ne__") [.ref x, b]) (fun v s' => ∃ k, v = .bool k ∧ Q (.bool k) s') E s := by
    refine wpAny_call (codeAny_call_builtin on_plain F.cmpEntry_ne (check_slot F.cmpKind_ne F.cmpSplit_ne hi (F.cmpArgs_ne _ _) ?_))
    refine ne_body (A := A.in1) XK I he hf (by show A.units + 1 < cLine; omega) (wpAny_mono h (fun v s' hv => ?_) fun _ _ e => e)
    obtain ⟨k, rfl, q⟩ := hv
    exact ⟨k, rfl, ⟨_, rfl, q⟩⟩
  have fin : wpAny (model prog w) A (call (.builtin "object.__ne__") ([.ref x] ++ [b]) >>= fun v => pure (some v)) (fun r s' => ∃ k, r = some (.bool k) ∧ Q (.bool k) s') E s := wpAny_bind (wpAny_mono core (fun v s' hv => by
    obtain ⟨k, rfl, q⟩ := hv
    exact wpAny_pure ⟨k, rfl, q⟩) fun _ _ e => e)
  unfold tryCompare
  refine wpAny_bind (m := callSpecialIfBound? (.ref x) (Str.ofString "__ne__") [b]) ?_
  simp only [callSpecialIfBound?, bindSpecialIfBound?]
  refine wpAny_holding (wpAny_bind (wpAny_bind (wpAny_bind (I.type.here ((looks_findIn XK hs).here ?_)))))
  have out : ∀ {r : Option Value} {s' : Shared}, (∃ k, r = some (.bool k) ∧ Q (.bool k) s') → wpAny (model prog w) A (match r with
      | some .notImplemented | none => pure none
      | some v => pure (some v) : Sem (Option Value)) (fun r s' => ∃ v, r = some v ∧ Q v s') E s' := by
    rintro r s' ⟨k, rfl, q⟩
    exact wpAny_pure ⟨_, rfl, q⟩
  refine wpAny_bind (wpAny_askSetting (wpAny_ite ?_))
  split
  · refine wpAny_bind (wpAny_of_eq (on_bind _) (wpAny_pure ?_))
    exact wpAny_mono fin (fun r s' hr => out hr) fun _ _ e => e
  · refine wpAny_tryCatch (wpAny_bind (wpAny_of_eq (on_bind _) (wpAny_pure ?_)))
    exact wpAny_mono fin (fun r s' hr => out hr) fun _ _ e => e
end
end KG
end

/-! ## Kw11 -/
section
namespace KG
open PySem PySem.Spec PyProof.Rows L2
/-- a class that may be made by its parameters' names alone -/
structure MkN (P : Program) (w : World) (K : PySem.W.Frag) (mg : Str → Option Value) (base : Heap) (k : Nat) (x : Str) (C : Addr) (ks : List Str) (gV : List V → List V → List V) (sp : Sp) : Prop where
  ex : ∃ (f : Addr) (fd : FuncData) (ps : List Str) (g : List Value → List Value → List Value), Mk K C f ∧ FnOk P w K mg base CX0 k f fd ps sp ∧ mg x = some (.ref C) ∧ KBn K fd ps 1 ks g gV
def tMkN (C : Addr) (n : Nat) (sp : Sp) (gV : List V → List V → List V) (tk : TA) : TE := fun σ H Q => tk σ H fun zs H2 => zs.length = n ∧
  ∀ x dx, H2 x = none → H2 dx = none → dx ≠ x → sp (gV [.ref x] zs) (upd (upd H2 dx (.own x)) x (.ins C dx [])) (fun v H3 => v = .non ∧ Q (.ref x) H3) E0
/-- a method that may be called by its parameters' names -/
structure MeN (P : Program) (w : World) (K : PySem.W.Frag) (mg : Str → Option Value) (base : Heap) (k : Nat) (C : Addr) (m : Str) (ks : List Str) (sp : Sp) : Prop where
  ex : ∃ (f : Addr) (fd : FuncData) (ps : List Str), Meth K C m f ∧ FnOk P w K mg base CX0 k f fd ps sp ∧ Binds K fd ps [] ∧ ps.length = ks.length + 1 ∧ ∀ (s : Shared) (a : Value) (ws : List Value), ws.length = ks.length → BindsTo s fd ⟨[a], ks.zip ws⟩ (ps.zip (a :: ws))
def tMeN (C : Addr) (m : Str) (sp : Sp) (ta : TE) (tk : TA) : TE := fun σ H Q => ta σ H fun x H1 => ∃ a dx fs, x = .ref a ∧ H1 a = some (.ins C dx fs) ∧ fs.lookup m = none ∧ tk σ H1 fun zs H2 => sp (.ref a :: zs) H2 Q E0
section
variable {X : Cx} {k j : Nat} {x m : Str} {C : Addr} {ks : List Str} {gV : List V → List V → List V} {sp : Sp} {p pos apos : Pos} {o e : Expr} {es : List Expr} {kws : List Keyword} {ta : TE} {t tk : TA}
theorem pe_mkN (c : MkN X.prog X.w X.K X.mg X.base k x C ks gV sp) (hr : Room j X.A) (hj : k + 1 ≤ j) (gl : Gl X x) (hkw : PK X kws tk)
    (hall : (backToKw pos (keywordEach kws X.env)).all (·.1.isSome) = true := by rfl) (hks : (backToKw pos (keywordEach kws X.env)).filterMap (·.1) = ks := by rfl)
    (hdb : (x == ("__debug__" : Str)) = false := by decide)
    (hpl : ((backTo pos (starEach [] X.env)).any (·.1) || (backToKw pos (keywordEach kws X.env)).any (·.1.isNone)) = false := by rfl) :
    PE X (.Call (.Name x p) [] kws pos) (tMkN C ks.length sp gV tk) := by
  obtain ⟨f, fd, ps, g, M, F, hm, hb⟩ := c.ex
  constructor
  intro pins s σ H Q I h
  refine wpAny_Call_Name_kw (ld_glob I gl hm ?_ hdb)
  refine PySem.W.callWith_KW0 (h₀ := X.base) I.ok.mod.kin M.kp hall ?_ hpl
  refine thn (hkw.run pos pins s σ H _ I h) ?_
  rintro ws s2 ⟨zs, H2, I2, rz, l2, q2⟩
  refine ⟨I2.kIn, ?_⟩
  rw [hks]
  exact run_makeN (n := 0) (us := []) (vs := []) M F (hr.mono hj) hb pass0 I2 .nil rz rfl l2 q2
theorem pe_meN {pl : Sem Bool} (c : MeN X.prog X.w X.K X.mg X.base k C m ks sp) (cl : Cls X.K C) (hr : Room j X.A) (hj : k ≤ j) (he : PE X o ta) (hkw : PK X kws tk)
    (hall : (backToKw pos (keywordEach kws X.env)).all (·.1.isSome) = true := by rfl) (hks : (backToKw pos (keywordEach kws X.env)).filterMap (·.1) = ks := by rfl)
    (hpl : ((backTo pos (starEach [] X.env)).any (·.1) || (backToKw pos (keywordEach kws X.env)).any (·.1.isNone)) = false := by rfl)
    (ht : eval (.Call (.Attribute o m apos) [] kws pos) X.env = (do
      let ov ← eval o X.env
      standAt apos.atName
      let (f, first) ← holding [ov] (getMethod ov m pl)
      callWith pos f first (backTo pos (starEach [] X.env)) (backToKw pos (keywordEach kws X.env))) := by rfl) :
    PE X (.Call (.Attribute o m apos) [] kws pos) (tMeN C m sp ta tk) := by
  obtain ⟨f, fd, ps, hm, F, _, hlen, hb⟩ := c.ex
  refine ⟨fun pins s σ H Q I h => ?_⟩
  refine PySem.W.methodCall_KW (pl := pl) (thn (he.run pins s σ H _ I h) fun u s1 ⟨x, H1, I1, rx, a, dx, fs, ex, ea, l, q⟩ => ?_) ht
  subst ex
  obtain rfl : u = Value.ref a := rx
  refine getmeth_ok I1 ea cl hm l ?_
  refine PySem.W.callWith_KW0 (first := [.ref a]) (h₀ := X.base) I.ok.mod.kin hm.kp hall ?_ hpl
  refine thn (hkw.run pos pins s1 σ H1 _ I1 q) ?_
  rintro ws s2 ⟨zs, H2, I2, rz, q2⟩
  refine ⟨I2.kIn, ?_⟩
  rw [hks]
  have hl : ws.length = ks.length := by
    have h1 := F.len _ _ _ _ q2
    rw [List.length_cons] at h1
    rw [← rz.length]
    omega
  have rv : Vals (V.ref a :: zs) (Value.ref a :: ws) := .cons rfl rz
  refine wpAny_call (codeAny_mono (F.run X.A X.stack s2 H2 ⟨[.ref a], ks.zip ws⟩ (.ref a :: ws) (.ref a :: zs) Q E0 (hr.mono hj) I2.env0 (hb s2 (.ref a) ws hl) rv q2) ?_)
  intro res s' q
  cases res with
  | error e => exact q.elim
  | ok fl =>
    cases fl with
    | ret u => exact I2.after q
    | next => exact q.elim
    | brk => exact q.elim
    | cont => exact q.elim
theorem pe_me {pl : Sem Bool} (c : MeN X.prog X.w X.K X.mg X.base k C m ks sp) (cl : Cls X.K C) (hr : Room j X.A) (hj : k ≤ j) (he : PE X o ta) (ha : PA X (e :: es) t)
    (hst : starEach (e :: es) X.env = (false, eval e X.env) :: starEach es X.env := by rfl) (hpl : (backTo pos (starEach es X.env)).any (·.1) = false := by rfl)
    (ht : eval (.Call (.Attribute o m apos) (e :: es) [] pos) X.env = (do
      let ov ← eval o X.env
      standAt apos.atName
      let (f, first) ← holding [ov] (getMethod ov m pl)
      callWith pos f first (backTo pos (starEach (e :: es) X.env)) (backToKw pos (keywordEach [] X.env))) := by rfl) :
    PE X (.Call (.Attribute o m apos) (e :: es) [] pos) (tMeth C m sp [] E0 ta t) := by
  obtain ⟨f, fd, ps, hm, F, hb, _⟩ := c.ex
  exact pe_meth he cl hm F (hr.mono hj) hb .nil pass0 ha hst hpl ht
end
section
open ClX
variable {X : Cx} {CX : CXT} {k : Nat} {C p g : Addr} {mc : Value} {sp : Sp} {E : XK} {o : Expr} {m : Str} {pos apos : Pos} {ta : TE} {pl : Sem Bool}
theorem pe_cmeth0 (he : PE X o ta) (r : CRead X.K C mc) (c : CMet X.K C mc m p g) (F : FnR X.prog X.w X.K X.mg X.base CX k g sp) (hr : Room k X.A) (hx : Passes CX X E)
    (ht : eval (.Call (.Attribute o m apos) [] [] pos) X.env = (do
      let ov ← eval o X.env
      standAt apos.atName
      let (f, first) ← holding [ov] (getMethod ov m pl)
      callWith pos f first (backTo pos (starEach [] X.env)) (backToKw pos (keywordEach [] X.env))) := by rfl) :
    PE X (.Call (.Attribute o m apos) [] [] pos) (tCMeth C sp E ta tNil) := by
  refine ⟨fun pins s σ H Q I h => ?_⟩
  refine PySem.W.methodCall_KW (pl := pl) (thn (he.run pins s σ H _ I h) fun u s1 ⟨x, H1, I1, rx, ex, q⟩ => ?_) ht
  subst ex
  obtain rfl : u = Value.ref C := rx
  refine getmethcm_ok I1 r c fun s2 I2 => ?_
  exact PySem.W.callWith_M0 ⟨pin_at I2, I2.kIn⟩ c.fi (run_cm F hr hx I2 .nil q)
end
end KG
end

/-! ## E12 -/
section
set_option pp.maxSteps 400
namespace Cm
open PySem PySem.Spec PyProof.Rows L2 KG
abbrev sRBelow : Stmt := sR 12
abbrev sREq : Stmt := sR 14
theorem decI (a b : Int) : decide (V.int a = V.int b) = decide (a = b) := by
  by_cases e : a = b
  · subst e
    simp
  · have h : ¬ V.int a = V.int b := fun q => e (V.int.inj q)
    rw [decide_eq_false h, decide_eq_false e]
def spBelow (CR : Addr) : Sp := fun vs H Q _ => ∃ (a : Addr) (y : V) (p q : Int × Int) (k l k' l' : Nat), vs = [.ref a, y] ∧ RA CR H a p ∧ Num CR H y q ∧ Bd k l p ∧ Bd k' l' q ∧ Fit k l k' l' ∧ ∀ H' : Hp, Same H H' → Q (.bl (decide (p.1 * q.2 < q.1 * p.2))) H'
def spREq (K : PySem.W.Frag) (CR : Addr) : Sp := fun vs H Q _ => ∃ (a : Addr) (y : V) (p : Int × Int), vs = [.ref a, y] ∧ RA CR H a p ∧
  ((∃ b q, y = .ref b ∧ RA CR H b q ∧ Q (.bl (decide (p.1 = q.1) && decide (p.2 = q.2))) H) ∨ ∃ t, TyX K H y t ∧ PySem.W.kitOne K t (.ref CR) = some false ∧ Q (.bl false) H)
section
variable {P : Program} {w : World} {K : PySem.W.Frag} {mg : Str → Option Value} {base : Heap} {CR : Addr}
theorem scRBelow : FnScope ["self", "other", "bound"] ["self", "other"] (defScope sRBelow) := ⟨rfl, rfl, rfl, by decide +kernel, rfl, by decide +kernel, by decide +kernel⟩
theorem ok_rBelow {f : Addr} {fd : FuncData} (F : Fun K "is_below" "Ratio.is_below" sRBelow f fd) (T : TxtR K mg CR)
    (cA : Cl P w K mg base 4 "as_ratio" ["value"] (spAsRatio CR)) (pT : Pr P w K mg base CR "top" (spRTop CR)) (pB : Pr P w K mg base CR "bottom" (spRBot CR)) : FnOk P w K mg base CX0 5 f fd ["self", "other"] (spBelow CR) := by
  refine F.ok scRBelow (fun vs H Q E h => ?_) (fun cdv A outer s H vs Q E hr h => ?_)
  · obtain ⟨a, y, _, _, _, _, _, _, rfl, _⟩ := h
    rfl
  · obtain ⟨a, y, p, q, k, l, k', l', rfl, ha, hy, hp, hq, hf, z⟩ := h
    refine ⟨_, pss_cons (ps_set (i := 2) scRBelow.nd rfl (Or.inl rfl) (pe_k cA hr (by decide) (by rfl) (pa_cons (pv 1) pa_nil)))
      (pss_one (ps_ret (pe_cmpR op_lt (pe_op op_mulW (pe_fld (pv 0) rfl) (pe_pr pB T.cl hr (by decide) (pv 2))) (pe_op op_mulW (pe_pr pT T.cl hr (by decide) (pv 2)) (pe_fld (pv 0) rfl)) (nomark _)))), ?_⟩
    refine ⟨_, rfl, y, q, k', l', rfl, hy, hq, (by have := hf.1; omega), fun H1 c s1 r1 => ?_⟩
    obtain ⟨dx, h1⟩ := ha.keep s1
    obtain ⟨dc, h2⟩ := id r1
    obtain ⟨f1, f2, f3, f4⟩ := hf
    refine ⟨_, rfl, a, CR, dx, _, _, rfl, h1, T.cl, T.nT, rf_top _ _, _, rfl, c, dc, _, rfl, h2, c, q, rfl, r1, _, _, rfl, rfl, cmw (Nat.le_of_lt hp.1) hq.2.1 (by omega), ?_⟩
    refine ⟨_, rfl, c, dc, _, rfl, h2, c, q, rfl, r1, _, rfl, a, CR, dx, _, _, rfl, h1, T.cl, T.nB, rf_bot _ _, _, _, rfl, rfl, cmw (Nat.le_of_lt hq.1) hp.2.1 (by omega), _, _, rfl, rfl, ?_⟩
    exact z _ s1

theorem scREq : FnScope ["self", "other"] ["self", "other"] (defScope sREq) := ⟨rfl, rfl, rfl, by decide +kernel, rfl, by decide +kernel, by decide +kernel⟩
theorem ok_rEq {f : Addr} {fd : FuncData} (F : Fun K "__eq__" "Ratio.__eq__" sREq f fd) (T : TxtR K mg CR) (iR : InsK K CR) (kk : KI K CR) : FnOk P w K mg base CX0 1 f fd ["self", "other"] (spREq K CR) := by
  refine F.ok scREq (fun vs H Q E h => ?_) (fun cdv A outer s H vs Q E hr h => ?_)
  · obtain ⟨a, y, _, rfl, _⟩ := h
    rfl
  · obtain ⟨a, y, p, rfl, ⟨dx, ha⟩, h⟩ := h
    refine ⟨_, pss_one (ps_ret (pe_and (pe_callB call_isi (by rfl) T.isi (by decide +kernel) (pa_cons (pv 1) (pa_cons (pe_glob (v := .ref CR) (by rfl) T.mgR rfl) pa_nil)))
      (pe_and (pe_cmpR op_eq (pe_fld (pv 0) rfl) (pe_fld (pv 1) rfl) (nomark _)) (pe_one (pe_cmpR op_eq (pe_fld (pv 0) rfl) (pe_fld (pv 1) rfl) (nomark _)))))), ?_⟩
    rcases h with ⟨b, q, rfl, ⟨dy, hb⟩, z⟩ | ⟨t, ty, kt, z⟩
    · refine ⟨_, rfl, _, _, _, _, _, rfl, .own _, iR.ty hb, kk.r, _, rfl, ?_⟩
      refine iteT ?_
      refine ⟨_, rfl, a, CR, dx, _, _, rfl, ha, T.cl, T.nT, rf_top _ _, _, rfl, b, CR, dy, _, _, rfl, hb, T.cl, T.nT, rf_top _ _, rfl, _, rfl, ?_⟩
      have e1 : decide (V.int p.1 = V.int q.1) = decide (p.1 = q.1) := decI _ _
      have e2 : decide (V.int p.2 = V.int q.2) = decide (p.2 = q.2) := decI _ _
      rw [e1]
      cases h1 : decide (p.1 = q.1) with
      | false =>
        rw [h1] at z
        exact iteF z
      | true =>
        rw [h1, Bool.true_and, ← e2] at z
        exact iteT ⟨_, rfl, a, CR, dx, _, _, rfl, ha, T.cl, T.nB, rf_bot _ _, _, rfl, b, CR, dy, _, _, rfl, hb, T.cl, T.nB, rf_bot _ _, rfl, z⟩
    · exact ⟨_, rfl, _, _, t, _, _, rfl, .own _, ty, kt, _, rfl, iteF z⟩

/-- a fraction near another one, or a new one, always in lowest terms -/
abbrev sNear : Stmt := top 30
def spNear (K : PySem.W.Frag) : Sp := fun vs H Q _ => ∃ (j t : Addr) (p : Int × Int) (k l : Nat), vs = [.ref j, .ref t] ∧ JarAt H j ∧ PA2 K H t p ∧ Lw p ∧ Bd k l p ∧ k ≤ 6000 ∧ l ≤ 6000 ∧
  ∀ (H' : Hp) (u : Addr) (q : Int × Int), JarAt H' j → Kp j H H' → PA2 K H' u q → Lw q → Q (.ref u) H'
theorem SqT.kp {H H' : Hp} {j t : Addr} {xs : List V} (J : JarAt H j) (k : Kp j H H') (h : SqT K H t xs) : SqT K H' t xs := by
  obtain ⟨c, z, ej, _⟩ := J
  have ne : ∀ o, H t = some o → (∀ ys, o ≠ .lst ys) → H' t = some o := fun o e n => k t o e fun z => by
    rw [z, ej] at e
    cases e
    exact n _ rfl
  exact h.elim (fun h => .inl (h.elim (fun h => .inl (ne _ h fun _ z => by cases z)) fun ⟨o, h⟩ => .inr ⟨o, ne _ h fun _ z => by cases z⟩)) fun h => .inr h
theorem scNear : FnScope ["_law_jar_here", "_law_pair", "_law_way", "_law_up", "_law_low"] ["_law_jar_here", "_law_pair"] (defScope sNear) := ⟨rfl, rfl, rfl, by decide +kernel, rfl, by decide +kernel, by decide +kernel⟩
theorem ok_near {f : Addr} {fd : FuncData} (F : Fun K "_law_near" "_law_near" sNear f fd) (cD : Cl P w K mg base 1 "_law_dip" ["_law_jar_here", "_law_many"] spDip) (cP : Cl P w K mg base 4 "_law_parts" ["_law_jar_here"] spParts)
    (cL : Cl P w K mg base 2 "_law_lowest" ["_law_up", "_law_low"] (spLowest K)) (cS : Cl P w K mg base 3 "_law_sum" ["_law_one", "_law_two"] (spP2 K sumP)) : FnOk P w K mg base CX0 5 f fd ["_law_jar_here", "_law_pair"] (spNear K) := by
  refine F.ok scNear (fun vs H Q E h => ?_) (fun cdv A outer s H vs Q E hr h => ?_)
  · obtain ⟨a, y, _, _, _, rfl, _⟩ := h
    rfl
  · obtain ⟨j, t, p, k, l, rfl, J, ht, lp, bp, hk, hl, z⟩ := h
    refine ⟨_, pss_cons (ps_set (i := 2) scNear.nd rfl (Or.inl rfl) (pe_k cD hr (by decide) (by rfl) (pa_cons (pv 0) (pa_cons pe_int pa_nil))))
      (pss_cons (ps_if (pt_cmpR op_eq (pv 2) pe_int (nomark _)) (pss_cons (ps_asg (pe_k cP hr (by decide) (by rfl) (pa_cons (pv 0) pa_nil)) (pg_tup (by rfl) (pgs_cons (pg_name (i := 3) scNear.nd rfl (Or.inl rfl)) (pgs_cons (pg_name (i := 4) scNear.nd rfl (Or.inl rfl)) pgs_nil))))
        (pss_one (ps_ret (pe_k cL hr (by decide) (by rfl) (pa_cons (pv 3) (pa_cons (pv 4) pa_nil)))))) pss_nil)
      (pss_cons (ps_if (pt_cmpR op_eq (pv 2) pe_int (nomark _)) (pss_one (ps_ret (pe_tup (pa_cons (pe_un un_neg (pe_ix ix_tup (pv 1) pe_int (fun _ _ => rfl))) (pa_cons (pe_ix ix_tup (pv 1) pe_int (fun _ _ => rfl)) pa_nil))))) pss_nil)
      (pss_cons (ps_if (pt_cmpR op_eq (pv 2) pe_int (nomark _)) (pss_one (ps_ret (pv 1))) pss_nil)
      (pss_cons (ps_if (pt_cmpR op_eq (pv 2) pe_int (nomark _)) (pss_one (ps_ret (pe_tup (pa_cons (pe_op KG.op_fdivN (pe_ix ix_tup (pv 1) pe_int (fun _ _ => rfl)) (pe_ix ix_tup (pv 1) pe_int (fun _ _ => rfl))) (pa_cons pe_int pa_nil))))) pss_nil)
      (pss_one (ps_ret (pe_k cS hr (by decide) (by rfl) (pa_cons (pv 1) (pa_cons (pe_tup (pa_cons (pe_ix ix_list (pe_lst (pa_cons pe_int (pa_cons (pe_un un_neg pe_int) pa_nil))) (pe_op op_sub (pv 2) pe_int) (fun _ _ => rfl))
        (pa_cons (pe_op op_add pe_int (pe_k cD hr (by decide) (by rfl) (pa_cons (pv 0) (pa_cons (pe_op op_pow pe_int pe_int) pa_nil)))) pa_nil))) pa_nil))))))))), ?_⟩
    refine ⟨_, rfl, j, 6, rfl, J, by decide, by decide, fun H1 way J1 k1 w0 w1 => ?_⟩
    have ht1 : PA2 K H1 t p := SqT.kp J k1 ht
    refine ⟨_, rfl, rfl, _, rfl, ?_⟩
    refine ite2 (fun _ => ?_) (fun n0 => ?_)
    · refine ⟨_, rfl, j, rfl, J1, fun H2 u n m J2 k2 _ eu hn hm hm0 => ?_⟩
      refine ⟨u, _, rfl, SqT.of eu, rfl, _, _, rfl, _, _, rfl, rfl, ?_⟩
      exact ⟨_, rfl, _, rfl, n, m, 100, 100, rfl, hm0, hn, Nat.le_of_lt hm, by decide, by decide, fun H3 v s3 hv => z H3 v _ (J2.keep s3) ((k1.trans k2).trans (Kp.same s3)) hv (low_lw hm0)⟩
    refine ⟨_, rfl, rfl, _, rfl, ?_⟩
    refine ite2 (fun _ => ?_) (fun n1 => ?_)
    · refine ⟨_, rfl, t, _, _, _, rfl, rfl, ht1, rfl, _, rfl, _, rfl, t, _, _, _, rfl, rfl, ht1, rfl, (by show 2 ≤ sizeLine; decide), fun u nu => ?_⟩
      exact z _ u (-p.1, p.2) (J1.keep (Same.upd_new nu)) (k1.trans (Kp.same (Same.upd_new nu))) (SqT.of upd_same) (lw_neg lp)
    refine ⟨_, rfl, rfl, _, rfl, ?_⟩
    refine ite2 (fun _ => ?_) (fun n2 => ?_)
    · exact ⟨_, rfl, z _ t p J1 k1 ht1 lp⟩
    refine ⟨_, rfl, rfl, _, rfl, ?_⟩
    refine ite2 (fun _ => ?_) (fun n3 => ?_)
    · have lg := lg_le (Nat.le_of_lt bp.1)
      refine ⟨_, rfl, t, _, _, _, rfl, rfl, ht1, rfl, _, rfl, t, _, _, _, rfl, rfl, ht1, rfl, _, _, rfl, rfl, ⟨lp.ne, by omega⟩, (by show 2 ≤ sizeLine; decide), fun u nu => ?_⟩
      exact z _ u (p.1.fdiv p.2, 1) (J1.keep (Same.upd_new nu)) (k1.trans (Kp.same (Same.upd_new nu))) (SqT.of upd_same) (lw_int _)
    · have hw : way = 4 ∨ way = 5 := by
        have a0 : ¬ way = 0 := fun e => n0 (decide_eq_true (congrArg V.int e))
        have a1 : ¬ way = 1 := fun e => n1 (decide_eq_true (congrArg V.int e))
        have a2 : ¬ way = 2 := fun e => n2 (decide_eq_true (congrArg V.int e))
        have a3 : ¬ way = 3 := fun e => n3 (decide_eq_true (congrArg V.int e))
        omega
      refine ⟨_, rfl, _, rfl, (by show 2 ≤ sizeLine; decide), fun b nb => ?_⟩
      have Jb : JarAt (upd H1 b (.lst [.int 1, .int (-1)])) j := J1.keep (Same.upd_new nb)
      have htb : PA2 K (upd H1 b (.lst [.int 1, .int (-1)])) t p := ht1.keep (Same.upd_new nb)
      have kb : Kp j H (upd H1 b (.lst [.int 1, .int (-1)])) := k1.trans (Kp.same (Same.upd_new nb))
      have e9 : (10 : Int) ^ (9 : Int).toNat = 1000000000 := by decide
      have fin : ∀ sg : Int, sg.natAbs < 2 ^ 2 → ∀ (H2 : Hp) (r : Int), JarAt H2 j → Kp j (upd H1 b (.lst [.int 1, .int (-1)])) H2 → 0 ≤ r → r < 1000000000 → ∀ u, H2 u = none → spP2 K sumP [.ref t, .ref u] (upd H2 u (.tup [.int sg, .int (1 + r)])) Q E0 := fun sg hsg H2 r J2 k2 r0 r1 u nu => by
        have h2 := SqT.kp Jb k2 htb
        have s2 := Same.upd_new (o := .tup [.int sg, .int (1 + r)]) nu
        have hr : (1 + r).natAbs ≤ 2 ^ 30 := by omega
        refine ⟨t, u, p, (sg, 1 + r), k, l, 2, 30, rfl, SqT.ext h2 s2, SqT.of upd_same, bp, ⟨hsg, hr, by show 1 + r ≠ 0; omega⟩, by unfold Fit; omega, fun H3 v s3 hv => ?_⟩
        exact z H3 v _ ((J2.keep s2).keep s3) ((kb.trans k2).trans (Kp.same (Same.trans' s2 s3))) hv (lw_sum lp.ne (by show 1 + r ≠ 0; omega))
      have cp : CPow 10 9 := ⟨by decide, by decide, by decide⟩
      rcases hw with rfl | rfl
      · refine ⟨_, rfl, _, _, rfl, rfl, b, _, _, .int 1, rfl, rfl, SqL.of upd_same, rfl, _, rfl, _, _, rfl, rfl, cp, j, _, rfl, Jb, by decide, by decide, fun H2 r J2 k2 r0 r1 => ?_⟩
        rw [e9] at r1
        exact ⟨_, _, rfl, rfl, (by show 2 ≤ sizeLine; decide), fun u nu => fin 1 (by decide) H2 r J2 k2 r0 r1 u nu⟩
      · refine ⟨_, rfl, _, _, rfl, rfl, b, _, _, .int (-1), rfl, rfl, SqL.of upd_same, rfl, _, rfl, _, _, rfl, rfl, cp, j, _, rfl, Jb, by decide, by decide, fun H2 r J2 k2 r0 r1 => ?_⟩
        rw [e9] at r1
        exact ⟨_, _, rfl, rfl, (by show 2 ≤ sizeLine; decide), fun u nu => fin (-1) (by decide) H2 r J2 k2 r0 r1 u nu⟩
end
end Cm
end

/-! ## F12 -/
section
set_option pp.maxSteps 400
namespace KG
open PySem PySem.Spec PyProof.Rows L2
section
variable {X : Cx} {k j : Nat} {C : Addr} {sp : Sp}
/-- o != y by the == of its class -/
theorem op_neO (S : Sl X.prog X.w X.K X.mg X.base C "__eq__" k sp) (hne : PySem.W.findIn X.K (.ref C) "__ne__" = some (some (.builtin "object.__ne__"))) (hm : PySem.W.subIn X.K (.ref C) (.type "object") = some true) (hr : Room j X.A) (hk : k + 1 ≤ j) :
    OpR X (compareOp .NotEq) (fun x y H Q => rEqO X.K C sp x y H fun v H' => ∃ b, v = .bl b ∧ Q (.bl (!b)) H') := by
  obtain ⟨f, fd, ps, F, hb, hs, hf⟩ := S.ex
  have hr2 : Room (k + 1) X.A := hr.mono hk
  intro pins s σ H x y v u Q I rx ry h
  obtain ⟨a, t, rfl, ⟨dx, fs, ha⟩, ty, hn, q⟩ := h
  cases rx
  obtain ⟨mA, O, _⟩ := ins_get I.hok ha
  obtain ⟨od, J, _⟩ := O.look
  obtain ⟨P, Z, p, _⟩ := kit_of I ry ty
  have rv : Vals [V.ref a, y] [Value.ref a, u] := .cons rfl (.cons ry .nil)
  have core := run_at F hb (A := X.A.in1) ⟨rfl, hr2.in1⟩ I rv q (E := X.xe)
  have one := try_ne (b := u) (Q := EP X pins σ Q) I.kIn J hne hs hf hm (by have := hr2.un; omega) (wpAny_mono core (fun v s' hv => by
    obtain ⟨w, H', I', rw', b, rfl, b', e, q'⟩ := hv
    cases e
    cases rw'
    exact ⟨b, rfl, .bl (!b), H', I', rfl, q'⟩) fun _ _ e => e)
  show wpAny _ _ (richCompare .NotEq (.ref a) u) _ _ _
  unfold richCompare
  simp only [oneThing_ref]
  refine wpAny_holding (wpAny_bind (wpAny_cRoomFor hr.units0 ?_))
  refine wpAny_bind (J.type.here (wpAny_bind ((Z.ty _ _ I.kIn p).here ?_)))
  split
  · rename_i qn
    have e : PySem.W.subIn X.K t (.ref C) = some false := by
      rcases Bool.or_eq_true_iff.mp hn with e | e
      · rw [beq_iff_eq.mp e] at qn
        simp at qn
      · exact beq_iff_eq.mp e
    refine wpAny_bind ((PySem.W.looks_subIn I.kIn e).here ?_)
    simp only [Bool.false_eq_true, if_false]
    refine wpAny_bind (wpAny_mono one (fun r s' z => ?_) fun _ _ e => e)
    obtain ⟨v, rfl, hq⟩ := z
    exact wpAny_pure hq
  · refine wpAny_bind (wpAny_pure ?_)
    simp only [Bool.false_eq_true, if_false]
    refine wpAny_bind (wpAny_mono one (fun r s' z => ?_) fun _ _ e => e)
    obtain ⟨v, rfl, hq⟩ := z
    exact wpAny_pure hq
end
end KG
namespace Cm
open PySem PySem.Spec PyProof.Rows L2 KG
abbrev sMade : Stmt := top 31
abbrev sTwo : Stmt := top 32
theorem low_scale {p : Int × Int} {t : Int} (h : Lw p) (ht : t ≠ 0) : low (p.1 * t) (p.2 * t) = p := by
  have e : low (p.1 * t) (p.2 * t) = low p.1 p.2 := low_eq (mul_ne h.ne ht) h.ne (by grind)
  rw [e]
  exact low_id h
def spMade (K : PySem.W.Frag) (CR : Addr) : Sp := fun vs H Q _ => ∃ (j t : Addr) (p : Int × Int) (k l : Nat), vs = [.ref j, .ref t] ∧ JarAt H j ∧ PA2 K H t p ∧ Lw p ∧ Bd k l p ∧ k ≤ 6000 ∧ l ≤ 6000 ∧
  ∀ (H' : Hp) (c : Addr), JarAt H' j → Kp j H H' → RA CR H' c p → Q (.ref c) H'
section
variable {P : Program} {w : World} {K : PySem.W.Frag} {mg : Str → Option Value} {base : Heap} {CR : Addr}
theorem scMade : FnScope ["_law_jar_here", "_law_pair", "_law_times_here"] ["_law_jar_here", "_law_pair"] (defScope sMade) := ⟨rfl, rfl, rfl, by decide +kernel, rfl, by decide +kernel, by decide +kernel⟩
theorem ok_made {f : Addr} {fd : FuncData} (F : Fun K "_law_made" "_law_made" sMade f fd) (T : Txt mg) (cC : Cl P w K mg base 2 "_law_choice" ["_law_jar_here", "_law_some"] (spChoice K))
    (cR : MkC P w K mg base 2 "Ratio" CR ["self", "top", "bottom"] [] (spRInit CR)) : FnOk P w K mg base CX0 4 f fd ["_law_jar_here", "_law_pair"] (spMade K CR) := by
  refine F.ok scMade (fun vs H Q E h => ?_) (fun cdv A outer s H vs Q E hr h => ?_)
  · obtain ⟨j, t, _, _, _, rfl, _⟩ := h
    rfl
  · obtain ⟨j, t, p, k, l, rfl, J, ht, lp, bp, hk, hl, z⟩ := h
    refine ⟨_, pss_cons (ps_set (i := 2) scMade.nd rfl (Or.inl rfl) (pe_k cC hr (by decide) (by rfl) (pa_cons (pv 0) (pa_cons (pe_lst (pa_cons pe_int (pa_cons (pe_un un_neg pe_int) (pa_cons pe_int (pa_cons (pe_un un_neg pe_int) (pa_cons (pe_op op_pow pe_int pe_int) pa_nil)))))) pa_nil))))
      (pss_cons (ps_if (PW.pt (pw_or (pt_cmpR op_ge (pe_callB call_abs (by rfl) T.abs (by decide +kernel) (pa_cons (pe_op op_mulW (pe_ix ix_tup (pv 1) pe_int (fun _ _ => rfl)) (pv 2)) pa_nil)) (pe_op op_pow pe_int pe_int) (nomark _))
          (pw_or1 (pt_cmpR op_ge (pe_callB call_abs (by rfl) T.abs (by decide +kernel) (pa_cons (pe_op op_mulW (pe_ix ix_tup (pv 1) pe_int (fun _ _ => rfl)) (pv 2)) pa_nil)) (pe_op op_pow pe_int pe_int) (nomark _)))))
          (pss_one (ps_ret (pe_mk cR hr (by decide) (by rfl) (pa_cons (pe_ix ix_tup (pv 1) pe_int (fun _ _ => rfl)) (pa_cons (pe_ix ix_tup (pv 1) pe_int (fun _ _ => rfl)) pa_nil))))) pss_nil)
      (pss_one (ps_ret (pe_mk cR hr (by decide) (by rfl) (pa_cons (pe_op op_mulW (pe_ix ix_tup (pv 1) pe_int (fun _ _ => rfl)) (pv 2)) (pa_cons (pe_op op_mulW (pe_ix ix_tup (pv 1) pe_int (fun _ _ => rfl)) (pv 2)) pa_nil)))))), ?_⟩
    have cp : ∀ j : Int, 0 ≤ j → j ≤ 1000 → CPow 10 j := fun j h0 h1 => ⟨h0, by omega, by decide⟩
    refine ⟨_, rfl, _, rfl, _, rfl, _, _, rfl, rfl, cp _ (by decide) (by decide), (by show 5 ≤ sizeLine; decide), fun b nb => ?_⟩
    have s1 : ∀ o, Same H (upd H b o) := fun _ => Same.upd_new nb
    have nbj : b ≠ j := by
      obtain ⟨c, z, e, _⟩ := J
      exact (ne_of_none e nb).symm
    refine ⟨j, _, rfl, J.keep (s1 _), .inl ⟨b, _, rfl, nbj, SqL.of upd_same, (by decide), (by decide), fun H1 i v J1 k1 hv => ?_⟩⟩
    obtain ⟨m, rfl, m0, m1⟩ : ∃ m : Int, v = V.int m ∧ m ≠ 0 ∧ m.natAbs ≤ 2 ^ 14 := by
      have hm := List.mem_of_getElem? hv
      simp only [List.mem_cons, List.not_mem_nil, or_false] at hm
      rcases hm with rfl | rfl | rfl | rfl | rfl <;> exact ⟨_, rfl, by decide, by decide⟩
    have h1 : PA2 K H1 t p := SqT.kp (J.keep (s1 _)) k1 (ht.keep (s1 _))
    have k01 : Kp j H H1 := (Kp.same (s1 _)).trans k1
    have c1 : CMulW p.1 m := cmw (Nat.le_of_lt bp.1) m1 (by omega)
    have c2 : CMulW p.2 m := cmw bp.2.1 m1 (by omega)
    have out1 : tRet (tMake CR (spRInit CR) [] E0 (tCons (tOp (rIxT K) (tVar 1) (tC (V.int 0))) (tCons (tOp (rIxT K) (tVar 1) (tC (V.int 1))) tNil))) { nx := fun _ H' => Q V.non H', rt := Q } [some (.ref j), some (.ref t), some (.int m)] H1 := by
      refine ⟨_, rfl, t, _, _, _, rfl, rfl, h1, rfl, _, rfl, t, _, _, _, rfl, rfl, h1, rfl, ?_⟩
      refine mk_low bp.1 bp.2.1 bp.2.2 (by omega) (by omega) fun H2 c s2 r2 => ?_
      rw [low_id lp] at r2
      exact z H2 c (J1.keep s2) (k01.trans (Kp.same s2)) r2
    refine ⟨_, rfl, t, _, _, _, rfl, rfl, h1, rfl, _, rfl, _, _, rfl, rfl, c1, _, rfl, _, _, rfl, rfl, cp _ (by decide) (by decide), _, _, rfl, rfl, _, rfl, ?_⟩
    refine ite2 (fun _ => out1) (fun _ => ?_)
    refine ⟨_, rfl, t, _, _, _, rfl, rfl, h1, rfl, _, rfl, _, _, rfl, rfl, c2, _, rfl, _, _, rfl, rfl, cp _ (by decide) (by decide), _, _, rfl, rfl, _, rfl, ?_⟩
    refine ite2 (fun _ => out1) (fun _ => ?_)
    refine ⟨_, rfl, t, _, _, _, rfl, rfl, h1, rfl, _, rfl, _, _, rfl, rfl, c1, _, rfl, t, _, _, _, rfl, rfl, h1, rfl, _, rfl, _, _, rfl, rfl, c2, ?_⟩
    refine mk_low (k := k + 14) (l := l + 14) (abs_mul_lt bp.1 m1) (abs_mul_le bp.2.1 m1) (mul_ne bp.2.2 m0) (by omega) (by omega) fun H2 c s2 r2 => ?_
    rw [low_scale lp m0] at r2
    exact z H2 c (J1.keep s2) (k01.trans (Kp.same s2)) r2
end
end Cm
end

/-! ## G12 -/
section
set_option pp.maxSteps 400
namespace Cm
open PySem PySem.Spec PyProof.Rows L2 KG
structure RC (P : Program) (w : World) (K : PySem.W.Frag) (mg : Str → Option Value) (base : Heap) (CR : Addr) : Prop where
  eq : Sl P w K mg base CR "__eq__" 1 (spREq K CR)
  ne : PySem.W.findIn K (.ref CR) "__ne__" = some (some (.builtin "object.__ne__"))
  ob : PySem.W.subIn K (.ref CR) (.type "object") = some true
  nf : PySem.W.notFirst K CR (.ref CR) = true
  be : MeN P w K mg base 5 CR "is_below" ["other"] (spBelow CR)
  cl : Cls K CR
  ins : InsK K CR
theorem bools5 (a b c d e : Bool) : (PyData.list [.bool a, .bool b, .bool c, .bool d, .bool e]).depth ≤ 62 ∧ (PyData.list [.bool a, .bool b, .bool c, .bool d, .bool e]).shown.length ≤ sizeLine := by
  cases a <;> cases b <;> cases c <;> cases d <;> cases e <;> decide +kernel
def spTwo (K : PySem.W.Frag) (CR : Addr) : Sp := fun vs H Q _ => ∃ (a t b u : Addr) (p q : Int × Int) (k l k' l' : Nat), vs = [.ref a, .ref t, .ref b, .ref u] ∧ RA CR H a p ∧ PA2 K H t p ∧ RA CR H b q ∧ PA2 K H u q ∧ Lw p ∧ Lw q ∧ Bd k l p ∧ Bd k' l' q ∧ Fit k l k' l' ∧
  ∀ H' : Hp, Same H H' → Q (.bl true) H'
theorem eq_cross {p q : Int × Int} (hp : Lw p) (hq : Lw q) : (decide (p.1 = q.1) && decide (p.2 = q.2)) = decide (p.1 * q.2 = q.1 * p.2) := by
  by_cases h : p.1 * q.2 = q.1 * p.2
  · have e := lw_eq hp hq h
    subst e
    rw [decide_eq_true h]
    simp
  · rw [decide_eq_false h]
    by_cases e1 : p.1 = q.1
    · have e2 : ¬ p.2 = q.2 := fun e2 => h (by rw [e1, e2])
      rw [decide_eq_false e2, Bool.and_false]
    · rw [decide_eq_false e1, Bool.false_and]
section
variable {P : Program} {w : World} {K : PySem.W.Frag} {mg : Str → Option Value} {base : Heap} {CR : Addr}
theorem scTwo : FnScope ["_law_one", "_law_pair", "_law_two", "_law_second", "_law_left", "_law_right_here", "_law_told"] ["_law_one", "_law_pair", "_law_two", "_law_second"] (defScope sTwo) := ⟨rfl, rfl, rfl, by decide +kernel, rfl, by decide +kernel, by decide +kernel⟩
theorem ok_two {f : Addr} {fd : FuncData} (F : Fun K "_law_two_right" "_law_two_right" sTwo f fd) (B : Binds K fd ["_law_one", "_law_pair", "_law_two", "_law_second"] []) (R : RC P w K mg base CR) (hre : mg "repr" = none) : FnG P w K mg base 7 f (spTwo K CR) := by
  refine fnG_of F scTwo B (fun vs H Q E h => ?_) (fun cdv A outer s H vs Q E hr hg h => ?_)
  · obtain ⟨_, _, _, _, _, _, _, _, _, _, rfl, _⟩ := h
    rfl
  · obtain ⟨a, t, b, u, p, q, k, l, k', l', rfl, ha, ht, hb, hu, lp, lq, bp, bq, hf, z⟩ := h
    refine ⟨_, pss_cons (ps_par (i := 4) (j := 5) (by rfl) scTwo.nd rfl rfl (by decide) rfl rfl (pa_cons (pe_op op_mulW (pe_ix ix_tup (pv 1) pe_int (fun _ _ => rfl)) (pe_ix ix_tup (pv 3) pe_int (fun _ _ => rfl))) (pa_cons (pe_op op_mulW (pe_ix ix_tup (pv 3) pe_int (fun _ _ => rfl)) (pe_ix ix_tup (pv 1) pe_int (fun _ _ => rfl))) pa_nil)) (by rfl))
      (pss_cons (ps_set (i := 6) scTwo.nd rfl (Or.inl rfl) (pe_lst (pa_cons (pe_me R.be R.cl hr (by decide) (pv 0) (pa_cons (pv 2) pa_nil)) (pa_cons (pe_me R.be R.cl hr (by decide) (pv 2) (pa_cons (pv 0) pa_nil))
        (pa_cons (pe_cmpR (op_eqO R.eq hr (by decide)) (pv 0) (pv 2) (nomark _)) (pa_cons (pe_cmpR (op_neO R.eq R.ne R.ob hr (by decide)) (pv 0) (pv 2) (nomark _)) (pa_cons (pe_meN R.be R.cl hr (by decide) (pv 0) (pk_cons (pv 2) pk_nil)) pa_nil)))))))
      (pss_one (ps_ret (pe_cmpR op_eq (pe_callB (call_reprD hg hr.units) (by rfl) hre (by decide +kernel) (pa_cons (pv 6) pa_nil))
        (pe_callB (call_reprD hg hr.units) (by rfl) hre (by decide +kernel) (pa_cons (pe_lst (pa_cons (pe_cmpR op_lt (pv 4) (pv 5) (nomark _)) (pa_cons (pe_cmpR op_lt (pv 5) (pv 4) (nomark _)) (pa_cons (pe_cmpR op_eq (pv 4) (pv 5) (nomark _)) (pa_cons (pe_cmpR op_ne (pv 4) (pv 5) (nomark _)) (pa_cons (pe_cmpR op_lt (pv 4) (pv 5) (nomark _)) pa_nil)))))) pa_nil)) (nomark _))))), ?_⟩
    obtain ⟨f1, f2, f3, f4⟩ := id hf
    have hf' : Fit k' l' k l := by unfold Fit at *; omega
    refine ⟨_, rfl, t, _, _, _, rfl, rfl, ht, rfl, _, rfl, u, _, _, _, rfl, rfl, hu, rfl, _, _, rfl, rfl, cmw (Nat.le_of_lt bp.1) bq.2.1 (by omega), _, rfl, u, _, _, _, rfl, rfl, hu, rfl, _, rfl, t, _, _, _, rfl, rfl, ht, rfl, _, _, rfl, rfl, cmw (Nat.le_of_lt bq.1) bp.2.1 (by omega), _, _, rfl, ?_⟩
    obtain ⟨da, ha'⟩ := id ha
    refine ⟨_, rfl, a, da, _, rfl, ha', rf_no _ _ (by decide +kernel) (by decide +kernel), _, rfl, a, _, p, q, k, l, k', l', rfl, ha, .inl ⟨b, rfl, hb⟩, bp, bq, hf, fun H1 s1 => ?_⟩
    obtain ⟨db, hb1⟩ := hb.keep s1
    refine ⟨_, rfl, b, db, _, rfl, hb1, rf_no _ _ (by decide +kernel) (by decide +kernel), _, rfl, b, _, q, p, k', l', k, l, rfl, hb.keep s1, .inl ⟨a, rfl, ha.keep s1⟩, bq, bp, hf', fun H2 s2 => ?_⟩
    have s12 := Same.trans' s1 s2
    have ha2 := ha.keep s12
    have hb2 := hb.keep s12
    obtain ⟨db2, hb2'⟩ := id hb2
    refine ⟨_, rfl, _, rfl, a, _, rfl, ha2.isI, R.ins.ty hb2', R.nf, a, _, p, rfl, ha2, .inl ⟨b, q, rfl, hb2, _, rfl, ?_⟩⟩
    refine ⟨_, rfl, _, rfl, a, _, rfl, ha2.isI, R.ins.ty hb2', R.nf, a, _, p, rfl, ha2, .inl ⟨b, q, rfl, hb2, _, rfl, _, rfl, ?_⟩⟩
    obtain ⟨da2, ha2'⟩ := id ha2
    refine ⟨_, rfl, a, da2, _, rfl, ha2', rf_no _ _ (by decide +kernel) (by decide +kernel), _, rfl, a, _, p, q, k, l, k', l', rfl, ha2, .inl ⟨b, rfl, hb2⟩, bp, bq, hf, fun H3 s3 => ⟨(by show 5 ≤ sizeLine; decide), fun l1 n1 => ?_⟩⟩
    have s13 := Same.trans' s12 s3
    rw [eq_cross lp lq]
    have ec : decide (q.1 * p.2 < p.1 * q.2) = decide (q.1 * p.2 < p.1 * q.2) := rfl
    refine ⟨_, rfl, l1, .list [.bool (decide (p.1 * q.2 < q.1 * p.2)), .bool (decide (q.1 * p.2 < p.1 * q.2)), .bool (decide (p.1 * q.2 = q.1 * p.2)), .bool (!decide (p.1 * q.2 = q.1 * p.2)), .bool (decide (p.1 * q.2 < q.1 * p.2))], rfl,
      .lst (SqL.of upd_same) (.cons (.bl _) (.cons (.bl _) (.cons (.bl _) (.cons (.bl _) (.cons (.bl _) .nil))))), rfl, rfl, (bools5 _ _ _ _ _).1, (bools5 _ _ _ _ _).2, ?_⟩
    refine ⟨_, rfl, _, rfl, _, _, rfl, rfl, _, rfl, _, rfl, _, _, rfl, rfl, _, rfl, _, rfl, rfl, _, rfl, _, rfl, rfl, _, rfl, _, rfl, _, _, rfl, rfl, (by show 5 ≤ sizeLine; decide), fun l2 n2 => ?_⟩
    have e1 : decide (V.int (p.1 * q.2) = V.int (q.1 * p.2)) = decide (p.1 * q.2 = q.1 * p.2) := decI _ _
    refine ⟨l2, .list [.bool (decide (p.1 * q.2 < q.1 * p.2)), .bool (decide (q.1 * p.2 < p.1 * q.2)), .bool (decide (p.1 * q.2 = q.1 * p.2)), .bool (!decide (p.1 * q.2 = q.1 * p.2)), .bool (decide (p.1 * q.2 < q.1 * p.2))], rfl,
      .lst (SqL.of (by rw [upd_same, e1])) (.cons (.bl _) (.cons (.bl _) (.cons (.bl _) (.cons (.bl _) (.cons (.bl _) .nil))))), rfl, rfl, (bools5 _ _ _ _ _).1, (bools5 _ _ _ _ _).2, ?_⟩
    refine ⟨rfl, ?_⟩
    rw [decide_eq_true rfl]
    exact z _ (Same.trans' s13 (Same.trans' (Same.upd_new n1) (Same.upd_new n2)))
end
end Cm
end

/-! ## Cr -/
section
set_option pp.maxSteps 400
/-! == with an own object on the right of a built-in value: no word of the value's own, then the object's. -/
namespace KG
open PySem PySem.Spec PyProof.Rows L2
/-- the value's own == has no word for instances of C -/
def Decl (X : Cx) (C : Addr) (x : V) (H : Hp) : Prop := ∀ (pins : List (Addr × Obj)) (σ : L2.St) (s : Shared) (u : Value) (a : Addr) (ox : Obj) (od : Option Obj) (Q : Option Value → Shared → Prop), Inv X pins σ H s → RelV x u → PySem.W.InstAt s.heap a ox C od → ox.data = .plain → X.A.units + 2 < cLine → Q none s →
  wpAny (model X.prog X.w) X.A (tryCompare u "__eq__" (.ref a)) Q X.xe s
/-- the same in every context of one fragment (a reading inside a comprehension may not name its context) -/
def DeclK (K : PySem.W.Frag) (C : Addr) (x : V) (H : Hp) : Prop := ∀ X : Cx, X.K = K → Decl X C x H
def rEqD (K : PySem.W.Frag) (C : Addr) (sp : Sp) : R2 := fun x y H Q => ∃ a t, y = .ref a ∧ IsI H C a ∧ TyX K H x t ∧ DeclK K C x H ∧ (∀ u b, RelV x u → oneThing? .Eq u (.ref b) = none) ∧ t ≠ .ref C ∧ PySem.W.subIn K (.ref C) t = some false ∧ sp [.ref a, x] H (BoolQ Q) E0
section
variable {X : Cx} {k j : Nat} {C : Addr} {sp : Sp}
theorem op_eqD2 (S : Sl X.prog X.w X.K X.mg X.base C "__eq__" k sp) (hr : Room j X.A) (hk : k ≤ j) : OpR X (compareOp .Eq) (rEqD X.K C sp) := by
  obtain ⟨f, fd, ps, F, hb, hs, hf⟩ := S.ex
  intro pins s σ H x y v u Q I rx ry h
  obtain ⟨a, t, rfl, ⟨dx, fs, ha⟩, ty, hd, h1, tn, hsub, q⟩ := h
  cases ry
  obtain ⟨mA, O, _⟩ := ins_get I.hok ha
  obtain ⟨od, J, _⟩ := O.look
  obtain ⟨P, Z, p, _⟩ := kit_of I rx ty
  have rv : Vals [V.ref a, x] [Value.ref a, v] := .cons rfl (.cons rx .nil)
  have call := wpAny_mono (run_fn F (hr.mono hk) hb I rv q (E := X.xe)) (fun _ _ z => back_bool z) fun _ _ z => z
  have two : wpAny (model X.prog X.w) X.A (tryCompare (.ref a) (cmpInfo .Eq).2.2 v) (fun r s' => ∃ z, r = some z ∧ EP X pins σ Q z s') X.xe s := by
    unfold tryCompare
    refine wpAny_bind (PySem.W.ifBound_K I.kIn J hs hf (wpAny_mono call (fun v s' hv => ?_) fun _ _ e => e))
    cases v <;> first | exact hv.elim | exact wpAny_pure ⟨_, rfl, hv⟩
  show wpAny _ _ (richCompare .Eq v (.ref a)) _ _ _
  unfold richCompare
  refine wpAny_holding (wpAny_bind (wpAny_cRoomFor hr.units0 ?_))
  rw [h1 v a rx]
  refine wpAny_bind ((Z.ty _ _ I.kIn p).here (wpAny_bind (J.type.here ?_)))
  have ne : (t != Value.ref C) = true := by simpa using tn
  rw [if_pos ne]
  refine wpAny_bind ((PySem.W.looks_subIn I.kIn hsub).here ?_)
  simp only [Bool.false_eq_true, if_false]
  refine wpAny_bind (hd X rfl pins σ s v a _ _ _ I rx J rfl (by have := hr.un; omega) ?_)
  simp only [Bool.not_false, if_true]
  refine wpAny_bind (wpAny_mono two (fun r s' hr' => ?_) fun _ _ e => e)
  obtain ⟨z, rfl, hq⟩ := hr'
  exact wpAny_pure hq

theorem decl_int' {H : Hp} (n : Int) : Decl X C (.int n) H := fun pins σ s u a ox od Q I ru J hp hu q => by
  obtain ⟨t, rfl⟩ := ru
  exact eqDecl_int n t _ _ _ _ _ _ _ _ _ _ J hp hu q
theorem decl_str' {H : Hp} (z : Str) : Decl X C (.str z) H := fun pins σ s u a ox od Q I ru J hp hu q => by
  obtain ⟨t, rfl⟩ := ru
  exact eqDecl_str z t _ _ _ _ _ _ _ _ _ _ J hp hu q
theorem decl_bl' {H : Hp} (b : Bool) : Decl X C (.bl b) H := fun pins σ s u a ox od Q I ru J hp hu q => by
  cases ru
  have e1 := F.slot_bool_eq
  have e2 := F.entry_int_eq
  have e3 := F.args_int_eq_2
  have e4 : Builtin.«int.__eq__» = Builtin.Int.intBinary "__eq__" (fun x y => PySem.ret (.bool (x == y))) := rfl
  generalize Builtin.«int.__eq__» = B at e2 e4
  subst e4
  refine eqDecl_slot rfl e1 (fun s => PySem.typeIs_bool s b) e2 e3 (fun prog w A E s x C ox od Q I hp q => ?_) _ _ _ _ _ _ _ _ _ _ J hp hu q
  unfold Builtin.Int.intBinary
  refine wpAny_bind (m := slotArgs "__eq__" 1 _) (wpAny_pure ?_)
  refine wpAny_bind (m := Builtin.Int.intOfSelf (.bool b)) (wpAny_pure ?_)
  refine wpAny_bind (m := asInt? (.ref x)) (asInt_own I hp ?_)
  exact wpAny_bind (wpAny_rule (wpAny_pure q))
/-- a list, a tuple: told by the type of the other -/
theorem decl_seq {T id : String} {b : Builtin} {v : Value} {s : Shared} {a : Addr} {ox : Obj} {od : Option Obj} {A : Around} {E : Value → Shared → Prop} {prog : Program} {w : World} {K : PySem.W.Frag} {Q : Option Value → Shared → Prop} {name : Str} (hn : name = "__eq__") (slot : Slot T name id) (entry : entryFor table id = some b) (hargs : ∀ a b : Value, argsOk id ⟨[a, b], []⟩)
    (XK : K.In s.heap) (J : PySem.W.InstAt s.heap a ox C od) (hsub : PySem.W.subIn K (.ref C) (.type T) = some false) (hT : s.TypeIs v T)
    (body : ∀ (A : Around) (E : Value → Shared → Prop) (Q : Fin → Shared → Prop), PySem.W.Looks (model prog w) s.heap (isInstance (.ref a) (.type T)) false → Q (.done (.ret .notImplemented)) s → wpAny (model prog w) A (b ⟨[v, .ref a], []⟩) Q E s) (q : Q none s) : wpAny (model prog w) A (tryCompare v "__eq__" (.ref a)) Q E s := by
  subst hn
  have hi : PySem.W.Looks (model prog w) s.heap (isInstance (.ref a) (.type T)) false := J.type.andThen (PySem.W.looks_subIn XK hsub)
  unfold tryCompare
  refine wpAny_bind (wpAny_callSpecialIfBound?_slot hT slot ?_)
  refine wpAny_call_entry slot hT entry ?_ (hargs _ _)
  exact body _ _ _ hi ⟨_, rfl, wpAny_pure q⟩
theorem decl_lst' {H : Hp} {l : Addr} {xs : List V} (hl : H l = some (.lst xs)) (hsub : PySem.W.subIn X.K (.ref C) (.type "list") = some false) : Decl X C (.ref l) H := fun pins σ s u a ox od Q I ru J hp hu q => by
  cases ru
  obtain ⟨z, its, n, r, e, h1⟩ := I.lstM hl
  refine decl_seq rfl F.slot_list_eq F.entry_list_eq F.args_list_eq_2 I.kIn J hsub ⟨_, h1, rfl⟩ (fun A E Q hi q => ?_) q
  unfold Builtin.«list.__eq__»
  refine wpAny_bind (m := slotArgs "__eq__" 1 _) (wpAny_pure ?_)
  refine wpAny_bind (hi.here ?_)
  exact wpAny_bind (wpAny_pure (wpAny_pure q))

theorem decl_tup' {H : Hp} {l : Addr} {xs : List V} (hl : SqT X.K H l xs) (hsub : PySem.W.subIn X.K (.ref C) (.type "tuple") = some false) : Decl X C (.ref l) H := fun pins σ s u a ox od Q I ru J hp hu q => by
  cases ru
  obtain ⟨its, r, ⟨o, h1, h2, h3⟩, z⟩ := I.tuple hl
  refine decl_seq rfl F.slot_tuple_eq F.entry_tuple_eq F.args_tuple_eq_2 I.kIn J hsub ⟨o, h1, h2⟩ (fun A E Q hi q => ?_) q
  unfold Builtin.«tuple.__eq__»
  refine wpAny_bind (m := slotArgs "__eq__" 1 _) (wpAny_pure ?_)
  refine wpAny_bind (hi.here ?_)
  exact wpAny_bind (wpAny_pure (wpAny_pure q))

theorem decl_dct' {H : Hp} {l : Addr} {kvs : List (Key × V)} (hl : H l = some (.dK kvs)) (hsub : PySem.W.subIn X.K (.ref C) (.type "dict") = some false) : Decl X C (.ref l) H := fun pins σ s u a ox od Q I ru J hp hu q => by
  cases ru
  obtain ⟨_, _, vs, _, o, es, ep, h1, h2, _⟩ := (show ObjOk X.prog X.w H s.heap l (.dK kvs) from I.hok l _ hl)
  refine decl_seq rfl F.slot_dict_eq F.entry_dict_eq F.args_dict_eq_2 I.kIn J hsub ⟨o, h1, h2.1⟩ (fun A E Q hi q => ?_) q
  unfold Builtin.«dict.__eq__»
  refine wpAny_bind (m := Builtin.Dict.dictSlotArgs "__eq__" _) (wpAny_pure ?_)
  refine wpAny_bind (hi.here ?_)
  exact wpAny_bind (wpAny_rule (wpAny_bind (wpAny_pure (wpAny_pure q))))
theorem decl_non' {H : Hp} : Decl X C .non H := fun pins σ s u a ox od Q I ru J hp hu q => by
  cases ru
  refine eqDecl_slot (v := .none) rfl F.slot_NoneType_eq (fun s => (rfl : s.TypeIs .none "NoneType")) F.entry_NoneType_eq F.args_NoneType_eq_2 (fun prog w A E s x C ox od Q I hp q => ?_) _ _ _ _ _ _ _ _ _ _ J hp hu q
  unfold Builtin.«NoneType.__eq__»
  refine wpAny_bind (m := slotArgs "__eq__" 1 _) (wpAny_pure ?_)
  exact wpAny_pure q
end
end KG
end

/-! ## Fm12 -/
section
set_option pp.maxSteps 400
namespace Cm
open PySem PySem.Spec PyProof.Rows L2 KG
abbrev sIsNum : Stmt := top 12
abbrev sIsName : Stmt := top 13
structure TxtM (mg : Str → Option Value) (CR : Addr) : Prop where
  isi : mg "isinstance" = none
  int : mg "int" = none
  bool : mg "bool" = none
  str : mg "str" = none
  len : mg "len" = none
  ratio : mg "Ratio" = some (.ref CR)
  most : ∃ t, mg "LONGEST_NAME" = some (.int 8 t)
/-- a name by the program's own look -/
def nameOk (z : Str) : Bool := decide (z.length ≤ 8) && (Txt.isascii z && (Txt.isalpha z && Txt.islower z))

def spIsNum (K : PySem.W.Frag) (CR : Addr) : Sp := fun vs H Q _ => ∃ (x : V) (bi bb bs br : Bool), vs = [x] ∧ Kind K CR H x bi bb bs br ∧ Q (.bl (br || (bi && !bb))) H
def spIsName (K : PySem.W.Frag) (CR : Addr) : Sp := fun vs H Q _ => ∃ (x : V), vs = [x] ∧
  ((∃ (bi bb br : Bool), Kind K CR H x bi bb false br ∧ Q (.bl false) H) ∨ ∃ (z : Str) (bi bb br : Bool), x = .str z ∧ Kind K CR H x bi bb true br ∧ z.length ≤ sizeLine ∧ Q (.bl (nameOk z)) H)

section
variable {P : Program} {w : World} {K : PySem.W.Frag} {mg : Str → Option Value} {base : Heap} {CR : Addr}

theorem scIsNum : FnScope ["value"] ["value"] (defScope sIsNum) := ⟨rfl, rfl, rfl, by decide +kernel, rfl, by decide +kernel, by decide +kernel⟩
theorem ok_isNum {f : Addr} {fd : FuncData} (F : Fun K "is_number" "is_number" sIsNum f fd) (T : TxtM mg CR) (cI : Cl P w K mg base 1 "is_integer" ["value"] (spIsInt K CR)) : FnOk P w K mg base CX0 2 f fd ["value"] (spIsNum K CR) := by
  refine F.ok scIsNum (fun vs H Q E h => ?_) (fun cdv A outer s H vs Q E hr h => ?_)
  · obtain ⟨x, _, _, _, _, rfl, _⟩ := h
    rfl
  · obtain ⟨x, bi, bb, bs, br, rfl, ⟨t, ty, k1, k2, k3, k4⟩, q⟩ := h
    refine ⟨_, pss_one (ps_ret (pe_or (pe_callB call_isi (by rfl) T.isi (by decide +kernel) (pa_cons (pv 0) (pa_cons (pe_glob (v := .ref CR) (by rfl) T.ratio rfl) pa_nil)))
      (pe_one (pe_k cI hr (Nat.le_refl _) (by rfl) (pa_cons (pv 0) pa_nil))))), ?_⟩
    refine ⟨_, rfl, _, _, t, _, _, rfl, .own _, ty, k4, _, rfl, ?_⟩
    cases br with
    | true => exact iteT q
    | false => exact iteF ⟨_, rfl, _, bi, bb, bs, _, rfl, ⟨t, ty, k1, k2, k3, k4⟩, q⟩

theorem scIsName : FnScope ["value"] ["value"] (defScope sIsName) := ⟨rfl, rfl, rfl, by decide +kernel, rfl, by decide +kernel, by decide +kernel⟩
theorem ok_isName {f : Addr} {fd : FuncData} (F : Fun K "is_name" "is_name" sIsName f fd) (T : TxtM mg CR) : FnOk P w K mg base CX0 1 f fd ["value"] (spIsName K CR) := by
  obtain ⟨t8, m8⟩ := T.most
  refine F.ok scIsName (fun vs H Q E h => ?_) (fun cdv A outer s H vs Q E hr h => ?_)
  · obtain ⟨x, rfl, _⟩ := h
    rfl
  · obtain ⟨x, rfl, h⟩ := h
    refine ⟨_, pss_cons (ps_if (PW.pt (pw_or (pt_not (pt_val (pe_callB call_isi (by rfl) T.isi (by decide +kernel) (pa_cons (pv 0) (pa_cons (pe_bltn (v := .ty "str") (by rfl) T.str (by decide +kernel) rfl) pa_nil)))))
          (pw_or1 (pt_cmpR op_gt (pe_callB call_len_str (by rfl) T.len PySem.boot_len (pa_cons (pv 0) pa_nil)) (pe_glob (v := .int 8) (by rfl) m8 ⟨_, rfl⟩) (nomark _)))))
        (pss_one (ps_ret pe_bl)) pss_nil)
      (pss_one (ps_ret (pe_and (pe_bm0 PySem.F.plainAttrs_str PySem.F.slot_str_isascii PySem.F.type_str_isascii mt_isascii (pv 0))
        (pe_and (pe_bm0 PySem.F.plainAttrs_str PySem.F.slot_str_isalpha PySem.F.type_str_isalpha mt_isalpha (pv 0))
          (pe_one (pe_bm0 PySem.F.plainAttrs_str PySem.F.slot_str_islower PySem.F.type_str_islower mt_islower (pv 0))))))), ?_⟩
    rcases h with ⟨bi, bb, br, ⟨t, ty, k1, k2, k3, k4⟩, q⟩ | ⟨z, bi, bb, br, rfl, ⟨t, ty, k1, k2, k3, k4⟩, hz, q⟩
    · refine ⟨_, rfl, _, _, t, _, _, rfl, .ty _, ty, k3, _, rfl, ?_⟩
      exact iteT (iteT q)
    · refine ⟨_, rfl, _, _, t, _, _, rfl, .ty _, ty, k3, _, rfl, ?_⟩
      refine iteF ⟨_, rfl, _, rfl, hz, _, _, rfl, rfl, _, rfl, ?_⟩
      unfold nameOk at q
      refine ite2 (fun h1 => ?_) (fun h1 => ?_)
      · have h2 : ¬ z.length ≤ 8 := by
          have h3 : (8 : Int) < (z.length : Int) := of_decide_eq_true h1
          omega
        rw [decide_eq_false h2] at q
        exact q
      · have h2 : z.length ≤ 8 := by
          have h3 : ¬ (8 : Int) < (z.length : Int) := fun y => h1 (decide_eq_true y)
          omega
        rw [decide_eq_true h2, Bool.true_and] at q
        refine ⟨_, rfl, rfl, _, rfl, rfl, trivial, _, rfl, ?_⟩
        revert q
        cases Txt.isascii z with
        | false => exact fun q => iteF q
        | true =>
          intro q
          rw [Bool.true_and] at q
          refine iteT ⟨_, rfl, rfl, _, rfl, rfl, trivial, _, rfl, ?_⟩
          revert q
          cases Txt.isalpha z with
          | false => exact fun q => iteF q
          | true =>
            intro q
            rw [Bool.true_and] at q
            exact iteT ⟨_, rfl, rfl, _, rfl, rfl, trivial, q⟩
end

/-! ### the law's own look at a name -/
abbrev sMaps : Stmt := top 17
abbrev sFInit : Stmt := inClass (top 19) 0
abbrev sFOf : Stmt := inClass (top 19) 1
/-- the pairs of a dict from names to ints -/
def NamesInts (kvs : List (Key × V)) : Prop := kvs.length < 60 ∧ (kvs.map (·.1)).Nodup ∧ ∀ q ∈ kvs, ∃ (z : Str) (n : Int), q = (Sum.inr z, .int n) ∧ nameOk z = true ∧ z.length ≤ sizeLine ∧ n.natAbs < 2 ^ 8000
def spMaps : Sp := fun vs H Q _ => ∃ (d : Addr) (kvs : List (Key × V)), vs = [.ref d] ∧ H d = some (.dK kvs) ∧ NamesInts kvs ∧ ∀ H' : Hp, Same H H' → Q (.bl true) H'

structure TxtF (mg : Str → Option Value) : Prop where
  isi : mg "isinstance" = none
  dict : mg "dict" = none
  all : mg "all" = none
  sorted : mg "sorted" = none

section
variable {P : Program} {w : World} {K : PySem.W.Frag} {mg : Str → Option Value} {base : Heap} {CR : Addr}
theorem scMaps : FnScope ["value", "name"] ["value"] (defScope sMaps) := ⟨rfl, rfl, rfl, by decide +kernel, rfl, by decide +kernel, by decide +kernel⟩
theorem ok_maps {f : Addr} {fd : FuncData} (F : Fun K "maps_names_to_numbers" "maps_names_to_numbers" sMaps f fd) (T : TxtF mg)
    (cN : Cl P w K mg base 2 "is_number" ["value"] (spIsNum K CR)) (cW : Cl P w K mg base 1 "is_name" ["value"] (spIsName K CR))
    (kI : PySem.W.kitOne K (.type "int") (.ref CR) = some false) (kS : PySem.W.kitOne K (.type "str") (.ref CR) = some false) : FnOk P w K mg base CX0 3 f fd ["value"] spMaps := by
  refine F.ok scMaps (fun vs H Q E h => ?_) (fun cdv A outer s H vs Q E hr h => ?_)
  · obtain ⟨d, kvs, rfl, _⟩ := h
    rfl
  · obtain ⟨d, kvs, rfl, hd, hN, q⟩ := h
    have hu := hu_of hr
    refine ⟨_, pss_cons (ps_if (pt_not (pt_val (pe_callB call_isi (by rfl) T.isi (by decide +kernel) (pa_cons (pv 0) (pa_cons (pe_bltn (v := .ty "dict") (by rfl) T.dict (by decide +kernel) rfl) pa_nil))))) (pss_one (ps_ret pe_bl)) pss_nil)
      (pss_one (ps_ret (pe_callB (cr_all (by rfl)) (by rfl) T.all (by decide +kernel) (pa_cons (pe_lock (pe_lc (own := [("name", 1)]) (g := gName 1) (by rfl) scMaps.nd (pi_keys (pv 0))
        (blkOk_by (own := [("name", 1)]) (N := ["value", "name"]) (sc := defScope sMaps) (by decide +kernel)) (fun _ _ _ _ _ => pg_name (i := 1) scMaps.nd rfl (Or.inl rfl)) (fun _ _ _ _ _ => pts_nil)
        (fun _ _ _ _ _ => pe_and (pe_k cW hr (by decide) (by rfl) (pa_cons (pv 1) pa_nil)) (pe_one (pe_k cN hr (by decide) (by rfl) (pa_cons (pe_dget hu (pv 0) (pv 1) (fun _ _ => rfl)) pa_nil)))))) pa_nil)))), ?_⟩
    refine ⟨_, rfl, _, _, _, _, _, rfl, .ty _, .base (.dK hd), kit_ty (r := true) (by decide +kernel), _, rfl, ?_⟩
    refine iteF ?_
    refine ⟨d, _, hd, trivial, fun od => ⟨_, rfl, d, od, rfl, .inl ⟨kvs, upd_same, fun D hD => ?_⟩⟩⟩
    have ndD : d ≠ D := fun e => by
      rw [← e, upd_same] at hD
      cases hD
    have hD0 : H D = none := by
      rw [upd_ne ndD.symm] at hD
      exact hD
    refine lc_it walk_keys (fun i H' => H' d = some (.frz od (.dK kvs)) ∧ (∀ b o, H b = some o → b ≠ d → H' b = some o) ∧ H' D = some (.lst ((List.replicate i true).map V.bl))) ?_ (fun _ _ _ p => p.1) ?_ ?_
    · refine ⟨by rw [upd_ne ndD]; exact upd_same, fun b o e hb => ?_, upd_same⟩
      rw [upd_ne (ne_of_none e hD0), upd_ne hb]
      exact e
    · rintro i x H1 H2 hi ⟨p1, p2, p3⟩ ⟨rfl, k, v, hk, rfl⟩
      obtain ⟨z, n, e1, hz, hzl, hn⟩ := hN.2.2 (k, v) (List.mem_of_getElem? hk)
      cases e1
      have hv : valV kvs (Sum.inr z) = some (.int n) := val_nodup hN.2.1 (Sum.inr z, .int n) (List.mem_of_getElem? hk)
      refine ⟨rfl, _, rfl, _, rfl, .inr ⟨z, false, false, false, rfl, ⟨_, .base (.str z), kit_ty (by decide +kernel), kit_ty (by decide +kernel), kit_ty (by decide +kernel), kS⟩, hzl, _, rfl, ?_⟩⟩
      rw [hz]
      refine iteT ⟨_, rfl, _, rfl, d, .int n, rfl, ?_, ?_⟩
      · rw [← hv]
        exact .inl ⟨kvs, Sum.inr z, .inr ⟨od, p1⟩, rfl, rfl⟩
      · refine ⟨_, _, _, _, _, rfl, kind_int n kI, _, p3, ?_, ?_, ?_, ?_⟩
        · rw [List.length_map, List.length_replicate]
          have : (60 : Nat) < sizeLine := by decide
          have := hN.1
          omega
        · rw [upd_ne ndD]
          exact p1
        · intro b o e hb
          rw [upd_ne (ne_of_none e hD0)]
          exact p2 b o e hb
        · rw [upd_same, List.replicate_succ', List.map_append]
          rfl
    · rintro H1 ⟨p1, p2, p3⟩
      refine ⟨p1, D, List.replicate kvs.length true, rfl, SqL.of (by rw [upd_ne ndD.symm]; exact p3), ?_⟩
      have ea : (List.replicate kvs.length true).all id = true := by
        rw [List.all_eq_true]
        intro b hb
        exact (List.mem_replicate.mp hb).2
      rw [ea]
      refine q _ fun b o e => ?_
      by_cases hb : b = d
      · subst hb
        rw [hd] at e
        cases e
        exact upd_same
      · rw [upd_ne hb]
        exact p2 b o e hb
end
end Cm
end

/-! ## Fi12 -/
section
namespace Cm
open PySem PySem.Spec PyProof.Rows L2 KG

/-- a dict comprehension over a walk -/
theorem dc_it {J : It} {n : Nat} {G : Hp → Prop} {Y : Nat → Hp → V → Hp → Prop} (w : Walk J n G Y) {g : TG} {tt : TT} {tk tv : TE} {vs : List Nat} {σ : L2.St} {H1 : Hp} {D : Addr} {R : Hp → Prop}
    (Pv : Nat → Hp → Prop) (h0 : Pv 0 (upd H1 D (.dK []))) (hG : ∀ i H, i ≤ n → Pv i H → G H)
    (turn : ∀ i x H H', i < n → Pv i H → Y i H x H' → g x (wipe σ vs) H' fun σ2 H2 => wipe σ2 vs = wipe σ vs ∧ tt σ2 H2 fun b H3 =>
      if b = true then tk σ2 H3 fun y H4 => tv σ2 H4 fun z H5 => ∃ kvs k, y = kV k ∧ H5 D = some (.dK kvs) ∧ kvs.length < sizeLine ∧ Pv (i + 1) (upd H5 D (.dK (putK kvs k z))) else Pv (i + 1) H3)
    (fin : ∀ H, Pv n H → R H) :
    ∃ W : Nat → Nat → Hp → Prop, (∃ m, W 0 m (upd H1 D (.dK []))) ∧ ∀ i m H, W i m H →
      (J.stop i H ∧ R H) ∨ (J.go i H ∧ ∃ Nx : Hp → Prop, (∀ H', Nx H' → ∃ m', m' < m ∧ W (i + 1) m' H') ∧ ∀ x H', J.yld i H x H' → g x (wipe σ vs) H' fun σ2 H2 => wipe σ2 vs = wipe σ vs ∧ tt σ2 H2 fun b H3 =>
        if b = true then tk σ2 H3 fun y H4 => tv σ2 H4 fun z H5 => ∃ kvs k, y = kV k ∧ H5 D = some (.dK kvs) ∧ kvs.length < sizeLine ∧ Nx (upd H5 D (.dK (putK kvs k z))) else Nx H3) := by
  refine ⟨fun i m H => m + i = n ∧ Pv i H, ⟨n, rfl, h0⟩, ?_⟩
  rintro i m H ⟨e, p⟩
  have g1 := hG i H (by omega) p
  by_cases lt : i < n
  · refine .inr ⟨w.goes i H lt g1, Pv (i + 1), fun H' p' => ⟨n - (i + 1), by omega, by omega, p'⟩, ?_⟩
    intro x H' y
    exact turn i x H H' lt p (w.yields i H x H' lt g1 y)
  · have e2 : i = n := by omega
    subst e2
    exact .inl ⟨w.stops H g1, fin H p⟩

section
variable {κ : Type} [DecidableEq κ]
theorem mem_putK {kvs : List (κ × V)} {k : κ} {v : V} {q : κ × V} (h : q ∈ putK kvs k v) : q ∈ kvs ∨ q = (k, v) := by
  unfold putK at h
  split at h
  · obtain ⟨p, hp, e⟩ := List.mem_map.mp h
    by_cases c : p.1 = k
    · rw [if_pos c] at e
      exact .inr (by rw [← e, c])
    · rw [if_neg c] at e
      exact .inl (by rw [← e]; exact hp)
  · rcases List.mem_append.mp h with h | h
    · exact .inl h
    · exact .inr (List.mem_singleton.mp h)
theorem len_putK (kvs : List (κ × V)) (k : κ) (v : V) : (putK kvs k v).length ≤ kvs.length + 1 := by
  unfold putK
  split
  · rw [List.length_map]
    omega
  · rw [List.length_append]
    exact Nat.le_refl _
theorem val_some {kvs : List (κ × V)} {k : κ} {v : V} (h : (k, v) ∈ kvs) : ∃ v', valV kvs k = some v' ∧ (k, v') ∈ kvs := by
  unfold valV
  cases e : kvs.find? fun kv => decide (kv.1 = k) with
  | none =>
    have := List.find?_eq_none.mp e (k, v) h
    simp at this
  | some q =>
    have h1 := List.mem_of_find?_eq_some e
    have h2 : q.1 = k := by simpa using List.find?_some e
    exact ⟨q.2, rfl, by rw [← h2]; exact h1⟩
end

theorem names_keys : ∀ kvs : List (Key × V), (∀ q ∈ kvs, ∃ (z : Str) (n : Int), q = (Sum.inr z, .int n) ∧ nameOk z = true ∧ z.length ≤ sizeLine ∧ n.natAbs < 2 ^ 8000) → ∃ ks : List Str, kvs.map (·.1) = ks.map Sum.inr ∧ ks.length = kvs.length
  | [], _ => ⟨[], rfl, rfl⟩
  | q :: r, h => by
    obtain ⟨ks, h1, h2⟩ := names_keys r fun q hq => h q (List.mem_cons_of_mem _ hq)
    obtain ⟨z, n, rfl, _⟩ := h q List.mem_cons_self
    exact ⟨z :: ks, by rw [List.map_cons, List.map_cons, h1], by rw [List.length_cons, List.length_cons, h2]⟩
theorem names_val (kvs : List (Key × V)) (h : NamesInts kvs) {ks : List Str} (hk : kvs.map (·.1) = ks.map Sum.inr) {z : Str} (hz : z ∈ ks) : ∃ n : Int, valV kvs (Sum.inr z) = some (.int n) ∧ n.natAbs < 2 ^ 8000 := by
  have h1 : (Sum.inr z : Key) ∈ kvs.map (·.1) := by
    rw [hk]
    exact List.mem_map.mpr ⟨z, hz, rfl⟩
  obtain ⟨q, hq, e⟩ := List.mem_map.mp h1
  obtain ⟨z2, n, rfl, _, _, hn⟩ := h.2.2 q hq
  have e2 : z2 = z := Sum.inr.inj e
  subst e2
  exact ⟨n, val_nodup h.2.1 _ hq, hn⟩
def nf (na : Addr) : List (Str × V) := [("_number", .ref na)]
theorem nw_ne : ¬ (("_number" : Str) = "_weights") := by decide +kernel
/-- the argument for a form's weights -/
def WArg (H : Hp) (x : V) (kvs : List (Key × V)) : Prop := (x = .non ∧ kvs = []) ∨ ∃ d, x = .ref d ∧ H d = some (.dK kvs) ∧ NamesInts kvs
abbrev RatAt (CR : Addr) (H : Hp) (a : Addr) (x y : Int) : Prop := RA CR H a (x, y)
def NArg (CR : Addr) (H : Hp) (x : V) : Prop := ∃ (q : Int × Int) (k l : Nat), Num CR H x q ∧ Bd k l q ∧ k ≤ 13000
def spFInit (CF CR : Addr) : Sp := fun vs H Q _ => ∃ (p dx : Addr) (x y : V) (kvs : List (Key × V)), vs = [.ref p, x, y] ∧ H p = some (.ins CF dx []) ∧ WArg H x kvs ∧ NArg CR H y ∧
  ∀ (H' : Hp) (fs : List (Str × V)), H' p = some (.ins CF dx fs) → (∀ b o, H b = some o → b ≠ p → H' b = some o) → Q .non H'

structure TxtI (K : PySem.W.Frag) (mg : Str → Option Value) (CF CR pS gS : Addr) : Prop where
  cl : Cls K CF
  nN : NoAttr K CF "_number"
  nW : NoAttr K CF "_weights"
  sorted : mg "sorted" = none
  clR : Cls K CR
  sgn : PropOf K CR "sign" pS gS

section
variable {P : Program} {w : World} {K : PySem.W.Frag} {mg : Str → Option Value} {base : Heap} {CF CR pS gS : Addr}

theorem scFInit : FnScope ["self", "weights", "number", "ratios", "name"] ["self", "weights", "number"] (defScope sFInit) := ⟨rfl, rfl, rfl, by decide +kernel, rfl, by decide +kernel, by decide +kernel⟩
theorem ok_fInit {f : Addr} {fd fdS : FuncData} (F : FunD K "__init__" "Form.__init__" (defArgs sFInit) (defBody sFInit) (defScope sFInit) [.non, .int 0] [] f fd) (T : TxtI K mg CF CR pS gS)
    (cM : Cl P w K mg base 3 "maps_names_to_numbers" ["value"] spMaps) (cA : Cl P w K mg base 4 "as_ratio" ["value"] (spAsRatio CR))
    (GS : FnOk P w K mg base CX0 1 gS fdS ["self"] (spRSign CR)) (bS : Binds K fdS ["self"] []) : FnOk P w K mg base CX0 5 f fd ["self", "weights", "number"] (spFInit CF CR) := by
  refine F.ok scFInit (fun vs H Q E h => ?_) (fun cdv A outer s H vs Q E hr h => ?_)
  · obtain ⟨p, dx, x, y, kvs, rfl, _⟩ := h
    rfl
  · obtain ⟨p, dx, x, y, kvs, rfl, hp, hW, hA, q⟩ := h
    have hu := hu_of hr
    have hr2 : Room 2 _ := hr.mono (by decide)
    refine ⟨_, PSs.nox (C8.pss_cut (ps_if (pt_cmpR op_isN (pv 1) pe_non (nomark _)) (pss_one (ps_set (i := 1) scFInit.nd rfl (Or.inr rfl) pe_dnewK)) pss_nil)
      (pss_cons (ps_if (pt_not (pt_val (pe_k cM hr (by decide) (by rfl) (pa_cons (pv 1) pa_nil)))) (pss_one ps_never) pss_nil)
      (pss_cons (ps_fld (pv 0) (pe_k cA hr (by decide) (by rfl) (pa_cons (pv 2) pa_nil)) rfl)
      (pss_cons (ps_set (i := 3) scFInit.nd rfl (Or.inr rfl) (pe_dc (own := [("name", 4)]) (g := gName 4) (by rfl) scFInit.nd
          (pi_list (pe_callB (call_sortedD (by rfl)) (by rfl) T.sorted (by decide +kernel) (pa_cons (pv 1) pa_nil)))
          (blkOk_by (own := [("name", 4)]) (N := ["self", "weights", "number", "ratios", "name"]) (sc := defScope sFInit) (by decide +kernel))
          (fun _ _ _ _ _ => pg_name (i := 4) scFInit.nd rfl (Or.inl rfl)) (fun _ _ _ _ _ => pts_nil) (fun _ _ _ _ _ => pv 4)
          (fun _ _ _ _ _ => pe_k cA hr (by decide) (by rfl) (pa_cons (pe_dget hu (pv 1) (pv 4) (fun _ _ => rfl)) pa_nil))))
      (pss_one (ps_fld (pv 0) (pe_lock (pe_dc (own := [("name", 4)]) (g := gName 4) (by rfl) scFInit.nd (pi_keys (pv 3))
          (blkOk_by (own := [("name", 4)]) (N := ["self", "weights", "number", "ratios", "name"]) (sc := defScope sFInit) (by decide +kernel))
          (fun _ _ _ _ _ => pg_name (i := 4) scFInit.nd rfl (Or.inl rfl))
          (fun _ _ _ _ _ => pts_one (pt_cmpR op_ne (pe_prop (pe_dget hu (pv 3) (pv 4) (fun _ _ => rfl)) T.clR T.sgn GS hr2 bS .nil pass0 (by rfl)) pe_int (nomark _)))
          (fun _ _ _ _ _ => pv 4) (fun _ _ _ _ _ => pe_dget hu (pv 3) (pv 4) (fun _ _ => rfl)))) rfl)))))), ?_⟩
    -- weights that are told, or none
    have num : ∀ (H1 : Hp) (Q1 : VK), Same H H1 → (∀ (H2 : Hp) (a : Addr), Same H1 H2 → Q1 (.ref a) H2) → spAsRatio CR [y] H1 Q1 E0 := by
      intro H1 Q1 e q1
      obtain ⟨r, k, l, hn, hb, hk⟩ := hA
      exact ⟨y, r, k, l, rfl, hn.keep e, hb, hk, fun H2 c s2 _ => q1 H2 c s2⟩
    refine ⟨fun σ H' => ∃ d, σ = [some (.ref p), some (.ref d), some y, none, none] ∧ H' d = some (.dK kvs) ∧ NamesInts kvs ∧ Same H H', ?_, ?_⟩
    · rcases hW with ⟨rfl, rfl⟩ | ⟨d, rfl, hd, hN⟩
      · refine ⟨_, rfl, rfl, _, rfl, ?_⟩
        refine iteT ?_
        intro d hd
        exact ⟨d, rfl, upd_same, ⟨by decide, List.nodup_nil, fun q hq => absurd hq List.not_mem_nil⟩, Same.upd_new hd⟩
      · refine ⟨_, rfl, rfl, _, rfl, ?_⟩
        exact iteF ⟨d, rfl, hd, hN, Same.refl H⟩
    · rintro σ H1 ⟨d, rfl, hd1, hN, s1⟩
      have ndp : d ≠ p := ne_of hd1 (s1 _ _ hp) (by intro z; cases z)
      refine ⟨_, rfl, d, kvs, rfl, hd1, hN, fun H2 s2 => ⟨_, rfl, iteF ?_⟩⟩
      refine ⟨_, rfl, ?_⟩
      dsimp only [tK, tNil]
      refine num H2 _ (s1.trans s2) ?_
      intro H3 na s3
      have s13 : Same H H3 := (s1.trans s2).trans s3
      refine ⟨_, rfl, p, CF, dx, [], rfl, s13 _ _ hp, T.cl, T.nN, (by show 0 < 1000; decide), ?_⟩
      have fs0 : (putF "_number" (V.ref na) ([] : List (Str × V))) = nf na := rfl
      rw [fs0]
      -- the heap from here on: H4
      have k4 : Kp p H (upd H3 p (.ins CF dx (nf na))) := fun b o e hb => by
        rw [upd_ne hb]
        exact s13 b o e
      have d4 : (upd H3 p (.ins CF dx (nf na))) d = some (.dK kvs) := by
        rw [upd_ne ndp]
        exact s3 _ _ (s2 _ _ hd1)
      have p4 : (upd H3 p (.ins CF dx (nf na))) p = some (.ins CF dx (nf na)) := upd_same
      generalize (upd H3 p (.ins CF dx (nf na))) = H4 at k4 d4 p4 ⊢
      obtain ⟨ks, hks, hkl⟩ := names_keys kvs hN.2.2
      refine ⟨_, rfl, d, kvs, ks, rfl, .inl d4, hks, by have := hN.1; omega, fun ys L perm _ nL => ?_⟩
      have s45 : Same H4 (upd H4 L (.lst (ys.map V.str))) := Same.upd_new nL
      refine ⟨L, rfl, ⟨_, SqL.of upd_same⟩, fun D nD => ?_⟩
      have nLD : L ≠ D := fun e => by
        rw [← e, upd_same] at nD
        cases nD
      have nD4 : H4 D = none := by
        rw [upd_ne nLD.symm] at nD
        exact nD
      refine dc_it (walk_list (K := K) (a := L) (xs := ys.map V.str)) (fun i H' => Same H4 H' ∧ H' L = some (.lst (ys.map V.str)) ∧ ∃ kv : List (Key × V), H' D = some (.dK kv) ∧ kv.length ≤ i ∧ ∀ q ∈ kv, ∃ (a : Addr) (u z : Int), q.2 = .ref a ∧ RatAt CR H' a u z) ?_ (fun _ _ _ p => SqL.of p.2.1) ?_ ?_
      · refine ⟨s45.trans (Same.upd_new nD), by rw [upd_ne nLD]; exact upd_same, [], upd_same, Nat.le_refl _, fun q hq => absurd hq List.not_mem_nil⟩
      · rintro i x1 H5 H6 hi ⟨s5, l5, kv, hkv, hl, hr5⟩ ⟨rfl, hx⟩
        obtain ⟨z, hz, rfl⟩ : ∃ z, ys[i]? = some z ∧ x1 = V.str z := by
          rw [List.getElem?_map] at hx
          cases e : ys[i]? with
          | none =>
            rw [e] at hx
            cases hx
          | some z =>
            rw [e] at hx
            exact ⟨z, rfl, (Option.some.inj hx).symm⟩
        have hzk : z ∈ ks := perm.mem_iff.mp (List.mem_of_getElem? hz)
        obtain ⟨n, hv, hn⟩ := names_val kvs hN hks hzk
        have hil : i < 60 := by
          have h1 := hN.1
          have h2 := perm.length_eq
          rw [List.length_map] at hi
          omega
        refine ⟨rfl, _, rfl, _, rfl, _, rfl, d, .int n, rfl, ?_, ?_⟩
        · rw [← hv]
          exact DGet.k (k := Sum.inr z) (s5 _ _ d4)
        · refine ⟨_, (n, 1), 8000, 0, rfl, .inr ⟨n, rfl, rfl⟩, bd_int hn, by decide, fun H7 a s7 r7 => ?_⟩
          have hkv7 : H7 D = some (.dK kv) := s7 _ _ hkv
          refine ⟨kv, Sum.inr z, rfl, hkv7, ?_, ?_, ?_, ?_⟩
          · have : (60 : Nat) < sizeLine := by decide
            omega
          · intro b o e
            rw [upd_ne (ne_of_none e nD4)]
            exact s7 b o (s5 b o e)
          · rw [upd_ne nLD]
            exact s7 _ _ l5
          · have keepR : ∀ {a2 : Addr} {u2 z2 : Int}, RatAt CR H7 a2 u2 z2 → RatAt CR (upd H7 D (.dK (putK kv (Sum.inr z) (.ref a)))) a2 u2 z2 := by
              rintro a2 u2 z2 ⟨dx2, h2⟩
              exact ⟨dx2, by rw [upd_ne (ne_of h2 hkv7 (by intro z; cases z))]; exact h2⟩
            refine ⟨_, upd_same, Nat.le_trans (len_putK _ _ _) (by omega), fun q hq => ?_⟩
            rcases mem_putK hq with hq | rfl
            · obtain ⟨a2, u2, z2, e2, r2⟩ := hr5 q hq
              exact ⟨a2, u2, z2, e2, keepR (r2.keep s7)⟩
            · exact ⟨a, _, _, rfl, keepR r7⟩
      · rintro H5 ⟨s5, l5, kv, hkv, hl, hr5⟩
        have p5 := s5 _ _ p4
        have k5 : Kp p H H5 := k4.trans (Kp.same s5)
        have hl60 : kv.length ≤ 60 := by
          have h1 := hN.1
          have h2 := perm.length_eq
          rw [List.length_map] at hl
          omega
        refine ⟨D, _, hkv, trivial, fun od => ?_⟩
        refine ⟨_, rfl, D, od, rfl, .inl ⟨kv, upd_same, fun D2 nD2 => ?_⟩⟩
        have nDD2 : D ≠ D2 := fun e => by
          rw [← e, upd_same] at nD2
          cases nD2
        have nD25 : H5 D2 = none := by
          rw [upd_ne nDD2.symm] at nD2
          exact nD2
        have npD : p ≠ D := ne_of p5 hkv (by intro z; cases z)
        have npD2 : p ≠ D2 := ne_of_none p5 nD25
        refine dc_it walk_keys (fun i H' => H' D = some (.frz od (.dK kv)) ∧ (∀ b o, H5 b = some o → b ≠ D → H' b = some o) ∧ ∃ kv2 : List (Key × V), H' D2 = some (.dK kv2) ∧ kv2.length ≤ i) ?_ (fun _ _ _ p => p.1) ?_ ?_
        · refine ⟨by rw [upd_ne nDD2]; exact upd_same, fun b o e hb => ?_, [], upd_same, Nat.le_refl _⟩
          rw [upd_ne (ne_of_none e nD25), upd_ne hb]
          exact e
        · rintro i x1 H6 H7 hi ⟨f6, k6, kv2, hkv2, hl2⟩ ⟨rfl, k, v, hk, rfl⟩
          obtain ⟨v', hv, hm⟩ := val_some (List.mem_of_getElem? hk)
          obtain ⟨a2, u2, z2, e2, dx2, r2⟩ := hr5 _ hm
          have e2' : v' = .ref a2 := e2
          subst e2'
          have na2 : a2 ≠ D := ne_of r2 hkv (by intro z; cases z)
          have r6 : H7 a2 = some (.ins CR dx2 (rf u2 z2)) := k6 _ _ r2 na2
          have g6 : DGet H7 D (kV k) (some (.ref a2)) := by
            rw [← hv]
            exact .inl ⟨kv, k, .inr ⟨od, f6⟩, rfl, rfl⟩
          refine ⟨rfl, _, rfl, _, rfl, D, _, rfl, g6, a2, dx2, _, rfl, r6, a2, (u2, z2), rfl, ⟨dx2, r6⟩, rfl, _, rfl, ?_⟩
          refine ite2 (fun _ => ?_) (fun _ => ⟨f6, k6, kv2, hkv2, by omega⟩)
          refine ⟨_, rfl, _, rfl, _, rfl, D, _, rfl, g6, kv2, k, rfl, hkv2, ?_, ?_, ?_, ?_⟩
          · have : (60 : Nat) < sizeLine := by decide
            omega
          · rw [upd_ne nDD2]
            exact f6
          · intro b o e hb
            rw [upd_ne (ne_of_none e nD25)]
            exact k6 b o e hb
          · exact ⟨_, upd_same, Nat.le_trans (len_putK _ _ _) (by omega)⟩
        · rintro H6 ⟨f6, k6, kv2, hkv2, hl2⟩
          have p6 : H6 p = some (.ins CF dx (nf na)) := k6 _ _ p5 npD
          refine ⟨f6, _, rfl, p, CF, dx, _, rfl, by rw [upd_ne npD]; exact p6, T.cl, T.nW, (by show 1 < 1000; decide), ?_⟩
          refine q _ _ upd_same fun b o e hb => ?_
          have e5 := k5 b o e hb
          rw [upd_ne hb]
          by_cases hbD : b = D
          · subst hbD
            rw [hkv] at e5
            rw [upd_same]
            exact e5
          · rw [upd_ne hbD]
            exact k6 b o e5 hbD
end
end Cm
end

/-! ## Of12 -/
section
namespace Cm
open PySem PySem.Spec PyProof.Rows L2 KG

theorem nodup_putK {kvs : List (Key × V)} {k : Key} {v : V} (h : (kvs.map (·.1)).Nodup) : ((putK kvs k v).map (·.1)).Nodup := by
  cases e : valV kvs k with
  | none => exact nd_putK v h e
  | some u =>
    have a : (kvs.any fun kv => decide (kv.1 = k)) = true := by
      rw [valV_any, e]
      rfl
    unfold putK
    rw [if_pos a, List.map_map]
    have : ((fun x : Key × V => x.1) ∘ fun kv : Key × V => if kv.1 = k then (kv.1, v) else kv) = fun x => x.1 := by
      funext q
      show (if q.1 = k then (q.1, v) else q).1 = q.1
      split <;> rfl
    rw [this]
    exact h
/-- names told for a form, and how often -/
def Counts (kvs : List (Key × V)) (i : Nat) : Prop := kvs.length ≤ i ∧ (kvs.map (·.1)).Nodup ∧ ∀ q ∈ kvs, ∃ (z : Str) (n : Int), q = (Sum.inr z, .int n) ∧ nameOk z = true ∧ z.length ≤ sizeLine ∧ 0 ≤ n ∧ n ≤ i
theorem Counts.names {kvs : List (Key × V)} {i : Nat} (c : Counts kvs i) (h : i < 60) : NamesInts kvs := by
  refine ⟨by have := c.1; omega, c.2.1, fun q hq => ?_⟩
  obtain ⟨z, n, e, h1, h2, h3, h4⟩ := c.2.2 q hq
  refine ⟨z, n, e, h1, h2, ?_⟩
  have h5 : n.natAbs < 2 ^ 60 := by omega
  exact Nat.lt_of_lt_of_le h5 (Nat.pow_le_pow_right (by decide) (by decide))

def spOf (CF : Addr) : Sp := fun vs H Q _ => ∃ (c : V) (T : Addr) (zs : List Str), vs = [c, .ref T] ∧ H T = some (.tup (zs.map V.str)) ∧ zs.length < 60 ∧ (∀ z ∈ zs, nameOk z = true ∧ z.length ≤ sizeLine) ∧
  ∀ (H' : Hp) (p dx : Addr) (fs : List (Str × V)), Same H H' → H p = none → H' p = some (.ins CF dx fs) → Q (.ref p) H'

section
variable {P : Program} {w : World} {K : PySem.W.Frag} {mg : Str → Option Value} {base : Heap} {CF CR : Addr}
theorem scFOf : FnScope ["cls", "names", "weights", "name"] (([("cls" : Str)] : List Str) ++ [("names" : Str)]) (defScope sFOf) := ⟨rfl, rfl, rfl, by decide +kernel, rfl, by decide +kernel, by decide +kernel⟩
theorem ok_fOf {f : Addr} {oc : Value} {od an : Option Addr} {osl : Array (Option Value)} {kV doc pm cdv ct : Value}
    (lk : K.lookup f = some ⟨oc, od, .func (PySem.W.fnOf "of" "Form.of" (defArgs sFOf) (defBody sFOf) (defScope sFOf) .none kV doc pm an cdv ct), osl⟩) (hcd : PySem.W.codeIn K cdv "Form.of" = true)
    (cW : Cl P w K mg base 1 "is_name" ["value"] (spIsName K CR)) (cF : MkC P w K mg base 5 "Form" CF ["self", "weights", "number"] [.int 0] (spFInit CF CR)) (kS : PySem.W.kitOne K (.type "str") (.ref CR) = some false) :
    FnR P w K mg base CX0 7 f (fun vs H Q E => ∃ ws rest, vs = ws ++ rest ∧ ws.length = ([("cls" : Str)] : List Str).length ∧ rest.length ≤ sizeLine ∧ ∀ p, H p = Option.none → spOf CF (ws ++ [V.ref p]) (upd H p (.tup rest)) Q E) := by
  refine StX.fn_star (ps := [("cls" : Str)]) (pv := "names") lk hcd scFOf StX.cxUp_none ?_ ?_
  · intro us rest hl
    exact StX.bind_star1 (B := fun l => bindArgs (PySem.W.fnOf "of" "Form.of" (defArgs sFOf) (defBody sFOf) (defScope sFOf) .none kV doc pm an cdv ct) ⟨l, []⟩) (fun a => rfl) (fun a r rs => rfl) us rest hl
  · intro A outer s H vs Q E hr h
    obtain ⟨c, T, zs, rfl, hT, hz, hn, q⟩ := h
    have hu := hu_of hr
    refine ⟨_, PSs.nox (pss_cons (ps_set (i := 2) scFOf.nd rfl (Or.inl rfl) pe_dnewK)
      (pss_cons (ps_for PassesOwn.never rfl (pi_tup (pv 1)) (pg_name (i := 3) scFOf.nd rfl (Or.inl rfl))
        (pss_cons (ps_if (pt_not (pt_val (pe_k cW hr (by decide) (by rfl) (pa_cons (pv 3) pa_nil)))) (pss_one ps_never) pss_nil)
        (pss_one (ps_dput hu (pv 2) (pv 3) (pe_op op_add (pe_dget2 hu (pv 2) (pv 3) pe_int ⟨rfl, rfl, rfl, rfl⟩) pe_int) rfl))))
      (pss_one (ps_ret (pe_mk cF hr (by decide) (by rfl) (pa_cons (pv 2) pa_nil)))))), ?_⟩
    intro d nd
    have sd : ∀ o, Same H (upd H d o) := fun _ => Same.upd_new nd
    refine ⟨_, rfl, T, rfl, ⟨_, SqT.of (sd _ _ _ hT)⟩, for_tup (K := K) (a := T) (xs := zs.map V.str) (fun i σ H' => (∃ u, σ = [some c, some (.ref T), some (.ref d), u]) ∧ Same H H' ∧ ∃ kvs, H' d = some (.dK kvs) ∧ Counts kvs i) ?_ (fun i σ H' _ p => SqT.of (p.2.1 _ _ hT)) ?_ ?_⟩
    · exact ⟨⟨none, rfl⟩, sd _, [], upd_same, Nat.le_refl _, List.nodup_nil, fun q hq => absurd hq List.not_mem_nil⟩
    · rintro i x σ H1 hx ⟨⟨u, rfl⟩, s1, kvs, hkv, hc⟩
      obtain ⟨z, hz2, rfl⟩ : ∃ z, zs[i]? = some z ∧ x = V.str z := by
        rw [List.getElem?_map] at hx
        cases e : zs[i]? with
        | none =>
          rw [e] at hx
          cases hx
        | some z =>
          rw [e] at hx
          exact ⟨z, rfl, (Option.some.inj hx).symm⟩
      have hil : i < 60 := by
        have := (List.getElem?_eq_some_iff.mp hz2).1
        omega
      obtain ⟨hzn, hzl⟩ := hn z (List.mem_of_getElem? hz2)
      refine ⟨_, rfl, _, rfl, .inr ⟨z, false, false, false, rfl, ⟨_, .base (.str z), kit_ty (by decide +kernel), kit_ty (by decide +kernel), kit_ty (by decide +kernel), kS⟩, hzl, _, rfl, ?_⟩⟩
      rw [hzn]
      refine iteF ?_
      have val : ∃ n : Int, (valV kvs (Sum.inr z)).getD (.int 0) = .int n ∧ 0 ≤ n ∧ n ≤ i := by
        cases e : valV kvs (Sum.inr z) with
        | none => exact ⟨0, rfl, by omega, by omega⟩
        | some v =>
          unfold valV at e
          cases e2 : kvs.find? fun kv => decide (kv.1 = Sum.inr z) with
          | none =>
            rw [e2] at e
            cases e
          | some q =>
            rw [e2] at e
            obtain ⟨z2, n, e3, _, _, h0, h1⟩ := hc.2.2 q (List.mem_of_find?_eq_some e2)
            subst e3
            cases e
            exact ⟨n, rfl, h0, h1⟩
      obtain ⟨n, en, n0, n1⟩ := val
      refine ⟨_, rfl, d, rfl, .inl ⟨kvs, .inl hkv⟩, _, rfl, valV kvs (Sum.inr z), DGet.k (k := Sum.inr z) hkv, n, 1, en, rfl, ?_⟩
      refine ⟨_, rfl, _, rfl, d, _, rfl, DPut.k (k := Sum.inr z) hkv ?_, ⟨_, rfl⟩, ?_, _, upd_same, ?_, nodup_putK hc.2.1, ?_⟩
      · have : (60 : Nat) < sizeLine := by decide
        have := hc.1
        omega
      · intro b o e
        rw [upd_ne (ne_of_none e nd)]
        exact s1 b o e
      · exact Nat.le_trans (len_putK _ _ _) (by have := hc.1; omega)
      · intro q hq
        rcases mem_putK hq with hq | rfl
        · obtain ⟨z2, n2, e, a1, a2, a3, a4⟩ := hc.2.2 q hq
          exact ⟨z2, n2, e, a1, a2, a3, by omega⟩
        · exact ⟨z, n + 1, rfl, hzn, hzl, by omega, by omega⟩
    · rintro σ H1 ⟨⟨u, rfl⟩, s1, kvs, hkv, hc⟩
      rw [List.length_map] at hc
      refine ⟨_, rfl, fun x dx nx ndx ne => ?_⟩
      refine ⟨x, dx, _, _, kvs, rfl, upd_same, .inr ⟨d, rfl, (Same.made2 nx ndx) _ _ hkv, hc.names hz⟩, .intro (0, 1) ⟨0, 0, .inr ⟨0, rfl, rfl⟩, bd_int (by decide), by decide⟩, fun H2 fs h1 h2 => ⟨rfl, ?_⟩⟩
      refine q H2 x dx fs (fun b o e => ?_) (s1.free nx) h1
      exact h2 b o ((Same.made2 nx ndx) b o (s1 b o e)) (ne_of_none (s1 b o e) nx)
end
end Cm
end

/-! ## H12 -/
section
set_option pp.maxSteps 400
namespace KG
open PySem PySem.Spec PyProof.Rows L2
section
variable {X : Cx} {e : Expr}
theorem pe_never : PE X e (fun _ _ _ => False) := ⟨fun _ _ _ _ _ _ h => h.elim⟩
theorem call_repr_bl : CallR X (.builtin "repr") (fun xs H Q => ∃ b, xs = [.bl b] ∧ Q (.str (if b then "True" else "False")) H) := by
  intro pins s σ H xs us Q I r h
  obtain ⟨b, rfl, q⟩ := h
  obtain ⟨u, rfl, ru⟩ := vals1 r
  cases ru
  exact PySem.P.repr_of_bool ⟨.str _, H, I.tok _, ⟨_, rfl⟩, q⟩
theorem OpR.or {f : Value → Value → Sem Value} {r1 r2 : R2} (h1 : OpR X f r1) (h2 : OpR X f r2) : OpR X f (fun x y H Q => r1 x y H Q ∨ r2 x y H Q) := fun pins s σ H x y v u Q I rx ry h => h.elim (h1 pins s σ H x y v u Q I rx ry) (h2 pins s σ H x y v u Q I rx ry)
end
end KG
namespace Cm
open PySem PySem.Spec PyProof.Rows L2 KG
abbrev sFEq : Stmt := inClass (top 19) 17
abbrev sWhole : Stmt := top 33
/-- a form asked whether it is what is no form -/
def spFEq (K : PySem.W.Frag) (CF : Addr) : Sp := fun vs H Q _ => ∃ (a : Addr) (y : V) (t : Value), vs = [.ref a, y] ∧ TyX K H y t ∧ PySem.W.kitOne K t (.ref CF) = some false ∧ Q (.bl false) H
theorem bools2 (a b : Bool) : (PyData.list [.bool a, .bool b]).depth ≤ 62 ∧ (PyData.list [.bool a, .bool b]).shown.length ≤ sizeLine := by
  cases a <;> cases b <;> decide +kernel
section
variable {P : Program} {w : World} {K : PySem.W.Frag} {mg : Str → Option Value} {base : Heap} {CR CF : Addr}
theorem scFEq : FnScope ["self", "other"] ["self", "other"] (defScope sFEq) := ⟨rfl, rfl, rfl, by decide +kernel, rfl, by decide +kernel, by decide +kernel⟩
theorem ok_fEq {f : Addr} {fd : FuncData} (F : Fun K "__eq__" "Form.__eq__" sFEq f fd) (hi : mg "isinstance" = none) (hF : mg "Form" = some (.ref CF)) : FnOk P w K mg base CX0 1 f fd ["self", "other"] (spFEq K CF) := by
  refine F.ok scFEq (fun vs H Q E h => ?_) (fun cdv A outer s H vs Q E hr h => ?_)
  · obtain ⟨a, y, _, rfl, _⟩ := h
    rfl
  · obtain ⟨a, y, t, rfl, ty, kt, z⟩ := h
    refine ⟨_, pss_one (ps_ret (pe_and (pe_callB call_isi (by rfl) hi (by decide +kernel) (pa_cons (pv 1) (pa_cons (pe_glob (v := .ref CF) (by rfl) hF rfl) pa_nil))) (pe_and pe_never (pe_one pe_never)))), ?_⟩
    exact ⟨_, rfl, _, _, t, _, _, rfl, .own _, ty, kt, _, rfl, iteF z⟩

structure TxtW (mg : Str → Option Value) (CF : Addr) : Prop where
  repr : mg "repr" = none
  any : mg "any" = none
  str : mg "str" = none
  list : mg "list" = none
  form : mg "Form" = some (.ref CF)
def spWhole (K : PySem.W.Frag) (CR : Addr) : Sp := fun vs H Q _ => ∃ (j a t : Addr) (p : Int × Int) (k : Nat), vs = [.ref j, .ref a, .ref t] ∧ JarAt H j ∧ RA CR H a p ∧ PA2 K H t p ∧ Lw p ∧ Bd k k p ∧ 100 ≤ k ∧ k ≤ 6000 ∧ ∀ H' : Hp, JarAt H' j → Kp j H H' → Q (.bl true) H'
theorem down_le {p : Int × Int} (h : Lw p) : (p.1.fdiv p.2).natAbs ≤ p.1.natAbs := by
  have h0 := h.1
  rw [Int.fdiv_eq_ediv_of_nonneg p.1 (by omega)]
  exact Int.natAbs_ediv_le_natAbs _ _
end
end Cm
end

/-! ## W12 -/
section
set_option pp.maxSteps 400
namespace KG
open PySem PySem.Spec PyProof.Rows L2
theorem op_eqOK {X : Cx} {k j : Nat} {C : Addr} {sp : Sp} {P : Program} {w : World} {K : PySem.W.Frag} {mg : Str → Option Value} {base : Heap} (hK : X.prog = P ∧ X.w = w ∧ X.K = K ∧ X.mg = mg ∧ X.base = base) (S : Sl P w K mg base C "__eq__" k sp) (hr : Room j X.A) (hk : k ≤ j) : OpR X (compareOp .Eq) (rEqO K C sp) := by
  obtain ⟨rfl, rfl, rfl, rfl, rfl⟩ := hK
  exact op_eqO S hr hk
theorem op_eqDK {X : Cx} {k j : Nat} {C : Addr} {sp : Sp} {P : Program} {w : World} {K : PySem.W.Frag} {mg : Str → Option Value} {base : Heap} (hK : X.prog = P ∧ X.w = w ∧ X.K = K ∧ X.mg = mg ∧ X.base = base) (S : Sl P w K mg base C "__eq__" k sp) (hr : Room j X.A) (hk : k ≤ j) : OpR X (compareOp .Eq) (rEqD K C sp) := by
  obtain ⟨rfl, rfl, rfl, rfl, rfl⟩ := hK
  exact op_eqD2 S hr hk
end KG
namespace Cm
open PySem PySem.Spec PyProof.Rows L2 KG
theorem RA.kp {CR : Addr} {H H' : Hp} {j a : Addr} {p : Int × Int} (J : JarAt H j) (k : Kp j H H') (h : RA CR H a p) : RA CR H' a p := by
  obtain ⟨dx, h⟩ := h
  obtain ⟨c, z, ej, _⟩ := J
  exact ⟨dx, k a _ h fun e => by rw [e, ej] at h; cases h⟩
/-- a value that is no ratio, asked for == on either side -/
def Odd (K : PySem.W.Frag) (CR CF : Addr) (H : Hp) (v : V) : Prop := ∃ t, TyX K H v t ∧ PySem.W.kitOne K t (.ref CR) = some false ∧ PySem.W.notFirst K CR t = true ∧
  ((DeclK K CR v H ∧ (∀ u b, RelV v u → oneThing? .Eq u (.ref b) = none) ∧ t ≠ .ref CR ∧ PySem.W.subIn K (.ref CR) t = some false) ∨ ∃ a, v = .ref a ∧ IsI H CF a)
theorem eqv_pair (a b c d : Int) : PyData.eqv (.tuple [.int a, .int b]) (.tuple [.int c, .int d]) = (decide (a = c) && decide (b = d)) := by
  simp [PyData.eqv, PyData.eqvAll]
  cases h1 : decide (a = c) <;> cases h2 : decide (b = d) <;> simp_all
section
variable {P : Program} {w : World} {K : PySem.W.Frag} {mg : Str → Option Value} {base : Heap} {CR CF : Addr}
abbrev nmsWhole : List Str := ["_law_jar_here", "_law_one", "_law_pair", "_law_down", "_law_n", "_law_some", "_law_odd"]
theorem scWhole : FnScope nmsWhole ["_law_jar_here", "_law_one", "_law_pair"] (defScope sWhole) := ⟨rfl, rfl, rfl, by decide +kernel, rfl, by decide +kernel, by decide +kernel⟩
theorem ok_whole {f gO pO : Addr} {fd : FuncData} (F : Fun K "_law_whole_right" "_law_whole_right" sWhole f fd) (B : Binds K fd ["_law_jar_here", "_law_one", "_law_pair"] []) (R : RC P w K mg base CR) (T : TxtW mg CF) (kk : KI K CR)
    (cN : Cl P w K mg base 3 "_law_integer" ["_law_jar_here"] spInteger) (c1 : MkC P w K mg base 2 "Ratio" CR ["self", "top", "bottom"] [.int 1] (spRInit CR)) (ki : PySem.W.notFirst K CR (.type "int") = true) (si : PySem.W.subIn K (.ref CR) (.type "int") = some false)
    (sS : Sl P w K mg base CR "__str__" 1 (spRStr CR)) (sR : Sl P w K mg base CR "__repr__" 1 (spRRepr CR)) (sF : Sl P w K mg base CF "__eq__" 1 (spFEq K CF)) (iF : InsK K CF)
    (cF : MkC P w K mg base 5 "Form" CF ["self", "weights", "number"] [] (spFInit CF CR)) (FO : FnR P w K mg base CX0 7 gO (fun vs H Q E => ∃ ws rest, vs = ws ++ rest ∧ ws.length = ([("cls" : Str)] : List Str).length ∧ rest.length ≤ sizeLine ∧ ∀ p, H p = Option.none → spOf CF (ws ++ [V.ref p]) (upd H p (.tup rest)) Q E))
    {mc : Value} (rO : ClX.CRead K CF mc) (oO : ClX.CMet K CF mc "of" pO gO)
    (hO : ∀ (H : Hp) (v : V), (v = .non ∨ (∃ b, v = .bl b) ∨ (∃ z, v = .str z) ∨ (∃ l xs, v = .ref l ∧ H l = some (.lst xs)) ∨ (∃ l xs, v = .ref l ∧ SqT K H l xs) ∨ (∃ l kvs, v = .ref l ∧ H l = some (.dK kvs)) ∨ ∃ l dx fs, v = .ref l ∧ H l = some (.ins CF dx fs)) → Odd K CR CF H v) (nFR : PySem.W.notFirst K CF (.ref CR) = true) (kFR : PySem.W.kitOne K (.ref CR) (.ref CF) = some false) : FnG P w K mg base 9 f (spWhole K CR) := by
  refine fnG_of F scWhole B (fun vs H Q E h => ?_) (fun cdv A outer s H vs Q E hr hg h => ?_)
  · obtain ⟨_, _, _, _, _, rfl, _⟩ := h
    rfl
  · obtain ⟨j, a, t, p, k, rfl, J, ha, ht, lp, bp, hk1, hk2, z⟩ := h
    refine ⟨_, pss_cons (ps_set (i := 3) scWhole.nd rfl (Or.inl rfl) (pe_op KG.op_fdivN (pe_ix ix_tup (pv 2) pe_int (fun _ _ => rfl)) (pe_ix ix_tup (pv 2) pe_int (fun _ _ => rfl))))
      (pss_cons (ps_for PassesOwn.never rfl (pi_list (pe_lst (pa_cons (pv 3) (pa_cons (pe_op op_add (pv 3) pe_int) (pa_cons (pe_op op_sub (pv 3) pe_int) (pa_cons pe_int (pa_cons (pe_k cN hr (by decide) (by rfl) (pa_cons (pv 0) pa_nil)) pa_nil))))))) (pg_name (i := 4) scWhole.nd rfl (Or.inl rfl))
        (pss_cons (ps_if (pt_cmpR op_ne (pe_callB (call_reprD hg hr.units) (by rfl) T.repr (by decide +kernel) (pa_cons (pe_lst (pa_cons (pe_me R.be R.cl hr (by decide) (pv 1) (pa_cons (pv 4) pa_nil)) (pa_cons (pe_me R.be R.cl hr (by decide) (pe_mk c1 hr (by decide) (by rfl) (pa_cons (pv 4) pa_nil)) (pa_cons (pv 1) pa_nil)) pa_nil))) pa_nil))
            (pe_callB (call_reprD hg hr.units) (by rfl) T.repr (by decide +kernel) (pa_cons (pe_lst (pa_cons (pe_cmpR op_lt (pe_ix ix_tup (pv 2) pe_int (fun _ _ => rfl)) (pe_op op_mulW (pv 4) (pe_ix ix_tup (pv 2) pe_int (fun _ _ => rfl))) (nomark _)) (pa_cons (pe_cmpR op_lt (pe_op op_mulW (pv 4) (pe_ix ix_tup (pv 2) pe_int (fun _ _ => rfl))) (pe_ix ix_tup (pv 2) pe_int (fun _ _ => rfl)) (nomark _)) pa_nil))) pa_nil)) (nomark _)) (pss_one (ps_ret pe_bl)) pss_nil)
        (pss_one (ps_if (PW.pt (pw_or (pt_cmpR (op_eqO R.eq hr (by decide)) (pv 1) (pv 4) (nomark _)) (pw_or (pt_cmpR (op_eqD2 R.eq hr (by decide)) (pv 4) (pv 1) (nomark _)) (pw_or (pt_not (pt_cmpR (op_neO R.eq R.ne R.ob hr (by decide)) (pv 1) (pv 4) (nomark _)))
            (pw_or1 (pt_cmpR op_ne (pe_callB call_repr_bl (by rfl) T.repr (by decide +kernel) (pa_cons (pe_cmpR (op_eqO R.eq hr (by decide)) (pv 1) (pe_mk c1 hr (by decide) (by rfl) (pa_cons (pv 4) pa_nil)) (nomark _)) pa_nil))
              (pe_callB call_repr_bl (by rfl) T.repr (by decide +kernel) (pa_cons (pe_cmpR (op_eqD hr.units) (pv 2) (pe_tup (pa_cons (pv 4) (pa_cons pe_int pa_nil))) (nomark _)) pa_nil)) (nomark _))))))) (pss_one (ps_ret pe_bl)) pss_nil))))
      (pss_cons (ps_set (i := 5) scWhole.nd rfl (Or.inl rfl) (pe_lst (pa_cons pe_non (pa_cons pe_bl (pa_cons pe_bl (pa_cons pe_str (pa_cons (pe_callTy (call_strS sS hr (by decide)) (by rfl) T.str (by decide +kernel) (pa_cons (pv 1) pa_nil)) (pa_cons (pe_callB (call_reprS sR hr (by decide)) (by rfl) T.repr (by decide +kernel) (pa_cons (pv 1) pa_nil)) (pa_cons (pv 2)
          (pa_cons (pe_callTy call_list_of (by rfl) T.list (by decide +kernel) (pa_cons (pv 2) pa_nil)) (pa_cons (pe_lst (pa_cons (pv 1) pa_nil)) (pa_cons pe_dnewK (pa_cons (pe_mk cF hr (by decide) (by rfl) (pa_cons pe_non (pa_cons (pv 1) pa_nil))) (pa_cons (ClX.pe_cmeth (pe_glob (v := .ref CF) (by rfl) T.form rfl) rO oO FO (hr.mono (by decide)) pass0 (pa_cons pe_str pa_nil)) pa_nil))))))))))))))
      (pss_one (ps_ret (pe_not (pe_callB (cr_any (by rfl)) (by rfl) T.any (by decide +kernel) (pa_cons (pe_lc (own := [("_law_odd", 6)]) (g := gName 6) (by rfl) scWhole.nd (pi_list (pv 5))
          (blkOk_by (own := [("_law_odd", 6)]) (N := nmsWhole) (sc := defScope sWhole) (by decide +kernel)) (fun _ _ _ _ _ => pg_name (i := 6) scWhole.nd rfl (Or.inl rfl)) (fun _ _ _ _ _ => pts_nil)
          (fun _ _ _ _ _ => pe_or (pe_cmpR (op_eqOK (k := 1) (j := 8) ⟨rfl, rfl, rfl, rfl, rfl⟩ R.eq hr (by decide)) (pv 1) (pv 6) (nomark _)) (pe_one (pe_cmpR (KG.OpR.or (op_eqDK (k := 1) (j := 8) ⟨rfl, rfl, rfl, rfl, rfl⟩ R.eq hr (by decide)) (op_eqOK (k := 1) (j := 8) ⟨rfl, rfl, rfl, rfl, rfl⟩ sF hr (by decide))) (pv 6) (pv 1) (nomark _))))) pa_nil))))))), ?_⟩
    have lg := lg_le (Nat.le_of_lt bp.1)
    refine ⟨_, rfl, t, _, _, _, rfl, rfl, ht, rfl, _, rfl, t, _, _, _, rfl, rfl, ht, rfl, _, _, rfl, rfl, ⟨lp.ne, by omega⟩, ?_⟩
    have hd : (p.1.fdiv p.2).natAbs < 2 ^ k := Nat.lt_of_le_of_lt (down_le lp) bp.1
    obtain ⟨d, ed⟩ : ∃ d, d = p.1.fdiv p.2 := ⟨_, rfl⟩
    rw [← ed] at hd
    have k1e : (2 : Nat) ^ (k + 1) = 2 ^ k + 2 ^ k := by rw [Nat.pow_succ]; omega
    have pos : 0 < 2 ^ k := Nat.pow_pos (by decide)
    refine ⟨_, rfl, _, rfl, _, _, rfl, rfl, _, rfl, _, _, rfl, rfl, _, rfl, j, rfl, J, fun H1 m J1 k1 hm => ⟨(by show 5 ≤ sizeLine; decide), fun b nb => ?_⟩⟩
    have s1 : ∀ o, Same H1 (upd H1 b o) := fun _ => Same.upd_new nb
    have ha1 := RA.kp J k1 ha
    have ht1 : PA2 K H1 t p := SqT.kp J k1 ht
    have hm' : m.natAbs < 2 ^ (k + 1) := Nat.lt_of_lt_of_le hm (pow_le (by omega))
    refine ⟨b, rfl, ⟨_, SqL.of upd_same⟩, for_list (K := K) (a := b) (xs := [.int d, .int (d + 1), .int (d - 1), .int 0, .int m]) (fun i σ H' => (∃ u x5 x6, σ = [some (.ref j), some (.ref a), some (.ref t), some (.int d), u, x5, x6]) ∧ Same (upd H1 b (.lst [.int d, .int (d + 1), .int (d - 1), .int 0, .int m])) H') ?_ (fun i σ H' _ p => SqL.of (p.2 _ _ upd_same)) ?_ ?_⟩
    · subst ed
      exact ⟨⟨none, none, none, rfl⟩, fun _ _ e => e⟩
    · rintro i x σ H2 hx ⟨⟨u, x5, x6, rfl⟩, s2⟩
      obtain ⟨n, rfl, hn⟩ : ∃ n : Int, x = .int n ∧ n.natAbs < 2 ^ (k + 1) := by
        have hm := List.mem_of_getElem? hx
        simp only [List.mem_cons, List.not_mem_nil, or_false] at hm
        rcases hm with rfl | rfl | rfl | rfl | rfl
        · exact ⟨_, rfl, by omega⟩
        · exact ⟨_, rfl, by omega⟩
        · exact ⟨_, rfl, by omega⟩
        · exact ⟨_, rfl, by omega⟩
        · exact ⟨_, rfl, hm'⟩
      have s12 : Same H1 H2 := Same.trans' (s1 _) s2
      have ha2 := ha1.keep s12
      have ht2 := ht1.keep s12
      have bn : Bd (k + 1) 0 (n, 1) := bd_int hn
      obtain ⟨da, ha2'⟩ := id ha2
      refine ⟨_, rfl, a, da, _, rfl, ha2', rf_no _ _ (by decide +kernel) (by decide +kernel), _, rfl, a, _, p, (n, 1), k, k, k + 1, 0, rfl, ha2, .inr ⟨n, rfl, rfl⟩, bp, bn, by unfold Fit; omega, fun H3 s3 => ?_⟩
      refine ⟨_, rfl, fun x dx nx ndx ne => ?_⟩
      refine ⟨x, dx, n, 1, k + 1, 0, rfl, upd_same, one_ne', hn, by decide, by omega, by decide, fun H4 h1 h2 => ⟨rfl, ?_⟩⟩
      have s4 : Same H3 H4 := fun b o e => h2 b o ((Same.made2 nx ndx) b o e) (ne_of_none e nx)
      have r4 : RA CR H4 x (low n 1) := ⟨dx, h1⟩
      rw [low_int] at r4
      have s14 := Same.trans' (Same.trans' s12 s3) s4
      have ha4 := ha1.keep s14
      have ht4 := ht1.keep s14
      obtain ⟨dx4, r4'⟩ := id r4
      refine ⟨x, dx4, _, rfl, r4', rf_no _ _ (by decide +kernel) (by decide +kernel), _, rfl, x, _, (n, 1), p, k + 1, 0, k, k, rfl, r4, .inl ⟨a, rfl, ha4⟩, bn, bp, by unfold Fit; omega, fun H5 s5 => ⟨(by show 2 ≤ sizeLine; decide), fun l1 n1 => ?_⟩⟩
      have s15 := Same.trans' s14 s5
      have sb5 := Same.trans' s2 (Same.trans' s3 (Same.trans' s4 s5))
      have e1 : p.1 * 1 = p.1 := Int.mul_one _
      have e2 : ∀ G : Hp, Same H1 G → PA2 K G t p := fun G s => ht1.keep s
      refine ⟨l1, .list [.bool (decide (p.1 * 1 < n * p.2)), .bool (decide (n * p.2 < p.1 * 1))], rfl, .lst (SqL.of upd_same) (.cons (.bl _) (.cons (.bl _) .nil)), rfl, rfl, (bools2 _ _).1, (bools2 _ _).2, ?_⟩
      have ht6 := e2 _ (Same.trans' s15 (Same.upd_new (o := .lst [.bl (decide (p.1 * 1 < n * p.2)), .bl (decide (n * p.2 < p.1 * 1))]) n1))
      have cn : CMulW n p.2 := cmw (Nat.le_of_lt hn) bp.2.1 (by omega)
      refine ⟨_, rfl, t, _, _, _, rfl, rfl, ht6, rfl, _, rfl, _, rfl, t, _, _, _, rfl, rfl, ht6, rfl, _, _, rfl, rfl, cn, _, _, rfl, rfl, ?_⟩
      refine ⟨_, rfl, _, rfl, t, _, _, _, rfl, rfl, ht6, rfl, _, _, rfl, rfl, cn, _, rfl, t, _, _, _, rfl, rfl, ht6, rfl, _, _, rfl, rfl, (by show 2 ≤ sizeLine; decide), fun l2 n2 => ?_⟩
      refine ⟨l2, .list [.bool (decide (p.1 < n * p.2)), .bool (decide (n * p.2 < p.1))], rfl, .lst (SqL.of upd_same) (.cons (.bl _) (.cons (.bl _) .nil)), rfl, rfl, (bools2 _ _).1, (bools2 _ _).2, ?_⟩
      refine ⟨rfl, _, rfl, ?_⟩
      rw [e1] at n2
      rw [e1]
      refine ite2 (fun h => absurd h (by simp)) (fun _ => ?_)
      have s16 := Same.trans' (Same.trans' s15 (Same.upd_new (o := .lst [.bl (decide (p.1 < n * p.2)), .bl (decide (n * p.2 < p.1))]) n1)) (Same.upd_new (o := .lst [.bl (decide (p.1 < n * p.2)), .bl (decide (n * p.2 < p.1))]) n2)
      have sb6 := Same.trans' (Same.trans' sb5 (Same.upd_new (o := .lst [.bl (decide (p.1 < n * p.2)), .bl (decide (n * p.2 < p.1))]) n1)) (Same.upd_new (o := .lst [.bl (decide (p.1 < n * p.2)), .bl (decide (n * p.2 < p.1))]) n2)
      generalize upd (upd H5 l1 (.lst [.bl (decide (p.1 < n * p.2)), .bl (decide (n * p.2 < p.1))])) l2 (.lst [.bl (decide (p.1 < n * p.2)), .bl (decide (n * p.2 < p.1))]) = H6 at s16 sb6
      have ha6 := ha1.keep s16
      have ht7 := e2 _ s16
      obtain ⟨da6, ha6'⟩ := id ha6
      have tyI : TyX K H6 (.int n) (.type "int") := .base (.int n)
      have tI : (Value.type "int") ≠ .ref CR := fun z => by cases z
      refine ⟨_, rfl, _, rfl, a, _, rfl, ha6.isI, tyI, ki, a, _, p, rfl, ha6, .inr ⟨_, tyI, kk.i, false, rfl, _, rfl, ?_⟩⟩
      refine iteF ⟨_, rfl, _, rfl, a, _, rfl, ha6.isI, tyI, fun X e => decl_int' n, fun u b r => by obtain ⟨t, rfl⟩ := r; rfl, tI, si, a, _, p, rfl, ha6, .inr ⟨_, tyI, kk.i, false, rfl, _, rfl, ?_⟩⟩
      refine iteF ⟨_, rfl, _, rfl, a, _, rfl, ha6.isI, tyI, ki, a, _, p, rfl, ha6, .inr ⟨_, tyI, kk.i, false, rfl, _, rfl, _, rfl, ?_⟩⟩
      refine iteF ?_
      refine ⟨_, rfl, _, rfl, fun x7 dx7 nx7 ndx7 ne7 => ?_⟩
      refine ⟨x7, dx7, n, 1, k + 1, 0, rfl, upd_same, one_ne', hn, by decide, by omega, by decide, fun H7 h17 h27 => ⟨rfl, ?_⟩⟩
      have s7 : Same H6 H7 := fun b o e => h27 b o ((Same.made2 nx7 ndx7) b o e) (ne_of_none e nx7)
      have r7 : RA CR H7 x7 (low n 1) := ⟨dx7, h17⟩
      rw [low_int] at r7
      obtain ⟨dr7, r7'⟩ := id r7
      have ha7 := ha6.keep s7
      have s17 := Same.trans' s16 s7
      refine ⟨a, _, rfl, ha7.isI, R.ins.ty r7', R.nf, a, _, p, rfl, ha7, .inl ⟨x7, (n, 1), rfl, r7, _, rfl, _, rfl, ?_⟩⟩
      refine ⟨_, rfl, _, rfl, (by show 2 ≤ sizeLine; decide), fun u7 nu7 => ?_⟩
      have s8 := Same.upd_new (o := .tup [.int n, .int 1]) nu7
      refine ⟨.tuple [.int p.1, .int p.2], .tuple [.int n, .int 1], .tup (e2 _ (Same.trans' s17 s8)) (.cons (.int _) (.cons (.int _) .nil)), .tup (SqT.of upd_same) (.cons (.int _) (.cons (.int _) .nil)), rfl, rfl, _, rfl, rfl, _, rfl, ?_⟩
      rw [eqv_pair]
      refine ite2 (fun h => absurd h (by simp)) (fun _ => ?_)
      exact ⟨⟨_, _, _, rfl⟩, Same.trans' sb6 (Same.trans' s7 s8)⟩
    · rintro σ H2 ⟨⟨u, x5, x6, rfl⟩, s2⟩
      have s12 : Same H1 H2 := Same.trans' (s1 _) s2
      have ha2 := ha1.keep s12
      have ht2 := ht1.keep s12
      have g1 : p.1.natAbs < Big := big_of bp.1 (by omega)
      have g2 : p.2.natAbs < Big := big_of (k := k + 1) (Nat.lt_of_le_of_lt bp.2.1 (Nat.pow_lt_pow_right (by decide) (Nat.lt_succ_self k))) (by omega)
      refine ⟨_, rfl, a, rfl, ha2.isI, a, p, rfl, ha2, g1, g2, _, rfl, _, rfl, a, rfl, ha2.isI, a, p, rfl, ha2, g1, g2, _, rfl, _, rfl, _, rfl, t, _, rfl, .inr ht2, fun l1 n1 => ?_⟩
      have t1 := Same.upd_new (H := H2) (o := .lst [.int p.1, .int p.2]) n1
      refine ⟨_, rfl, (by show 1 ≤ sizeLine; decide), fun l2 n2 => ?_⟩
      have t2 := Same.trans' t1 (Same.upd_new (o := .lst [.ref a]) n2)
      intro l3 n3
      have t3 := Same.trans' t2 (Same.upd_new (o := .dK []) n3)
      refine ⟨_, rfl, fun b4 d4 n4 nd4 ne4 => ⟨b4, d4, .non, .ref a, [], rfl, upd_same, .inl ⟨rfl, rfl⟩, ⟨p, k, k, .inl ⟨a, rfl, ?_⟩, bp, by omega⟩, fun H13 fs4 h13 g13 => ⟨rfl, ?_⟩⟩⟩
      · exact (ha2.keep t3).keep (Same.made2 n4 nd4)
      have s13 : Same H2 H13 := Same.trans' t3 fun b o e => g13 b o ((Same.made2 n4 nd4) b o e) (ne_of_none e n4)
      refine ⟨rfl, [.ref CF], [.str "a"], rfl, rfl, (by show 1 ≤ sizeLine; decide), fun T5 nT5 => ⟨.ref CF, T5, ["a"], rfl, upd_same, by decide, ?_, fun H14 b5 d5 fs5 s14 n5 h14 => ?_⟩⟩
      · intro y hy
        rw [List.mem_singleton.mp hy]
        exact ⟨by decide +kernel, by decide +kernel⟩
      have s1314 : Same H13 H14 := Same.trans' (Same.upd_new nT5) s14
      refine ⟨(by show 12 ≤ sizeLine; decide), fun b7 n7 => ?_⟩
      have sA : Same H2 H14 := Same.trans' s13 s1314
      have odds : ∀ x ∈ ([.non, .bl true, .bl false, .str "", .str (rStr p), .str (rRepr p), .ref t, .ref l1, .ref l2, .ref l3, .ref b4, .ref b5] : List V), ∀ G, Same H14 G → Odd K CR CF G x := by
        intro x hx G sG
        have sG2 := Same.trans' sA sG
        have s3G : ∀ b o, (upd (upd (upd H2 l1 (.lst [.int p.1, .int p.2])) l2 (.lst [.ref a])) l3 (.dK [])) b = some o → G b = some o := fun b o e => sG b o (s1314 b o (g13 b o ((Same.made2 n4 nd4) b o e) (ne_of_none e n4)))
        simp only [List.mem_cons, List.not_mem_nil, or_false] at hx
        rcases hx with rfl | rfl | rfl | rfl | rfl | rfl | rfl | rfl | rfl | rfl | rfl | rfl
        · exact hO G _ (.inl rfl)
        · exact hO G _ (.inr (.inl ⟨_, rfl⟩))
        · exact hO G _ (.inr (.inl ⟨_, rfl⟩))
        · exact hO G _ (.inr (.inr (.inl ⟨_, rfl⟩)))
        · exact hO G _ (.inr (.inr (.inl ⟨_, rfl⟩)))
        · exact hO G _ (.inr (.inr (.inl ⟨_, rfl⟩)))
        · exact hO G _ (.inr (.inr (.inr (.inr (.inl ⟨_, _, rfl, SqT.ext ht2 sG2⟩)))))
        · exact hO G _ (.inr (.inr (.inr (.inl ⟨_, _, rfl, s3G _ _ ((Same.upd_new n3) _ _ ((Same.upd_new n2) _ _ upd_same))⟩))))
        · exact hO G _ (.inr (.inr (.inr (.inl ⟨_, _, rfl, s3G _ _ ((Same.upd_new n3) _ _ upd_same)⟩))))
        · exact hO G _ (.inr (.inr (.inr (.inr (.inr (.inl ⟨_, _, rfl, s3G _ _ upd_same⟩))))))
        · exact hO G _ (.inr (.inr (.inr (.inr (.inr (.inr ⟨_, _, _, rfl, sG _ _ (s1314 _ _ h13)⟩))))))
        · exact hO G _ (.inr (.inr (.inr (.inr (.inr (.inr ⟨_, _, _, rfl, sG _ _ h14⟩))))))
      have fin : ∀ G, Same H14 G → Q (.bl true) G := fun G sG => by
        have sAll := Same.trans' s12 (Same.trans' sA sG)
        exact z G (J1.keep sAll) (k1.trans (Kp.same sAll))
      have s7b : ∀ o, Same H14 (upd H14 b7 o) := fun _ => Same.upd_new n7
      refine ⟨_, rfl, b7, rfl, ⟨_, SqL.of upd_same⟩, fun D nD => ?_⟩
      refine lc_it (walk_list (xs := ([.non, .bl true, .bl false, .str "", .str (rStr p), .str (rRepr p), .ref t, .ref l1, .ref l2, .ref l3, .ref b4, .ref b5] : List V))) (fun i G => Same (upd H14 b7 (.lst [.non, .bl true, .bl false, .str "", .str (rStr p), .str (rRepr p), .ref t, .ref l1, .ref l2, .ref l3, .ref b4, .ref b5])) G ∧ G D = some (.lst ((List.replicate i false).map V.bl))) ⟨Same.upd_new nD, upd_same⟩ (fun i G _ q => SqL.of (q.1 _ _ upd_same)) ?_ ?_
      · rintro i x G1 G2 hi ⟨sg, dg⟩ ⟨rfl, hx⟩
        have sG := Same.trans' (s7b _) sg
        obtain ⟨ty0, ty, kt, nf, hh⟩ := odds x (List.mem_of_getElem? hx) _ sG
        have haG := ha2.keep (Same.trans' sA sG)
        obtain ⟨dG, haG'⟩ := id haG
        have push : ∃ acc, G2 D = some (.lst acc) ∧ acc.length < sizeLine ∧ (Same (upd H14 b7 (.lst [.non, .bl true, .bl false, .str "", .str (rStr p), .str (rRepr p), .ref t, .ref l1, .ref l2, .ref l3, .ref b4, .ref b5])) (upd G2 D (.lst (acc ++ [.bl false]))) ∧ (upd G2 D (.lst (acc ++ [.bl false]))) D = some (.lst ((List.replicate (i + 1) false).map V.bl))) := by
          refine ⟨_, dg, ?_, ?_, ?_⟩
          · rw [List.length_map, List.length_replicate]
            have h12 : i < 12 := hi
            have : (12 : Nat) < sizeLine := by decide
            omega
          · intro b o e
            rw [upd_ne (ne_of_none e nD)]
            exact sg b o e
          · rw [upd_same, List.replicate_succ', List.map_append]
            rfl
        refine ⟨rfl, _, rfl, _, rfl, a, ty0, rfl, haG.isI, ty, nf, a, _, p, rfl, haG, .inr ⟨ty0, ty, kt, false, rfl, false, rfl, ?_⟩⟩
        refine iteF ?_
        rcases hh with ⟨dd, on, tn, sb⟩ | ⟨b, rfl, hb⟩
        · exact ⟨_, rfl, _, rfl, .inl ⟨a, ty0, rfl, haG.isI, ty, dd, on, tn, sb, a, _, p, rfl, haG, .inr ⟨ty0, ty, kt, false, rfl, push⟩⟩⟩
        · exact ⟨_, rfl, _, rfl, .inr ⟨b, .ref CR, rfl, hb, R.ins.ty haG', nFR, b, _, .ref CR, rfl, R.ins.ty haG', kFR, false, rfl, push⟩⟩
      · rintro G ⟨sg, dg⟩
        refine ⟨D, List.replicate 12 false, rfl, SqL.of dg, ?_⟩
        exact ⟨_, rfl, fin G (Same.trans' (s7b _) sg)⟩
end
end Cm
end

/-! ## In12 -/
section
set_option pp.maxSteps 400
/-! x in a list whose items have an == of their own class. -/
namespace KG
open PySem PySem.Spec PyProof.Rows L2 MeetsSeq
/-- is y the same as x, or equal: wherever it is asked, nothing tracked changes -/
def ItemE (X : Cx) (k : Nat) (pins : List (Addr × Obj)) (σ : L2.St) (H : Hp) (y x : V) (b : Bool) : Prop :=
  ∀ (A : Around) (E : Value → Shared → Prop) (s : Shared) (v u : Value) (Q : Bool → Shared → Prop), At X k A → Inv X pins σ H s → RelV y v → RelV x u → (∀ s', Inv X pins σ H s' → Q b s') → wpAny (model X.prog X.w) A (eqBool v u) Q E s
section
variable {X : Cx} {k j : Nat} {C : Addr} {sp : Sp} {pins : List (Addr × Obj)} {σ : L2.St} {H : Hp} {a : Addr} {xs : List V} {x : V} {A : Around} {R : Result → Shared → Prop} {e : V → Bool}
theorem loopE (ha : H a = some (.lst xs)) (hat : At X k A.in1) (hT : ∀ y, y ∈ xs → ItemE X k pins σ H y x (e y)) {u : Value} (ru : RelV x u) (hR : ∀ s', Inv X pins σ H s' → R (.ok (.ret (.bool (xs.any e)))) s') :
    ∀ (m i : Nat) (s : Shared), xs.length - i = m → i ≤ xs.length → (∀ y, y ∈ xs.take i → e y = false) → Inv X pins σ H s →
    codeAny (model X.prog X.w) A (.builtin "list.__contains__.loop" ⟨[.ref a, u, rawInt i], []⟩) R s := by
  intro m
  induction m with
  | zero =>
    intro i s hk hi hno I
    have hin : i = xs.length := by omega
    obtain ⟨z, its, n, r, hl, e1⟩ := I.lstM (l := a) ha
    apply codeAny_builtin entry_contains_loop
    rw [Around.under_plainId plain_contains_loop]
    show wpAny _ _ (Builtin.«list.__contains__.loop» ⟨[.ref a, u, .int i 0], []⟩) _ _ s
    unfold Builtin.«list.__contains__.loop»
    refine wpAny_bind (wpAny_listItems e1 rfl ?_)
    have hnone : its.toArray[(i : Int).toNat]? = none := by simp [hin, hl]
    simp only [hnone]
    have ea : xs.any e = false := by
      rw [List.any_eq_false]
      intro y hy
      rw [hno y (by rw [hin, List.take_length]; exact hy)]
      simp
    have := hR s I
    rw [ea] at this
    exact wpAny_pure this
  | succ m ih =>
    intro i s hk hi hno I
    have hlt : i < xs.length := by omega
    obtain ⟨z, its, n, r, hl, e1⟩ := I.lstM (l := a) ha
    obtain ⟨v, hv, rv⟩ := r.get (List.getElem?_eq_getElem hlt)
    apply codeAny_builtin entry_contains_loop
    rw [Around.under_plainId plain_contains_loop]
    show wpAny _ _ (Builtin.«list.__contains__.loop» ⟨[.ref a, u, .int i 0], []⟩) _ _ s
    unfold Builtin.«list.__contains__.loop»
    refine wpAny_bind (wpAny_listItems e1 rfl ?_)
    have hsome : its.toArray[(i : Int).toNat]? = some v := by simp [hv]
    simp only [hsome]
    refine wpAny_bind (hT _ (List.getElem_mem hlt) _ _ _ _ _ _ hat I rv ru fun s1 I1 => ?_)
    cases hb : e xs[i] with
    | true =>
      have ea : xs.any e = true := List.any_eq_true.mpr ⟨_, List.getElem_mem hlt, hb⟩
      have := hR s1 I1
      rw [ea] at this
      exact wpAny_pure this
    | false =>
      have hc : ((i : Int) + 1) = ((i + 1 : Nat) : Int) := by push_cast; rfl
      simp only [Bool.false_eq_true, if_false]
      rw [hc]
      refine wpAny_pure ⟨plainId_quiet plain_contains_loop _, ?_⟩
      refine ih (i + 1) _ (by omega) hlt (fun y hy => ?_) I1
      rw [List.take_succ, List.getElem?_eq_getElem hlt] at hy
      rcases List.mem_append.mp hy with q | q
      · exact hno y q
      · rw [List.mem_singleton.mp q]
        exact hb
end
end KG
namespace KG
open PySem PySem.Spec PyProof.Rows L2 MeetsSeq
section
variable {X : Cx} {k j : Nat} {C : Addr} {sp : Sp} {pins : List (Addr × Obj)} {σ : L2.St} {H : Hp}
theorem itemE_own {c : Addr} {ty : Value} {x : V} {b : Bool} (S : Sl X.prog X.w X.K X.mg X.base C "__eq__" k sp) (hi : IsI H C c) (hty : TyX X.K H x ty) (hn : PySem.W.notFirst X.K C ty = true) (hs : x = .ref c → b = true) (q : sp [.ref c, x] H (fun v H2 => v = .bl b ∧ H2 = H) E0) : ItemE X k pins σ H (.ref c) x b := by
  obtain ⟨f, fd, ps, F, hb, hsl, hf⟩ := S.ex
  intro A E s v u Q hat I rv ru z
  cases rv
  obtain ⟨dx, fs, ha⟩ := hi
  obtain ⟨mA, O, _⟩ := ins_get I.hok ha
  obtain ⟨od, J, _⟩ := O.look
  obtain ⟨m, hF⟩ := I.fr
  obtain ⟨P, Z, p, _⟩ := kit_of I ru hty
  have rv : Vals [V.ref c, x] [Value.ref c, u] := .cons rfl (.cons ru .nil)
  unfold eqBool
  refine wpAny_holding ?_
  by_cases e : (Value.ref c == u) = true
  · rw [if_pos e]
    have e1 : u = .ref c := (beq_iff_eq.mp e).symm
    subst e1
    have e2 : x = .ref c := by
      cases x <;> first | (cases ru; rfl) | (obtain ⟨_, h⟩ := ru; cases h) | cases ru
    have := hs e2
    subst this
    exact wpAny_bind (wpAny_rule (wpAny_pure (z _ I)))
  · rw [if_neg e]
    refine wpAny_bind (wpAny_mono (PySem.W.cmp_K (op := .Eq) (Q := fun v s' => v = .bool b ∧ Inv X pins σ H s') (by have := hat.rm.un; omega) hF I.ok.mod.kin J (Z.ty _ _ I.kIn p) hn hsl hf ?_) (fun v s' hv => ?_) fun _ _ e => e)
    · refine wpAny_mono (run_at F hb hat I rv q) (fun v s' hv => ?_) fun _ _ e => e
      obtain ⟨w, H', I', rw', rfl, rfl⟩ := hv
      cases rw'
      exact ⟨rfl, I'⟩
    · obtain ⟨rfl, I'⟩ := hv
      exact wpAny_truthy_bool (z _ I')
/-- x in a list of such -/
def rInE (X : Cx) (k : Nat) : R2 := fun x y H Q => ∃ (a : Addr) (xs : List V) (e : V → Bool), y = .ref a ∧ H a = some (.lst xs) ∧ (∀ (pins : List (Addr × Obj)) (σ : L2.St) (y : V), y ∈ xs → ItemE X k pins σ H y x (e y)) ∧ Q (.bl (xs.any e)) H
theorem op_inE (hr : Room (k + 2) X.A) : OpR X (compareOp .In) (rInE X k) := by
  intro pins s σ H x y v u Q I rx ry h
  obtain ⟨a, xs, e, rfl, ha, hT, q⟩ := h
  cases ry
  obtain ⟨z, its, n, r, hl, e1⟩ := I.lstM (l := a) ha
  have hTy : s.TypeIs (.ref a) "list" := ⟨_, e1, rfl⟩
  show wpAny (model X.prog X.w) X.A (do return Value.bool (← contains (.ref a) v)) (EP X pins σ Q) X.xe s
  refine wpAny_bind (wpAny_contains_slot hTy F.slot_list_contains (wpAny_mono (Q := fun w s' => ∃ b, w = .bool b ∧ EP X pins σ Q (.bool b) s') ?_ (fun w s' hw => ?_) fun _ _ e => e))
  · refine wpAny_call (codeAny_call_builtin F.slot_list_contains.plain F.entry_list_contains (F.slot_list_contains.check _ _ _ _ _ _ _ _ hTy (F.args_list_contains_2 _ _) ?_))
    unfold Builtin.«list.__contains__»
    refine wpAny_bind (m := slotArgs "__contains__" 1 _) (wpAny_pure ?_)
    refine wpAny_pure ⟨plainId_quiet plain_contains_loop _, ?_⟩
    refine loopE (X := X) (k := k) (pins := pins) (σ := σ) ha (A := X.A) ⟨rfl, hr.in1.mono (by omega)⟩ (hT pins σ) rx (fun s' I' => ?_) _ 0 _ rfl (Nat.zero_le _) (fun y hy => by cases hy) I
    exact ⟨_, rfl, .bl _, H, I', rfl, q⟩
  · obtain ⟨b, rfl, hq⟩ := hw
    exact wpAny_truthy_bool (wpAny_pure hq)
end
end KG
end

/-! ## Al12 -/
section
set_option pp.maxSteps 400
namespace Cm
open PySem PySem.Spec PyProof.Rows L2 KG
structure ClG (P : Program) (w : World) (K : PySem.W.Frag) (mg : Str → Option Value) (base : Heap) (k : Nat) (x : Str) (sp : Sp) : Prop where
  ex : ∃ f : Addr, FnG P w K mg base k f sp ∧ mg x = some (.ref f) ∧ PySem.W.keepIn K (.ref f) = true
section
variable {X : Cx} {k j : Nat} {x : Str} {sp : Sp} {p pos : Pos} {e : Expr} {es : List Expr} {t : TA}
theorem pe_g (c : ClG X.prog X.w X.K X.mg X.base k x sp) (hr : Room j X.A) (hj : k ≤ j) (hg : X.A.guards = some []) (gl : Gl X x) (ha : PA X (e :: es) t)
    (hdb : (x == ("__debug__" : Str)) = false := by decide)
    (he : starEach (e :: es) X.env = (false, eval e X.env) :: starEach es X.env := by rfl)
    (hpl : (backTo pos (starEach es X.env)).any (·.1) = false := by rfl) : PE X (.Call (.Name x p) (e :: es) [] pos) (tK sp t) := by
  obtain ⟨f, F, hm, hk⟩ := c.ex
  exact pe_callG F (hr.mono hj) hg gl hm hk ha hdb he hpl
end
def spRight : Sp := fun vs H Q _ => ∃ p : Addr, vs = [.ref p] ∧ JarAt H p ∧ ∀ H' : Hp, Kp p H H' → Q (.bl true) H'
/-- all but lists stand as before -/
def SmL (H H' : Hp) : Prop := ∀ b o, H b = some o → (∀ xs, o ≠ .lst xs) → H' b = some o
theorem SmL.of {H H' : Hp} (e : Same H H') : SmL H H' := fun b o h _ => e b o h
theorem SmL.kp {H H' : Hp} {p : Addr} (J : JarAt H p) (k : Kp p H H') : SmL H H' := fun b o e n => by
  by_cases h : b = p
  · subst h
    obtain ⟨c, s, e2, _⟩ := J
    rw [e2] at e
    cases e
    exact absurd rfl (n _)
  · exact k b o e h
theorem SmL.upd {H : Hp} {l : Addr} {xs ys : List V} (h : H l = some (.lst xs)) : SmL H (L2.upd H l (.lst ys)) := fun b o e n => by
  have : b ≠ l := fun z => by
    rw [z, h] at e
    cases e
    exact n _ rfl
  rw [upd_ne this]
  exact e
theorem RA.keepL {CR : Addr} {H H' : Hp} {a : Addr} {p : Int × Int} (h : RA CR H a p) (e : SmL H H') : RA CR H' a p := by
  obtain ⟨dx, h⟩ := h
  exact ⟨dx, e _ _ h (fun _ z => by cases z)⟩
theorem SqT.keepL {K : PySem.W.Frag} {H H' : Hp} {t : Addr} {xs : List V} (h : SqT K H t xs) (e : SmL H H') : SqT K H' t xs :=
  h.elim (fun h => .inl (h.elim (fun h => .inl (e _ _ h (fun _ z => by cases z))) fun ⟨o, h⟩ => .inr ⟨o, e _ _ h (fun _ z => by cases z)⟩)) fun h => .inr h
theorem PA2.keepL {K : PySem.W.Frag} {H H' : Hp} {t : Addr} {p : Int × Int} (h : PA2 K H t p) (e : SmL H H') : PA2 K H' t p := SqT.keepL h e
abbrev RP := V → Hp → Prop
def MonR (R : RP) : Prop := ∀ v H H', SmL H H' → R v H → R v H'
def isR (CR : Addr) (q : Int × Int) : RP := fun v H => ∃ a, v = .ref a ∧ RA CR H a q
def isP (K : PySem.W.Frag) (q : Int × Int) : RP := fun v H => ∃ t, v = .ref t ∧ PA2 K H t q
theorem mon_isR (CR : Addr) (q : Int × Int) : MonR (isR CR q) := fun v H H' e h => by
  obtain ⟨a, h1, h2⟩ := h
  exact ⟨a, h1, h2.keepL e⟩
theorem mon_isP (K : PySem.W.Frag) (q : Int × Int) : MonR (isP K q) := fun v H H' e h => by
  obtain ⟨a, h1, h2⟩ := h
  exact ⟨a, h1, h2.keepL e⟩
/-- values that are as R says of things, one by one -/
def AllQ {α : Type} (R : α → RP) : List α → List V → Hp → Prop
  | [], [], _ => True
  | q :: qs, v :: vs, H => R q v H ∧ AllQ R qs vs H
  | _, _, _ => False
section
variable {α : Type} {R : α → RP}
theorem AllQ.keep : ∀ {qs : List α} {vs : List V} {H H' : Hp}, (∀ q, MonR (R q)) → SmL H H' → AllQ R qs vs H → AllQ R qs vs H'
  | [], [], _, _, _, _, _ => trivial
  | q :: qs, v :: vs, H, H', m, e, h => ⟨m q v H H' e h.1, AllQ.keep m e h.2⟩
  | [], _ :: _, _, _, _, _, h => h.elim
  | _ :: _, [], _, _, _, _, h => h.elim
theorem AllQ.len : ∀ {qs : List α} {vs : List V} {H : Hp}, AllQ R qs vs H → vs.length = qs.length
  | [], [], _, _ => rfl
  | q :: qs, v :: vs, H, h => by rw [List.length_cons, List.length_cons, AllQ.len h.2]
  | [], _ :: _, _, h => h.elim
  | _ :: _, [], _, h => h.elim
theorem AllQ.append : ∀ {qs rs : List α} {vs ws : List V} {H : Hp}, AllQ R qs vs H → AllQ R rs ws H → AllQ R (qs ++ rs) (vs ++ ws) H
  | [], _, [], _, _, _, g => g
  | q :: qs, _, v :: vs, _, H, h, g => ⟨h.1, AllQ.append h.2 g⟩
  | [], _, _ :: _, _, _, h, _ => h.elim
  | _ :: _, _, [], _, _, h, _ => h.elim
theorem AllQ.get : ∀ {qs : List α} {vs : List V} {H : Hp} {i : Nat} {v : V}, AllQ R qs vs H → vs[i]? = some v → ∃ q, qs[i]? = some q ∧ R q v H
  | [], [], _, _, _, _, h => by cases h
  | q :: qs, v :: vs, H, 0, _, h, e => ⟨q, rfl, by cases e; exact h.1⟩
  | q :: qs, v :: vs, H, i + 1, w, h, e => AllQ.get (i := i) h.2 e
  | [], _ :: _, _, _, _, h, _ => h.elim
  | _ :: _, [], _, _, _, h, _ => h.elim
theorem AllQ.at : ∀ {qs : List α} {vs : List V} {H : Hp} {i : Nat} {q : α}, AllQ R qs vs H → qs[i]? = some q → ∃ v, vs[i]? = some v ∧ R q v H
  | [], [], _, _, _, _, h => by cases h
  | q :: qs, v :: vs, H, 0, _, h, e => ⟨v, rfl, by cases e; exact h.1⟩
  | q :: qs, v :: vs, H, i + 1, w, h, e => AllQ.at (i := i) h.2 e
  | [], _ :: _, _, _, _, h, _ => h.elim
  | _ :: _, [], _, _, _, h, _ => h.elim
theorem AllQ.take : ∀ {qs : List α} {vs : List V} {H : Hp} (i : Nat), AllQ R qs vs H → AllQ R (qs.take i) (vs.take i) H
  | _, _, _, 0, _ => by rw [List.take_zero, List.take_zero]; trivial
  | [], [], _, _ + 1, _ => trivial
  | q :: qs, v :: vs, H, i + 1, h => ⟨h.1, AllQ.take i h.2⟩
  | [], _ :: _, _, _ + 1, h => h.elim
  | _ :: _, [], _, _ + 1, h => h.elim
theorem AllQ.any {g : α → Bool} {e : V → Bool} : ∀ {qs : List α} {vs : List V} {H : Hp}, AllQ R qs vs H → (∀ q v, R q v H → e v = g q) → vs.any e = qs.any g
  | [], [], _, _, _ => rfl
  | q :: qs, v :: vs, H, h, z => by rw [List.any_cons, List.any_cons, z q v h.1, AllQ.any h.2 z]
  | [], _ :: _, _, h, _ => h.elim
  | _ :: _, [], _, h, _ => h.elim
end
def pd (p : Int × Int) : PyData := .tuple [.int p.1, .int p.2]
theorem dp_pair {K : PySem.W.Frag} {H : Hp} {t : Addr} {p : Int × Int} (h : PA2 K H t p) : Dp K H (.ref t) (pd p) := .tup h (.cons (.int _) (.cons (.int _) .nil))
theorem AllQ.dp {K : PySem.W.Frag} {H : Hp} : ∀ {qs : List (Int × Int)} {vs : List V}, AllQ (isP K) qs vs H → DpAll K H vs (qs.map pd)
  | [], [], _ => .nil
  | q :: qs, v :: vs, h => by
    obtain ⟨t, rfl, ht⟩ := h.1
    exact .cons (dp_pair ht) (AllQ.dp h.2)
  | [], _ :: _, h => h.elim
  | _ :: _, [], h => h.elim
theorem cut_take (xs : List V) (k : Nat) (hk : k ≤ xs.length) : cutV xs none (some (k : Int)) = xs.take k := by
  unfold cutV
  rw [HT.sIx_none, HT.sIx_nat, List.drop_zero, Nat.min_eq_left hk, Nat.sub_zero]
theorem lay_pairs : ∀ qs : List (Int × Int), PyData.canLayAll0 (qs.map pd) = true
  | [] => by rfl
  | q :: qs => by
    rw [List.map_cons, PyData.canLayAll0, lay_pairs qs]
    rfl
theorem depth_pairs : ∀ qs : List (Int × Int), PyData.depthAll (qs.map pd) ≤ 2
  | [] => by decide
  | q :: qs => by
    rw [List.map_cons, PyData.depthAll]
    have := depth_pairs qs
    have e : (pd q).depth = 1 := rfl
    omega
end Cm
end

/-! ## Y12 -/
section
set_option pp.maxSteps 400
namespace Cm
open PySem PySem.Spec PyProof.Rows L2 KG
abbrev sRight : Stmt := top 34
/-- len of a list -/
abbrev rLen (K : PySem.W.Frag) : List V → Hp → VK → Prop := fun xs H Q => ∃ x n, xs = [x] ∧ LenV K x H n ∧ Q (.int (n : Nat)) H
structure TxtG (mg : Str → Option Value) : Prop where
  all : mg "all" = none
  range : mg "range" = none
  repr : mg "repr" = none
  max : mg "max" = none
  abs : mg "abs" = none
  len : mg "len" = none
  enumerate : mg "enumerate" = none
abbrev nmsRight : List Str := ["_law_jar_here", "_law_pairs", "_law_turn", "_law_near_here", "_law_made_here", "_law_k", "_law_one", "_law_below", "_law_due", "_law_pair", "_law_j"]
theorem scRight : FnScope nmsRight ["_law_jar_here"] (defScope sRight) := ⟨rfl, rfl, rfl, by decide +kernel, rfl, by decide +kernel, by decide +kernel⟩
def valOf : Stmt → Expr
  | .Assign _ e _ => e
  | _ => .Constant .none 0 ⟨0, 0, 0, 0⟩
def lcScope : Expr → Scope
  | .ListComp _ _ s _ => s
  | _ => defScope sRight
def relS (sc scope : Scope) : Scope := { scope with names := scope.names.map fun (n, k) => if (k == NameKind.free && sc.kind == .function && sc.names.lookup n == some .cell) then (n, NameKind.cell) else (n, k) }
abbrev scBelow : Scope := relS (defScope sRight) (lcScope (valOf ((defBody sRight).getD 4 (.Pass ⟨0, 0, 0, 0⟩))))
abbrev scDue : Scope := relS (defScope sRight) (lcScope (valOf ((defBody sRight).getD 5 (.Pass ⟨0, 0, 0, 0⟩))))
theorem Room.units65 {k : Nat} {A : Around} (h : Room (k + 1) A) : A.units + 65 < cLine := by have := h.un; omega

theorem all_true (n : Nat) : (List.replicate n true).all id = true := by
  rw [List.all_eq_true]
  intro b hb
  exact (List.mem_replicate.mp hb).2
theorem RA.inj {CR : Addr} {H : Hp} {a : Addr} {p q : Int × Int} (h : RA CR H a p) (g : RA CR H a q) : p = q := by
  obtain ⟨d1, h⟩ := h
  obtain ⟨d2, g⟩ := g
  rw [h] at g
  injection g with g
  injection g with _ _ g
  have e1 := rf_top p.1 p.2
  have e2 := rf_bot p.1 p.2
  rw [g, rf_top] at e1
  rw [g, rf_bot] at e2
  injection e1 with e1
  injection e2 with e2
  injection e1 with e1
  injection e2 with e2
  exact Prod.ext e1.symm e2.symm
theorem atI0 {α : Type} {xs : List α} {k : Nat} {v : α} (h : xs[k]? = some v) : atI xs (0 + (k : Int)) = some v := by
  rw [Int.zero_add]
  exact atI_nat h
/-- is y the ratio q -/
noncomputable def sameR (CR : Addr) (q : Int × Int) (G : Hp) (y : V) : Bool := @decide (isR CR q y G) (Classical.propDecidable _)
theorem sameR_eq {CR : Addr} {q r : Int × Int} {G : Hp} {y : V} (h : isR CR r y G) : sameR CR q G y = (decide (r.1 = q.1) && decide (r.2 = q.2)) := by
  obtain ⟨a, rfl, ha⟩ := h
  unfold sameR
  by_cases e : r = q
  · subst e
    rw [@decide_eq_true _ (Classical.propDecidable _) ⟨a, rfl, ha⟩]
    simp
  · rw [@decide_eq_false _ (Classical.propDecidable _) (fun z => e (by
      obtain ⟨b, eb, hb⟩ := z
      cases eb
      exact RA.inj ha hb))]
    by_cases e1 : r.1 = q.1
    · have e2 : ¬ r.2 = q.2 := fun e2 => e (Prod.ext e1 e2)
      rw [decide_eq_false e2, Bool.and_false]
    · rw [decide_eq_false e1, Bool.false_and]
/-- how many of the first k are less -/
def cntL (qs : List (Int × Int)) (q : Int × Int) (k : Nat) : Nat := ((qs.take k).filter fun r => decide (r.1 * q.2 < q.1 * r.2)).length
theorem cntL_succ {qs : List (Int × Int)} {q r : Int × Int} {k : Nat} (h : qs[k]? = some r) : cntL qs q (k + 1) = cntL qs q k + (if decide (r.1 * q.2 < q.1 * r.2) = true then 1 else 0) := by
  unfold cntL
  rw [List.take_add_one, h, List.filter_append, List.length_append]
  show _ + (List.filter _ [r]).length = _
  rw [List.filter_cons]
  split <;> rfl
theorem take_map_succ {α : Type} {qs : List α} {g : α → V} {k : Nat} {r : α} (h : qs[k]? = some r) : (qs.take (k + 1)).map g = (qs.take k).map g ++ [g r] := by
  rw [List.take_add_one, h, List.map_append]
  rfl
theorem dp_ints {K : PySem.W.Frag} {H : Hp} : ∀ ns : List Int, DpAll K H (ns.map V.int) (ns.map PyData.int)
  | [] => .nil
  | n :: ns => .cons (.int n) (dp_ints ns)
theorem lay_ints : ∀ ns : List Int, PyData.canLayAll0 (ns.map PyData.int) = true
  | [] => by rfl
  | n :: ns => by
    rw [List.map_cons, PyData.canLayAll0, lay_ints ns]
    rfl
theorem depth_ints : ∀ ns : List Int, PyData.depthAll (ns.map PyData.int) ≤ 2
  | [] => by decide
  | n :: ns => by
    rw [List.map_cons, PyData.depthAll]
    have := depth_ints ns
    have e : (PyData.int n).depth = 0 := rfl
    omega
theorem shaped_pairs (qs : List (Int × Int)) : SeqAt.shaped (.list (qs.map pd)) = true := by
  unfold SeqAt.shaped
  rw [Bool.and_eq_true]
  refine ⟨?_, decide_eq_true ?_⟩
  · rw [PyData.canLay0]
    exact lay_pairs qs
  · rw [PyData.depth]
    have := depth_pairs qs
    omega
theorem shaped_ints (ns : List Int) : SeqAt.shaped (.list (ns.map PyData.int)) = true := by
  unfold SeqAt.shaped
  rw [Bool.and_eq_true]
  refine ⟨?_, decide_eq_true ?_⟩
  · rw [PyData.canLay0]
    exact lay_ints ns
  · rw [PyData.depth]
    have := depth_ints ns
    omega
theorem any_pairs (qs : List (Int × Int)) (q : Int × Int) : (qs.map pd).any (fun z => PyData.eqv z (pd q)) = qs.any fun r => decide (r.1 = q.1) && decide (r.2 = q.2) := by
  rw [List.any_map]
  congr 1
  funext r
  exact eqv_pair _ _ _ _
/-- the pairs at l, the ratios made of the first of them at m -/
def St2 (K : PySem.W.Frag) (CR : Addr) (H0 : Hp) (j l m : Addr) (qs : List (Int × Int)) (vs : List V) (rs : List (Int × Int)) (ws : List V) (H : Hp) : Prop := JarAt H j ∧ Kp j H0 H ∧ H l = some (.lst vs) ∧ AllQ (isP K) qs vs H ∧ H m = some (.lst ws) ∧ AllQ (isR CR) rs ws H
theorem St2.kp {K : PySem.W.Frag} {CR : Addr} {H0 H H' : Hp} {j l m : Addr} {qs rs : List (Int × Int)} {vs ws : List V} (h : St2 K CR H0 j l m qs vs rs ws H) (jl : j ≠ l) (jm : j ≠ m) (J : JarAt H' j) (k : Kp j H H') : St2 K CR H0 j l m qs vs rs ws H' := by
  obtain ⟨h1, h2, h3, h4, h5, h6⟩ := h
  have sm := SmL.kp h1 k
  exact ⟨J, h2.trans k, k _ _ h3 jl.symm, h4.keep (mon_isP K) sm, k _ _ h5 jm.symm, h6.keep (mon_isR CR) sm⟩
theorem St2.same {K : PySem.W.Frag} {CR : Addr} {H0 H H' : Hp} {j l m : Addr} {qs rs : List (Int × Int)} {vs ws : List V} (h : St2 K CR H0 j l m qs vs rs ws H) (s : Same H H') : St2 K CR H0 j l m qs vs rs ws H' := by
  obtain ⟨h1, h2, h3, h4, h5, h6⟩ := h
  exact ⟨h1.keep s, h2.trans (Kp.same s), s _ _ h3, h4.keep (mon_isP K) (.of s), s _ _ h5, h6.keep (mon_isR CR) (.of s)⟩
theorem St2.new {K : PySem.W.Frag} {CR : Addr} {H0 G : Hp} {j l m x : Addr} {qs rs : List (Int × Int)} {vs ws : List V} (h : St2 K CR H0 j l m qs vs rs ws G) (n : G x = none) : j ≠ x ∧ l ≠ x ∧ m ≠ x ∧ H0 x = none := by
  obtain ⟨⟨c, y, ej, _⟩, h2, h3, h4, h5, h6⟩ := h
  refine ⟨ne_of_none ej n, ne_of_none h3 n, ne_of_none h5 n, ?_⟩
  cases e : H0 x with
  | none => rfl
  | some o =>
    have := h2 _ _ e (ne_of_none ej n).symm
    rw [n] at this
    cases this
theorem St2.upd {K : PySem.W.Frag} {CR : Addr} {H0 G : Hp} {j l m x : Addr} {qs rs : List (Int × Int)} {vs ws xs ys : List V} (h : St2 K CR H0 j l m qs vs rs ws G) (f : j ≠ x ∧ l ≠ x ∧ m ≠ x ∧ H0 x = none) (e : G x = some (.lst xs)) : St2 K CR H0 j l m qs vs rs ws (L2.upd G x (.lst ys)) := by
  obtain ⟨h1, h2, h3, h4, h5, h6⟩ := h
  obtain ⟨f1, f2, f3, f4⟩ := f
  have sm := SmL.upd (ys := ys) e
  refine ⟨?_, fun b o eb n => ?_, by rw [upd_ne f2]; exact h3, h4.keep (mon_isP K) sm, by rw [upd_ne f3]; exact h5, h6.keep (mon_isR CR) sm⟩
  · obtain ⟨c, y, ej, r⟩ := h1
    exact ⟨c, y, by rw [upd_ne f1]; exact ej, r⟩
  · rw [upd_ne (ne_of_none eb f4)]
    exact h2 b o eb n
section
variable {P : Program} {w : World} {K : PySem.W.Frag} {mg : Str → Option Value} {base : Heap} {CR : Addr}
theorem ok_right {f : Addr} {fd : FuncData} (F : Fun K "_law_right" "_law_right" sRight f fd) (B : Binds K fd ["_law_jar_here"] []) (T : TxtG mg) (R : RC P w K mg base CR)
    (cL : Cl P w K mg base 2 "_law_lowest" ["_law_up", "_law_low"] (spLowest K)) (cN : Cl P w K mg base 5 "_law_near" ["_law_jar_here", "_law_pair"] (spNear K))
    (cM : Cl P w K mg base 4 "_law_made" ["_law_jar_here", "_law_pair"] (spMade K CR)) (cT : ClG P w K mg base 7 "_law_two_right" (spTwo K CR)) (cW : ClG P w K mg base 9 "_law_whole_right" (spWhole K CR)) : FnG P w K mg base 10 f spRight := by
  refine fnG_of F scRight B (fun vs H Q E h => ?_) (fun cdv A outer s H vs Q E hr hg h => ?_)
  · obtain ⟨p, rfl, _⟩ := h
    rfl
  · obtain ⟨j, rfl, J, z⟩ := h
    refine ⟨_, pss_cons (ps_set (i := 1) scRight.nd rfl (Or.inr rfl) (pe_lst (pa_cons (pe_k cL hr (by decide) (by rfl) (pa_cons pe_int (pa_cons pe_int pa_nil))) pa_nil)))
      (pss_cons (ps_for PassesOwn.never rfl (pi_range1 (by rfl) T.range (pa_cons pe_int pa_nil)) (pg_name (i := 2) scRight.nd rfl (Or.inl rfl))
        (pss_cons (ps_set (i := 3) scRight.nd rfl (Or.inl rfl) (pe_k cN hr (by decide) (by rfl) (pa_cons (pv 0) (pa_cons (pe_ix (show IxR _ (rIxL K) from ix_list) (pv 1) (pe_un un_neg pe_int) (fun _ _ => rfl)) pa_nil))))
        (pss_one (ps_expr (pe_bm PySem.F.plainAttrs_list PySem.F.slot_list_append PySem.F.type_list_append mt_append (pv 1) (pa_cons (pe_ifExp (pt_cmpR op_lt (pe_callB (call_max2 (by rfl)) (by rfl) T.max (by decide +kernel) (pa_cons (pe_callB call_abs (by rfl) T.abs (by decide +kernel) (pa_cons (pe_ix (show IxR _ (rIxT K) from ix_tup) (pv 3) pe_int (fun _ _ => rfl)) pa_nil)) (pa_cons (pe_ix (show IxR _ (rIxT K) from ix_tup) (pv 3) pe_int (fun _ _ => rfl)) pa_nil))) (pe_op op_pow pe_int pe_int) (nomark _)) (pv 3) (pe_tup (pa_cons (pv 2) (pa_cons pe_int pa_nil)))) pa_nil))))))
      (pss_cons (ps_set (i := 4) scRight.nd rfl (Or.inr rfl) (pe_lc (own := [("_law_pair", 9)]) (g := gName 9) (by rfl) scRight.nd (pi_list (pv 1)) (blkOk_by (own := [("_law_pair", 9)]) (N := nmsRight) (sc := defScope sRight) (by decide +kernel))
          (fun _ _ _ _ _ => pg_name (i := 9) scRight.nd rfl (Or.inl rfl)) (fun _ _ _ _ _ => pts_nil) (fun _ _ _ _ _ => pe_k cM hr (by decide) (by rfl) (pa_cons (pv 0) (pa_cons (pv 9) pa_nil)))))
      (pss_cons (ps_for PassesOwn.never rfl (pi_enum (by rfl) T.enumerate (pa_cons (pv 4) pa_nil)) (pg_tup (by rfl) (pgs_cons (pg_name (i := 5) scRight.nd rfl (Or.inr rfl)) (pgs_cons (pg_name (i := 6) scRight.nd rfl (Or.inr rfl)) pgs_nil)))
        (pss_cons (ps_if (PW.pt (pw_or (pt_not (pt_val (pe_g cW hr (by decide) hg (by rfl) (pa_cons (pv 0) (pa_cons (pv 6) (pa_cons (pe_ix (show IxR _ (rIxL K) from ix_list) (pv 1) (pv 5) (fun _ _ => rfl)) pa_nil))))))
          (pw_or1 (pt_cmpR op_ne (pe_callB call_repr_bl (by rfl) T.repr (by decide +kernel) (pa_cons (pe_cmpR (op_inE (k := 1) (hr.mono (by decide))) (pv 6) (pe_slice sl_list (pv 4) po_none (po_some (pv 5))) (by rfl)) pa_nil))
            (pe_callB call_repr_bl (by rfl) T.repr (by decide +kernel) (pa_cons (pe_cmpR (op_inD (Room.units65 hr)) (pe_ix (show IxR _ (rIxL K) from ix_list) (pv 1) (pv 5) (fun _ _ => rfl)) (pe_slice sl_list (pv 1) po_none (po_some (pv 5))) (by rfl)) pa_nil)) (nomark _))))) (pss_one (ps_ret pe_bl)) pss_nil)
        (pss_one (ps_if (pt_not (pt_val (pe_callB (cr_all (by rfl)) (by rfl) T.all (by decide +kernel) (pa_cons (pe_lc (own := [("_law_j", 10)]) (g := gName 10) (by rfl) scRight.nd (pi_range1 (by rfl) T.range (pa_cons (pe_callB (show CallR _ (.builtin "len") (rLen K) from call_len) (by rfl) T.len PySem.boot_len (pa_cons (pv 4) pa_nil)) pa_nil))
          (blkOk_by (own := [("_law_j", 10)]) (N := nmsRight) (sc := defScope sRight) (by decide +kernel)) (fun _ _ _ _ _ => pg_name (i := 10) scRight.nd rfl (Or.inl rfl)) (fun _ _ _ _ _ => pts_nil)
          (fun _ _ _ _ _ => pe_g cT hr (by decide) hg (by rfl) (pa_cons (pv 6) (pa_cons (pe_ix (show IxR _ (rIxL K) from ix_list) (pv 1) (pv 5) (fun _ _ => rfl)) (pa_cons (pe_ix (show IxR _ (rIxL K) from ix_list) (pv 4) (pv 10) (fun _ _ => rfl)) (pa_cons (pe_ix (show IxR _ (rIxL K) from ix_list) (pv 1) (pv 10) (fun _ _ => rfl)) pa_nil)))))) pa_nil)))) (pss_one (ps_ret pe_bl)) pss_nil))))
      (pss_cons (ps_setLc (i := 7) (own := [("_law_one", 6)]) (g := gName 6) (by rfl) scRight.nd rfl rfl (sw_true rfl rfl rfl (by decide +kernel)) (pi_list (pv 4)) (blkOk_by (own := [("_law_one", 6)]) (N := nmsRight) (sc := defScope sRight) (by decide +kernel))
          (fun _ _ _ _ _ => pg_name (i := 6) scRight.nd rfl (Or.inr rfl)) (fun _ _ _ _ _ => pts_nil)
          (fun _ _ _ _ _ => pe_callB (show CallR _ (.builtin "len") (rLen K) from call_len) (by rfl) T.len PySem.boot_len (pa_cons (pe_lc (own := [("_law_j", 10)]) (g := gName 10) (by rfl) scRight.nd (pi_range1 (by rfl) T.range (pa_cons (pe_callB (show CallR _ (.builtin "len") (rLen K) from call_len) (by rfl) T.len PySem.boot_len (pa_cons (pv 4) pa_nil)) pa_nil))
            (blkOk_by (own := [("_law_j", 10)]) (N := nmsRight) (sc := scBelow) (by decide +kernel)) (fun _ _ _ _ _ => pg_name (i := 10) scRight.nd rfl (Or.inl rfl))
            (fun _ _ _ _ _ => pts_one (pt_val (pe_me R.be R.cl hr (by decide) (pe_ix (show IxR _ (rIxL K) from ix_list) (pv 4) (pv 10) (fun _ _ => rfl)) (pa_cons (pv 6) pa_nil)))) (fun _ _ _ _ _ => pv 10)) pa_nil)))
      (pss_cons (ps_setLc (i := 8) (own := [("_law_pair", 9)]) (g := gName 9) (by rfl) scRight.nd rfl rfl (sw_true rfl rfl rfl (by decide +kernel)) (pi_list (pv 1)) (blkOk_by (own := [("_law_pair", 9)]) (N := nmsRight) (sc := defScope sRight) (by decide +kernel))
          (fun _ _ _ _ _ => pg_name (i := 9) scRight.nd rfl (Or.inr rfl)) (fun _ _ _ _ _ => pts_nil)
          (fun _ _ _ _ _ => pe_callB (show CallR _ (.builtin "len") (rLen K) from call_len) (by rfl) T.len PySem.boot_len (pa_cons (pe_lc (own := [("_law_j", 10)]) (g := gName 10) (by rfl) scRight.nd (pi_range1 (by rfl) T.range (pa_cons (pe_callB (show CallR _ (.builtin "len") (rLen K) from call_len) (by rfl) T.len PySem.boot_len (pa_cons (pv 1) pa_nil)) pa_nil))
            (blkOk_by (own := [("_law_j", 10)]) (N := nmsRight) (sc := scDue) (by decide +kernel)) (fun _ _ _ _ _ => pg_name (i := 10) scRight.nd rfl (Or.inl rfl))
            (fun _ _ _ _ _ => pts_one (pt_cmpR op_lt (pe_op op_mulW (pe_ix (show IxR _ (rIxT K) from ix_tup) (pe_ix (show IxR _ (rIxL K) from ix_list) (pv 1) (pv 10) (fun _ _ => rfl)) pe_int (fun _ _ => rfl)) (pe_ix (show IxR _ (rIxT K) from ix_tup) (pv 9) pe_int (fun _ _ => rfl))) (pe_op op_mulW (pe_ix (show IxR _ (rIxT K) from ix_tup) (pv 9) pe_int (fun _ _ => rfl)) (pe_ix (show IxR _ (rIxT K) from ix_tup) (pe_ix (show IxR _ (rIxL K) from ix_list) (pv 1) (pv 10) (fun _ _ => rfl)) pe_int (fun _ _ => rfl))) (nomark _)))
            (fun _ _ _ _ _ => pv 10)) pa_nil)))
      (pss_one (ps_ret (pe_cmpR (op_eqD hr.units) (pv 7) (pv 8) (nomark _))))))))), ?_⟩
    refine ⟨7, 3, 3, 2, rfl, by decide, by decide, by decide, by decide, by decide, fun H1 t0 s1 ht0 => ⟨(by show 1 ≤ sizeLine; decide), fun l nl => ?_⟩⟩
    have jl : j ≠ l := fun e => by
      obtain ⟨c, y, ej, _⟩ := J.keep s1
      rw [e, nl] at ej
      cases ej
    have s01 : Same H (upd H1 l (.lst [.ref t0])) := Same.trans' s1 (Same.upd_new nl)
    have nlH : H l = none := by
      cases e : H l with
      | none => rfl
      | some o =>
        rw [s1 _ _ e] at nl
        cases nl
    refine ⟨5, rfl, by decide, by decide, for_range (n := 5) (fun i σ H' => ∃ (x2 x3 : Option V) (ws : List V) (t : Addr) (ps : List (Int × Int)) (p : Int × Int), σ = [some (.ref j), some (.ref l), x2, x3, none, none, none, none, none, none, none] ∧ ps.length = i ∧ JarAt H' j ∧ Kp j H H' ∧ H' l = some (.lst (ws ++ [.ref t])) ∧ AllQ (isP K) ps ws H' ∧ PA2 K H' t p ∧ (Lw p ∧ Bd 100 100 p) ∧ ∀ q ∈ ps, Lw q ∧ Bd 100 100 q) ?_ ?_ ?_⟩
    · exact ⟨none, none, [], t0, [], low 7 3, rfl, rfl, J.keep s01, Kp.same s01, upd_same, trivial, ht0.keep (Same.upd_new nl), ⟨low_lw (by decide), bd_low (by decide) (by decide) (by decide)⟩, fun q hq => by cases hq⟩
    · rintro i σ H2 hi ⟨x2, x3, ws, t, ps, p, rfl, hps, J2, k2, hl2, al2, ht2, gp, gps⟩
      refine ⟨_, rfl, _, rfl, _, rfl, l, _, _, .ref t, rfl, rfl, SqL.of hl2, atI_last _ _, j, t, p, 100, 100, rfl, J2, ht2, gp.1, gp.2, by decide, by decide, fun H3 u q J3 k3 hu lq => ?_⟩
      have sm3 := SmL.kp J2 k3
      have hl3 : H3 l = some (.lst (ws ++ [.ref t])) := k3 _ _ hl2 (Ne.symm jl)
      have al3 := al2.keep (mon_isP K) sm3
      have ht3 := ht2.keepL sm3
      have k23 := k2.trans k3
      have e30 : (10 : Int) ^ (30 : Int).toNat = 1000000000000000000000000000000 := by decide
      have e100 : (2 : Nat) ^ 100 = 1267650600228229401496703205376 := by decide
      have sz : (ws ++ [V.ref t]).length < sizeLine := by
        have := al3.len
        rw [List.length_append, this, hps]
        have h5 : (10 : Nat) < sizeLine := by decide
        show i + 1 < sizeLine
        omega
      have fin : ∀ (G : Hp) (v : Addr) (r : Int × Int) (x2 x3 : Option V), JarAt G j → Kp j H G → G l = some (.lst (ws ++ [.ref t])) → AllQ (isP K) ps ws G → PA2 K G t p → PA2 K G v r → Lw r ∧ Bd 100 100 r →
          ∃ (x2' x3' : Option V) (ws' : List V) (t' : Addr) (ps' : List (Int × Int)) (p' : Int × Int), [some (V.ref j), some (V.ref l), x2, x3, none, none, none, none, none, none, none] = [some (V.ref j), some (V.ref l), x2', x3', none, none, none, none, none, none, none] ∧ ps'.length = i + 1 ∧ JarAt (upd G l (.lst ((ws ++ [.ref t]) ++ [.ref v]))) j ∧ Kp j H (upd G l (.lst ((ws ++ [.ref t]) ++ [.ref v]))) ∧ (upd G l (.lst ((ws ++ [.ref t]) ++ [.ref v]))) l = some (.lst (ws' ++ [.ref t'])) ∧ AllQ (isP K) ps' ws' (upd G l (.lst ((ws ++ [.ref t]) ++ [.ref v]))) ∧ PA2 K (upd G l (.lst ((ws ++ [.ref t]) ++ [.ref v]))) t' p' ∧ (Lw p' ∧ Bd 100 100 p') ∧ ∀ q ∈ ps', Lw q ∧ Bd 100 100 q := fun G v r x2 x3 JG kG hlG alG htG hvG gr => by
        have sm := SmL.upd (ys := (ws ++ [.ref t]) ++ [.ref v]) hlG
        refine ⟨x2, x3, ws ++ [.ref t], v, ps ++ [p], r, rfl, by rw [List.length_append, hps]; rfl, ?_, fun b o e n => ?_, upd_same, AllQ.append (alG.keep (mon_isP K) sm) ⟨⟨t, rfl, htG.keepL sm⟩, trivial⟩, hvG.keepL sm, gr, fun q hq => ?_⟩
        · obtain ⟨c, y, ej, r⟩ := JG
          exact ⟨c, y, by rw [upd_ne jl]; exact ej, r⟩
        · rw [upd_ne (ne_of_none e nlH)]
          exact kG b o e n
        · rcases List.mem_append.mp hq with h | h
          · exact gps q h
          · rw [List.mem_singleton.mp h]
            exact gp
      refine ⟨_, rfl, .inl ⟨rfl, _, SqL.of hl3⟩, _, rfl, u, _, _, _, rfl, rfl, hu, rfl, _, rfl, _, rfl, u, _, _, _, rfl, rfl, hu, rfl, _, _, rfl, _, _, rfl, rfl, ⟨by decide, by decide, by decide⟩, _, _, rfl, rfl, _, rfl, ?_⟩
      refine ite2 (fun h => ?_) (fun _ => ?_)
      · have h := of_decide_eq_true h
        rw [e30] at h
        have gq : Lw q ∧ Bd 100 100 q := by
          refine ⟨lq, ?_, ?_, lq.ne⟩
          · rw [e100]
            have := lq.1
            split at h <;> split at h <;> omega
          · rw [e100]
            have := lq.1
            split at h <;> split at h <;> omega
        exact ⟨_, rfl, l, _, _, rfl, rfl, hl3, sz, fin H3 u q _ _ J3 k23 hl3 al3 ht3 hu gq⟩
      · refine ⟨_, rfl, (by show 2 ≤ sizeLine; decide), fun b nb => ?_⟩
        have sb : Same H3 (upd H3 b (.tup [.int (0 + (i : Int)), .int 1])) := Same.upd_new nb
        exact ⟨l, _, _, rfl, rfl, sb _ _ hl3, sz, fin _ b (0 + (i : Int), 1) _ _ (J3.keep sb) (k23.trans (Kp.same sb)) (sb _ _ hl3) (al3.keep (mon_isP K) (.of sb)) (ht3.keep sb) (SqT.of upd_same) ⟨lw_int _, Nat.lt_of_lt_of_le (show (0 + (i : Int)).natAbs < 5 by omega) (by decide), by show (1 : Int).natAbs ≤ 2 ^ 100; decide, by show (1 : Int) ≠ 0; decide⟩⟩
    · rintro σ H2 ⟨x2, x3, ws, t, ps, p, rfl, hps, J2, k2, hl2, al2, ht2, gp, gps⟩
      obtain ⟨vs, evs⟩ : ∃ vs, vs = ws ++ [V.ref t] := ⟨_, rfl⟩
      obtain ⟨qs, eqs⟩ : ∃ qs, qs = ps ++ [p] := ⟨_, rfl⟩
      have alv : AllQ (isP K) qs vs H2 := by
        rw [evs, eqs]
        exact AllQ.append al2 ⟨⟨t, rfl, ht2⟩, trivial⟩
      rw [← evs] at hl2
      have gq : ∀ q ∈ qs, Lw q ∧ Bd 100 100 q := fun q hq => by
        rw [eqs] at hq
        rcases List.mem_append.mp hq with h | h
        · exact gps q h
        · rw [List.mem_singleton.mp h]
          exact gp
      have hq6 : qs.length = 6 := by
        rw [eqs, List.length_append, hps]
        rfl
      have hv6 : vs.length = 6 := by rw [alv.len, hq6]
      have big : (1000 : Nat) < sizeLine := by decide
      clear al2 gps gp ht2 evs eqs hps
      refine ⟨_, rfl, l, rfl, ⟨_, SqL.of hl2⟩, fun D nD => ?_⟩
      have jD : j ≠ D := fun e => by
        obtain ⟨c, y, ej, _⟩ := J2
        rw [e, nD] at ej
        cases ej
      have sD : ∀ o, Same H2 (upd H2 D o) := fun _ => Same.upd_new nD
      refine lc_it (walk_list (xs := vs)) (fun i G => ∃ as, St2 K CR H j l D qs vs (qs.take i) as G) ⟨[], J2.keep (sD _), k2.trans (Kp.same (sD _)), sD _ _ _ hl2, alv.keep (mon_isP K) (.of (sD _)), upd_same, by rw [List.take_zero]; trivial⟩ (fun i G _ p => by
        obtain ⟨as, p⟩ := p
        exact SqL.of p.2.2.1) ?_ ?_
      · rintro i x G1 G2 hi ⟨as, S⟩ ⟨rfl, hx⟩
        obtain ⟨q, eq, tq, rfl, htq⟩ := AllQ.get S.2.2.2.1 hx
        have g := gq q (List.mem_of_getElem? eq)
        refine ⟨rfl, _, rfl, _, rfl, j, tq, q, 100, 100, rfl, S.1, htq, g.1, g.2, by decide, by decide, fun G3 c J3 k3 hc => ?_⟩
        have S3 := S.kp jl jD J3 k3
        obtain ⟨e1, e2, e3, e4, e5, e6⟩ := S3
        have la := e6.len
        have sm := SmL.upd (ys := as ++ [.ref c]) e5
        have lD : l ≠ D := fun z => by
          rw [z, nD] at hl2
          cases hl2
        refine ⟨as, e5, ?_, as ++ [.ref c], ?_, fun b o e n => ?_, ?_, e4.keep (mon_isP K) sm, upd_same, ?_⟩
        · rw [la, List.length_take]
          omega
        · obtain ⟨c, y, ej, r⟩ := e1
          exact ⟨c, y, by rw [upd_ne jD]; exact ej, r⟩
        · have nb : b ≠ D := fun z => by
            rw [z] at e
            have := k2 _ _ e (Ne.symm jD)
            rw [nD] at this
            cases this
          rw [upd_ne nb]
          exact e2 b o e n
        · rw [upd_ne lD]
          exact e3
        · rw [List.take_add_one, eq]
          exact AllQ.append (e6.keep (mon_isR CR) sm) ⟨⟨c, rfl, hc.keepL sm⟩, trivial⟩
      rintro H4 ⟨as, S4⟩
      rw [show qs.take vs.length = qs from by rw [hv6, ← hq6, List.take_length]] at S4
      have ha6 : as.length = 6 := by rw [S4.2.2.2.2.2.len, hq6]
      refine ⟨_, rfl, D, as, rfl, SqL.of S4.2.2.2.2.1, for_it (walk_enum (K := K) (a := D) (xs := as)) (fun i σ G => ∃ x5 x6, σ = [some (V.ref j), some (V.ref l), x2, x3, some (V.ref D), x5, x6, none, none, none, none] ∧ St2 K CR H j l D qs vs qs as G) ⟨none, none, rfl, S4⟩ (fun i σ G _ p => by
        obtain ⟨_, _, _, p⟩ := p
        exact SqL.of p.2.2.2.2.1) ?_ ?_⟩
      · rintro i x σ G G' hi ⟨x5, x6, rfl, S⟩ ⟨T0, y0, y, rfl, nT, rfl, e0, hy⟩
        cases e0
        have S := S.same (Same.upd_new (o := .tup [.int (i : Nat), y]) nT)
        refine ⟨T0, _, rfl, SqT.of upd_same, rfl, _, _, rfl, _, _, rfl, rfl, ?_⟩
        obtain ⟨q, eq, c, rfl, hc⟩ := AllQ.get S.2.2.2.2.2 hy
        obtain ⟨v, hv, tq, rfl, htq⟩ := AllQ.at S.2.2.2.1 eq
        have g := gq q (List.mem_of_getElem? eq)
        generalize hG0 : upd G T0 (.tup [.int (i : Nat), .ref c]) = G0 at S hc htq
        have i6 : i < 6 := by omega
        refine ⟨_, rfl, _, rfl, _, rfl, _, rfl, l, vs, _, .ref tq, rfl, rfl, SqL.of S.2.2.1, atI_nat hv, j, c, tq, q, 100, rfl, S.1, hc, htq, g.1, g.2, by decide, by decide, fun G1 J1 k1 => ⟨_, rfl, ?_⟩⟩
        have S1 := S.kp jl jD J1 k1
        have sm1 := SmL.kp S.1 k1
        have hc1 := hc.keepL sm1
        have htq1 := htq.keepL sm1
        refine iteF ?_
        refine ⟨_, rfl, _, rfl, _, rfl, _, rfl, D, as, rfl, SqL.of S1.2.2.2.2.1, fun p1 n1 => ?_⟩
        rw [cut_take as i (by omega)]
        have s2 : Same G1 (upd G1 p1 (.lst (as.take i))) := Same.upd_new n1
        have hp1 : (upd G1 p1 (.lst (as.take i))) p1 = some (.lst (as.take i)) := upd_same
        generalize hG2 : upd G1 p1 (.lst (as.take i)) = G2 at s2 hp1
        have S2 := S1.same s2
        have hc2 := hc1.keep s2
        have htq2 := htq1.keep s2
        have al2 : AllQ (isR CR) (qs.take i) (as.take i) G2 := S2.2.2.2.2.2.take i
        refine ⟨p1, as.take i, sameR CR q G2, rfl, hp1, fun pins τ y hy => ?_, ?_⟩
        · obtain ⟨m, hm⟩ := List.getElem?_of_mem hy
          obtain ⟨r, er, hr2⟩ := AllQ.get al2 hm
          obtain ⟨b, rfl, hb⟩ := id hr2
          obtain ⟨dc, hc2'⟩ := id hc2
          refine itemE_own R.eq hb.isI (R.ins.ty hc2') R.nf (fun e => ?_) ⟨b, _, r, rfl, hb, .inl ⟨c, q, rfl, hc2, by rw [sameR_eq hr2], rfl⟩⟩
          cases e
          rw [sameR_eq ⟨c, rfl, hc2⟩]
          simp
        rw [AllQ.any al2 (fun r v hr => sameR_eq hr)]
        refine ⟨_, rfl, _, rfl, _, rfl, l, vs, _, .ref tq, rfl, rfl, SqL.of S2.2.2.1, atI_nat hv, _, rfl, _, rfl, _, rfl, l, vs, rfl, SqL.of S2.2.2.1, fun p2 n2 => ?_⟩
        rw [cut_take vs i (by omega)]
        have s3 : Same G2 (upd G2 p2 (.lst (vs.take i))) := Same.upd_new n2
        have hp2 : (upd G2 p2 (.lst (vs.take i))) p2 = some (.lst (vs.take i)) := upd_same
        generalize hG3 : upd G2 p2 (.lst (vs.take i)) = G3 at s3 hp2
        have S3 := S2.same s3
        have hc3 := hc2.keep s3
        have htq3 := htq2.keep s3
        have al3 : AllQ (isP K) (qs.take i) (vs.take i) G3 := S3.2.2.2.1.take i
        refine ⟨pd q, (qs.take i).map pd, dp_pair htq3, .lst (SqL.of hp2) (AllQ.dp al3), by rfl, shaped_pairs _, ?_⟩
        rw [any_pairs]
        refine ⟨_, rfl, rfl, _, rfl, ?_⟩
        refine ite2 (fun h => absurd h (by simp)) (fun _ => ?_)
        have gq3 := SqL.of (K := K) S3.2.2.2.2.1
        refine ⟨_, rfl, _, _, rfl, .inl ⟨_, gq3, rfl⟩, 6, by rw [ha6]; rfl, by decide, by decide, fun D2 nD2 => ?_⟩
        have fD2 := S3.new nD2
        refine lc_range (lo := 0) (n := 6) (fun m G' => St2 K CR H j l D qs vs qs as G' ∧ RA CR G' c q ∧ PA2 K G' tq q ∧ G' D2 = some (.lst ((List.replicate m true).map V.bl))) ⟨S3.same (Same.upd_new nD2), hc3.keep (Same.upd_new nD2), htq3.keep (Same.upd_new nD2), upd_same⟩ ?_ ?_
        · rintro m G4 hm ⟨S4, hc4, htq4, hd4⟩
          obtain ⟨q2, eq2⟩ : ∃ q2, qs[m]? = some q2 := ⟨_, List.getElem?_eq_getElem (by omega)⟩
          obtain ⟨v2, hv2, tq2, rfl, htq2'⟩ := AllQ.at S4.2.2.2.1 eq2
          obtain ⟨v3, hv3, c2, rfl, hc2'⟩ := AllQ.at S4.2.2.2.2.2 eq2
          have g2 := gq q2 (List.mem_of_getElem? eq2)
          refine ⟨rfl, _, rfl, _, rfl, _, rfl, l, vs, _, .ref tq, rfl, rfl, SqL.of S4.2.2.1, atI_nat hv, _, rfl, _, rfl, D, as, _, .ref c2, rfl, rfl, SqL.of S4.2.2.2.2.1, atI0 hv3, _, rfl, _, rfl, l, vs, _, .ref tq2, rfl, rfl, SqL.of S4.2.2.1, atI0 hv2,
            c, tq, c2, tq2, q, q2, 100, 100, 100, 100, rfl, hc4, htq4, hc2', htq2', g.1, g2.1, g.2, g2.2, by unfold Fit; omega, fun G5 s5 => ⟨_, s5 _ _ hd4, ?_, ?_⟩⟩
          · rw [List.length_map, List.length_replicate]
            omega
          · have S5 := S4.same s5
            have hd5 := s5 _ _ hd4
            have sm5 := SmL.upd (ys := (List.replicate m true).map V.bl ++ [.bl true]) hd5
            refine ⟨S5.upd fD2 hd5, (hc4.keep s5).keepL sm5, (htq4.keep s5).keepL sm5, ?_⟩
            rw [upd_same, List.replicate_succ', List.map_append]
            rfl
        · rintro G4 ⟨S4, hc4, htq4, hd4⟩
          refine ⟨D2, List.replicate 6 true, rfl, SqL.of hd4, ?_⟩
          rw [all_true]
          refine ⟨_, rfl, ?_⟩
          refine iteF ?_
          exact ⟨_, _, rfl, S4⟩
      · rintro σ G ⟨x5, x6, rfl, S⟩
        have hfit : Fit 100 100 100 100 := by unfold Fit; omega
        have qlt : ∀ m : Nat, m < 6 → ∃ q2, qs[m]? = some q2 := fun m hm => ⟨_, List.getElem?_eq_getElem (by omega)⟩
        have cntle : ∀ (q : Int × Int) (m : Nat), cntL qs q m ≤ 6 := fun q m => by
          unfold cntL
          have h1 := List.length_filter_le (fun r => decide (r.1 * q.2 < q.1 * r.2)) (qs.take m)
          have h2 : (qs.take m).length ≤ qs.length := by rw [List.length_take]; omega
          omega
        refine ⟨_, rfl, D, rfl, ⟨_, SqL.of S.2.2.2.2.1⟩, fun D3 nD3 => ?_⟩
        have f3 := S.new nD3
        refine lc_it (walk_list (xs := as)) (fun i G' => St2 K CR H j l D qs vs qs as G' ∧ G' D3 = some (.lst ((qs.take i).map fun q => V.int (cntL qs q 6 : Nat)))) ⟨S.same (Same.upd_new nD3), by rw [upd_same, List.take_zero]; rfl⟩ (fun i G _ p => SqL.of p.1.2.2.2.2.1) ?_ ?_
        · rintro i x G1 G2 hi ⟨S1, d1⟩ ⟨rfl, hx⟩
          obtain ⟨q, eq, c, rfl, hc⟩ := AllQ.get S1.2.2.2.2.2 hx
          have g := gq q (List.mem_of_getElem? eq)
          refine ⟨rfl, _, rfl, _, _, rfl, .inl ⟨_, SqL.of S1.2.2.2.2.1, rfl⟩, 6, by rw [ha6]; rfl, by decide, by decide, fun D4 nD4 => ?_⟩
          have f4 := S1.new nD4
          have d34 : D3 ≠ D4 := ne_of_none d1 nD4
          refine lc_range (lo := 0) (n := 6) (fun m G' => St2 K CR H j l D qs vs qs as G' ∧ RA CR G' c q ∧ G' D3 = some (.lst ((qs.take i).map fun q => V.int (cntL qs q 6 : Nat))) ∧ ∃ acc, G' D4 = some (.lst acc) ∧ acc.length = cntL qs q m) ⟨S1.same (Same.upd_new nD4), hc.keep (Same.upd_new nD4), (Same.upd_new nD4) _ _ d1, [], upd_same, rfl⟩ ?_ ?_
          · rintro m G3 hm ⟨S3, hc3, d3, acc, d4, la⟩
            obtain ⟨q2, eq2⟩ := qlt m hm
            obtain ⟨v3, hv3, c2, rfl, hc2'⟩ := AllQ.at S3.2.2.2.2.2 eq2
            have g2 := gq q2 (List.mem_of_getElem? eq2)
            obtain ⟨dc2, hc2''⟩ := id hc2'
            have step := cntL_succ (q := q) eq2
            refine ⟨rfl, _, rfl, _, rfl, D, as, _, .ref c2, rfl, rfl, SqL.of S3.2.2.2.2.1, atI0 hv3, c2, dc2, _, rfl, hc2'', rf_no _ _ (by decide +kernel) (by decide +kernel), _, rfl, c2, _, q2, q, 100, 100, 100, 100, rfl, hc2', .inl ⟨c, rfl, hc3⟩, g2.2, g.2, hfit, fun G4 s4 => ⟨_, rfl, ?_⟩⟩
            refine ite2 (fun h => ?_) (fun h => ?_)
            · have sm := SmL.upd (ys := acc ++ [V.int (0 + (m : Int))]) (s4 _ _ d4)
              refine ⟨_, rfl, acc, s4 _ _ d4, ?_, (S3.same s4).upd f4 (s4 _ _ d4), (hc3.keep s4).keepL sm, by rw [upd_ne d34]; exact s4 _ _ d3, _, upd_same, ?_⟩
              · have := cntle q m
                omega
              · rw [List.length_append, la, step, if_pos h]
                rfl
            · refine ⟨S3.same s4, hc3.keep s4, s4 _ _ d3, acc, s4 _ _ d4, ?_⟩
              rw [la, step, if_neg h, Nat.add_zero]
          · rintro G3 ⟨S3, hc3, d3, acc, d4, la⟩
            refine ⟨_, acc.length, rfl, .inl ⟨_, SqL.of d4, rfl⟩, _, d3, ?_, S3.upd f3 d3, ?_⟩
            · rw [List.length_map, List.length_take]
              omega
            · rw [upd_same, la, take_map_succ eq]
        rintro G1 ⟨S1, d1⟩
        rw [show qs.take as.length = qs from by rw [ha6, ← hq6, List.take_length]] at d1
        refine ⟨_, rfl, l, rfl, ⟨_, SqL.of S1.2.2.1⟩, fun D5 nD5 => ?_⟩
        have f5 := S1.new nD5
        have d35 : D3 ≠ D5 := ne_of_none d1 nD5
        refine lc_it (walk_list (xs := vs)) (fun i G' => St2 K CR H j l D qs vs qs as G' ∧ G' D3 = some (.lst (qs.map fun q => V.int (cntL qs q 6 : Nat))) ∧ G' D5 = some (.lst ((qs.take i).map fun q => V.int (cntL qs q 6 : Nat)))) ⟨S1.same (Same.upd_new nD5), (Same.upd_new nD5) _ _ d1, by rw [upd_same, List.take_zero]; rfl⟩ (fun i G _ p => SqL.of p.1.2.2.1) ?_ ?_
        · rintro i x G2 G2' hi ⟨S2, d1, d2⟩ ⟨rfl, hx⟩
          obtain ⟨q, eq, tq, rfl, htq⟩ := AllQ.get S2.2.2.2.1 hx
          have g := gq q (List.mem_of_getElem? eq)
          refine ⟨rfl, _, rfl, _, _, rfl, .inl ⟨_, SqL.of S2.2.2.1, rfl⟩, 6, by rw [hv6]; rfl, by decide, by decide, fun D4 nD4 => ?_⟩
          have f4 := S2.new nD4
          have d34 : D3 ≠ D4 := ne_of_none d1 nD4
          have d54 : D5 ≠ D4 := ne_of_none d2 nD4
          refine lc_range (lo := 0) (n := 6) (fun m G' => St2 K CR H j l D qs vs qs as G' ∧ PA2 K G' tq q ∧ G' D3 = some (.lst (qs.map fun q => V.int (cntL qs q 6 : Nat))) ∧ G' D5 = some (.lst ((qs.take i).map fun q => V.int (cntL qs q 6 : Nat))) ∧ ∃ acc, G' D4 = some (.lst acc) ∧ acc.length = cntL qs q m)
            ⟨S2.same (Same.upd_new nD4), htq.keep (Same.upd_new nD4), (Same.upd_new nD4) _ _ d1, (Same.upd_new nD4) _ _ d2, [], upd_same, rfl⟩ ?_ ?_
          · rintro m G3 hm ⟨S3, htq3, d1, d2, acc, d4, la⟩
            obtain ⟨q2, eq2⟩ := qlt m hm
            obtain ⟨v3, hv3, tq2, rfl, htq2⟩ := AllQ.at S3.2.2.2.1 eq2
            have g2 := gq q2 (List.mem_of_getElem? eq2)
            have step := cntL_succ (q := q) eq2
            refine ⟨rfl, _, rfl, _, rfl, l, vs, _, .ref tq2, rfl, rfl, SqL.of S3.2.2.1, atI0 hv3, tq2, _, _, _, rfl, rfl, htq2, rfl, _, rfl, tq, _, _, _, rfl, rfl, htq3, rfl, _, _, rfl, rfl, cmw (Nat.le_of_lt g2.2.1) g.2.2.1 (by omega),
              _, rfl, tq, _, _, _, rfl, rfl, htq3, rfl, _, rfl, _, rfl, l, vs, _, .ref tq2, rfl, rfl, SqL.of S3.2.2.1, atI0 hv3, tq2, _, _, _, rfl, rfl, htq2, rfl, _, _, rfl, rfl, cmw (Nat.le_of_lt g.2.1) g2.2.2.1 (by omega), _, _, rfl, rfl, _, rfl, ?_⟩
            refine ite2 (fun h => ?_) (fun h => ?_)
            · have sm := SmL.upd (ys := acc ++ [V.int (0 + (m : Int))]) d4
              refine ⟨_, rfl, acc, d4, ?_, S3.upd f4 d4, htq3.keepL sm, by rw [upd_ne d34]; exact d1, by rw [upd_ne d54]; exact d2, _, upd_same, ?_⟩
              · have := cntle q m
                omega
              · rw [List.length_append, la, step, if_pos h]
                rfl
            · refine ⟨S3, htq3, d1, d2, acc, d4, ?_⟩
              rw [la, step, if_neg h, Nat.add_zero]
          · rintro G3 ⟨S3, htq3, d1, d2, acc, d4, la⟩
            refine ⟨_, acc.length, rfl, .inl ⟨_, SqL.of d4, rfl⟩, _, d2, ?_, S3.upd f5 d2, by rw [upd_ne d35]; exact d1, ?_⟩
            · rw [List.length_map, List.length_take]
              omega
            · rw [upd_same, la, take_map_succ eq]
        rintro G2 ⟨S2, d1, d2⟩
        rw [show qs.take vs.length = qs from by rw [hv6, ← hq6, List.take_length]] at d2
        have em : (qs.map fun q => V.int (cntL qs q 6 : Nat)) = (qs.map fun q => ((cntL qs q 6 : Nat) : Int)).map V.int := by
          rw [List.map_map]
          rfl
        rw [em] at d1 d2
        refine ⟨_, rfl, _, rfl, .list _, .list _, .lst (SqL.of d1) (dp_ints _), .lst (SqL.of d2) (dp_ints _), shaped_ints _, shaped_ints _, ?_⟩
        rw [SeqAt.eqv_refl _ (SeqAt.canLay_of_shaped (shaped_ints _))]
        exact z G2 S2.2.1
end
end Cm
end

/-! ## Lw12 -/
section
namespace Cm
open PySem PySem.Spec PyProof.Rows L2 KG

/-- the values that are no ratios -/
theorem odd_mk {K : PySem.W.Frag} {CR CF : Addr} (iF : InsK K CF) (kt : ∀ T : String, T ∈ ["NoneType", "bool", "str", "list", "tuple", "dict"] → PySem.W.kitOne K (.type T) (.ref CR) = some false ∧ PySem.W.subIn K (.type T) (.ref CR) = some false ∧ PySem.W.subIn K (.ref CR) (.type T) = some false)
    (kf : PySem.W.kitOne K (.ref CF) (.ref CR) = some false) (nf : PySem.W.notFirst K CR (.ref CF) = true) (H : Hp) (v : V)
    (h : v = .non ∨ (∃ b, v = .bl b) ∨ (∃ z, v = .str z) ∨ (∃ l xs, v = .ref l ∧ H l = some (.lst xs)) ∨ (∃ l xs, v = .ref l ∧ SqT K H l xs) ∨ (∃ l kvs, v = .ref l ∧ H l = some (.dK kvs)) ∨ ∃ l dx fs, v = .ref l ∧ H l = some (.ins CF dx fs)) : Odd K CR CF H v := by
  have nfst : ∀ T : String, T ∈ ["NoneType", "bool", "str", "list", "tuple", "dict"] → PySem.W.notFirst K CR (.type T) = true := fun T hT => by
    unfold PySem.W.notFirst
    rw [(kt T hT).2.1]
    simp
  have ne : ∀ T : String, (Value.type T) ≠ .ref CR := fun T e => by cases e
  rcases h with rfl | ⟨b, rfl⟩ | ⟨z, rfl⟩ | ⟨l, xs, rfl, hl⟩ | ⟨l, xs, rfl, hl⟩ | ⟨l, kvs, rfl, hl⟩ | ⟨l, dx, fs, rfl, hl⟩
  · exact ⟨_, .base .non, (kt _ (by simp)).1, nfst _ (by simp), .inl ⟨fun X e => decl_non', fun u b r => by cases r; rfl, ne _, (kt _ (by simp)).2.2⟩⟩
  · exact ⟨_, .base (.bl b), (kt _ (by simp)).1, nfst _ (by simp), .inl ⟨fun X e => decl_bl' b, fun u b r => by cases r; rfl, ne _, (kt _ (by simp)).2.2⟩⟩
  · exact ⟨_, .base (.str z), (kt _ (by simp)).1, nfst _ (by simp), .inl ⟨fun X e => decl_str' z, fun u b r => by obtain ⟨t, rfl⟩ := r; rfl, ne _, (kt _ (by simp)).2.2⟩⟩
  · exact ⟨_, .base (.lst hl), (kt _ (by simp)).1, nfst _ (by simp), .inl ⟨fun X e => decl_lst' hl (by rw [e]; exact (kt _ (by simp)).2.2), fun u b r => by cases r; rfl, ne _, (kt _ (by simp)).2.2⟩⟩
  · have ty : TyX K H (.ref l) (.type "tuple") := by
      rcases hl with (h | ⟨o, h⟩) | ⟨o, its, n, h1, h2, h3, h4⟩
      · exact .base (.tup h)
      · exact .fTuple h
      · exact .kTuple h1 (by assumption)
    exact ⟨_, ty, (kt _ (by simp)).1, nfst _ (by simp), .inl ⟨fun X e => decl_tup' (by rw [e]; exact hl) (by rw [e]; exact (kt _ (by simp)).2.2), fun u b r => by cases r; rfl, ne _, (kt _ (by simp)).2.2⟩⟩
  · exact ⟨_, .base (.dK hl), (kt _ (by simp)).1, nfst _ (by simp), .inl ⟨fun X e => decl_dct' hl (by rw [e]; exact (kt _ (by simp)).2.2), fun u b r => by cases r; rfl, ne _, (kt _ (by simp)).2.2⟩⟩
  · exact ⟨_, iF.ty hl, kf, nf, .inr ⟨l, rfl, dx, fs, hl⟩⟩

abbrev sLaw : Stmt := top 35
def spLaw (K : PySem.W.Frag) : Sp := fun vs H Q _ => ∃ (a : Addr) (ns : List Int), vs = [.ref a] ∧ SqL K H a (ns.map V.int) ∧ ns.length ≤ 63 ∧ ∀ H', Q (.bl true) H'
section
variable {P : Program} {w : World} {K : PySem.W.Frag} {mg : Str → Option Value} {base : Heap}
theorem scLaw : FnScope ["_law_script", "_law_k"] ["_law_script"] (defScope sLaw) := ⟨rfl, rfl, rfl, by decide +kernel, rfl, by decide +kernel, by decide +kernel⟩
theorem ok_law {f : Addr} {fd : FuncData} (F : Fun K "law" "law" sLaw f fd) (B : Binds K fd ["_law_script"] []) (T : Txt mg)
    (cJ : Cl P w K mg base 1 "_law_jar" ["_law_script", "_law_k"] (spJar K)) (cR : ClG P w K mg base 10 "_law_right" spRight) : FnG P w K mg base 11 f (spLaw K) := by
  refine fnG_of F scLaw B (fun vs H Q E h => ?_) (fun cdv A outer s H vs Q E hr hg h => ?_)
  · obtain ⟨a, ns, rfl, _⟩ := h
    rfl
  · obtain ⟨a, ns, rfl, hS, hlen, q⟩ := h
    refine ⟨_, pss_one (ps_ret (pe_callB (cr_all (by rfl)) (by rfl) T.all (by decide +kernel) (pa_cons (pe_lc (own := [("_law_k", 1)]) (g := gName 1) (by rfl) scLaw.nd
      (pi_range1 (by rfl) T.range (pa_cons (pe_callB (call_max2 (by rfl)) (by rfl) T.max (by decide +kernel) (pa_cons pe_int (pa_cons (pe_callB (call_min2 (by rfl)) (by rfl) T.min (by decide +kernel)
        (pa_cons (pe_callB call_len (by rfl) T.len PySem.boot_len (pa_cons (pv 0) pa_nil)) (pa_cons pe_int pa_nil))) pa_nil))) pa_nil))
      (blkOk_by (own := [("_law_k", 1)]) (N := ["_law_script", "_law_k"]) (sc := defScope sLaw) (by decide +kernel)) (fun _ _ _ _ _ => pg_name (i := 1) scLaw.nd rfl (Or.inl rfl)) (fun _ _ _ _ _ => pts_nil)
      (fun _ _ _ _ _ => pe_g cR hr (by decide) hg (by rfl) (pa_cons (pe_k cJ hr (by decide) (by rfl) (pa_cons (pv 0) (pa_cons (pv 1) pa_nil))) pa_nil))) pa_nil))), ?_⟩
    refine ⟨_, rfl, _, _, rfl, .inl ⟨_, hS, rfl⟩, _, _, rfl, _, _, rfl, ?_⟩
    have bd : ∀ z : Int, 0 ≤ (if (if (4 : Int) < z then 4 else z) > 1 then (if (4 : Int) < z then 4 else z) else 1) ∧ (if (if (4 : Int) < z then 4 else z) > 1 then (if (4 : Int) < z then 4 else z) else 1) ≤ 4 := by
      intro z
      split <;> split <;> omega
    obtain ⟨z0, z4⟩ := bd ((ns.map V.int).length : Int)
    generalize (if (if (4 : Int) < ((ns.map V.int).length : Int) then 4 else ((ns.map V.int).length : Int)) > 1 then (if (4 : Int) < ((ns.map V.int).length : Int) then 4 else ((ns.map V.int).length : Int)) else 1) = z at z0 z4
    refine ⟨z, rfl, by omega, by omega, fun D nD => ?_⟩
    refine lc_range (lo := 0) (n := z.toNat) (fun i H' => Same H H' ∧ H' D = some (.lst ((List.replicate i true).map V.bl))) ⟨Same.upd_new nD, upd_same⟩ ?_ ?_
    · rintro i H1 hi ⟨s1, d1⟩
      refine ⟨rfl, _, rfl, _, rfl, a, ns, i, by rw [Int.zero_add], s1.seq hS, hlen, by omega, fun H2 p s2 np J2 => ?_⟩
      refine ⟨p, rfl, J2, fun H3 k3 => ?_⟩
      have nDp : D ≠ p := ne_of_none d1 np
      refine ⟨_, k3 _ _ (s2 _ _ d1) nDp, ?_, ?_, ?_⟩
      · rw [List.length_map, List.length_replicate]
        have : (63 : Nat) < sizeLine := by decide
        omega
      · intro b o e
        have e1 := s1 b o e
        rw [upd_ne (ne_of_none e nD)]
        exact k3 _ _ (s2 _ _ e1) (ne_of_none e1 np)
      · rw [upd_same, List.replicate_succ', List.map_append]
        rfl
    · rintro H1 ⟨s1, d1⟩
      refine ⟨D, List.replicate z.toNat true, rfl, SqL.of d1, ?_⟩
      rw [all_true]
      exact q H1
end
end Cm
end

/-! ## En12 -/
section
set_option pp.maxSteps 400
namespace Cm
open PySem PySem.Spec PyProof.Rows L2 KG
section
variable {K : PySem.W.Frag} {C D : Addr} {T : String} {b : Bool}
theorem kit_tr (hc : PySem.W.isClsIn K C = true) (ht : PySem.W.typeIn K (.ref C) = some (.type "type")) (hs : PySem.W.subIn K (.type T) (.ref C) = some b) : PySem.W.kitOne K (.type T) (.ref C) = some b := by
  have hc' : (PySem.W.clsIn K C).isSome = true := hc
  unfold PySem.W.kitOne PySem.W.kitCls
  rw [if_neg (fun z => by cases beq_iff_eq.mp z)]
  dsimp only
  rw [hc', ht, if_pos (by simp)]
  exact hs
theorem kit_rt (hm : PySem.W.kitMeta T = true) (hs : PySem.W.subIn K (.ref C) (.type T) = some b) : PySem.W.kitOne K (.ref C) (.type T) = some b := by
  unfold PySem.W.kitOne PySem.W.kitCls
  rw [if_neg (fun z => by cases beq_iff_eq.mp z)]
  dsimp only
  rw [if_pos hm]
  exact hs
theorem kit_rr (hc : PySem.W.isClsIn K C = true) (ht : PySem.W.typeIn K (.ref C) = some (.type "type")) (hs : PySem.W.subIn K (.ref C) (.ref C) = some true) : PySem.W.kitOne K (.ref C) (.ref C) = some true := by
  unfold PySem.W.kitOne
  rw [if_pos (by simp)]
theorem kit_rn (n : D ≠ C) (hc : PySem.W.isClsIn K C = true) (ht : PySem.W.typeIn K (.ref C) = some (.type "type")) (hs : PySem.W.subIn K (.ref D) (.ref C) = some b) : PySem.W.kitOne K (.ref D) (.ref C) = some b := by
  have hc' : (PySem.W.clsIn K C).isSome = true := hc
  unfold PySem.W.kitOne PySem.W.kitCls
  rw [if_neg (fun z => n (Value.ref.inj (beq_iff_eq.mp z)))]
  dsimp only
  rw [hc', ht, if_pos (by simp)]
  exact hs
end
set_option maxHeartbeats 4000000 in
theorem all_mk {l : PySem.W.OpenLaw} {w : World} {K : PySem.W.Frag} {h : Heap} {mg : Str → Option Value} {fa CR CF TR TF pO p_tp p_bt p_sg : Addr} (X : K.In h) (G : h.Ns mainGlobals mg) (hfa : mg "law" = some (.ref fa))
    {f_isI f_isN f_isW f_asR f_mps f_jar f_dip f_cho f_com f_low f_sum f_int f_par f_nea f_mad f_two f_who f_rgt f_law f_ri f_fi f_rs f_rr f_rb f_re f_fe f_tp f_bt f_sg f_of : Addr}
    {od_isI an_isI od_isN an_isN od_isW an_isW od_asR an_asR od_mps an_mps od_jar an_jar od_dip an_dip od_cho an_cho od_com an_com od_low an_low od_sum an_sum od_int an_int od_par an_par od_nea an_nea od_mad an_mad od_two an_two od_who an_who od_rgt an_rgt od_law an_law od_ri an_ri od_fi an_fi od_rs an_rs od_rr an_rr od_rb an_rb od_re an_re od_fe an_fe od_tp an_tp od_bt an_bt od_sg an_sg od_of an_of dTR dTF : Option Addr} {sl_isI sl_isN sl_isW sl_asR sl_mps sl_jar sl_dip sl_cho sl_com sl_low sl_sum sl_int sl_par sl_nea sl_mad sl_two sl_who sl_rgt sl_law sl_ri sl_fi sl_rs sl_rr sl_rb sl_re sl_fe sl_tp sl_bt sl_sg sl_of slTR slTF : Array (Option Value)}
    {oc_isI kV_isI dc_isI pm_isI cd_isI ct_isI oc_isN kV_isN dc_isN pm_isN cd_isN ct_isN oc_isW kV_isW dc_isW pm_isW cd_isW ct_isW oc_asR kV_asR dc_asR pm_asR cd_asR ct_asR oc_mps kV_mps dc_mps pm_mps cd_mps ct_mps oc_jar kV_jar dc_jar pm_jar cd_jar ct_jar oc_dip kV_dip dc_dip pm_dip cd_dip ct_dip oc_cho kV_cho dc_cho pm_cho cd_cho ct_cho oc_com kV_com dc_com pm_com cd_com ct_com oc_low kV_low dc_low pm_low cd_low ct_low oc_sum kV_sum dc_sum pm_sum cd_sum ct_sum oc_int kV_int dc_int pm_int cd_int ct_int oc_par kV_par dc_par pm_par cd_par ct_par oc_nea kV_nea dc_nea pm_nea cd_nea ct_nea oc_mad kV_mad dc_mad pm_mad cd_mad ct_mad oc_two kV_two dc_two pm_two cd_two ct_two oc_who kV_who dc_who pm_who cd_who ct_who oc_rgt kV_rgt dc_rgt pm_rgt cd_rgt ct_rgt oc_law kV_law dc_law pm_law cd_law ct_law oc_ri kV_ri dc_ri pm_ri cd_ri ct_ri oc_fi kV_fi dc_fi pm_fi cd_fi ct_fi oc_rs kV_rs dc_rs pm_rs cd_rs ct_rs oc_rr kV_rr dc_rr pm_rr cd_rr ct_rr oc_rb kV_rb dc_rb pm_rb cd_rb ct_rb oc_re kV_re dc_re pm_re cd_re ct_re oc_fe kV_fe dc_fe pm_fe cd_fe ct_fe oc_tp kV_tp dc_tp pm_tp cd_tp ct_tp oc_bt kV_bt dc_bt pm_bt cd_bt ct_bt oc_sg kV_sg dc_sg pm_sg cd_sg ct_sg oc_of kV_of dc_of pm_of cd_of ct_of cTR cTF : Value} {tkR tkF tkM : Tok} {nTR nTF : Nat} {restO rest_tp rest_bt rest_sg : List Value}
    (a_isI : PySem.W.nsIn K mainGlobals "is_integer" = some (some (.ref f_isI)))
    (l_isI : K.lookup f_isI = some ⟨oc_isI, od_isI, .func (PySem.W.fnOf "is_integer" "is_integer" (defArgs sIsInt) (defBody sIsInt) (defScope sIsInt) .none kV_isI dc_isI pm_isI an_isI cd_isI ct_isI), sl_isI⟩)
    (c_isI : PySem.W.codeIn K cd_isI "is_integer" = true)
    (k_isI : PySem.W.keepIn K (.ref f_isI) = true)
    (a_isN : PySem.W.nsIn K mainGlobals "is_number" = some (some (.ref f_isN)))
    (l_isN : K.lookup f_isN = some ⟨oc_isN, od_isN, .func (PySem.W.fnOf "is_number" "is_number" (defArgs sIsNum) (defBody sIsNum) (defScope sIsNum) .none kV_isN dc_isN pm_isN an_isN cd_isN ct_isN), sl_isN⟩)
    (c_isN : PySem.W.codeIn K cd_isN "is_number" = true)
    (k_isN : PySem.W.keepIn K (.ref f_isN) = true)
    (a_isW : PySem.W.nsIn K mainGlobals "is_name" = some (some (.ref f_isW)))
    (l_isW : K.lookup f_isW = some ⟨oc_isW, od_isW, .func (PySem.W.fnOf "is_name" "is_name" (defArgs sIsName) (defBody sIsName) (defScope sIsName) .none kV_isW dc_isW pm_isW an_isW cd_isW ct_isW), sl_isW⟩)
    (c_isW : PySem.W.codeIn K cd_isW "is_name" = true)
    (k_isW : PySem.W.keepIn K (.ref f_isW) = true)
    (a_asR : PySem.W.nsIn K mainGlobals "as_ratio" = some (some (.ref f_asR)))
    (l_asR : K.lookup f_asR = some ⟨oc_asR, od_asR, .func (PySem.W.fnOf "as_ratio" "as_ratio" (defArgs sAsRatio) (defBody sAsRatio) (defScope sAsRatio) .none kV_asR dc_asR pm_asR an_asR cd_asR ct_asR), sl_asR⟩)
    (c_asR : PySem.W.codeIn K cd_asR "as_ratio" = true)
    (k_asR : PySem.W.keepIn K (.ref f_asR) = true)
    (a_mps : PySem.W.nsIn K mainGlobals "maps_names_to_numbers" = some (some (.ref f_mps)))
    (l_mps : K.lookup f_mps = some ⟨oc_mps, od_mps, .func (PySem.W.fnOf "maps_names_to_numbers" "maps_names_to_numbers" (defArgs sMaps) (defBody sMaps) (defScope sMaps) .none kV_mps dc_mps pm_mps an_mps cd_mps ct_mps), sl_mps⟩)
    (c_mps : PySem.W.codeIn K cd_mps "maps_names_to_numbers" = true)
    (k_mps : PySem.W.keepIn K (.ref f_mps) = true)
    (a_jar : PySem.W.nsIn K mainGlobals "_law_jar" = some (some (.ref f_jar)))
    (l_jar : K.lookup f_jar = some ⟨oc_jar, od_jar, .func (PySem.W.fnOf "_law_jar" "_law_jar" (defArgs sJar) (defBody sJar) (defScope sJar) .none kV_jar dc_jar pm_jar an_jar cd_jar ct_jar), sl_jar⟩)
    (c_jar : PySem.W.codeIn K cd_jar "_law_jar" = true)
    (k_jar : PySem.W.keepIn K (.ref f_jar) = true)
    (a_dip : PySem.W.nsIn K mainGlobals "_law_dip" = some (some (.ref f_dip)))
    (l_dip : K.lookup f_dip = some ⟨oc_dip, od_dip, .func (PySem.W.fnOf "_law_dip" "_law_dip" (defArgs sDip) (defBody sDip) (defScope sDip) .none kV_dip dc_dip pm_dip an_dip cd_dip ct_dip), sl_dip⟩)
    (c_dip : PySem.W.codeIn K cd_dip "_law_dip" = true)
    (k_dip : PySem.W.keepIn K (.ref f_dip) = true)
    (a_cho : PySem.W.nsIn K mainGlobals "_law_choice" = some (some (.ref f_cho)))
    (l_cho : K.lookup f_cho = some ⟨oc_cho, od_cho, .func (PySem.W.fnOf "_law_choice" "_law_choice" (defArgs sChoice) (defBody sChoice) (defScope sChoice) .none kV_cho dc_cho pm_cho an_cho cd_cho ct_cho), sl_cho⟩)
    (c_cho : PySem.W.codeIn K cd_cho "_law_choice" = true)
    (k_cho : PySem.W.keepIn K (.ref f_cho) = true)
    (a_com : PySem.W.nsIn K mainGlobals "_law_common" = some (some (.ref f_com)))
    (l_com : K.lookup f_com = some ⟨oc_com, od_com, .func (PySem.W.fnOf "_law_common" "_law_common" (defArgs sCommon) (defBody sCommon) (defScope sCommon) .none kV_com dc_com pm_com an_com cd_com ct_com), sl_com⟩)
    (c_com : PySem.W.codeIn K cd_com "_law_common" = true)
    (k_com : PySem.W.keepIn K (.ref f_com) = true)
    (a_low : PySem.W.nsIn K mainGlobals "_law_lowest" = some (some (.ref f_low)))
    (l_low : K.lookup f_low = some ⟨oc_low, od_low, .func (PySem.W.fnOf "_law_lowest" "_law_lowest" (defArgs sLowest) (defBody sLowest) (defScope sLowest) .none kV_low dc_low pm_low an_low cd_low ct_low), sl_low⟩)
    (c_low : PySem.W.codeIn K cd_low "_law_lowest" = true)
    (k_low : PySem.W.keepIn K (.ref f_low) = true)
    (a_sum : PySem.W.nsIn K mainGlobals "_law_sum" = some (some (.ref f_sum)))
    (l_sum : K.lookup f_sum = some ⟨oc_sum, od_sum, .func (PySem.W.fnOf "_law_sum" "_law_sum" (defArgs sSum) (defBody sSum) (defScope sSum) .none kV_sum dc_sum pm_sum an_sum cd_sum ct_sum), sl_sum⟩)
    (c_sum : PySem.W.codeIn K cd_sum "_law_sum" = true)
    (k_sum : PySem.W.keepIn K (.ref f_sum) = true)
    (a_int : PySem.W.nsIn K mainGlobals "_law_integer" = some (some (.ref f_int)))
    (l_int : K.lookup f_int = some ⟨oc_int, od_int, .func (PySem.W.fnOf "_law_integer" "_law_integer" (defArgs sInteger) (defBody sInteger) (defScope sInteger) .none kV_int dc_int pm_int an_int cd_int ct_int), sl_int⟩)
    (c_int : PySem.W.codeIn K cd_int "_law_integer" = true)
    (k_int : PySem.W.keepIn K (.ref f_int) = true)
    (a_par : PySem.W.nsIn K mainGlobals "_law_parts" = some (some (.ref f_par)))
    (l_par : K.lookup f_par = some ⟨oc_par, od_par, .func (PySem.W.fnOf "_law_parts" "_law_parts" (defArgs sParts) (defBody sParts) (defScope sParts) .none kV_par dc_par pm_par an_par cd_par ct_par), sl_par⟩)
    (c_par : PySem.W.codeIn K cd_par "_law_parts" = true)
    (k_par : PySem.W.keepIn K (.ref f_par) = true)
    (a_nea : PySem.W.nsIn K mainGlobals "_law_near" = some (some (.ref f_nea)))
    (l_nea : K.lookup f_nea = some ⟨oc_nea, od_nea, .func (PySem.W.fnOf "_law_near" "_law_near" (defArgs sNear) (defBody sNear) (defScope sNear) .none kV_nea dc_nea pm_nea an_nea cd_nea ct_nea), sl_nea⟩)
    (c_nea : PySem.W.codeIn K cd_nea "_law_near" = true)
    (k_nea : PySem.W.keepIn K (.ref f_nea) = true)
    (a_mad : PySem.W.nsIn K mainGlobals "_law_made" = some (some (.ref f_mad)))
    (l_mad : K.lookup f_mad = some ⟨oc_mad, od_mad, .func (PySem.W.fnOf "_law_made" "_law_made" (defArgs sMade) (defBody sMade) (defScope sMade) .none kV_mad dc_mad pm_mad an_mad cd_mad ct_mad), sl_mad⟩)
    (c_mad : PySem.W.codeIn K cd_mad "_law_made" = true)
    (k_mad : PySem.W.keepIn K (.ref f_mad) = true)
    (a_two : PySem.W.nsIn K mainGlobals "_law_two_right" = some (some (.ref f_two)))
    (l_two : K.lookup f_two = some ⟨oc_two, od_two, .func (PySem.W.fnOf "_law_two_right" "_law_two_right" (defArgs sTwo) (defBody sTwo) (defScope sTwo) .none kV_two dc_two pm_two an_two cd_two ct_two), sl_two⟩)
    (c_two : PySem.W.codeIn K cd_two "_law_two_right" = true)
    (k_two : PySem.W.keepIn K (.ref f_two) = true)
    (a_who : PySem.W.nsIn K mainGlobals "_law_whole_right" = some (some (.ref f_who)))
    (l_who : K.lookup f_who = some ⟨oc_who, od_who, .func (PySem.W.fnOf "_law_whole_right" "_law_whole_right" (defArgs sWhole) (defBody sWhole) (defScope sWhole) .none kV_who dc_who pm_who an_who cd_who ct_who), sl_who⟩)
    (c_who : PySem.W.codeIn K cd_who "_law_whole_right" = true)
    (k_who : PySem.W.keepIn K (.ref f_who) = true)
    (a_rgt : PySem.W.nsIn K mainGlobals "_law_right" = some (some (.ref f_rgt)))
    (l_rgt : K.lookup f_rgt = some ⟨oc_rgt, od_rgt, .func (PySem.W.fnOf "_law_right" "_law_right" (defArgs sRight) (defBody sRight) (defScope sRight) .none kV_rgt dc_rgt pm_rgt an_rgt cd_rgt ct_rgt), sl_rgt⟩)
    (c_rgt : PySem.W.codeIn K cd_rgt "_law_right" = true)
    (k_rgt : PySem.W.keepIn K (.ref f_rgt) = true)
    (a_law : PySem.W.nsIn K mainGlobals "law" = some (some (.ref f_law)))
    (l_law : K.lookup f_law = some ⟨oc_law, od_law, .func (PySem.W.fnOf "law" "law" (defArgs sLaw) (defBody sLaw) (defScope sLaw) .none kV_law dc_law pm_law an_law cd_law ct_law), sl_law⟩)
    (c_law : PySem.W.codeIn K cd_law "law" = true)
    (k_law : PySem.W.keepIn K (.ref f_law) = true)
    (a_CR : PySem.W.nsIn K mainGlobals "Ratio" = some (some (.ref CR)))
    (pg_CR : PySem.W.plainGet K CR Str.empty = true)
    (hd_CR : PySem.W.hasDictIn K CR = true)
    (po_CR : PySem.W.plainOver K CR = true)
    (sa_CR : PySem.W.findIn K (.ref CR) "__setattr__" = some (some (.builtin "object.__setattr__")))
    (mk_CR : PySem.W.makesIn K CR = true)
    (kc_CR : PySem.W.keepIn K (.ref CR) = true)
    (ha_CR : PySem.W.findIn K (.ref CR) "__class__" = some (some (.builtin "object.__class__")))
    (hm_CR : PySem.W.mroIn K CR (.type "object") = some true)
    (ic_CR : PySem.W.isClsIn K CR = true)
    (tc_CR : PySem.W.typeIn K (.ref CR) = some (.type "type"))
    (sr_CR : PySem.W.subIn K (.ref CR) (.ref CR) = some true)
    (a_CF : PySem.W.nsIn K mainGlobals "Form" = some (some (.ref CF)))
    (pg_CF : PySem.W.plainGet K CF Str.empty = true)
    (hd_CF : PySem.W.hasDictIn K CF = true)
    (po_CF : PySem.W.plainOver K CF = true)
    (sa_CF : PySem.W.findIn K (.ref CF) "__setattr__" = some (some (.builtin "object.__setattr__")))
    (mk_CF : PySem.W.makesIn K CF = true)
    (kc_CF : PySem.W.keepIn K (.ref CF) = true)
    (ha_CF : PySem.W.findIn K (.ref CF) "__class__" = some (some (.builtin "object.__class__")))
    (hm_CF : PySem.W.mroIn K CF (.type "object") = some true)
    (ic_CF : PySem.W.isClsIn K CF = true)
    (tc_CF : PySem.W.typeIn K (.ref CF) = some (.type "type"))
    (sr_CF : PySem.W.subIn K (.ref CF) (.ref CR) = some false)
    (srf : PySem.W.subIn K (.ref CR) (.ref CF) = some false)
    (sf_CR : PySem.W.selfFirst K CR = true)
    (so_CR : PySem.W.subIn K (.ref CR) (.type "object") = some true)
    (ne_CR : PySem.W.findIn K (.ref CR) "__ne__" = some (some (.builtin "object.__ne__")))
    (u_non : PySem.W.subIn K (.type "NoneType") (.ref CR) = some false)
    (v_non : PySem.W.subIn K (.ref CR) (.type "NoneType") = some false)
    (u_bl : PySem.W.subIn K (.type "bool") (.ref CR) = some false)
    (v_bl : PySem.W.subIn K (.ref CR) (.type "bool") = some false)
    (u_int : PySem.W.subIn K (.type "int") (.ref CR) = some false)
    (v_int : PySem.W.subIn K (.ref CR) (.type "int") = some false)
    (u_str : PySem.W.subIn K (.type "str") (.ref CR) = some false)
    (v_str : PySem.W.subIn K (.ref CR) (.type "str") = some false)
    (u_lst : PySem.W.subIn K (.type "list") (.ref CR) = some false)
    (v_lst : PySem.W.subIn K (.ref CR) (.type "list") = some false)
    (u_tup : PySem.W.subIn K (.type "tuple") (.ref CR) = some false)
    (v_tup : PySem.W.subIn K (.ref CR) (.type "tuple") = some false)
    (u_dct : PySem.W.subIn K (.type "dict") (.ref CR) = some false)
    (v_dct : PySem.W.subIn K (.ref CR) (.type "dict") = some false)
    (hn : PySem.W.specialIn K (.builtin "object.__class__") "__get__" = some (some (.builtin "getset_descriptor.__get__")))
    (htk : PySem.W.takesIn K (.builtin "object.__class__") = some true)
    (nT : PySem.W.findIn K (.ref CR) "_top" = some none)
    (nB : PySem.W.findIn K (.ref CR) "_bottom" = some none)
    (nN : PySem.W.findIn K (.ref CF) "_number" = some none)
    (nW : PySem.W.findIn K (.ref CF) "_weights" = some none)
    (a_ri : PySem.W.findIn K (.ref CR) "__init__" = some (some (.ref f_ri)))
    (i_ri : PySem.W.isFn K (.ref f_ri) = true)
    (l_ri : K.lookup f_ri = some ⟨oc_ri, od_ri, .func (PySem.W.fnOf "__init__" "Ratio.__init__" (defArgs sRInit) (defBody sRInit) (defScope sRInit) (.ref TR) kV_ri dc_ri pm_ri an_ri cd_ri ct_ri), sl_ri⟩)
    (c_ri : PySem.W.codeIn K cd_ri "Ratio.__init__" = true)
    (k_ri : PySem.W.keepIn K (.ref f_ri) = true)
    (d_ri : K.lookup TR = some ⟨cTR, dTR, .seq #[.int 1 tkR] nTR, slTR⟩)
    (a_fi : PySem.W.findIn K (.ref CF) "__init__" = some (some (.ref f_fi)))
    (i_fi : PySem.W.isFn K (.ref f_fi) = true)
    (l_fi : K.lookup f_fi = some ⟨oc_fi, od_fi, .func (PySem.W.fnOf "__init__" "Form.__init__" (defArgs sFInit) (defBody sFInit) (defScope sFInit) (.ref TF) kV_fi dc_fi pm_fi an_fi cd_fi ct_fi), sl_fi⟩)
    (c_fi : PySem.W.codeIn K cd_fi "Form.__init__" = true)
    (k_fi : PySem.W.keepIn K (.ref f_fi) = true)
    (d_fi : K.lookup TF = some ⟨cTF, dTF, .seq #[.none, .int 0 tkF] nTF, slTF⟩)
    (a_rs : PySem.W.findIn K (.ref CR) "__str__" = some (some (.ref f_rs)))
    (i_rs : PySem.W.isFn K (.ref f_rs) = true)
    (l_rs : K.lookup f_rs = some ⟨oc_rs, od_rs, .func (PySem.W.fnOf "__str__" "Ratio.__str__" (defArgs sRStr) (defBody sRStr) (defScope sRStr) .none kV_rs dc_rs pm_rs an_rs cd_rs ct_rs), sl_rs⟩)
    (c_rs : PySem.W.codeIn K cd_rs "Ratio.__str__" = true)
    (k_rs : PySem.W.keepIn K (.ref f_rs) = true)
    (a_rr : PySem.W.findIn K (.ref CR) "__repr__" = some (some (.ref f_rr)))
    (i_rr : PySem.W.isFn K (.ref f_rr) = true)
    (l_rr : K.lookup f_rr = some ⟨oc_rr, od_rr, .func (PySem.W.fnOf "__repr__" "Ratio.__repr__" (defArgs sRRepr) (defBody sRRepr) (defScope sRRepr) .none kV_rr dc_rr pm_rr an_rr cd_rr ct_rr), sl_rr⟩)
    (c_rr : PySem.W.codeIn K cd_rr "Ratio.__repr__" = true)
    (k_rr : PySem.W.keepIn K (.ref f_rr) = true)
    (a_rb : PySem.W.findIn K (.ref CR) "is_below" = some (some (.ref f_rb)))
    (i_rb : PySem.W.isFn K (.ref f_rb) = true)
    (l_rb : K.lookup f_rb = some ⟨oc_rb, od_rb, .func (PySem.W.fnOf "is_below" "Ratio.is_below" (defArgs sRBelow) (defBody sRBelow) (defScope sRBelow) .none kV_rb dc_rb pm_rb an_rb cd_rb ct_rb), sl_rb⟩)
    (c_rb : PySem.W.codeIn K cd_rb "Ratio.is_below" = true)
    (k_rb : PySem.W.keepIn K (.ref f_rb) = true)
    (a_re : PySem.W.findIn K (.ref CR) "__eq__" = some (some (.ref f_re)))
    (i_re : PySem.W.isFn K (.ref f_re) = true)
    (l_re : K.lookup f_re = some ⟨oc_re, od_re, .func (PySem.W.fnOf "__eq__" "Ratio.__eq__" (defArgs sREq) (defBody sREq) (defScope sREq) .none kV_re dc_re pm_re an_re cd_re ct_re), sl_re⟩)
    (c_re : PySem.W.codeIn K cd_re "Ratio.__eq__" = true)
    (k_re : PySem.W.keepIn K (.ref f_re) = true)
    (a_fe : PySem.W.findIn K (.ref CF) "__eq__" = some (some (.ref f_fe)))
    (i_fe : PySem.W.isFn K (.ref f_fe) = true)
    (l_fe : K.lookup f_fe = some ⟨oc_fe, od_fe, .func (PySem.W.fnOf "__eq__" "Form.__eq__" (defArgs sFEq) (defBody sFEq) (defScope sFEq) .none kV_fe dc_fe pm_fe an_fe cd_fe ct_fe), sl_fe⟩)
    (c_fe : PySem.W.codeIn K cd_fe "Form.__eq__" = true)
    (k_fe : PySem.W.keepIn K (.ref f_fe) = true)
    (pa_tp : PySem.W.findIn K (.ref CR) "top" = some (some (.ref p_tp)))
    (pg_tp : PySem.W.specialIn K (.ref p_tp) "__get__" = some (some (.builtin "property.__get__")))
    (pt_tp : PySem.W.takesIn K (.ref p_tp) = some true)
    (pr_tp : PySem.W.recIn K p_tp "property" = some (.ref f_tp :: rest_tp))
    (l_tp : K.lookup f_tp = some ⟨oc_tp, od_tp, .func (PySem.W.fnOf "top" "Ratio.top" (defArgs sRTop) (defBody sRTop) (defScope sRTop) .none kV_tp dc_tp pm_tp an_tp cd_tp ct_tp), sl_tp⟩)
    (c_tp : PySem.W.codeIn K cd_tp "Ratio.top" = true)
    (k_tp : PySem.W.keepIn K (.ref f_tp) = true)
    (pa_bt : PySem.W.findIn K (.ref CR) "bottom" = some (some (.ref p_bt)))
    (pg_bt : PySem.W.specialIn K (.ref p_bt) "__get__" = some (some (.builtin "property.__get__")))
    (pt_bt : PySem.W.takesIn K (.ref p_bt) = some true)
    (pr_bt : PySem.W.recIn K p_bt "property" = some (.ref f_bt :: rest_bt))
    (l_bt : K.lookup f_bt = some ⟨oc_bt, od_bt, .func (PySem.W.fnOf "bottom" "Ratio.bottom" (defArgs sRBottom) (defBody sRBottom) (defScope sRBottom) .none kV_bt dc_bt pm_bt an_bt cd_bt ct_bt), sl_bt⟩)
    (c_bt : PySem.W.codeIn K cd_bt "Ratio.bottom" = true)
    (k_bt : PySem.W.keepIn K (.ref f_bt) = true)
    (pa_sg : PySem.W.findIn K (.ref CR) "sign" = some (some (.ref p_sg)))
    (pg_sg : PySem.W.specialIn K (.ref p_sg) "__get__" = some (some (.builtin "property.__get__")))
    (pt_sg : PySem.W.takesIn K (.ref p_sg) = some true)
    (pr_sg : PySem.W.recIn K p_sg "property" = some (.ref f_sg :: rest_sg))
    (l_sg : K.lookup f_sg = some ⟨oc_sg, od_sg, .func (PySem.W.fnOf "sign" "Ratio.sign" (defArgs sRSign) (defBody sRSign) (defScope sRSign) .none kV_sg dc_sg pm_sg an_sg cd_sg ct_sg), sl_sg⟩)
    (c_sg : PySem.W.codeIn K cd_sg "Ratio.sign" = true)
    (k_sg : PySem.W.keepIn K (.ref f_sg) = true)
    (o_rd : PySem.W.readsIn K CF (.type "type") = true)
    (o_ga : PySem.W.specialIn K (.ref CF) "__getattribute__" = some (some (.builtin "type.__getattribute__")))
    (o_at : PySem.W.findCls K (.ref CF) (.type "type") "of" = some (.get (.builtin "classmethod.__get__") (.ref pO) .none (.ref CF)))
    (o_rec : PySem.W.recIn K pO "classmethod" = some (.ref f_of :: restO))
    (o_fi : PySem.W.fnIn K f_of = true)
    (l_of : K.lookup f_of = some ⟨oc_of, od_of, .func (PySem.W.fnOf "of" "Form.of" (defArgs sFOf) (defBody sFOf) (defScope sFOf) .none kV_of dc_of pm_of an_of cd_of ct_of), sl_of⟩)
    (c_of : PySem.W.codeIn K cd_of "Form.of" = true)
    (k_of : PySem.W.keepIn K (.ref f_of) = true)
    (g_gcd : PySem.W.nsIn K mainGlobals "gcd" = some (some (.builtin "math.gcd")))
    (g_most : PySem.W.nsIn K mainGlobals "LONGEST_NAME" = some (some (.int 8 tkM)))
    (z_len : PySem.W.nsIn K mainGlobals "len" = some none)
    (z_abs : PySem.W.nsIn K mainGlobals "abs" = some none)
    (z_max : PySem.W.nsIn K mainGlobals "max" = some none)
    (z_min : PySem.W.nsIn K mainGlobals "min" = some none)
    (z_int : PySem.W.nsIn K mainGlobals "int" = some none)
    (z_divmod : PySem.W.nsIn K mainGlobals "divmod" = some none)
    (z_range : PySem.W.nsIn K mainGlobals "range" = some none)
    (z_all : PySem.W.nsIn K mainGlobals "all" = some none)
    (z_any : PySem.W.nsIn K mainGlobals "any" = some none)
    (z_isinstance : PySem.W.nsIn K mainGlobals "isinstance" = some none)
    (z_bool : PySem.W.nsIn K mainGlobals "bool" = some none)
    (z_str : PySem.W.nsIn K mainGlobals "str" = some none)
    (z_repr : PySem.W.nsIn K mainGlobals "repr" = some none)
    (z_list : PySem.W.nsIn K mainGlobals "list" = some none)
    (z_sorted : PySem.W.nsIn K mainGlobals "sorted" = some none)
    (z_dict : PySem.W.nsIn K mainGlobals "dict" = some none)
    (z_enumerate : PySem.W.nsIn K mainGlobals "enumerate" = some none)
    : ∀ base : Heap, K.In base → base.Ns mainGlobals mg → base.NoDigits → FnG l.prog w K mg base 11 fa (spLaw K) := by
  intro base _ _ nd
  have e := hfa.symm.trans (PySem.W.mg_of X G a_law)
  cases e
  have F_isI := fun_mk (st := sIsInt) l_isI c_isI k_isI
  have b_isI := F_isI.binds (ps := ["value"]) fun _ _ _ _ _ _ us hl => match us, hl with | [_], _ => rfl
  have m_isI := PySem.W.mg_of X G a_isI
  have F_isN := fun_mk (st := sIsNum) l_isN c_isN k_isN
  have b_isN := F_isN.binds (ps := ["value"]) fun _ _ _ _ _ _ us hl => match us, hl with | [_], _ => rfl
  have m_isN := PySem.W.mg_of X G a_isN
  have F_isW := fun_mk (st := sIsName) l_isW c_isW k_isW
  have b_isW := F_isW.binds (ps := ["value"]) fun _ _ _ _ _ _ us hl => match us, hl with | [_], _ => rfl
  have m_isW := PySem.W.mg_of X G a_isW
  have F_asR := fun_mk (st := sAsRatio) l_asR c_asR k_asR
  have b_asR := F_asR.binds (ps := ["value"]) fun _ _ _ _ _ _ us hl => match us, hl with | [_], _ => rfl
  have m_asR := PySem.W.mg_of X G a_asR
  have F_mps := fun_mk (st := sMaps) l_mps c_mps k_mps
  have b_mps := F_mps.binds (ps := ["value"]) fun _ _ _ _ _ _ us hl => match us, hl with | [_], _ => rfl
  have m_mps := PySem.W.mg_of X G a_mps
  have F_jar := fun_mk (st := sJar) l_jar c_jar k_jar
  have b_jar := F_jar.binds (ps := ["_law_script", "_law_k"]) fun _ _ _ _ _ _ us hl => match us, hl with | [_, _], _ => rfl
  have m_jar := PySem.W.mg_of X G a_jar
  have F_dip := fun_mk (st := sDip) l_dip c_dip k_dip
  have b_dip := F_dip.binds (ps := ["_law_jar_here", "_law_many"]) fun _ _ _ _ _ _ us hl => match us, hl with | [_, _], _ => rfl
  have m_dip := PySem.W.mg_of X G a_dip
  have F_cho := fun_mk (st := sChoice) l_cho c_cho k_cho
  have b_cho := F_cho.binds (ps := ["_law_jar_here", "_law_some"]) fun _ _ _ _ _ _ us hl => match us, hl with | [_, _], _ => rfl
  have m_cho := PySem.W.mg_of X G a_cho
  have F_com := fun_mk (st := sCommon) l_com c_com k_com
  have b_com := F_com.binds (ps := ["_law_one", "_law_two"]) fun _ _ _ _ _ _ us hl => match us, hl with | [_, _], _ => rfl
  have m_com := PySem.W.mg_of X G a_com
  have F_low := fun_mk (st := sLowest) l_low c_low k_low
  have b_low := F_low.binds (ps := ["_law_up", "_law_low"]) fun _ _ _ _ _ _ us hl => match us, hl with | [_, _], _ => rfl
  have m_low := PySem.W.mg_of X G a_low
  have F_sum := fun_mk (st := sSum) l_sum c_sum k_sum
  have b_sum := F_sum.binds (ps := ["_law_one", "_law_two"]) fun _ _ _ _ _ _ us hl => match us, hl with | [_, _], _ => rfl
  have m_sum := PySem.W.mg_of X G a_sum
  have F_int := fun_mk (st := sInteger) l_int c_int k_int
  have b_int := F_int.binds (ps := ["_law_jar_here"]) fun _ _ _ _ _ _ us hl => match us, hl with | [_], _ => rfl
  have m_int := PySem.W.mg_of X G a_int
  have F_par := fun_mk (st := sParts) l_par c_par k_par
  have b_par := F_par.binds (ps := ["_law_jar_here"]) fun _ _ _ _ _ _ us hl => match us, hl with | [_], _ => rfl
  have m_par := PySem.W.mg_of X G a_par
  have F_nea := fun_mk (st := sNear) l_nea c_nea k_nea
  have b_nea := F_nea.binds (ps := ["_law_jar_here", "_law_pair"]) fun _ _ _ _ _ _ us hl => match us, hl with | [_, _], _ => rfl
  have m_nea := PySem.W.mg_of X G a_nea
  have F_mad := fun_mk (st := sMade) l_mad c_mad k_mad
  have b_mad := F_mad.binds (ps := ["_law_jar_here", "_law_pair"]) fun _ _ _ _ _ _ us hl => match us, hl with | [_, _], _ => rfl
  have m_mad := PySem.W.mg_of X G a_mad
  have F_two := fun_mk (st := sTwo) l_two c_two k_two
  have b_two := F_two.binds (ps := ["_law_one", "_law_pair", "_law_two", "_law_second"]) fun _ _ _ _ _ _ us hl => match us, hl with | [_, _, _, _], _ => rfl
  have m_two := PySem.W.mg_of X G a_two
  have F_who := fun_mk (st := sWhole) l_who c_who k_who
  have b_who := F_who.binds (ps := ["_law_jar_here", "_law_one", "_law_pair"]) fun _ _ _ _ _ _ us hl => match us, hl with | [_, _, _], _ => rfl
  have m_who := PySem.W.mg_of X G a_who
  have F_rgt := fun_mk (st := sRight) l_rgt c_rgt k_rgt
  have b_rgt := F_rgt.binds (ps := ["_law_jar_here"]) fun _ _ _ _ _ _ us hl => match us, hl with | [_], _ => rfl
  have m_rgt := PySem.W.mg_of X G a_rgt
  have F_law := fun_mk (st := sLaw) l_law c_law k_law
  have b_law := F_law.binds (ps := ["_law_script"]) fun _ _ _ _ _ _ us hl => match us, hl with | [_], _ => rfl
  have m_law := PySem.W.mg_of X G a_law
  have y_len := PySem.W.mg_none_of X G z_len
  have y_abs := PySem.W.mg_none_of X G z_abs
  have y_max := PySem.W.mg_none_of X G z_max
  have y_min := PySem.W.mg_none_of X G z_min
  have y_int := PySem.W.mg_none_of X G z_int
  have y_divmod := PySem.W.mg_none_of X G z_divmod
  have y_range := PySem.W.mg_none_of X G z_range
  have y_all := PySem.W.mg_none_of X G z_all
  have y_any := PySem.W.mg_none_of X G z_any
  have y_isinstance := PySem.W.mg_none_of X G z_isinstance
  have y_bool := PySem.W.mg_none_of X G z_bool
  have y_str := PySem.W.mg_none_of X G z_str
  have y_repr := PySem.W.mg_none_of X G z_repr
  have y_list := PySem.W.mg_none_of X G z_list
  have y_sorted := PySem.W.mg_none_of X G z_sorted
  have y_dict := PySem.W.mg_none_of X G z_dict
  have y_enumerate := PySem.W.mg_none_of X G z_enumerate
  have mR := PySem.W.mg_of X G a_CR
  have mF := PySem.W.mg_of X G a_CF
  have clR : Cls K CR := ⟨pg_CR, hd_CR, po_CR, sa_CR⟩
  have clF : Cls K CF := ⟨pg_CF, hd_CF, po_CF, sa_CF⟩
  have iR : InsK K CR := ⟨clR, ha_CR, hn, htk, hm_CR⟩
  have iF : InsK K CF := ⟨clF, ha_CF, hn, htk, hm_CF⟩
  have t_non := kit_tr ic_CR tc_CR u_non
  have t_bl := kit_tr ic_CR tc_CR u_bl
  have t_int := kit_tr ic_CR tc_CR u_int
  have t_str := kit_tr ic_CR tc_CR u_str
  have t_lst := kit_tr ic_CR tc_CR u_lst
  have t_tup := kit_tr ic_CR tc_CR u_tup
  have t_dct := kit_tr ic_CR tc_CR u_dct
  have kk : KI K CR := ⟨t_int, kit_rr ic_CR tc_CR sr_CR⟩
  have kr_CF : PySem.W.kitOne K (.ref CF) (.ref CR) = some false := kit_rn (fun e => by rw [e, sr_CR] at sr_CF; cases sr_CF) ic_CR tc_CR sr_CF
  have kf_CR : PySem.W.kitOne K (.ref CR) (.ref CF) = some false := kit_rn (fun e => by rw [← e, sr_CR] at srf; cases srf) ic_CF tc_CF srf
  have T : Txt mg := ⟨y_len, y_abs, y_max, y_min, y_int, y_divmod, y_range, y_all⟩
  have TN : TxtN mg CR := ⟨y_isinstance, y_int, y_bool⟩
  have TM : TxtM mg CR := ⟨y_isinstance, y_int, y_bool, y_str, y_len, mR, ⟨_, PySem.W.mg_of X G g_most⟩⟩
  have TR' : TxtR K mg CR := ⟨clR, nT, nB, mR, PySem.W.mg_of X G g_gcd, y_str, y_isinstance, sf_CR⟩
  have TF' : TxtF mg := ⟨y_isinstance, y_dict, y_all, y_sorted⟩
  have TI : TxtI K mg CF CR p_sg f_sg := ⟨clF, nN, nW, y_sorted, clR, ⟨pa_sg, pg_sg, pt_sg, _, pr_sg⟩⟩
  have TW : TxtW mg CF := ⟨y_repr, y_any, y_str, y_list, mF⟩
  have TG : TxtG mg := ⟨y_all, y_range, y_repr, y_max, y_abs, y_len, y_enumerate⟩
  have C_isI : Cl l.prog w K mg base 1 "is_integer" ["value"] (spIsInt K CR) := ⟨_, _, ok_isInt F_isI TN, m_isI, k_isI, b_isI⟩
  have C_isN : Cl l.prog w K mg base 2 "is_number" ["value"] (spIsNum K CR) := ⟨_, _, ok_isNum F_isN TM C_isI, m_isN, k_isN, b_isN⟩
  have C_isW : Cl l.prog w K mg base 1 "is_name" ["value"] (spIsName K CR) := ⟨_, _, ok_isName F_isW TM, m_isW, k_isW, b_isW⟩
  have C_mps : Cl l.prog w K mg base 3 "maps_names_to_numbers" ["value"] spMaps := ⟨_, _, ok_maps F_mps TF' C_isN C_isW t_int t_str, m_mps, k_mps, b_mps⟩
  have C_jar : Cl l.prog w K mg base 1 "_law_jar" ["_law_script", "_law_k"] (spJar K) := ⟨_, _, ok_jar F_jar T, m_jar, k_jar, b_jar⟩
  have C_dip : Cl l.prog w K mg base 1 "_law_dip" ["_law_jar_here", "_law_many"] spDip := ⟨_, _, ok_dip F_dip T, m_dip, k_dip, b_dip⟩
  have C_cho : Cl l.prog w K mg base 2 "_law_choice" ["_law_jar_here", "_law_some"] (spChoice K) := ⟨_, _, ok_choice F_cho T C_dip, m_cho, k_cho, b_cho⟩
  have C_int : Cl l.prog w K mg base 3 "_law_integer" ["_law_jar_here"] spInteger := ⟨_, _, ok_integer F_int T C_dip C_cho, m_int, k_int, b_int⟩
  have C_par : Cl l.prog w K mg base 4 "_law_parts" ["_law_jar_here"] spParts := ⟨_, _, ok_parts F_par C_int, m_par, k_par, b_par⟩
  have C_com : Cl l.prog w K mg base 1 "_law_common" ["_law_one", "_law_two"] spCommon := ⟨_, _, ok_common F_com T, m_com, k_com, b_com⟩
  have C_low : Cl l.prog w K mg base 2 "_law_lowest" ["_law_up", "_law_low"] (spLowest K) := ⟨_, _, ok_lowest F_low C_com, m_low, k_low, b_low⟩
  have C_sum : Cl l.prog w K mg base 3 "_law_sum" ["_law_one", "_law_two"] (spP2 K sumP) := ⟨_, _, ok_sum F_sum C_low, m_sum, k_sum, b_sum⟩
  have C_nea : Cl l.prog w K mg base 5 "_law_near" ["_law_jar_here", "_law_pair"] (spNear K) := ⟨_, _, ok_near F_nea C_dip C_par C_low C_sum, m_nea, k_nea, b_nea⟩
  have D_ri : FunD K "__init__" "Ratio.__init__" (defArgs sRInit) (defBody sRInit) (defScope sRInit) [.int 1] [] f_ri _ := ⟨⟨_, _, _, _, _, _, _, _, _, _, rfl, l_ri, c_ri, .inr ⟨by simp, TR, _, [.int 1 tkR], _, rfl, d_ri, rfl, .cons ⟨_, rfl⟩ .nil⟩, .inl rfl⟩, k_ri⟩
  have O_ri : FnOk l.prog w K mg base CX0 2 f_ri _ ["self", "top", "bottom"] (spRInit CR) := ok_rInit D_ri TR' C_isI kk.i
  obtain ⟨ds2, v2, b2⟩ := D_ri.binds1 (ps := ["self", "top", "bottom"]) 2 0 (by simp) (by decide) (fun T kV doc pm an cdv ct us its h1 h2 => match us, h1, its, h2 with | [_, _], _, [_], _ => ⟨_, rfl, rfl⟩)
  obtain ⟨ds3, v3, b3⟩ := D_ri.binds1 (ps := ["self", "top", "bottom"]) 3 1 (by simp) (by decide) (fun T kV doc pm an cdv ct us its h1 h2 => match us, h1, its, h2 with | [_, _, _], _, [_], _ => ⟨_, rfl, rfl⟩)
  have M_R : Mk K CR f_ri := ⟨mk_CR, a_ri, i_ri, kc_CR⟩
  have C_R2 : MkC l.prog w K mg base 2 "Ratio" CR ["self", "top", "bottom"] [.int 1] (spRInit CR) := ⟨_, _, _, M_R, O_ri, mR, v2, b2⟩
  have C_R3 : MkC l.prog w K mg base 2 "Ratio" CR ["self", "top", "bottom"] [] (spRInit CR) := ⟨_, _, _, M_R, O_ri, mR, v3, b3⟩
  have C_asR : Cl l.prog w K mg base 4 "as_ratio" ["value"] (spAsRatio CR) := ⟨_, _, ok_asRatio F_asR TR' C_R2 iR kk, m_asR, k_asR, b_asR⟩
  have F_rs := fun_mk (st := sRStr) l_rs c_rs k_rs
  have b_rs := F_rs.binds (ps := ["self"]) fun _ _ _ _ _ _ us hl => match us, hl with | [_], _ => rfl
  have F_rr := fun_mk (st := sRRepr) l_rr c_rr k_rr
  have b_rr := F_rr.binds (ps := ["self"]) fun _ _ _ _ _ _ us hl => match us, hl with | [_], _ => rfl
  have F_rb := fun_mk (st := sRBelow) l_rb c_rb k_rb
  have b_rb := F_rb.binds (ps := ["self", "other"]) fun _ _ _ _ _ _ us hl => match us, hl with | [_, _], _ => rfl
  have F_re := fun_mk (st := sREq) l_re c_re k_re
  have b_re := F_re.binds (ps := ["self", "other"]) fun _ _ _ _ _ _ us hl => match us, hl with | [_, _], _ => rfl
  have F_fe := fun_mk (st := sFEq) l_fe c_fe k_fe
  have b_fe := F_fe.binds (ps := ["self", "other"]) fun _ _ _ _ _ _ us hl => match us, hl with | [_, _], _ => rfl
  have F_tp := fun_mk (st := sRTop) l_tp c_tp k_tp
  have b_tp := F_tp.binds (ps := ["self"]) fun _ _ _ _ _ _ us hl => match us, hl with | [_], _ => rfl
  have F_bt := fun_mk (st := sRBottom) l_bt c_bt k_bt
  have b_bt := F_bt.binds (ps := ["self"]) fun _ _ _ _ _ _ us hl => match us, hl with | [_], _ => rfl
  have F_sg := fun_mk (st := sRSign) l_sg c_sg k_sg
  have b_sg := F_sg.binds (ps := ["self"]) fun _ _ _ _ _ _ us hl => match us, hl with | [_], _ => rfl
  have P_tp : Pr l.prog w K mg base CR "top" (spRTop CR) := ⟨p_tp, f_tp, _, ⟨pa_tp, pg_tp, pt_tp, _, pr_tp⟩, ok_rTop F_tp TR', b_tp⟩
  have P_bt : Pr l.prog w K mg base CR "bottom" (spRBot CR) := ⟨p_bt, f_bt, _, ⟨pa_bt, pg_bt, pt_bt, _, pr_bt⟩, ok_rBot F_bt TR', b_bt⟩
  have P_sg : Pr l.prog w K mg base CR "sign" (spRSign CR) := ⟨p_sg, f_sg, _, ⟨pa_sg, pg_sg, pt_sg, _, pr_sg⟩, ok_rSign F_sg TR', b_sg⟩
  have S_rs : Sl l.prog w K mg base CR "__str__" 1 (spRStr CR) := ⟨_, _, _, ok_rStr F_rs TR' nd, b_rs, a_rs, i_rs⟩
  have S_rr : Sl l.prog w K mg base CR "__repr__" 1 (spRRepr CR) := ⟨_, _, _, ok_rRepr F_rr TR' nd, b_rr, a_rr, i_rr⟩
  have S_re : Sl l.prog w K mg base CR "__eq__" 1 (spREq K CR) := ⟨_, _, _, ok_rEq F_re TR' iR kk, b_re, a_re, i_re⟩
  have S_fe : Sl l.prog w K mg base CF "__eq__" 1 (spFEq K CF) := ⟨_, _, _, ok_fEq F_fe y_isinstance mF, b_fe, a_fe, i_fe⟩
  have N_rb : MeN l.prog w K mg base 5 CR "is_below" ["other"] (spBelow CR) := ⟨f_rb, _, ["self", "other"], ⟨a_rb, i_rb, k_rb⟩, ok_rBelow F_rb TR' C_asR P_tp P_bt, b_rb, rfl, fun s a ws hl => match ws, hl with | [_], _ => .of_eq rfl⟩
  have nfR : PySem.W.notFirst K CR (.ref CR) = true := by unfold PySem.W.notFirst; simp
  have nfI : PySem.W.notFirst K CR (.type "int") = true := by unfold PySem.W.notFirst; rw [u_int]; simp
  have nfF : PySem.W.notFirst K CR (.ref CF) = true := by unfold PySem.W.notFirst; rw [sr_CF]; simp
  have nFR : PySem.W.notFirst K CF (.ref CR) = true := by unfold PySem.W.notFirst; rw [srf]; simp
  have RC' : RC l.prog w K mg base CR := ⟨S_re, ne_CR, so_CR, nfR, N_rb, clR, iR⟩
  have D_fi : FunD K "__init__" "Form.__init__" (defArgs sFInit) (defBody sFInit) (defScope sFInit) [.non, .int 0] [] f_fi _ := ⟨⟨_, _, _, _, _, _, _, _, _, _, rfl, l_fi, c_fi, .inr ⟨by simp, TF, _, [.none, .int 0 tkF], _, rfl, d_fi, rfl, .cons rfl (.cons ⟨_, rfl⟩ .nil)⟩, .inl rfl⟩, k_fi⟩
  have O_fi : FnOk l.prog w K mg base CX0 5 f_fi _ ["self", "weights", "number"] (spFInit CF CR) := ok_fInit D_fi TI C_mps C_asR (ok_rSign F_sg TR') b_sg
  obtain ⟨ds4, v4, b4⟩ := D_fi.binds1 (ps := ["self", "weights", "number"]) 2 1 (by simp) (by decide) (fun T kV doc pm an cdv ct us its h1 h2 => match us, h1, its, h2 with | [_, _], _, [_, _], _ => ⟨_, rfl, rfl⟩)
  obtain ⟨ds5, v5, b5⟩ := D_fi.binds1 (ps := ["self", "weights", "number"]) 3 2 (by simp) (by decide) (fun T kV doc pm an cdv ct us its h1 h2 => match us, h1, its, h2 with | [_, _, _], _, [_, _], _ => ⟨_, rfl, rfl⟩)
  have M_F : Mk K CF f_fi := ⟨mk_CF, a_fi, i_fi, kc_CF⟩
  have C_F2 : MkC l.prog w K mg base 5 "Form" CF ["self", "weights", "number"] [.int 0] (spFInit CF CR) := ⟨_, _, _, M_F, O_fi, mF, v4, b4⟩
  have C_F3 : MkC l.prog w K mg base 5 "Form" CF ["self", "weights", "number"] [] (spFInit CF CR) := ⟨_, _, _, M_F, O_fi, mF, v5, b5⟩
  have O_of := ok_fOf (P := l.prog) (w := w) (mg := mg) (base := base) (CF := CF) l_of c_of C_isW C_F2 t_str
  have hO := odd_mk (CR := CR) iF (fun T hT => by
    simp only [List.mem_cons, List.not_mem_nil, or_false] at hT
    rcases hT with rfl | rfl | rfl | rfl | rfl | rfl
    · exact ⟨t_non, u_non, v_non⟩
    · exact ⟨t_bl, u_bl, v_bl⟩
    · exact ⟨t_str, u_str, v_str⟩
    · exact ⟨t_lst, u_lst, v_lst⟩
    · exact ⟨t_tup, u_tup, v_tup⟩
    · exact ⟨t_dct, u_dct, v_dct⟩) kr_CF nfF
  have C_mad : Cl l.prog w K mg base 4 "_law_made" ["_law_jar_here", "_law_pair"] (spMade K CR) := ⟨_, _, ok_made F_mad T C_cho C_R3, m_mad, k_mad, b_mad⟩
  have C_two : ClG l.prog w K mg base 7 "_law_two_right" (spTwo K CR) := ⟨_, ok_two F_two b_two RC' y_repr, m_two, k_two⟩
  have C_who : ClG l.prog w K mg base 9 "_law_whole_right" (spWhole K CR) := ⟨_, ok_whole F_who b_who RC' TW kk C_int C_R2 nfI v_int S_rs S_rr S_fe iF C_F3 O_of ⟨o_rd, o_ga⟩ ⟨o_at, ⟨_, o_rec⟩, o_fi⟩ hO nFR kf_CR, m_who, k_who⟩
  have C_rgt : ClG l.prog w K mg base 10 "_law_right" spRight := ⟨_, ok_right F_rgt b_rgt TG RC' C_low C_nea C_mad C_two C_who, m_rgt, k_rgt⟩
  exact ok_law F_law b_law T C_jar C_rgt
end Cm
end

open PySem PySem.W PyProof.Rows
set_option maxRecDepth 100000 in
set_option maxHeartbeats 0 in
theorem PySem.Challenge.cw_calledmidway_k12_ratios_compared_holds : PySem.Challenge.rw_calledmidway_k12_ratios_compared.Holds := by
  w_on; o_law; k_head; (case hw => w_witness2)
  k_fill
  refine KG.walk_ofG (l := PySem.Challenge.rw_calledmidway_k12_ratios_compared) (n := 63) (k := 11) (sp := Cm.spLaw) rfl (by decide) rfl ⟨rfl, by decide, by decide⟩ (fun w h Y => PySem.W.kIn_of Y) ?F (fun K H a ns hl _ hS => ⟨a, ns, rfl, hS, hl, fun _ => rfl⟩)
  case F =>
    intro w mg fa h KX G hmg
    refine' Cm.all_mk KX G hmg ?a_isI ?l_isI ?c_isI ?k_isI ?a_isN ?l_isN ?c_isN ?k_isN ?a_isW ?l_isW ?c_isW ?k_isW ?a_asR ?l_asR ?c_asR ?k_asR ?a_mps ?l_mps ?c_mps ?k_mps ?a_jar ?l_jar ?c_jar ?k_jar ?a_dip ?l_dip ?c_dip ?k_dip ?a_cho ?l_cho ?c_cho ?k_cho ?a_com ?l_com ?c_com ?k_com ?a_low ?l_low ?c_low ?k_low ?a_sum ?l_sum ?c_sum ?k_sum ?a_int ?l_int ?c_int ?k_int ?a_par ?l_par ?c_par ?k_par ?a_nea ?l_nea ?c_nea ?k_nea ?a_mad ?l_mad ?c_mad ?k_mad ?a_two ?l_two ?c_two ?k_two ?a_who ?l_who ?c_who ?k_who ?a_rgt ?l_rgt ?c_rgt ?k_rgt ?a_law ?l_law ?c_law ?k_law ?a_CR ?pg_CR ?hd_CR ?po_CR ?sa_CR ?mk_CR ?kc_CR ?ha_CR ?hm_CR ?ic_CR ?tc_CR ?sr_CR ?a_CF ?pg_CF ?hd_CF ?po_CF ?sa_CF ?mk_CF ?kc_CF ?ha_CF ?hm_CF ?ic_CF ?tc_CF ?sr_CF ?srf ?sf_CR ?so_CR ?ne_CR ?u_non ?v_non ?u_bl ?v_bl ?u_int ?v_int ?u_str ?v_str ?u_lst ?v_lst ?u_tup ?v_tup ?u_dct ?v_dct ?hn ?htk ?nT ?nB ?nN ?nW ?a_ri ?i_ri ?l_ri ?c_ri ?k_ri ?d_ri ?a_fi ?i_fi ?l_fi ?c_fi ?k_fi ?d_fi ?a_rs ?i_rs ?l_rs ?c_rs ?k_rs ?a_rr ?i_rr ?l_rr ?c_rr ?k_rr ?a_rb ?i_rb ?l_rb ?c_rb ?k_rb ?a_re ?i_re ?l_re ?c_re ?k_re ?a_fe ?i_fe ?l_fe ?c_fe ?k_fe ?pa_tp ?pg_tp ?pt_tp ?pr_tp ?l_tp ?c_tp ?k_tp ?pa_bt ?pg_bt ?pt_bt ?pr_bt ?l_bt ?c_bt ?k_bt ?pa_sg ?pg_sg ?pt_sg ?pr_sg ?l_sg ?c_sg ?k_sg ?o_rd ?o_ga ?o_at ?o_rec ?o_fi ?l_of ?c_of ?k_of ?g_gcd ?g_most ?z_len ?z_abs ?z_max ?z_min ?z_int ?z_divmod ?z_range ?z_all ?z_any ?z_isinstance ?z_bool ?z_str ?z_repr ?z_list ?z_sorted ?z_dict ?z_enumerate
    (case a_isI => k_is)
    (case l_isI => k_is)
    (case c_isI => k_is)
    (case k_isI => k_is)
    (case a_isN => k_is)
    (case l_isN => k_is)
    (case c_isN => k_is)
    (case k_isN => k_is)
    (case a_isW => k_is)
    (case l_isW => k_is)
    (case c_isW => k_is)
    (case k_isW => k_is)
    (case a_asR => k_is)
    (case l_asR => k_is)
    (case c_asR => k_is)
    (case k_asR => k_is)
    (case a_mps => k_is)
    (case l_mps => k_is)
    (case c_mps => k_is)
    (case k_mps => k_is)
    (case a_jar => k_is)
    (case l_jar => k_is)
    (case c_jar => k_is)
    (case k_jar => k_is)
    (case a_dip => k_is)
    (case l_dip => k_is)
    (case c_dip => k_is)
    (case k_dip => k_is)
    (case a_cho => k_is)
    (case l_cho => k_is)
    (case c_cho => k_is)
    (case k_cho => k_is)
    (case a_com => k_is)
    (case l_com => k_is)
    (case c_com => k_is)
    (case k_com => k_is)
    (case a_low => k_is)
    (case l_low => k_is)
    (case c_low => k_is)
    (case k_low => k_is)
    (case a_sum => k_is)
    (case l_sum => k_is)
    (case c_sum => k_is)
    (case k_sum => k_is)
    (case a_int => k_is)
    (case l_int => k_is)
    (case c_int => k_is)
    (case k_int => k_is)
    (case a_par => k_is)
    (case l_par => k_is)
    (case c_par => k_is)
    (case k_par => k_is)
    (case a_nea => k_is)
    (case l_nea => k_is)
    (case c_nea => k_is)
    (case k_nea => k_is)
    (case a_mad => k_is)
    (case l_mad => k_is)
    (case c_mad => k_is)
    (case k_mad => k_is)
    (case a_two => k_is)
    (case l_two => k_is)
    (case c_two => k_is)
    (case k_two => k_is)
    (case a_who => k_is)
    (case l_who => k_is)
    (case c_who => k_is)
    (case k_who => k_is)
    (case a_rgt => k_is)
    (case l_rgt => k_is)
    (case c_rgt => k_is)
    (case k_rgt => k_is)
    (case a_law => k_is)
    (case l_law => k_is)
    (case c_law => k_is)
    (case k_law => k_is)
    (case a_CR => k_is)
    (case pg_CR => k_is)
    (case hd_CR => k_is)
    (case po_CR => k_is)
    (case sa_CR => k_is)
    (case mk_CR => k_is)
    (case kc_CR => k_is)
    (case ha_CR => k_is)
    (case hm_CR => k_is)
    (case ic_CR => k_is)
    (case tc_CR => k_is)
    (case sr_CR => k_is)
    (case a_CF => k_is)
    (case pg_CF => k_is)
    (case hd_CF => k_is)
    (case po_CF => k_is)
    (case sa_CF => k_is)
    (case mk_CF => k_is)
    (case kc_CF => k_is)
    (case ha_CF => k_is)
    (case hm_CF => k_is)
    (case ic_CF => k_is)
    (case tc_CF => k_is)
    (case sr_CF => k_is)
    (case srf => k_is)
    (case sf_CR => k_is)
    (case so_CR => k_is)
    (case ne_CR => k_is)
    (case u_non => k_is)
    (case v_non => k_is)
    (case u_bl => k_is)
    (case v_bl => k_is)
    (case u_int => k_is)
    (case v_int => k_is)
    (case u_str => k_is)
    (case v_str => k_is)
    (case u_lst => k_is)
    (case v_lst => k_is)
    (case u_tup => k_is)
    (case v_tup => k_is)
    (case u_dct => k_is)
    (case v_dct => k_is)
    (case hn => k_is)
    (case htk => k_is)
    (case nT => k_is)
    (case nB => k_is)
    (case nN => k_is)
    (case nW => k_is)
    (case a_ri => k_is)
    (case i_ri => k_is)
    (case l_ri => k_is)
    (case c_ri => k_is)
    (case k_ri => k_is)
    (case d_ri => k_is)
    (case a_fi => k_is)
    (case i_fi => k_is)
    (case l_fi => k_is)
    (case c_fi => k_is)
    (case k_fi => k_is)
    (case d_fi => k_is)
    (case a_rs => k_is)
    (case i_rs => k_is)
    (case l_rs => k_is)
    (case c_rs => k_is)
    (case k_rs => k_is)
    (case a_rr => k_is)
    (case i_rr => k_is)
    (case l_rr => k_is)
    (case c_rr => k_is)
    (case k_rr => k_is)
    (case a_rb => k_is)
    (case i_rb => k_is)
    (case l_rb => k_is)
    (case c_rb => k_is)
    (case k_rb => k_is)
    (case a_re => k_is)
    (case i_re => k_is)
    (case l_re => k_is)
    (case c_re => k_is)
    (case k_re => k_is)
    (case a_fe => k_is)
    (case i_fe => k_is)
    (case l_fe => k_is)
    (case c_fe => k_is)
    (case k_fe => k_is)
    (case pa_tp => k_is)
    (case pg_tp => k_is)
    (case pt_tp => k_is)
    (case pr_tp => k_is)
    (case l_tp => k_is)
    (case c_tp => k_is)
    (case k_tp => k_is)
    (case pa_bt => k_is)
    (case pg_bt => k_is)
    (case pt_bt => k_is)
    (case pr_bt => k_is)
    (case l_bt => k_is)
    (case c_bt => k_is)
    (case k_bt => k_is)
    (case pa_sg => k_is)
    (case pg_sg => k_is)
    (case pt_sg => k_is)
    (case pr_sg => k_is)
    (case l_sg => k_is)
    (case c_sg => k_is)
    (case k_sg => k_is)
    (case o_rd => k_is)
    (case o_ga => k_is)
    (case o_at => k_is)
    (case o_rec => k_is)
    (case o_fi => k_is)
    (case l_of => k_is)
    (case c_of => k_is)
    (case k_of => k_is)
    (case g_gcd => k_is)
    (case g_most => k_is)
    (case z_len => k_is)
    (case z_abs => k_is)
    (case z_max => k_is)
    (case z_min => k_is)
    (case z_int => k_is)
    (case z_divmod => k_is)
    (case z_range => k_is)
    (case z_all => k_is)
    (case z_any => k_is)
    (case z_isinstance => k_is)
    (case z_bool => k_is)
    (case z_str => k_is)
    (case z_repr => k_is)
    (case z_list => k_is)
    (case z_sorted => k_is)
    (case z_dict => k_is)
    (case z_enumerate => k_is)
