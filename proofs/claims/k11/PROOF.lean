import PyProof.Rows.All
import Wide.All
import OpenK.AllK
import Wide.FinOn
import HandS.ForMost
import HandS.More
import HandS.Wide
import HandS.WideBits
import HandS.Defaults
import HandS.IsInst
import HandS.Gcd
import HandS.Star
import HandS.ClsMeth
import HandS.Property
import HandS.DictComp
import HandS.StrMore
import HandS.FStr
import KE.KCallOwn
import HandS.OwnEq
import HandS.MakeKw
import HandS.Codes
import HandS.Walk
import HandS.RaiseMore
import HandS.Style
import PySem.Challenge.RW_calledmidway_k11_whole_ratios_by_rows_of
set_option Elab.async false
set_option linter.all false
set_option maxRecDepth 100000

/-! ## KG -/
section
/-! A layer of our own over the hand layer: defs whose calls know that no repr is under way. -/
namespace KG
open PySem PySem.Spec PyProof.Rows L2

/-- the positional promise of a def, where nothing is being shown around it -/
def FnG (P : Program) (w : World) (K : PySem.W.Frag) (mg : Str → Option Value) (base : Heap)
    (k : Nat) (f : Addr) (sp : Sp) : Prop :=
  ∀ (A : Around) (outer : List Env) (s : Shared) (H : Hp) (us : List Value) (vs : List V) (Q : VK) (E : XK),
    Room k A → A.guards = some [] → Env0 P w K mg base A outer s H → Vals vs us → sp vs H Q E →
      codeAny (model P w) A (.call (.ref f) ⟨us, []⟩) (CR CX0 outer P w H s Q E) s

theorem FnG.ofR {P : Program} {w : World} {K : PySem.W.Frag} {mg : Str → Option Value} {base : Heap}
    {k : Nat} {f : Addr} {sp : Sp} (F : FnR P w K mg base CX0 k f sp) : FnG P w K mg base k f sp :=
  fun A outer s H us vs Q E hr _ e r h => F A outer s H us vs Q E hr e r h

/-- a def's promise by its body, the guards being known -/
theorem fnG_of {P : Program} {w : World} {K : PySem.W.Frag} {mg : Str → Option Value} {base : Heap}
    {x qual : Str} {st : Stmt} {f : Addr} {fd : FuncData} {N ps : List Str} {k : Nat} {sp : Sp}
    (F : Fun K x qual st f fd) (S : FnScope N ps (defScope st)) (B : Binds K fd ps [])
    (len : ∀ vs H Q E, sp vs H Q E → vs.length = ps.length)
    (body : ∀ (cdv : Value) (A : Around) (outer : List Env) (s : Shared) (H : Hp) (vs : List V) (Q : VK) (E : XK),
      Room k (A.deeper (envOfC qual (defScope st) s.heap.objs.size f cdv)) → A.guards = some [] → sp vs H Q E →
      ∃ t, PSs (cxOf CX0 P w K mg base N qual (defScope st) f cdv A outer s H E).nox (defBody st) t ∧
        t { nx := fun _ H' => Q .non H', rt := Q } (start N vs) H) : FnG P w K mg base (k + 1) f sp := by
  intro A outer s H us vs Q E hr hg e0 r hsp
  obtain ⟨oc, od, kV, doc, pm, an, cdv, ct, osl, efd, lk, hcd⟩ := F.ex
  have inK : K.In s.heap := e0.mod.kin.keeps fun b o e => (e0.bs b o e).1
  have noLim : s.heap.NoLimit := e0.mod.nolimit.keeps fun b o e => (e0.bs b o e).1
  have hlen : us.length = ps.length := by rw [← r.length]; exact len _ _ _ _ hsp
  have hb := B s us inK (by simpa using hlen)
  rw [List.append_nil] at hb
  subst efd
  have kinds : ∀ y ∈ ps.zip us, (defScope st).names.lookup y.1 = some .local ∨
      ((defScope st).names.lookup y.1 = some .cell ∧
        ((cellsFrom (s.heap.objs.size + 1) (defScope st).names []).lookup y.1).isSome = true) := by
    rintro ⟨n, v⟩ hy
    cases S.par n (List.of_mem_zip hy).1 with
    | inl q => exact .inl q
    | inr q => exact .inr ⟨q, PySem.W.cellsFrom_some _ _ _ (.inl q)⟩
  refine codeAny_call_function hr.depth (inK _ _ lk) rfl S.co S.gen rfl (PySem.W.codeRec_of inK hcd)
    (hb _ _ _ _ ?_)
  refine wpAny_newFunctionEnv_cells S.kind kinds ?_
  rintro env rfl s1 y
  refine ⟨noLim.keeps y.toInCall.keep, codeAny_func ?_⟩
  obtain ⟨t, ht, hq⟩ := body cdv A outer s H vs Q E (hr.deeper _) hg hsp
  have J := inv_start (CX := CX0) (E := E) S hr.hd e0 (len _ _ _ _ hsp) r y
  refine wpAny_mono (ht.nox.run [] s1 (start N vs) H _ J hq) ?_ (fun _ _ z => z)
  intro fl s' done
  cases fl with
  | ret u =>
    obtain ⟨v, σ', H', I', rv, q⟩ := done
    exact ⟨v, H', I'.os, I'.bare, I'.base, I'.hok, rv, q⟩
  | next =>
    obtain ⟨σ', H', I', q⟩ := done
    exact ⟨V.non, H', I'.os, I'.bare, I'.base, I'.hok, rfl, q⟩
  | brk => exact done.elim fun _ z => z.elim fun _ z => z.2.elim
  | cont => exact done.elim fun _ z => z.elim fun _ z => z.2.elim

section
variable {X : Cx} {k : Nat} {f : Addr} {sp : Sp} {x : Str} {p pos : Pos} {e : Expr} {es : List Expr} {t : TA}

theorem run_fnG {pins : List (Addr × Obj)} {σ : L2.St} {H : Hp} {s : Shared} {Q : VK} {us : List Value} {vs : List V}
    (F : FnG X.prog X.w X.K X.mg X.base k f sp) (hr : Room k X.A) (hg : X.A.guards = some [])
    (I : Inv X pins σ H s) (r : Vals vs us) (h : sp vs H Q E0) :
    wpAny (model X.prog X.w) X.A (call (.ref f) us) (EP X pins σ Q) X.xe s := by
  refine wpAny_call (codeAny_mono (F X.A X.stack s H us vs Q E0 hr hg I.env0 r h) ?_)
  intro res s' q
  cases res with
  | error e => exact q.elim
  | ok fl =>
    cases fl with
    | ret u => exact I.after q
    | next => exact q.elim
    | brk => exact q.elim
    | cont => exact q.elim

/-- a def's promise asked of the values of t -/
def tK (sp : Sp) (t : TA) : TE := fun σ H Q => t σ H fun vs H1 => sp vs H1 Q E0
/-- f(e, ..) of such a def -/
theorem pe_callG (F : FnG X.prog X.w X.K X.mg X.base k f sp) (hr : Room k X.A) (hg : X.A.guards = some [])
    (gl : Gl X x) (hm : X.mg x = some (.ref f)) (hk : PySem.W.keepIn X.K (.ref f) = true) (ha : PA X (e :: es) t)
    (hdb : (x == ("__debug__" : Str)) = false := by decide)
    (he : starEach (e :: es) X.env = (false, eval e X.env) :: starEach es X.env := by rfl)
    (hpl : (backTo pos (starEach es X.env)).any (·.1) = false := by rfl) :
    PE X (.Call (.Name x p) (e :: es) [] pos) (tK sp t) := by
  constructor
  intro pins s σ H Q I h
  refine wpAny_Call_Name_kw (ld_glob I gl hm ?_ hdb)
  refine PySem.W.callWith_K (h₀ := X.base) I.ok.mod.kin hk ?_ he hpl
  refine thn (ha.run pos pins s σ H _ I h) ?_
  rintro us s1 ⟨vs, H1, I1, r, q⟩
  exact ⟨I1.kIn, run_fnG F hr hg I1 r q⟩

/-- repr of a list or tuple of plain data -/
theorem call_reprD (hg : X.A.guards = some []) (hu : X.A.units + 64 < cLine) :
    CallR X (.builtin "repr") (fun xs H Q => ∃ (a : Addr) (d : PyData), xs = [.ref a] ∧ Dp X.K H (.ref a) d ∧
      d.showable = true ∧ d.hasDict = false ∧ d.depth ≤ 62 ∧ d.shown.length ≤ sizeLine ∧ Q (.str d.shown) H) := by
  intro pins s σ H xs us Q I r h
  obtain ⟨a, d, rfl, hd, hs, hn, hdp, hz, q⟩ := h
  obtain ⟨u, rfl, ru⟩ := vals1 r
  obtain ⟨as, rd⟩ := Dp.reads I d _ _ hd ru
  cases ru
  exact repr_of_reads' rd hs (PyData.noDict_hsm hn) hg (by omega) (fun _ _ z => z)
    (fun h' u tk kp => ⟨.str _, H, I.kept (t' := tk) kp, ⟨_, rfl⟩, q⟩) hz
end
end KG
end

/-! ## KG2 -/
section
namespace KG
open PySem PySem.Spec PyProof.Rows L2

theorem guards_caller : (callerA).guards = some [] := by rfl

/-- the promise of the law's def, met at the head's heap under the tracking H -/
theorem lawG_core {P : Program} {w : World} {K : PySem.W.Frag} {mg mb : Str → Option Value} {k : Nat} {fa a : Addr}
    {sp : Sp} {s1 : Shared} {vs : List Value} {H : Hp}
    (inK : K.In s1.heap) (gl : s1.heap.Ns mainGlobals mg) (bl : s1.heap.Ns builtinsNs mb)
    (bb : ∀ y : Str, y ≠ "__name__" → mb y = bootBuiltins y) (nl : s1.heap.NoLimit) (nd : s1.heap.NoDigits) (g0 : s1.gens = #[])
    (at_ : s1.heap.get? a = some { cls := .type "list", data := .seq vs.toArray }) (rm : Room k callerA)
    (F : ∀ base : Heap, K.In base → base.Ns mainGlobals mg → base.NoDigits → FnG P w K mg base k fa sp)
    (only : Only H) (one : ∀ b u, H b = some u → b = a) (nK : ∀ u, H a = some u → K.lookup a = none) (ok : HOk P w H s1.heap)
    (say : sp [.ref a] H (fun v _ => v = .bl true) E0) :
    codeAny (model P w) callerA (.call (.ref fa) ⟨[.ref a], []⟩)
      (fun r s2 => r = .ok (.ret (.bool true)) ∧ OldK s1.heap s2.heap ∧ s2.os = s1.os ∧ AllBare s2.gens) s1 := by
  have dictFree : ∀ {b : Addr} {o : Obj} {es : Array DictEntry} {ep : Nat},
      s1.heap.get? b = some o → o.data = .dict es ep → H b = none := by
    intro b o es ep eo ed
    cases hb : H b with
    | none => rfl
    | some u =>
      have eb := one b u hb
      rw [eb, at_] at eo
      injection eo with eo
      rw [← eo] at ed
      exact absurd ed (by intro z; cases z)
  have nsB : ∀ {b : Addr} {m : Str → Option Value}, s1.heap.Ns b m → (hidT s1.heap H).Ns b m := by
    rintro b m ⟨o, es, ep, eo, ed, rest⟩
    exact ⟨o, es, ep, hidT_get eo (dictFree eo ed), ed, rest⟩
  have inB : K.In (hidT s1.heap H) := by
    intro b o eb
    refine hidT_get (inK b o eb) ?_
    cases hb : H b with
    | none => rfl
    | some u =>
      have e1 := one b u hb
      subst e1
      rw [nK u hb] at eb
      cases eb
  have modB : Mod K mg (hidT s1.heap H) := by
    obtain ⟨mc, c1, c2⟩ := nl
    exact ⟨inB, nsB gl, ⟨mb, nsB bl, bb⟩, mc, nsB c1, c2⟩
  have ndB : (hidT s1.heap H).NoDigits := by
    obtain ⟨mc, c1, c2⟩ := nd
    exact ⟨mc, nsB c1, c2⟩
  have env : Env0 P w K mg (hidT s1.heap H) callerA [] s1 H := by
    refine ⟨rfl, modB, fun b o z => of_hidT z, Nat.le_of_eq (hidT_size _ _), trivial, ?_, ok, .of_eq g0⟩
    intro b hb
    cases (show b ∈ ([] : List Addr) from hb)
  refine codeAny_mono (F _ inB (nsB gl) ndB callerA [] s1 H [.ref a] [.ref a] _ E0 rm guards_caller env (.cons rfl .nil) say) ?_
  intro r s2 z
  cases r with
  | error e => exact z.elim
  | ok fl =>
    cases fl with
    | next => exact z.elim
    | brk => exact z.elim
    | cont => exact z.elim
    | ret u =>
      obtain ⟨v, H2, eos, bare, un, ok2, rv, ev⟩ := z
      have ev' : v = .bl true := ev
      subst ev'
      cases rv
      refine ⟨rfl, OldK.of_keep ?_, eos, bare⟩
      intro b o eo
      cases hb : H b with
      | none =>
        refine un.keep b o eo hb ?_ ?_
        · intro z; cases (show b ∈ ([] : List Addr) from z)
        · intro z; cases z
      | some u2 =>
        cases only b with
        | inl z => rw [hb] at z; cases z
        | inr z =>
          obtain ⟨ob, xs, z⟩ := z
          have m1 := (ok b _ z).1
          have m2 := (ok2 b _ (un.frzs b ob _ z)).1
          rw [eo] at m1
          injection m1 with m1
          rw [m1]
          exact m2

theorem lawG {P : Program} {w : World} {K : PySem.W.Frag} {mg mb : Str → Option Value} {k : Nat} {fa a : Addr}
    {sp : Sp} {s1 : Shared} {vs : List Value} {ns : List Int}
    (inK : K.In s1.heap) (gl : s1.heap.Ns mainGlobals mg) (bl : s1.heap.Ns builtinsNs mb)
    (bb : ∀ y : Str, y ≠ "__name__" → mb y = bootBuiltins y) (nl : s1.heap.NoLimit) (nd : s1.heap.NoDigits) (g0 : s1.gens = #[])
    (at_ : s1.heap.get? a = some { cls := .type "list", data := .seq vs.toArray }) (hi : IntsAre vs ns)
    (hz : ns.length ≤ sizeLine) (rm : Room k callerA)
    (F : ∀ base : Heap, K.In base → base.Ns mainGlobals mg → base.NoDigits → FnG P w K mg base k fa sp)
    (say : ∀ H : Hp, Only H → SqL K H a (ns.map V.int) → sp [.ref a] H (fun v _ => v = .bl true) E0) :
    codeAny (model P w) callerA (.call (.ref fa) ⟨[.ref a], []⟩)
      (fun r s2 => r = .ok (.ret (.bool true)) ∧ OldK s1.heap s2.heap ∧ s2.os = s1.os ∧ AllBare s2.gens) s1 := by
  have rv := vals_ints hi
  have same := hi.length
  cases hk : K.lookup a with
  | some o =>
    have eo := inK a o hk
    rw [at_] at eo
    injection eo with eo
    subst eo
    have none_ : Only (fun _ => none) := fun _ => .inl rfl
    refine lawG_core inK gl bl bb nl nd g0 at_ rm F (H := fun _ => none) none_ (fun b u z => by cases z) (fun u z => by cases z) (fun b u z => by cases z) (say _ none_ ?_)
    refine .inr ⟨_, vs.toArray, _, hk, rfl, rfl, rfl, ?_, ?_⟩
    · rw [List.size_toArray, same]; exact hz
    · simpa using rv
  | none =>
    let fr : HO := .frz { cls := .type "list", data := .seq vs.toArray } (.lst (ns.map V.int))
    let H1 : Hp := fun b => if b = a then some fr else none
    have hA : H1 a = some fr := if_pos rfl
    have hO : ∀ b u, H1 b = some u → b = a ∧ u = fr := by
      intro b u z
      by_cases e : b = a
      · refine ⟨e, ?_⟩
        have z2 := (if_pos e).symm.trans z
        injection z2 with z2
        exact z2.symm
      · have z2 := (if_neg e).symm.trans z
        cases z2
    have only : Only H1 := by
      intro b
      by_cases e : b = a
      · exact .inr ⟨_, _, if_pos e⟩
      · exact .inl (if_neg e)
    refine lawG_core inK gl bl bb nl nd g0 at_ rm F only (fun b u z => (hO b u z).1) (fun _ _ => hk) ?_ (say H1 only (.inl (.inr ⟨_, hA⟩)))
    intro b u z
    obtain ⟨e1, e2⟩ := hO b u z
    subst e1
    subst e2
    exact ⟨at_, by rw [List.length_map]; exact hz, vs, _, rv, at_⟩

theorem walk_ofG {l : PySem.W.OpenLaw} {n k : Nat} {q : Program} {loose : List Str}
    {XP : (Str → Option Value) → Heap → Prop} {YP : World → Heap → Prop} {d : DefRec} {K : Params → PySem.W.Frag} {sp : PySem.W.Frag → Sp}
    (hn : l.most = some n) (hn2 : n ≤ sizeLine) (hdf : d.params.defaults = []) (rm : Room k callerA)
    (hY : ∀ (w : World) (h : Heap), YP w h → (K w.params).In h)
    (F : ∀ (w : World) (mg : Str → Option Value) (fa : Addr) (h : Heap), (K w.params).In h → h.Ns mainGlobals mg →
      mg d.name = some (.ref fa) → ∀ base : Heap, (K w.params).In base → base.Ns mainGlobals mg → base.NoDigits →
        FnG l.prog w (K w.params) mg base k fa (sp (K w.params)))
    (say : ∀ (K : PySem.W.Frag) (H : Hp) (a : Addr) (ns : List Int), ns.length ≤ n → Only H →
      SqL K H a (ns.map V.int) → sp K [.ref a] H (fun v _ => v = .bl true) E0) :
    PySem.W.WalkO q loose XP YP l.row.toRowW d [] (fun f vs => PySem.call f vs) := by
  refine Att.attach_call hn hdf ?_
  intro w s0 s1 mg mb fa o pm cd doc a vs ns G Y ho hd hcd hmg hobj hints hlen hg
  have inK := hY w _ Y
  exact lawG inK G.T.g G.T.b G.T.builtins G.T.nolimit G.T.nodigits hg hobj hints (Nat.le_trans hlen hn2) rm
    (F w mg fa _ inK G.T.g hmg) fun H h1 h2 => say _ H a ns hlen h1 h2
end KG
end

/-! ## Op -/
section
/-! Operators of own classes, among themselves and with ints on either side; texts of great ints; division of great ints. -/
namespace KG
open PySem PySem.Spec PyProof.Rows L2

@[irreducible] def Big : Nat := 2 ^ 12900
theorem big_eq : Big = 2 ^ 12900 := by unfold Big; rfl
theorem big_dig : Big ≤ 10 ^ 4300 := by rw [big_eq]; exact pow_lo
theorem big_of {n k : Nat} (h : n < 2 ^ k) (hk : k ≤ 12900) : n < Big := by
  rw [big_eq]
  exact Nat.lt_of_lt_of_le h (Nat.pow_le_pow_right (by decide) hk)
theorem big_log {n : Nat} (h : n < Big) : n.log2 < 12900 := by
  rw [big_eq] at h
  exact PySem.Flt.log2_lt_of (by decide) h

theorem inv_dig {X : Cx} {pins : List (Addr × Obj)} {σ : L2.St} {H : Hp} {s : Shared} (I : Inv X pins σ H s) (d : X.base.NoDigits) : s.heap.NoDigits := d.keeps fun b o e => (I.env0.bs b o e).1

/-- how long a text of an int may be -/
theorem big_text {i : Int} (h : i.natAbs < Big) : (Str.ofString (toString i)).length ≤ 12901 := by
  have e := int_text_length_le (k := 12900) (by decide) (big_log h)
  rw [PySem.ofString_length]
  exact e

section
variable {X : Cx}
theorem call_str_intD (d : X.base.NoDigits) (hc : X.calm = true) : CallR X (.type "str") (fun xs H Q => ∃ i, xs = [.int i] ∧ i.natAbs < Big ∧ Q (.str (toString i)) H) := by
  intro pins s σ H xs us Q I r h
  obtain ⟨i, rfl, hz, q⟩ := h
  obtain ⟨u, rfl, t, rfl⟩ := vals1 r
  exact str_of_int_or (I.ok.hd hc) (inv_dig I d) (fun _ => ⟨.str _, H, I.tok _, ⟨_, rfl⟩, q⟩) (fun z => absurd (Nat.lt_of_lt_of_le hz big_dig) (Nat.not_lt.mpr z))
/-- {x}: an int, as a text -/
def tFmtD (te : TE) : TE := fun σ H Q => te σ H fun x H1 => ∃ i : Int, x = .int i ∧ i.natAbs < Big ∧ Q (.str (toString i)) H1
theorem pe_fmtD (d : X.base.NoDigits) (hc : X.calm = true) {e : Expr} {te : TE} {pos : Pos} (he : PE X e te) : PE X (.FormattedValue e (-1) none pos) (tFmtD te) := by
  refine ⟨fun pins s σ H Q I h => ?_⟩
  refine wpAny_FormattedValue_plain (thn (he.run pins s σ H _ I h) fun v s1 hv => ?_)
  obtain ⟨x, H1, I1, r1, i, rfl, hz, q⟩ := hv
  obtain ⟨t, rfl⟩ := r1
  exact formatField_int (I1.ok.hd hc) (inv_dig I1 d) (fun _ => ⟨.str (toString i), H1, I1.tok _, ⟨_, rfl⟩, q⟩) (fun z => absurd (Nat.lt_of_lt_of_le hz big_dig) (Nat.not_lt.mpr z))

theorem noPylong_big {x y : Int} (h : x.natAbs.log2 < 13400) : Builtin.divisionGoesByPylong x y = false := by
  have key : (if x == 0 then 0 else x.natAbs.log2 / 30 + 1) ≤ 450 := by
    by_cases hy : (x == 0) = true
    · rw [if_pos hy]; exact Nat.zero_le _
    · rw [if_neg hy]; omega
  show (decide ((if y == 0 then 0 else y.natAbs.log2 / 30 + 1) > 300) && decide ((if x == 0 then 0 else x.natAbs.log2 / 30 + 1) > (if y == 0 then 0 else y.natAbs.log2 / 30 + 1) + 150)) = false
  by_cases h1 : (if y == 0 then 0 else y.natAbs.log2 / 30 + 1) > 300
  · rw [decide_eq_false (p := (if x == 0 then 0 else x.natAbs.log2 / 30 + 1) > (if y == 0 then 0 else y.natAbs.log2 / 30 + 1) + 150) (by omega), Bool.and_false]
  · rw [decide_eq_false h1, Bool.false_and]
/-- // of ints below 2^13400 by a divisor of either sign -/
def CDivN (i j : Int) : Prop := j ≠ 0 ∧ i.natAbs.log2 < 13400
theorem op_fdivN : OpR X (binaryOp .FloorDiv) (rI CDivN fun i j => .int (i.fdiv j)) := opI fun _ _ _ _ _ _ _ hc q => floordiv_int hc.1 q (.inl (noPylong_big hc.2))

/-! ### own operators -/
variable {k j : Nat} {C f : Addr} {fd : FuncData} {ps : List Str} {sp : Sp}
theorem run_fn (F : FnOk X.prog X.w X.K X.mg X.base CX0 k f fd ps sp) (hr : Room k X.A) (hb : Binds X.K fd ps []) {pins : List (Addr × Obj)} {σ : L2.St} {H : Hp} {s : Shared} {Q : VK} {us : List Value} {vs : List V}
    (I : Inv X pins σ H s) (rv : Vals vs us) (q : sp vs H Q E0) {E : Value → Shared → Prop} : wpAny (model X.prog X.w) X.A (call (.ref f) us) (EP X pins σ Q) E s := by
  have hl : us.length = ps.length := by
    have := F.len _ _ _ _ q
    rw [← rv.length]
    exact this
  have b := hb s us I.kIn (by simpa using hl)
  rw [List.append_nil] at b
  refine wpAny_call (codeAny_mono (F.run X.A X.stack s H ⟨us, []⟩ us vs _ E0 hr I.env0 b rv q) ?_)
  intro res s' z
  cases res with
  | error e => exact z.elim
  | ok fl =>
    cases fl with
    | next => exact z.elim
    | brk => exact z.elim
    | cont => exact z.elim
    | ret u => exact I.after z

/-- the def behind a special name of an own class -/
structure Sl (P : Program) (w : World) (K : PySem.W.Frag) (mg : Str → Option Value) (base : Heap) (C : Addr) (name : Str) (k : Nat) (sp : Sp) : Prop where
  ex : ∃ (f : Addr) (fd : FuncData) (ps : List Str), FnOk P w K mg base CX0 k f fd ps sp ∧ Binds K fd ps [] ∧ PySem.W.findIn K (.ref C) name = some (some (.ref f)) ∧ PySem.W.isFn K (.ref f) = true

def IsI (H : Hp) (C a : Addr) : Prop := ∃ dx fs, H a = some (.ins C dx fs)

/-- what comes back is an object -/
abbrev RefQ (Q : VK) : VK := fun v H => ∃ c, v = .ref c ∧ Q v H

theorem back_ref {pins : List (Addr × Obj)} {σ : L2.St} {Q : VK} {u : Value} {s' : Shared} (h : EP X pins σ (RefQ Q) u s') : PySem.W.CmpBack (EP X pins σ Q) u s' := by
  obtain ⟨v, H', I', rv, c, rfl, q⟩ := h
  cases rv
  exact ⟨.ref c, H', I', rfl, q⟩

def rOO (C : Addr) (sp : Sp) : R2 := fun x y H Q => ∃ a b, x = .ref a ∧ y = .ref b ∧ IsI H C a ∧ IsI H C b ∧ sp [.ref a, .ref b] H (RefQ Q) E0
theorem op_OO {op : Operator} (S : Sl X.prog X.w X.K X.mg X.base C (PySem.dunder op.info.2) k sp) (hr : Room j X.A) (hk : k ≤ j) (hc : PySem.W.selfFirst X.K C = true) : OpR X (binaryOp op) (rOO C sp) := by
  obtain ⟨f, fd, ps, F, hb, hs, hf⟩ := S.ex
  intro pins s σ H x y v u Q I rx ry h
  obtain ⟨a, b, rfl, rfl, ⟨dx, fs, ha⟩, ⟨dy, gs, hb'⟩, q⟩ := h
  cases rx
  cases ry
  obtain ⟨mA, J, _⟩ := ins_get I.hok ha
  obtain ⟨mB, J', _⟩ := ins_get I.hok hb'
  obtain ⟨od, J, _⟩ := J.look
  obtain ⟨od', J', _⟩ := J'.look
  obtain ⟨m, hF⟩ := I.fr
  refine PySem.W.binop_K hF I.ok.mod.kin J J'.type hc hs hf ?_
  have rv : Vals [V.ref a, V.ref b] [Value.ref a, Value.ref b] := .cons rfl (.cons rfl .nil)
  exact wpAny_mono (run_fn F (hr.mono hk) hb I rv q) (fun _ _ z => back_ref z) fun _ _ z => z

/-- the int has no part in it: what the class must have -/
structure IntO (K : PySem.W.Frag) (C : Addr) (op : Operator) : Prop where
  r : ∃ g : Addr, PySem.W.findIn K (.ref C) (dunderR op.info.2) = some (some (.ref g))
  i1 : ∃ fo, PySem.W.findIn K (.type "int") (PySem.dunder op.info.2) = some fo
  i2 : ∃ ro, PySem.W.findIn K (.type "int") (dunderR op.info.2) = some ro
  sub : PySem.W.subIn K (.type "int") (.ref C) = some false
def rOI (C : Addr) (sp : Sp) : R2 := fun x y H Q => ∃ a n, x = .ref a ∧ y = .int n ∧ IsI H C a ∧ sp [.ref a, .int n] H (RefQ Q) E0
theorem op_OI {op : Operator} (S : Sl X.prog X.w X.K X.mg X.base C (PySem.dunder op.info.2) k sp) (O : IntO X.K C op) (hr : Room j X.A) (hk : k ≤ j) (hc : PySem.W.selfFirst X.K C = true) : OpR X (binaryOp op) (rOI C sp) := by
  obtain ⟨f, fd, ps, F, hb, hs, hf⟩ := S.ex
  obtain ⟨g, hg⟩ := O.r
  obtain ⟨fo, h1⟩ := O.i1
  obtain ⟨ro, h2⟩ := O.i2
  intro pins s σ H x y v u Q I rx ry h
  obtain ⟨a, n, rfl, rfl, ⟨dx, fs, ha⟩, q⟩ := h
  cases rx
  obtain ⟨t, rfl⟩ := ry
  obtain ⟨mA, J, _⟩ := ins_get I.hok ha
  obtain ⟨od, J, _⟩ := J.look
  obtain ⟨m, hF⟩ := I.fr
  refine PySem.W.ksp_binT (T := "int") hF I.ok.mod.kin J rfl hc hs hf hg (.inr ⟨g, rfl⟩) h1 h2 O.sub ?_
  have rv : Vals [V.ref a, V.int n] [Value.ref a, Value.int n t] := .cons rfl (.cons ⟨t, rfl⟩ .nil)
  exact wpAny_mono (run_fn F (hr.mono hk) hb I rv q) (fun _ _ z => back_ref z) fun _ _ z => z

def rO1 (C : Addr) (sp : Sp) : V → Hp → VK → Prop := fun x H Q => ∃ a, x = .ref a ∧ IsI H C a ∧ sp [.ref a] H Q E0
theorem un_O (S : Sl X.prog X.w X.K X.mg X.base C "__neg__" k sp) (hr : Room j X.A) (hk : k ≤ j) : UnR X (unaryOp .USub) (rO1 C sp) := by
  obtain ⟨f, fd, ps, F, hb, hs, hf⟩ := S.ex
  intro pins s σ H x v Q I rx h
  obtain ⟨a, rfl, ⟨dx, fs, ha⟩, q⟩ := h
  cases rx
  obtain ⟨mA, J, _⟩ := ins_get I.hok ha
  obtain ⟨od, J, _⟩ := J.look
  obtain ⟨m, hF⟩ := I.fr
  refine PySem.W.ksp_neg hF I.ok.mod.kin J hs hf ?_
  have rv : Vals [V.ref a] [Value.ref a] := .cons rfl .nil
  exact run_fn F (hr.mono hk) hb I rv q

/-! ### an int on the left -/
section
open PySem.W
/-- an int's own method has no word for an own object -/
def Declines (name : Str) : Prop := ∀ (prog : Program) (w : World) (A : Around) (E : Value → Shared → Prop) (s : Shared) (n : Int) (t : Tok) (x C : Addr) (ox : Obj) (od : Option Obj) (Q : Option Value → Shared → Prop), InstAt s.heap x ox C od → ox.data = .plain → Q none s → wpAny (model prog w) A (tryMethod (.int n t) name (.ref x)) Q E s
theorem decl_of {name : Str} {id : String} {f : Int → Int → Sem Fin} {sym : String} (slot : Slot "int" name id) {b : Builtin} (entry : entryFor table id = some b) (hb : b = Builtin.Int.intBinary sym f) (hargs : ∀ a b : Value, argsOk id ⟨[a, b], []⟩) : Declines name := by
  subst hb
  intro prog w A E s n t x C ox od Q I hp q
  unfold tryMethod
  refine wpAny_bind (wpAny_callSpecial?_slot (typeIs_int s n t) slot ?_)
  refine wpAny_call_entry slot (typeIs_int s n t) entry ?_ (hargs _ _)
  unfold Builtin.Int.intBinary
  refine wpAny_bind (m := slotArgs sym 1 _) (wpAny_pure ?_)
  refine wpAny_bind (m := Builtin.Int.intOfSelf (.int n t)) (wpAny_pure ?_)
  refine wpAny_bind (m := asInt? (.ref x)) ?_
  unfold asInt?
  refine wpAny_bind (wpAny_load I.at_ ?_)
  rw [hp]
  refine wpAny_pure ?_
  refine wpAny_bind (wpAny_rule (wpAny_pure ⟨_, rfl, ?_⟩))
  exact wpAny_pure q
theorem decl_add {name : Str} (hn : name = PySem.dunder "add") : Declines name := by
  have e1 := F.slot_int_add
  rw [← hn] at e1
  have e2 := F.entry_int_add
  have e3 := F.args_int_add_2
  have e4 := Builtin.«int.__add__».eq_1
  generalize Builtin.«int.__add__» = b at e2 e4
  exact decl_of (id := "int.__add__") (b := b) (sym := "__add__") e1 e2 e4 e3
theorem decl_sub {name : Str} (hn : name = PySem.dunder "sub") : Declines name := by
  have e1 := F.slot_int_sub
  rw [← hn] at e1
  have e2 := F.entry_int_sub
  have e3 := F.args_int_sub_2
  have e4 := Builtin.«int.__sub__».eq_1
  generalize Builtin.«int.__sub__» = b at e2 e4
  exact decl_of (id := "int.__sub__") (b := b) (sym := "__sub__") e1 e2 e4 e3
theorem decl_mul {name : Str} (hn : name = PySem.dunder "mul") : Declines name := by
  have e1 := F.slot_int_mul
  rw [← hn] at e1
  have e2 := F.entry_int_mul
  have e3 := F.args_int_mul_2
  have e4 := Builtin.«int.__mul__».eq_1
  generalize Builtin.«int.__mul__» = b at e2 e4
  exact decl_of (id := "int.__mul__") (b := b) (sym := "__mul__") e1 e2 e4 e3
structure RefO (K : PySem.W.Frag) (C : Addr) (op : Operator) : Prop where
  d : ∃ g : Addr, PySem.W.findIn K (.ref C) (PySem.dunder op.info.2) = some (some (.ref g))
  i1 : ∃ fo, PySem.W.findIn K (.type "int") (PySem.dunder op.info.2) = some (some (.builtin fo)) ∧ isSeqSlotId fo = false
  i2 : ∃ ro, PySem.W.findIn K (.type "int") (dunderR op.info.2) = some ro
  sub : PySem.W.subIn K (.ref C) (.type "int") = some false
variable {X : Cx} {k j : Nat} {C : Addr} {sp : Sp}
def rIO (C : Addr) (sp : Sp) : R2 := fun x y H Q => ∃ a n, x = .int n ∧ y = .ref a ∧ IsI H C a ∧ sp [.ref a, .int n] H (RefQ Q) E0
theorem op_IO {op : Operator} (S : Sl X.prog X.w X.K X.mg X.base C (dunderR op.info.2) k sp) (O : RefO X.K C op) (D : Declines (PySem.dunder op.info.2)) (hr : Room j X.A) (hk : k ≤ j) (hc : PySem.W.selfFirst X.K C = true) : OpR X (binaryOp op) (rIO C sp) := by
  obtain ⟨f, fd, ps, F, hb, hs, hf⟩ := S.ex
  obtain ⟨g, hg⟩ := O.d
  obtain ⟨fo, h1, hq⟩ := O.i1
  obtain ⟨ro, h2⟩ := O.i2
  have hsub := O.sub
  intro pins s σ H x y v u Q I rx ry h
  obtain ⟨a, n, rfl, rfl, ⟨dx, fs, ha⟩, q⟩ := h
  cases ry
  obtain ⟨t, rfl⟩ := rx
  obtain ⟨mA, J, _⟩ := ins_get I.hok ha
  obtain ⟨od, J, _⟩ := J.look
  have rv : Vals [V.ref a, V.int n] [Value.ref a, Value.int n t] := .cons rfl (.cons ⟨t, rfl⟩ .nil)
  have h := wpAny_mono (run_fn F (hr.mono hk) hb I rv q (E := X.xe)) (fun _ _ z => back_ref z) fun _ _ z => z
  have XK := I.kIn
  obtain ⟨cd, rest, hcd, hm⟩ := ksp_first hc
  rcases hi : op.info with ⟨sym, nm'⟩
  rw [hi] at hs hg h1 h2 D
  dsimp only at hs hg h1 h2 D
  have one := ksp_try XK J hs hf h
  have dec : ∀ {Q : Option Value → Shared → Prop}, Q none s → wpAny (model X.prog X.w) X.A (tryMethod (.int n t) (PySem.dunder nm') (.ref a)) Q X.xe s := fun q => D _ _ _ _ _ _ _ _ _ _ _ _ J rfl q
  obtain ⟨hh, gg, d, tt, os⟩ := s
  have L1 : Looks (model X.prog X.w) hh (typeOf (.ref a)) (.ref C) := J.type
  have L2 : Looks (model X.prog X.w) hh (typeOf (.int n t)) (.type "int") := Looks.of_pure rfl
  have L3 : Looks (model X.prog X.w) hh (fillsNumberSlot (.ref C) nm') true := fills_K XK hcd hm hg
  have L4 : Looks (model X.prog X.w) hh (fillsNumberSlot (.type "int") nm') true := by
    have := ksp_fillsT (M := model X.prog X.w) XK h1 h2
    have e : ((some (Value.builtin fo)).isSome && !isSeqSlot (some (.builtin fo)) || (ro.isSome && !isSeqSlot ro)) = true := by
      show ((true && !isSeqSlotId fo) || _) = true
      rw [hq]
      rfl
    rw [e] at this
    exact this
  have L5 : Looks (model X.prog X.w) hh (isSubtype (.ref C) (.type "int")) false := looks_subIn XK hsub
  have L7 : Looks (model X.prog X.w) hh (numberSlotInPython (.type "int") nm') false := Looks.of_pure rfl
  have hne : (Value.type "int" == Value.ref C) = false := Bool.eq_false_iff.mpr fun q => by cases beq_iff_eq.mp q
  simp only [binaryOp, hi]
  refine wpAny_holding (wpAny_bind ?_)
  unfold binaryOp1
  refine wpAny_bind (L2.at (wpAny_bind (L1.at (wpAny_bind (L4.at ?_)))))
  simp only [hne, Bool.false_eq_true, if_false]
  ksp_lk
  refine dec ?_
  ksp_lk
  refine wpAny_mono one (fun r s' hr' => ?_) fun _ _ e => e
  obtain ⟨v, rfl, hq⟩ := hr'
  ksp_lk
  exact hq
end
end
end KG
end

/-! ## Rl -/
section
/-! repr of a list whose items have a repr of their own class. -/
namespace KG
open PySem PySem.Spec PyProof.Rows L2 Builtin Builtin.List

theorem Same.updN {H : Hp} {p : Addr} {o : HO} (h : H p = none) : Same H (upd H p o) := fun b u e => by
  rw [upd_ne (ne_of_none e h)]
  exact e

/-- somewhere below X's body, within a repr -/
structure At (X : Cx) (k : Nat) (A : Around) : Prop where
  fr : A.frames = X.A.frames
  rm : Room k A

theorem under_fr (A : Around) (args : Args) : (A.under (.builtin "list.__repr__.loop" args)).frames = A.frames := by
  first | rfl | simp [Around.under, Code.isFrame, Code.frames]
theorem under_hd (A : Around) (args : Args) : (A.under (.builtin "list.__repr__.loop" args)).handled = A.handled := by
  first | rfl | simp [Around.under]
theorem under_dp (A : Around) (args : Args) : (A.under (.builtin "list.__repr__.loop" args)).depth ≤ A.depth + 1 := by
  first | exact Nat.le_succ _ | exact Nat.le_refl _ | (simp [Around.under, Code.weight, Code.isCreation, Code.isGuard, Code.isCaller, Code.frames, Code.isFrame, guardIds] <;> omega)
theorem At.under {X : Cx} {k : Nat} {A : Around} (h : At X (k + 1) A) (args : Args) : At X k (A.under (.builtin "list.__repr__.loop" args)) := by
  refine ⟨(under_fr A args).trans h.fr, (under_hd A args).trans h.rm.hd, ?_, ?_⟩
  · have := under_dp A args
    have := h.rm.dp
    omega
  · have e := units_under_list_loop A args
    have := h.rm.un
    omega
theorem At.in1 {X : Cx} {k : Nat} {A : Around} (h : At X (k + 1) A) : At X k A.in1 := ⟨h.fr, h.rm.in1⟩

/-- the item's text is t: wherever it is asked, nothing tracked changes -/
def ItemR (X : Cx) (k : Nat) (pins : List (Addr × Obj)) (σ : L2.St) (H : Hp) (x : V) (t : Str) : Prop :=
  ∀ (base : Nat), base + t.length ≤ sizeLine → ∀ (A : Around) (E : Value → Shared → Prop) (s : Shared) (H' : Hp) (u : Value) (Q : Str → Shared → Prop), At X k A → Same H H' → Inv X pins σ H' s → RelV x u →
    (∀ s', Inv X pins σ H' s' → Q t s') → wpAny (model X.prog X.w) A (pyReprUnder base u) Q E s

theorem piled_two : ∀ ts : List Str, 2 * ts.length ≤ piled ts
  | [] => Nat.le_refl _
  | t :: ts => by
    have := piled_two ts
    rw [piled_cons, List.length_cons]
    omega
theorem vals_str : ∀ {ts : List Str} {its : List Value}, Vals (ts.map V.str) its → ∃ done, its = strValues done ∧ done.map (·.1) = ts
  | [], _, h => by
    cases h
    exact ⟨[], rfl, rfl⟩
  | t :: ts, _, .cons r rs => by
    obtain ⟨tk, rfl⟩ := r
    obtain ⟨d, rfl, e⟩ := vals_str rs
    exact ⟨(t, tk) :: d, rfl, by rw [List.map_cons, e]⟩

section
variable {X : Cx} {k : Nat} {pins : List (Addr × Obj)} {σ : L2.St} {H : Hp} {a P : Addr} {xs : List V} {ts : List Str} {A : Around} {R : Result → Shared → Prop}

theorem loopI (ha : H a = some (.lst xs)) (hP : H P = none) (hat : At X (k + 1) A) (hlen : ts.length = xs.length)
    (hT : ∀ (i : Nat) (x : V) (t : Str), xs[i]? = some x → ts[i]? = some t → ItemR X k pins σ H x t) {base : Nat}
    (hsz : base + (listText ts).length ≤ sizeLine)
    (hR : ∀ s' u, Inv X pins σ (upd H P (.lst (ts.map V.str))) s' → R (.ok (.ret (.str (listText ts) u))) s') :
    ∀ (m i : Nat) (s : Shared), xs.length - i = m → i ≤ xs.length → Inv X pins σ (upd H P (.lst ((ts.take i).map V.str))) s →
    codeAny (model X.prog X.w) A (.builtin "list.__repr__.loop" ⟨[.ref a, rawInt i, .ref P, rawInt ((base + piled (ts.take i) : Nat) : Int)], []⟩) R s := by
  have whole : (listText ts).length ≤ sizeLine := by omega
  have each : ∀ {t : Str}, t ∈ ts → t.length ≤ sizeLine := fun m => Nat.le_trans (listText_mem_le m) whole
  have pile : piled ts ≤ (listText ts).length := piled_le_listText ts
  have many : ts.length ≤ sizeLine := by
    have := piled_two ts
    omega
  have naP : a ≠ P := fun e => by
    rw [e, hP] at ha
    cases ha
  intro m
  induction m with
  | zero =>
    intro i s hk hi I
    have hin : i = xs.length := by omega
    obtain ⟨z, its, n, r, hl, e⟩ := I.lstM (l := a) (by rw [upd_ne naP]; exact ha)
    obtain ⟨z2, its2, n2, r2, hl2, e2⟩ := I.lstM (l := P) upd_same
    apply codeAny_builtin F.entry_list_repr_loop
    show wpAny _ _ («list.__repr__.loop» ⟨[.ref a, .int i 0, .ref P, .int _ 0], []⟩) _ _ s
    rw [repr_loop_tree]
    refine wpAny_bind (wpAny_listItems e rfl ?_)
    have hnone : its.toArray[(i : Int).toNat]? = none := by simp [hin, hl]
    simp only [hnone]
    unfold reprEnd
    refine wpAny_bind (wpAny_listItems e2 rfl ?_)
    have hall : ts.take i = ts := by rw [hin, ← hlen, List.take_length]
    rw [hall] at r2 I
    obtain ⟨done, ed, em⟩ := vals_str r2
    have e3 : its2.toArray.toList = strValues done := by rw [← ed]
    rw [e3, repr_fold]
    refine wpAny_bind (wpAny_pure ?_)
    rw [em]
    refine wpAny_bind (wpAny_mkStr (wpAny_pure ?_) whole)
    exact hR _ _ (I.tok _)
  | succ m ih =>
    intro i s hk hi I
    have hlt : i < xs.length := by omega
    have hlt2 : i < ts.length := by omega
    obtain ⟨z, its, n, r, hl, e⟩ := I.lstM (l := a) (by rw [upd_ne naP]; exact ha)
    have ht : ts[i]? = some ts[i] := List.getElem?_eq_getElem hlt2
    have hp1 := piled_take_succ ht
    have hp2 := piled_take_le ts (i + 1)
    obtain ⟨u, hu, ru⟩ := r.get (List.getElem?_eq_getElem hlt)
    have hrep := hT i xs[i] ts[i] (List.getElem?_eq_getElem hlt) ht
    apply codeAny_builtin F.entry_list_repr_loop
    show wpAny _ _ («list.__repr__.loop» ⟨[.ref a, .int i 0, .ref P, .int _ 0], []⟩) _ _ s
    rw [repr_loop_tree]
    refine wpAny_bind (wpAny_listItems e rfl ?_)
    have hsome : its.toArray[(i : Int).toNat]? = some u := by simp [hu]
    simp only [hsome]
    rw [Int.toNat_natCast]
    refine wpAny_bind (wpAny_holding (hrep (base + piled (ts.take i) + 1) (by omega) _ _ _ _ _ _ (hat.under _) (Same.updN hP) I ru fun s1 I1 => ?_))
    refine wpAny_bind (wpAny_mkStr ?_ (each (List.mem_of_getElem? ht)))
    refine wpAny_bind ?_
    show wpAny _ _ (updateSeq P _) _ _ _
    have I2 := I1.tok (s1.toks + 1)
    obtain ⟨z2, its2, n2, r2, hl2, e2⟩ := I2.lstM (l := P) upd_same
    refine wpAny_updateSeq e2 rfl (wpAny_pure ⟨F.quiet_list_repr_loop _, ?_⟩) (by rw [List.size_toArray]; omega)
    have e3 : ((i : Int) + 1) = ((i + 1 : Nat) : Int) := by omega
    have e4 : base + piled (ts.take i) + (ts[i].length + 2) = base + piled (ts.take (i + 1)) := by omega
    rw [e3, e4]
    have zn : ((ts.take (i + 1)).map V.str).length ≤ sizeLine := by
      rw [List.length_map, List.length_take]
      omega
    have et : (ts.take (i + 1)).map V.str = (ts.take i).map V.str ++ [V.str ts[i]] := by
      rw [List.take_succ, ht, List.map_append]
      rfl
    have rr : Vals ((ts.take (i + 1)).map V.str) (its2 ++ [.str ts[i] s1.toks]) := by
      rw [et]
      exact r2.append (.cons ⟨_, rfl⟩ .nil)
    have I3 := I2.lset (its' := its2 ++ [.str ts[i] s1.toks]) (f := fun b => b.push (.str ts[i] s1.toks)) (ys := (ts.take (i + 1)).map V.str) (t' := s1.toks + 1) upd_same e2 (by simp) rr zn
    refine ih (i + 1) _ (by omega) hlt ?_
    rw [upd_upd] at I3
    exact I3

/-- a text comes back, nothing tracked has changed -/
theorem itemG {C : Addr} {sp : Sp} {f : Addr} {fd : FuncData} {ps : List Str} {x : V} {t : Str} (F : FnOk X.prog X.w X.K X.mg X.base CX0 k f fd ps sp) (hb : Binds X.K fd ps [])
    (hs : PySem.W.findIn X.K (.ref C) "__repr__" = some (some (.ref f))) (hf : PySem.W.isFn X.K (.ref f) = true)
    (hx : ∃ b, x = .ref b ∧ IsI H C b ∧ ∀ H', Same H H' → sp [.ref b] H' (fun v H2 => v = .str t ∧ H2 = H') E0) : ItemR X k pins σ H x t := by
  obtain ⟨b, rfl, ⟨dx, fs, hi⟩, hq⟩ := hx
  intro base hz A E s H' u Q hat e I ru q
  cases ru
  obtain ⟨mA, J, _⟩ := ins_get I.hok (e _ _ hi)
  obtain ⟨od, J, _⟩ := J.look
  refine wpAny_pyReprUnder_ref (by omega) ?_
  unfold pyReprObjUnder pyReprObjBy
  refine wpAny_bind (wpAny_cRoomFor (by have := hat.rm.un; omega) ?_)
  refine wpAny_bind (wpAny_bind (J.type.here ((PySem.W.looks_findIn I.kIn hs).here ?_)))
  show wpAny _ _ (if (some (Value.ref f)).isNone = true then _ else _) _ _ _
  rw [if_neg (by simp)]
  refine wpAny_bind (m := callSpecialIfBoundBy? _ (.ref b) (Str.ofString "__repr__")) ?_
  simp only [callSpecialIfBoundBy?, bindSpecialIfBound?]
  refine wpAny_holding (wpAny_bind (wpAny_bind (wpAny_bind (J.type.here ((PySem.W.looks_findIn I.kIn hs).here ?_)))))
  have rv : Vals [V.ref b] [Value.ref b] := .cons rfl .nil
  have e0 : Env0 X.prog X.w X.K X.mg X.base A X.stack s H' := by
    have e := I.env0
    exact ⟨by rw [hat.fr]; exact e.frames, e.mod, e.bs, e.bsz, e.funs, e.frf, e.hok, e.bare⟩
  have hsp := hq H' e
  have hl := F.len _ _ _ _ hsp
  have bnd : BindsTo s fd ⟨[.ref b], []⟩ (ps.zip [.ref b]) := by
    have := hb s [.ref b] I.kIn (by simpa using hl)
    simpa using this
  have core : wpAny (model X.prog X.w) A (call (.ref f) ([.ref b] ++ [])) (fun v s' => ∃ tk, v = .str t tk ∧ Inv X pins σ H' s') E s := by
    refine wpAny_call (codeAny_mono (F.run A X.stack s H' ⟨[.ref b], []⟩ [.ref b] [.ref b] _ E0 hat.rm e0 bnd rv hsp) fun r s' hq => ?_)
    cases r with
    | error e => exact hq.elim
    | ok fl =>
      cases fl with
      | ret w =>
        obtain ⟨z, H2, I', rz, ez, eh⟩ := I.after hq
        subst ez
        subst eh
        obtain ⟨tk, rfl⟩ := rz
        exact ⟨tk, rfl, I'⟩
      | next => exact hq.elim
      | brk => exact hq.elim
      | cont => exact hq.elim
  have hru : reprUnder? (.ref f) = none := rfl
  refine wpAny_bind (wpAny_askSetting (wpAny_ite ?_))
  have fin : wpAny (model X.prog X.w) A (call (.ref f) ([.ref b] ++ []) >>= fun v => pure (some v)) (fun r s' => ∃ tk, r = some (.str t tk) ∧ Inv X pins σ H' s') E s := wpAny_bind (wpAny_mono core (fun v s' h' => by
    obtain ⟨tk, rfl, I'⟩ := h'
    exact wpAny_pure ⟨tk, rfl, I'⟩) fun _ _ h' => h')
  have out : ∀ {r : Option Value} {s' : Shared}, (∃ tk, r = some (.str t tk) ∧ Inv X pins σ H' s') → wpAny (model X.prog X.w) A (match r with
      | some r => (do if ← isInstance r (.type "str") then pure r else raiseError "TypeError" s!"__repr__ returned non-string (type {← typeNameOf r})")
      | none => unsupported "repr:special-get-raises") (fun v s' => ∃ x u, v = .str x u ∧ Q x s') E s' := by
    rintro r s' ⟨tk, rfl, I'⟩
    exact wpAny_bind (wpAny_isInstance (T := "str") (b := true) rfl isSubtype_str_str (wpAny_pure ⟨_, _, rfl, q _ I'⟩))
  split
  · refine wpAny_bind ((PySem.W.bind_fn I.kIn _ (beq_iff_eq.mp hf)).here (wpAny_pure ?_))
    exact wpAny_mono fin (fun r s' h => out h) fun _ _ h => h
  · refine wpAny_tryCatch (wpAny_bind ((PySem.W.bind_fn I.kIn _ (beq_iff_eq.mp hf)).here (wpAny_pure ?_)))
    exact wpAny_mono fin (fun r s' h => out h) fun _ _ h => h

/-- repr of a list of such -/
theorem call_reprL (hg : X.A.guards = some []) (hr : Room (k + 4) X.A) : CallR X (.builtin "repr") (fun ys H Q => ∃ (a : Addr) (x : V) (xs : List V) (ts : List Str), ys = [.ref a] ∧ H a = some (.lst (x :: xs)) ∧ ts.length = (x :: xs).length ∧
    (∀ (pins : List (Addr × Obj)) (σ : L2.St) (i : Nat) (y : V) (t : Str), (x :: xs)[i]? = some y → ts[i]? = some t → ItemR X k pins σ H y t) ∧ (listText ts).length ≤ sizeLine ∧ ∀ H', Same H H' → Q (.str (listText ts)) H') := by
  intro pins s σ H ys us Q I r h
  obtain ⟨a, x, xs, ts, rfl, ha, hlen, hT, hz, q⟩ := h
  obtain ⟨u, rfl, ru⟩ := vals1 r
  cases ru
  obtain ⟨z, its, n, r1, hl, e⟩ := I.lstM (l := a) ha
  obtain ⟨v, vs, rfl⟩ : ∃ v vs, its = v :: vs := by
    cases its with
    | nil => cases hl
    | cons v vs => exact ⟨v, vs, rfl⟩
  have hat : At X (k + 2) X.A.in1.in1 := ⟨rfl, hr.in1.in1⟩
  have hTy : s.TypeIs (.ref a) "list" := ⟨_, e, rfl⟩
  refine call_repr_slot (by have := hr.un; omega) hTy F.slot_list_repr.toG ?_
  refine wpAny_call (codeAny_call_builtin F.slot_list_repr.plain F.entry_list_repr (F.slot_list_repr.check _ _ _ _ _ _ _ _ hTy (F.args_list_repr_1 _) ?_))
  refine wpAny_list_repr_head (A := X.A.in1.in1) (g := []) hg (fun v rest kw hm => absurd hm List.not_mem_nil) e rfl ?_
  refine wpAny_bind (m := newList []) (wpAny_newObj_type ?_)
  refine wpAny_pure ⟨F.quiet_list_repr_loop _, ?_⟩
  have hP : H s.heap.objs.size = none := I.hok.fresh (Nat.le_refl _)
  have I1 := I.laid (a := s.heap.objs.size) (o := .lst []) (t' := s.toks) (h' := s.heap.push { cls := .type "list", data := .seq #[] }) (fun b o e => Heap.get?_push_of_some _ e) (Nat.le_refl _) ⟨Nat.zero_le _, [], 0, .nil, Heap.get?_push_size s.heap rfl⟩
  have h0 : (0 : Nat) = 0 + piled (ts.take 0) := by rfl
  refine loopI (X := X) (k := k) (pins := pins) (σ := σ) (H := H) (P := s.heap.objs.size) (base := 0) ha hP (A := X.A.in1) ⟨rfl, hr.in1.mono (by omega)⟩ hlen (hT pins σ) (by omega) (fun s' u I' => ?_) _ 0 _ rfl (Nat.zero_le _) I1
  exact ⟨_, _, rfl, .str _, _, I', ⟨_, rfl⟩, q _ (Same.updN hP)⟩
end
end KG
end

/-! ## Ma -/
section
/-! Fractions in lowest terms, as pairs. -/
namespace Cm
/-- by what both parts are divided -/
def lowBy (t b : Int) : Int := if b < 0 then -((Nat.gcd t.natAbs b.natAbs : Nat) : Int) else ((Nat.gcd t.natAbs b.natAbs : Nat) : Int)
theorem lowBy_ne {t b : Int} (h : b ≠ 0) : lowBy t b ≠ 0 := by
  have g : 0 < Nat.gcd t.natAbs b.natAbs := Nat.gcd_pos_of_pos_right _ (by omega)
  unfold lowBy
  split <;> omega
theorem lowBy_abs (t b : Int) : (lowBy t b).natAbs = Nat.gcd t.natAbs b.natAbs := by
  unfold lowBy
  split <;> omega
theorem lowBy_dvd (t b : Int) : lowBy t b ∣ t ∧ lowBy t b ∣ b := by
  have h1 : ((Nat.gcd t.natAbs b.natAbs : Nat) : Int) ∣ t := Int.gcd_dvd_left (a := t) (b := b)
  have h2 : ((Nat.gcd t.natAbs b.natAbs : Nat) : Int) ∣ b := Int.gcd_dvd_right (a := t) (b := b)
  unfold lowBy
  split
  · exact ⟨Int.neg_dvd.mpr h1, Int.neg_dvd.mpr h2⟩
  · exact ⟨h1, h2⟩
def low (t b : Int) : Int × Int := (t.fdiv (lowBy t b), b.fdiv (lowBy t b))
/-- in lowest terms -/
def Lw (p : Int × Int) : Prop := 0 < p.2 ∧ Nat.gcd p.1.natAbs p.2.natAbs = 1
theorem low_mul (t b : Int) : t = lowBy t b * (low t b).1 ∧ b = lowBy t b * (low t b).2 := by
  obtain ⟨h1, h2⟩ := lowBy_dvd t b
  refine ⟨?_, ?_⟩
  · show t = lowBy t b * t.fdiv (lowBy t b)
    rw [Int.fdiv_eq_ediv_of_dvd h1, Int.mul_ediv_cancel' h1]
  · show b = lowBy t b * b.fdiv (lowBy t b)
    rw [Int.fdiv_eq_ediv_of_dvd h2, Int.mul_ediv_cancel' h2]
theorem low_lw {t b : Int} (h : b ≠ 0) : Lw (low t b) := by
  obtain ⟨e1, e2⟩ := low_mul t b
  have hn := lowBy_ne (t := t) h
  have ha := lowBy_abs t b
  have hg : 0 < Nat.gcd t.natAbs b.natAbs := Nat.gcd_pos_of_pos_right _ (by omega)
  constructor
  · by_cases hp : 0 < (low t b).2
    · exact hp
    exfalso
    have hy : 0 ≤ -(low t b).2 := by omega
    by_cases hb : b < 0
    · have hgn : 0 ≤ -lowBy t b := by
        unfold lowBy
        rw [if_pos hb]
        omega
      have := Int.mul_nonneg hgn hy
      have e3 : -lowBy t b * -(low t b).2 = b := by rw [Int.neg_mul_neg]; exact e2.symm
      omega
    · have hgn : 0 ≤ lowBy t b := by
        unfold lowBy
        rw [if_neg hb]
        omega
      have := Int.mul_nonneg hgn hy
      have e3 : lowBy t b * -(low t b).2 = -b := by rw [Int.mul_neg, ← e2]
      omega
  · have n1 : t.natAbs = Nat.gcd t.natAbs b.natAbs * (low t b).1.natAbs := by
      conv => lhs; rw [e1]
      rw [Int.natAbs_mul, ha]
    have n2 : b.natAbs = Nat.gcd t.natAbs b.natAbs * (low t b).2.natAbs := by
      conv => lhs; rw [e2]
      rw [Int.natAbs_mul, ha]
    have c := Nat.coprime_div_gcd_div_gcd hg
    have d1 : t.natAbs / Nat.gcd t.natAbs b.natAbs = (low t b).1.natAbs := Nat.div_eq_of_eq_mul_right hg n1
    have d2 : b.natAbs / Nat.gcd t.natAbs b.natAbs = (low t b).2.natAbs := Nat.div_eq_of_eq_mul_right hg n2
    rw [d1, d2] at c
    exact c
theorem lw_eq {p q : Int × Int} (hp : Lw p) (hq : Lw q) (h : p.1 * q.2 = q.1 * p.2) : p = q := by
  have n : p.1.natAbs * q.2.natAbs = q.1.natAbs * p.2.natAbs := by rw [← Int.natAbs_mul, ← Int.natAbs_mul, h]
  have c1 : Nat.Coprime p.2.natAbs p.1.natAbs := (Nat.gcd_comm _ _).trans hp.2
  have c2 : Nat.Coprime q.2.natAbs q.1.natAbs := (Nat.gcd_comm _ _).trans hq.2
  have d1 : p.2.natAbs ∣ q.2.natAbs := c1.dvd_of_dvd_mul_left (n ▸ Nat.dvd_mul_left _ _)
  have d2 : q.2.natAbs ∣ p.2.natAbs := c2.dvd_of_dvd_mul_left (n ▸ Nat.dvd_mul_left _ _)
  have e := Nat.dvd_antisymm d1 d2
  have e2 : p.2 = q.2 := by
    have := hp.1
    have := hq.1
    omega
  rw [e2] at h
  have e1 : p.1 = q.1 := Int.eq_of_mul_eq_mul_right (by have := hq.1; omega) h
  exact Prod.ext e1 e2
theorem low_eq {a b c d : Int} (hb : b ≠ 0) (hd : d ≠ 0) (h : a * d = c * b) : low a b = low c d := by
  refine lw_eq (low_lw hb) (low_lw hd) ?_
  obtain ⟨e1, e2⟩ := low_mul a b
  obtain ⟨e3, e4⟩ := low_mul c d
  have hn := Int.mul_ne_zero (lowBy_ne (t := a) hb) (lowBy_ne (t := c) hd)
  generalize lowBy a b = g at *
  generalize lowBy c d = k at *
  generalize (low a b) = p at *
  generalize (low c d) = q at *
  refine Int.eq_of_mul_eq_mul_right hn ?_
  rw [e1, e2, e3, e4] at h
  grind
theorem low_id {p : Int × Int} (h : Lw p) : low p.1 p.2 = p := by
  have hn : p.2 ≠ 0 := by have := h.1; omega
  refine lw_eq (low_lw hn) h ?_
  obtain ⟨e1, e2⟩ := low_mul p.1 p.2
  have hg := lowBy_ne (t := p.1) hn
  generalize lowBy p.1 p.2 = g at *
  generalize (low p.1 p.2) = q at *
  refine Int.eq_of_mul_eq_mul_right hg ?_
  grind
theorem one_ne (n : Int) : ((n, 1) : Int × Int).2 ≠ 0 := show (1 : Int) ≠ 0 by decide
theorem one_ne' : (1 : Int) ≠ 0 := by decide
theorem lw_int (n : Int) : Lw (n, 1) := ⟨show (0 : Int) < 1 by decide, Nat.gcd_one_right _⟩
theorem low_int (n : Int) : low n 1 = (n, 1) := low_id (lw_int n)
theorem lw_neg {p : Int × Int} (h : Lw p) : Lw (-p.1, p.2) := ⟨h.1, by
  show Nat.gcd (-p.1).natAbs p.2.natAbs = 1
  rw [Int.natAbs_neg]
  exact h.2⟩

def sumP (p q : Int × Int) : Int × Int := low (p.1 * q.2 + q.1 * p.2) (p.2 * q.2)
def mulP (p q : Int × Int) : Int × Int := low (p.1 * q.1) (p.2 * q.2)
def negP (p : Int × Int) : Int × Int := low (-p.1) p.2
def divP (p q : Int × Int) : Int × Int := low (p.1 * q.2) (p.2 * q.1)
theorem neg_lw {p : Int × Int} (h : Lw p) : negP p = (-p.1, p.2) := low_id (lw_neg h)
theorem mul_ne {a b : Int} (h : a ≠ 0) (k : b ≠ 0) : a * b ≠ 0 := Int.mul_ne_zero h k
theorem Lw.ne {p : Int × Int} (h : Lw p) : p.2 ≠ 0 := by have := h.1; omega
theorem lw_sum {p q : Int × Int} (h : p.2 ≠ 0) (k : q.2 ≠ 0) : Lw (sumP p q) := low_lw (mul_ne h k)
theorem lw_mul {p q : Int × Int} (h : p.2 ≠ 0) (k : q.2 ≠ 0) : Lw (mulP p q) := low_lw (mul_ne h k)
theorem lw_div {p q : Int × Int} (h : p.2 ≠ 0) (k : q.1 ≠ 0) : Lw (divP p q) := low_lw (mul_ne h k)
theorem sum_comm (p q : Int × Int) : sumP p q = sumP q p := by
  unfold sumP
  congr 1 <;> grind
theorem mul_comm' (p q : Int × Int) : mulP p q = mulP q p := by
  unfold mulP
  congr 1 <;> grind
/-- a fraction not yet in lowest terms may be added -/
theorem sum_low {a b : Int} {q : Int × Int} (hb : b ≠ 0) (hq : q.2 ≠ 0) : sumP (low a b) q = low (a * q.2 + q.1 * b) (b * q.2) := by
  obtain ⟨e1, e2⟩ := low_mul a b
  have hl := (low_lw (t := a) hb).ne
  refine low_eq (mul_ne hl hq) (mul_ne hb hq) ?_
  generalize lowBy a b = g at *
  generalize (low a b) = p at *
  rw [e1, e2]
  grind
theorem low_mul_eq {a b c d : Int} (hb : b ≠ 0) (hd : d ≠ 0) (h : a * d = c * b) : low a b = low c d := low_eq hb hd h
/-- one + n + two, begun at 0 -/
theorem total3 {p q : Int × Int} (n : Int) (hp : Lw p) (hq : Lw q) : sumP (sumP (sumP (0, 1) p) (n, 1)) q = sumP (sumP p q) (n, 1) := by
  have h1 := hp.ne
  have h2 := hq.ne
  have a0 : sumP (0, 1) p = low (0 * p.2 + p.1 * 1) (1 * p.2) := rfl
  have n1 : (1 : Int) * p.2 ≠ 0 := by omega
  rw [a0, sum_low n1 (one_ne n), sum_low (mul_ne n1 (one_ne n)) h2]
  have a1 : sumP p q = low (p.1 * q.2 + q.1 * p.2) (p.2 * q.2) := rfl
  rw [a1, sum_low (mul_ne h1 h2) (one_ne n)]
  refine low_eq (mul_ne (mul_ne n1 (one_ne n)) h2) (mul_ne (mul_ne h1 h2) (one_ne n)) ?_
  grind
theorem total2 {p q : Int × Int} (hp : Lw p) (hq : Lw q) : sumP (sumP (0, 1) q) p = sumP p q := by
  have h1 := hp.ne
  have h2 := hq.ne
  have a0 : sumP (0, 1) q = low (0 * q.2 + q.1 * 1) (1 * q.2) := rfl
  have n1 : (1 : Int) * q.2 ≠ 0 := by omega
  rw [a0, sum_low n1 h1]
  refine low_eq (mul_ne n1 h1) (mul_ne h1 h2) ?_
  grind
theorem total1 (n : Int) : sumP (0, 1) (n, 1) = (n, 1) := by
  have a0 : sumP (0, 1) (n, 1) = low (0 * 1 + n * 1) (1 * 1) := rfl
  rw [a0]
  have : (0 * 1 + n * 1 : Int) = n := by omega
  rw [this]
  exact low_int n
theorem total4 {p : Int × Int} (n : Int) (hp : Lw p) : sumP (sumP (sumP (sumP (0, 1) (n, 1)) (n, 1)) p) (n, 1) = sumP p (3 * n, 1) := by
  have h1 := hp.ne
  rw [total1]
  have a0 : sumP (n, 1) (n, 1) = low (n * 1 + n * 1) (1 * 1) := rfl
  rw [a0, sum_low (by decide) h1, sum_low (mul_ne (by decide) h1) (one_ne n)]
  refine low_eq (mul_ne (mul_ne (by decide) h1) (one_ne n)) (mul_ne h1 (one_ne (3 * n))) ?_
  grind

/-! ### sizes -/
theorem fdiv_le {t g : Int} (h : g ∣ t) (hg : g ≠ 0) : (t.fdiv g).natAbs ≤ t.natAbs := by
  obtain ⟨c, rfl⟩ := h
  rw [Int.mul_fdiv_cancel_left _ hg, Int.natAbs_mul]
  exact Nat.le_mul_of_pos_left _ (by omega)
/-- the upper part below 2^k, the lower one at most 2^l and not 0 -/
def Bd (k l : Nat) (p : Int × Int) : Prop := p.1.natAbs < 2 ^ k ∧ p.2.natAbs ≤ 2 ^ l ∧ p.2 ≠ 0
theorem bd_low {a b : Int} {k l : Nat} (h : a.natAbs < 2 ^ k) (g : b.natAbs ≤ 2 ^ l) (n : b ≠ 0) : Bd k l (low a b) := by
  obtain ⟨h1, h2⟩ := lowBy_dvd a b
  have hn := lowBy_ne (t := a) n
  exact ⟨Nat.lt_of_le_of_lt (fdiv_le h1 hn) h, Nat.le_trans (fdiv_le h2 hn) g, (low_lw (t := a) n).ne⟩
theorem Bd.mono {k l k' l' : Nat} {p : Int × Int} (h : Bd k l p) (a : k ≤ k') (b : l ≤ l') : Bd k' l' p :=
  ⟨Nat.lt_of_lt_of_le h.1 (Nat.pow_le_pow_right (by decide) a), Nat.le_trans h.2.1 (Nat.pow_le_pow_right (by decide) b), h.2.2⟩
theorem abs_mul_le {a b : Int} {k l : Nat} (h : a.natAbs ≤ 2 ^ k) (g : b.natAbs ≤ 2 ^ l) : (a * b).natAbs ≤ 2 ^ (k + l) := by
  rw [Int.natAbs_mul, Nat.pow_add]
  exact Nat.mul_le_mul h g
theorem abs_mul_lt {a b : Int} {k l : Nat} (h : a.natAbs < 2 ^ k) (g : b.natAbs ≤ 2 ^ l) : (a * b).natAbs < 2 ^ (k + l) := by
  rw [Int.natAbs_mul, Nat.pow_add]
  have hp : 0 < 2 ^ l := Nat.pow_pos (by decide)
  exact Nat.lt_of_le_of_lt (Nat.mul_le_mul_left _ g) ((Nat.mul_lt_mul_right hp).mpr h)
theorem pow_le {a b : Nat} (h : a ≤ b) : 2 ^ a ≤ 2 ^ b := Nat.pow_le_pow_right (by decide) h
theorem abs_add_lt {a b : Int} {k l m : Nat} (h : a.natAbs < 2 ^ k) (g : b.natAbs < 2 ^ l) (h1 : k + 1 ≤ m) (h2 : l + 1 ≤ m) : (a + b).natAbs < 2 ^ m := by
  have e1 : 2 ^ k ≤ 2 ^ (m - 1) := pow_le (by omega)
  have e2 : 2 ^ l ≤ 2 ^ (m - 1) := pow_le (by omega)
  have e3 : 2 ^ m = 2 ^ (m - 1) + 2 ^ (m - 1) := by
    have : m = (m - 1) + 1 := by omega
    conv => lhs; rw [this, Nat.pow_succ]
    omega
  have := Int.natAbs_add_le a b
  omega
theorem bd_sum {k l k' l' m j : Nat} {p q : Int × Int} (h : Bd k l p) (g : Bd k' l' q) (h1 : k + l' + 1 ≤ m) (h2 : k' + l + 1 ≤ m) (h3 : l + l' ≤ j) : Bd m j (sumP p q) :=
  bd_low (abs_add_lt (abs_mul_lt h.1 g.2.1) (abs_mul_lt g.1 h.2.1) h1 h2) (Nat.le_trans (abs_mul_le h.2.1 g.2.1) (pow_le h3)) (mul_ne h.2.2 g.2.2)
theorem bd_mul {k l k' l' m j : Nat} {p q : Int × Int} (h : Bd k l p) (g : Bd k' l' q) (h1 : k + k' ≤ m) (h3 : l + l' ≤ j) : Bd m j (mulP p q) :=
  bd_low (Nat.lt_of_lt_of_le (abs_mul_lt h.1 (Nat.le_of_lt g.1)) (pow_le h1)) (Nat.le_trans (abs_mul_le h.2.1 g.2.1) (pow_le h3)) (mul_ne h.2.2 g.2.2)
theorem bd_div {k l k' l' m j : Nat} {p q : Int × Int} (h : Bd k l p) (g : Bd k' l' q) (n : q.1 ≠ 0) (h1 : k + l' ≤ m) (h3 : l + k' ≤ j) : Bd m j (divP p q) :=
  bd_low (Nat.lt_of_lt_of_le (abs_mul_lt h.1 g.2.1) (pow_le h1)) (Nat.le_trans (abs_mul_le h.2.1 (Nat.le_of_lt g.1)) (pow_le h3)) (mul_ne h.2.2 n)
theorem bd_neg {k l : Nat} {p : Int × Int} (h : Bd k l p) : Bd k l (negP p) := bd_low (by rw [Int.natAbs_neg]; exact h.1) h.2.1 h.2.2
theorem bd_int {k : Nat} {n : Int} (h : n.natAbs < 2 ^ k) : Bd k 0 (n, 1) := ⟨h, show (1 : Int).natAbs ≤ 2 ^ 0 by decide, one_ne n⟩
end Cm
end

/-! ## D11 -/
section
namespace Cm
open PySem PySem.Spec PyProof.Rows L2 KG

def top (i : Nat) : Stmt := PySem.Challenge.pw_calledmidway_k11_whole_ratios_by_rows_of.main.body.getD i (.Pass ⟨0, 0, 0, 0⟩)
abbrev sJar : Stmt := top 12
abbrev sDip : Stmt := top 13
abbrev sChoice : Stmt := top 14
abbrev sInteger : Stmt := top 19
abbrev sParts : Stmt := top 20

/-- a jar of draws -/
def JarAt (H : Hp) (p : Addr) : Prop := ∃ c s : Int, H p = some (.lst [.int c, .int s]) ∧ 0 ≤ c ∧ 0 ≤ s ∧ s ≤ 2147483648
/-- all that was tracked, but the jar, is as it was -/
def Kp (p : Addr) (H H' : Hp) : Prop := ∀ b o, H b = some o → b ≠ p → H' b = some o
theorem Kp.refl (p : Addr) (H : Hp) : Kp p H H := fun _ _ h _ => h
theorem Kp.trans {p : Addr} {H H1 H2 : Hp} (a : Kp p H H1) (b : Kp p H1 H2) : Kp p H H2 := fun c o h n => b c o (a c o h n) n
theorem Kp.same {p : Addr} {H H1 : Hp} (a : Same H H1) : Kp p H H1 := fun c o h _ => a c o h
theorem JarAt.keep {H H' : Hp} {p : Addr} (j : JarAt H p) (k : Same H H') : JarAt H' p := by
  obtain ⟨c, s, e, r⟩ := j
  exact ⟨c, s, k _ _ e, r⟩
theorem Same.upd_new {H : Hp} {p : Addr} {o : HO} (h : H p = none) : Same H (upd H p o) := fun b u e => by
  rw [upd_ne (ne_of_none e h)]
  exact e

theorem Kp.free {p t : Addr} {H H' : Hp} (k : Kp p H H') (j : JarAt H' p) (h : H' t = none) : H t = none := by
  cases e : H t with
  | none => rfl
  | some o =>
    by_cases tp : t = p
    · subst tp
      obtain ⟨_, _, e2, _⟩ := j
      rw [h] at e2
      cases e2
    · rw [k _ _ e tp] at h
      cases h

structure Txt (mg : Str → Option Value) : Prop where
  len : mg "len" = none
  abs : mg "abs" = none
  max : mg "max" = none
  min : mg "min" = none
  int : mg "int" = none
  divmod : mg "divmod" = none
  range : mg "range" = none
  all : mg "all" = none

/-- a def that may be called by its name, every parameter given -/
structure Cl (P : Program) (w : World) (K : PySem.W.Frag) (mg : Str → Option Value) (base : Heap) (k : Nat) (x : Str) (ps : List Str) (sp : Sp) : Prop where
  ex : ∃ (f : Addr) (fd : FuncData), FnOk P w K mg base CX0 k f fd ps sp ∧ mg x = some (.ref f) ∧ PySem.W.keepIn K (.ref f) = true ∧ Binds K fd ps []
section
variable {X : Cx} {k j : Nat} {x : Str} {ps : List Str} {sp : Sp} {p pos : Pos} {e : Expr} {es : List Expr} {t : TA} {te : TE}
theorem pe_k (c : Cl X.prog X.w X.K X.mg X.base k x ps sp) (hr : Room j X.A) (hk : k ≤ j) (gl : Gl X x) (ha : PA X (e :: es) t)
    (hdb : (x == ("__debug__" : Str)) = false := by decide)
    (he : starEach (e :: es) X.env = (false, eval e X.env) :: starEach es X.env := by rfl)
    (hpl : (backTo pos (starEach es X.env)).any (·.1) = false := by rfl) :
    PE X (.Call (.Name x p) (e :: es) [] pos) (tK sp t) := by
  obtain ⟨f, fd, F, hm, hkp, hb⟩ := c.ex
  constructor
  intro pins s σ H Q I h
  refine (pe_call (p := p) F (hr.mono hk) gl hm hkp hb .nil pass0 ha hdb he hpl).run pins s σ H Q I ?_
  show t σ H fun vs H1 => sp (vs ++ []) H1 Q E0
  simp only [List.append_nil]
  exact h
/-- a word about a part's value: what follows is shown once, from Mid -/
def tMid (t : TE) : TE := fun σ H Q => ∃ Mid : V → Hp → Prop, t σ H Mid ∧ ∀ v H', Mid v H' → Q v H'
theorem pe_mid (h : PE X e te) : PE X e (tMid te) := by
  constructor
  rintro pins s σ H Q I ⟨Mid, hm, hu⟩
  refine thn (h.run pins s σ H Mid I hm) ?_
  rintro u s1 ⟨x, H1, I1, r, q⟩
  exact ⟨x, H1, I1, r, hu _ _ q⟩
end

def spJar (K : PySem.W.Frag) : Sp := fun vs H Q _ => ∃ (a : Addr) (ns : List Int) (k : Nat), vs = [.ref a, .int (k : Int)] ∧ SqL K H a (ns.map V.int) ∧ ns.length ≤ 63 ∧ k ≤ 63 ∧
  ∀ (H' : Hp) (p : Addr), Same H H' → H p = none → JarAt H' p → Q (.ref p) H'
theorem Kp.seq {K : PySem.W.Frag} {H H' : Hp} {p a : Addr} {xs : List V} (k : Kp p H H') (n : a ≠ p) (h : SqL K H a xs) : SqL K H' a xs := by
  rcases h with (h | ⟨o, h⟩) | h
  · exact .inl (.inl (k _ _ h n))
  · exact .inl (.inr ⟨o, k _ _ h n⟩)
  · exact .inr h
/-- a list or a text to choose from, apart from the jar -/
def spChoice (K : PySem.W.Frag) : Sp := fun vs H Q _ => ∃ (p : Addr) (x : V), vs = [.ref p, x] ∧ JarAt H p ∧
  ((∃ (a : Addr) (xs : List V), x = .ref a ∧ a ≠ p ∧ SqL K H a xs ∧ 0 < xs.length ∧ xs.length < 1000 ∧
      ∀ (H' : Hp) (j : Nat) (v : V), JarAt H' p → Kp p H H' → xs[j]? = some v → Q v H') ∨
   (∃ z : Str, x = .str z ∧ 0 < z.length ∧ z.length < 1000 ∧ ∀ (H' : Hp) (c : Nat), JarAt H' p → Kp p H H' → c ∈ z.cps.toList → Q (.str ⟨#[c]⟩) H'))
def spInteger : Sp := fun vs H Q _ => ∃ (p : Addr), vs = [.ref p] ∧ JarAt H p ∧
  ∀ (H' : Hp) (n : Int), JarAt H' p → Kp p H H' → n.natAbs < 2 ^ 100 → Q (.int n) H'
def spParts : Sp := fun vs H Q _ => ∃ (p : Addr), vs = [.ref p] ∧ JarAt H p ∧
  ∀ (H' : Hp) (t : Addr) (n m : Int), JarAt H' p → Kp p H H' → H t = none → H' t = some (.tup [.int n, .int m]) → n.natAbs < 2 ^ 100 → m.natAbs < 2 ^ 100 → m ≠ 0 → Q (.ref t) H'
def spDip : Sp := fun vs H Q _ => ∃ (p : Addr) (m : Int), vs = [.ref p, .int m] ∧ JarAt H p ∧ 0 < m ∧ m < 2 ^ 200 ∧
  ∀ (H' : Hp) (r : Int), JarAt H' p → Kp p H H' → 0 ≤ r → r < m → Q (.int r) H'

/-- the end of the jar's def -/
theorem jar_tail {H : Hp} {Q : VK} {a : Addr} {k : Nat} {z : Int} (hz : 0 ≤ z) (hk : k ≤ 63)
    (q : ∀ (H' : Hp) (p : Addr), Same H H' → H p = none → JarAt H' p → Q (V.ref p) H') :
    tRet (tLst (tCons
        (tCB (fun xs H Q => ∃ i j, xs = [V.int i, V.int j] ∧ Q (V.int (if j > i then j else i)) H)
          (tCons (tC (V.int 0)) (tCons (tOp (rI0 fun i j => V.int (i - j)) (tVar 2) (tOp (rI CPow fun i j => V.int (i ^ j.toNat)) (tC (V.int 10)) (tC (V.int 18)))) tNil)))
        (tCons (tOp (rI0 fun i j => V.int (i + j)) (tOp (rI (fun x j => 0 < j) fun i j => V.int (i % j))
          (tCB (fun xs H Q => (∃ i, xs = [V.int i] ∧ Q (V.int i) H) ∨ ∃ k, xs = [V.bl k] ∧ Q (V.int (if k = true then 1 else 0)) H)
            (tCons (tOp (rI0 fun i j => V.int (i + j)) (tOp (rI0 fun i j => V.int (i + j))
              (tOp (rI CMul fun i j => V.int (i * j)) (tOp (rI (fun x j => 0 < j) fun i j => V.int (i % j))
                (tCB (fun xs H Q => (∃ i, xs = [V.int i] ∧ Q (V.int i) H) ∨ ∃ k, xs = [V.bl k] ∧ Q (V.int (if k = true then 1 else 0)) H) (tCons (tVar 2) tNil)) (tC (V.int 2147483489))) (tC (V.int 40699)))
              (tOp (rI CMul fun i j => V.int (i * j)) (tC (V.int 52711)) (tVar 1))) (tC (V.int 17))) tNil)) (tC (V.int 2147483423))) (tC (V.int 1))) tNil)))
      { nx := fun _ H' => Q V.non H', rt := Q } [some (.ref a), some (.int (k : Int)), some (.int z)] H := by
  refine ⟨_, rfl, _, _, rfl, rfl, ⟨by decide, by decide, by decide⟩, _, _, rfl, rfl, _, _, rfl, ?_⟩
  refine ⟨_, rfl, .inl ⟨_, rfl, _, _, rfl, rfl, (by show (0 : Int) < 2147483489; decide), _, _, rfl, rfl, .inr ⟨by decide, by decide⟩, _, rfl, _, _, rfl, rfl, .inl ⟨by decide, by decide⟩, _, _, rfl, rfl, _, _, rfl, rfl, .inl ⟨_, rfl, _, _, rfl, rfl, (by show (0 : Int) < 2147483423; decide), _, _, rfl, rfl, ?_⟩⟩⟩
  refine ⟨(by show 2 ≤ sizeLine; decide), fun p hp => ?_⟩
  refine q _ p (Same.upd_new hp) hp ⟨_, _, upd_same, ?_, ?_, ?_⟩
  · split <;> omega
  · have := Int.emod_nonneg (((z % 2147483489 * 40699 + 52711 * (k : Int)) + 17)) (show (2147483423 : Int) ≠ 0 by decide)
    omega
  · have := Int.emod_lt_of_pos (((z % 2147483489 * 40699 + 52711 * (k : Int)) + 17)) (show (0 : Int) < 2147483423 by decide)
    omega

section
variable {P : Program} {w : World} {K : PySem.W.Frag} {mg : Str → Option Value} {base : Heap}

theorem scJar : FnScope ["_law_script", "_law_k", "_law_cell"] ["_law_script", "_law_k"] (defScope sJar) := ⟨rfl, rfl, rfl, by decide +kernel, rfl, by decide +kernel, by decide +kernel⟩
theorem ok_jar {f : Addr} {fd : FuncData} (F : Fun K "_law_jar" "_law_jar" sJar f fd) (T : Txt mg) : FnOk P w K mg base CX0 1 f fd ["_law_script", "_law_k"] (spJar K) := by
  refine F.ok scJar (fun vs H Q E h => ?_) (fun cdv A outer s H vs Q E hr h => ?_)
  · obtain ⟨a, ns, k, rfl, _⟩ := h
    rfl
  · obtain ⟨a, ns, k, rfl, hS, hlen, hk, q⟩ := h
    refine ⟨_, pss_cons (ps_set (i := 2) scJar.nd rfl (Or.inl rfl)
        (pe_ifExp (pt_cmpR op_lt (pv 1) (pe_callB call_len (by rfl) T.len PySem.boot_len (pa_cons (pv 0) pa_nil)) (nomark _))
          (pe_callB call_abs (by rfl) T.abs (by decide +kernel) (pa_cons (pe_ix ix_list (pv 0) (pv 1) (fun _ _ => rfl)) pa_nil))
          (pe_op op_add (pe_op op_mul pe_int (pv 1)) pe_int)))
      (pss_one (ps_ret (pe_lst (pa_cons
          (pe_callB (call_max2 rfl) (by rfl) T.max (by decide +kernel) (pa_cons pe_int (pa_cons (pe_op op_sub (pv 2) (pe_op op_pow pe_int pe_int)) pa_nil)))
        (pa_cons (pe_op op_add (pe_op op_mod (pe_callTy call_int1 (by rfl) T.int (by decide +kernel) (pa_cons
            (pe_op op_add (pe_op op_add (pe_op op_mul (pe_op op_mod (pe_callTy call_int1 (by rfl) T.int (by decide +kernel) (pa_cons (pv 2) pa_nil)) pe_int) pe_int) (pe_op op_mul pe_int (pv 1))) pe_int) pa_nil)) pe_int) pe_int) pa_nil))))), ?_⟩
    refine ⟨_, rfl, _, rfl, _, _, rfl, .inl ⟨_, hS, rfl⟩, _, _, rfl, rfl, _, rfl, ?_⟩
    refine ite2 (fun c => ?_) (fun c => ?_)
    · have c1 : k < ns.length := by
        have c2 := of_decide_eq_true c
        rw [List.length_map] at c2
        omega
      refine ⟨_, rfl, _, rfl, a, _, _, V.int ns[k], rfl, rfl, hS, atI_nat (by rw [List.getElem?_map, List.getElem?_eq_getElem c1]; rfl), _, rfl, ?_⟩
      refine jar_tail (z := if ns[k] < 0 then -ns[k] else ns[k]) (by split <;> omega) hk q
    · refine ⟨_, rfl, _, _, rfl, rfl, .inl ⟨by decide, by decide⟩, _, _, rfl, rfl, ?_⟩
      refine jar_tail (z := 23 * (k : Int) + 9) (by omega) hk q

theorem scDip : FnScope ["_law_jar_here", "_law_many", "_law_digit"] ["_law_jar_here", "_law_many"] (defScope sDip) := ⟨rfl, rfl, rfl, by decide +kernel, rfl, by decide +kernel, by decide +kernel⟩
theorem divp_of {i j : Int} (h : 0 < j) (hb : j < 2 ^ 200) : CDivP i j := by
  refine ⟨h, PyProof.noPylong_of_log2 ?_⟩
  have h1 : j.natAbs < 2 ^ 200 := by omega
  have := PySem.Flt.log2_lt_of (show 0 < 200 by decide) h1
  omega
theorem ok_dip {f : Addr} {fd : FuncData} (F : Fun K "_law_dip" "_law_dip" sDip f fd) (T : Txt mg) : FnOk P w K mg base CX0 1 f fd ["_law_jar_here", "_law_many"] spDip := by
  refine F.ok scDip (fun vs H Q E h => ?_) (fun cdv A outer s H vs Q E hr h => ?_)
  · obtain ⟨p, m, rfl, _⟩ := h
    rfl
  · obtain ⟨p, m, rfl, ⟨c, z, hp, hc0, hz0, hz1⟩, hm, hm2, q⟩ := h
    refine ⟨_, pss_cons (ps_if (pt_cmpR op_gt (pe_ix ix_list (pv 0) pe_int (fun _ _ => rfl)) pe_int (nomark _))
        (pss_cons (ps_asg (pe_callB call_divmodW (by rfl) T.divmod (by decide +kernel) (pa_cons (pe_ix ix_list (pv 0) pe_int (fun _ _ => rfl)) (pa_cons (pv 1) pa_nil)))
            (pg_tup rfl (pgs_cons (pg_sub (pv 0) pe_int set_list) (pgs_cons (pg_name (i := 2) scDip.nd rfl (Or.inl rfl)) pgs_nil))))
          (pss_one (ps_ret (pv 2)))) pss_nil)
      (pss_cons (ps_asg (pe_op op_mod (pe_callTy call_int1 (by rfl) T.int (by decide +kernel) (pa_cons
            (pe_op op_add (pe_op op_mul (pe_ix ix_list (pv 0) pe_int (fun _ _ => rfl)) pe_int) pe_int) pa_nil)) pe_int) (pg_sub (pv 0) pe_int set_list))
        (pss_one (ps_ret (pe_op op_mod (pe_callTy call_int1 (by rfl) T.int (by decide +kernel) (pa_cons (pe_op op_fdiv (pe_op op_mod
            (pe_callTy call_int1 (by rfl) T.int (by decide +kernel) (pa_cons (pe_op op_mul (pe_ix ix_list (pv 0) pe_int (fun _ _ => rfl)) (pe_ix ix_list (pv 0) pe_int (fun _ _ => rfl))) pa_nil)) pe_int) pe_int) pa_nil)) (pv 1))))), ?_⟩
    refine ⟨_, rfl, p, _, _, _, rfl, rfl, SqL.of hp, rfl, _, _, rfl, rfl, _, rfl, ?_⟩
    refine ite2 (fun h1 => ?_) (fun h1 => ?_)
    · have h2 : 0 < c := of_decide_eq_true h1
      refine ⟨_, rfl, p, _, _, _, rfl, rfl, SqL.of hp, rfl, _, rfl, _, _, rfl, divp_of hm hm2, fun d hd => ?_⟩
      have np : p ≠ d := ne_of_none hp hd
      refine ⟨d, _, rfl, SqT.of upd_same, rfl, _, _, rfl, _, rfl, p, _, _, 0, rfl, rfl, (by rw [upd_ne np]; exact hp), rfl, _, _, rfl, rfl, ?_⟩
      refine ⟨_, rfl, q _ _ ⟨_, _, upd_same, Int.ediv_nonneg hc0 (by omega), hz0, hz1⟩ (fun b o e hb => ?_) (Int.emod_nonneg _ (by omega)) (Int.emod_lt_of_pos _ hm)⟩
      rw [upd_ne hb, upd_ne (ne_of_none e hd)]
      exact e
    · refine ⟨_, rfl, p, _, _, _, rfl, rfl, SqL.of hp, rfl, _, _, rfl, rfl, .inr ⟨by decide, by decide⟩, _, _, rfl, rfl, .inl ⟨_, rfl, _, _, rfl, rfl, (by show (0 : Int) < 2147483563; decide), ?_⟩⟩
      refine ⟨_, rfl, p, _, _, 1, rfl, rfl, hp, rfl, ?_⟩
      have g0 := Int.emod_nonneg (z * 44497 + 27011) (show (2147483563 : Int) ≠ 0 by decide)
      have g1 := Int.emod_lt_of_pos (z * 44497 + 27011) (show (0 : Int) < 2147483563 by decide)
      refine ⟨_, rfl, p, _, _, _, rfl, rfl, SqL.of upd_same, rfl, _, rfl, p, _, _, _, rfl, rfl, SqL.of upd_same, rfl, _, _, rfl, rfl, .inl ⟨by omega, by omega⟩, .inl ⟨_, rfl, _, _, rfl, rfl, (by show (0 : Int) < 2147483497; decide), _, _, rfl, rfl, ⟨by decide, by decide⟩, .inl ⟨_, rfl, _, rfl, _, _, rfl, rfl, hm, ?_⟩⟩⟩
      refine q _ _ ⟨_, _, upd_same, hc0, g0, by omega⟩ (fun b o e hb => by rw [upd_ne hb]; exact e) (Int.emod_nonneg _ (by omega)) (Int.emod_lt_of_pos _ hm)

theorem scChoice : FnScope ["_law_jar_here", "_law_some"] ["_law_jar_here", "_law_some"] (defScope sChoice) := ⟨rfl, rfl, rfl, by decide +kernel, rfl, by decide +kernel, by decide +kernel⟩
theorem ok_choice {f : Addr} {fd : FuncData} (F : Fun K "_law_choice" "_law_choice" sChoice f fd) (T : Txt mg) (cD : Cl P w K mg base 1 "_law_dip" ["_law_jar_here", "_law_many"] spDip) : FnOk P w K mg base CX0 2 f fd ["_law_jar_here", "_law_some"] (spChoice K) := by
  refine F.ok scChoice (fun vs H Q E h => ?_) (fun cdv A outer s H vs Q E hr h => ?_)
  · obtain ⟨p, x, rfl, _⟩ := h
    rfl
  · obtain ⟨p, x, rfl, J, h⟩ := h
    refine ⟨_, pss_one (ps_ret (pe_ix ix_seq (pv 1) (pe_k cD hr (Nat.le_refl _) rfl (pa_cons (pv 0) (pa_cons (pe_callB call_len (by rfl) T.len PySem.boot_len (pa_cons (pv 1) pa_nil)) pa_nil))) (fun _ _ => rfl))), ?_⟩
    rcases h with ⟨a, xs, rfl, na, hS, h0, h1, q⟩ | ⟨z, rfl, h0, h1, q⟩
    · refine ⟨_, rfl, _, rfl, _, rfl, _, _, rfl, .inl ⟨_, hS, rfl⟩, p, _, rfl, J, by omega, by omega, fun H' r J' k r0 r1 => ?_⟩
      obtain ⟨j, rfl⟩ : ∃ j : Nat, r = (j : Int) := ⟨r.toNat, by omega⟩
      have hj : j < xs.length := by omega
      exact .inl ⟨a, xs, _, xs[j], rfl, rfl, k.seq na hS, atI_nat (List.getElem?_eq_getElem hj), q H' j _ J' k (List.getElem?_eq_getElem hj)⟩
    · have hz : z.length ≤ sizeLine := Nat.le_trans (Nat.le_of_lt h1) (by decide)
      refine ⟨_, rfl, _, rfl, _, rfl, _, _, rfl, ⟨hz, rfl⟩, p, _, rfl, J, by omega, by omega, fun H' r J' k r0 r1 => ?_⟩
      obtain ⟨j, rfl⟩ : ∃ j : Nat, r = (j : Int) := ⟨r.toNat, by omega⟩
      have hj : j < z.cps.toList.length := by
        have : z.cps.toList.length = z.length := by simp [Str.length]
        omega
      exact .inr (.inr ⟨z, _, z.cps.toList[j], rfl, rfl, hz, atI_nat (List.getElem?_eq_getElem hj), q H' _ J' k (List.getElem_mem hj)⟩)

theorem scInteger : FnScope ["_law_jar_here", "_law_size", "_law_found"] ["_law_jar_here"] (defScope sInteger) := ⟨rfl, rfl, rfl, by decide +kernel, rfl, by decide +kernel, by decide +kernel⟩
theorem ok_integer {f : Addr} {fd : FuncData} (F : Fun K "_law_integer" "_law_integer" sInteger f fd) (T : Txt mg) (cD : Cl P w K mg base 1 "_law_dip" ["_law_jar_here", "_law_many"] spDip)
    (cC : Cl P w K mg base 2 "_law_choice" ["_law_jar_here", "_law_some"] (spChoice K)) : FnOk P w K mg base CX0 3 f fd ["_law_jar_here"] spInteger := by
  refine F.ok scInteger (fun vs H Q E h => ?_) (fun cdv A outer s H vs Q E hr h => ?_)
  · obtain ⟨p, rfl, _⟩ := h
    rfl
  · obtain ⟨p, rfl, J, q⟩ := h
    have hr1 : Room 1 _ := hr.mono (by decide)
    refine ⟨_, pss_cons (ps_set (i := 1) scInteger.nd rfl (Or.inl rfl) (pe_k cC hr (Nat.le_refl _) rfl (pa_cons (pv 0) (pa_cons (pe_lst (pa_cons pe_int (pa_cons pe_int (pa_cons pe_int (pa_cons pe_int
          (pa_cons (pe_op op_pow pe_int pe_int) (pa_cons (pe_op op_pow pe_int pe_int) (pa_cons (pe_op op_pow pe_int pe_int) pa_nil)))))))) pa_nil))))
      (pss_cons (ps_set (i := 2) scInteger.nd rfl (Or.inl rfl) (pe_k cD hr1 (Nat.le_refl _) rfl (pa_cons (pv 0) (pa_cons (pv 1) pa_nil))))
      (C8.pss_cut (ps_if (PW.pt (pw_and (pt_cmpR op_eq (pv 1) (pe_op op_pow pe_int pe_int) (nomark _)) (pw_and1 (pt_cmpR op_lt (pv 2) (pe_op op_pow pe_int pe_int) (nomark _)))))
          (pss_one (ps_set (i := 2) scInteger.nd rfl (Or.inl rfl) (pe_op op_add (pe_op op_add (pe_op op_mul (pv 2) (pe_op op_pow pe_int pe_int))
            (pe_op op_mul (pe_k cD hr1 (Nat.le_refl _) rfl (pa_cons (pv 0) (pa_cons (pe_op op_pow pe_int pe_int) pa_nil))) (pe_op op_pow pe_int pe_int)))
            (pe_k cD hr1 (Nat.le_refl _) rfl (pa_cons (pv 0) (pa_cons (pe_op op_pow pe_int pe_int) pa_nil)))))) pss_nil)
      (pss_one (ps_ret (pe_ifExp (pt_cmpR op_eq (pe_k cD hr1 (Nat.le_refl _) rfl (pa_cons (pv 0) (pa_cons pe_int pa_nil))) pe_int (nomark _)) (pe_un un_neg (pv 2)) (pv 2)))))), ?_⟩
    have e9 : (10 : Int) ^ (9 : Int).toNat = 1000000000 := by decide
    have e10 : (10 : Int) ^ (10 : Int).toNat = 10000000000 := by decide
    have e19 : (10 : Int) ^ (19 : Int).toNat = 10000000000000000000 := by decide
    have cp : ∀ j : Int, 0 ≤ j → j ≤ 1000 → CPow 10 j := fun j h0 h1 => ⟨h0, by omega, by decide⟩
    refine ⟨_, rfl, _, _, rfl, rfl, cp _ (by decide) (by decide), _, _, rfl, rfl, cp _ (by decide) (by decide), _, _, rfl, rfl, cp _ (by decide) (by decide), (by show 7 ≤ sizeLine; decide), fun l hl => ?_⟩
    have s0 : ∀ o, Same H (upd H l o) := fun _ => Same.upd_new hl
    have nlp : l ≠ p := by
      obtain ⟨c, z, e, _⟩ := J
      exact (ne_of_none e hl).symm
    refine ⟨p, _, rfl, J.keep (s0 _), .inl ⟨l, _, rfl, nlp, SqL.of upd_same, (by decide), (by decide), fun H1 j v J1 k1 hv => ?_⟩⟩
    obtain ⟨m, rfl, m0, m1⟩ : ∃ m : Int, v = V.int m ∧ 0 < m ∧ m ≤ 100000000000000000000000000000 := by
      have hm := List.mem_of_getElem? hv
      simp only [List.mem_cons, List.not_mem_nil, or_false] at hm
      rcases hm with rfl | rfl | rfl | rfl | rfl | rfl | rfl <;> exact ⟨_, rfl, by decide, by decide⟩
    refine ⟨_, rfl, _, rfl, p, _, rfl, J1, m0, by omega, fun H2 r J2 k2 r0 r1 => ?_⟩
    have k02 : Kp p H H2 := ((Kp.same (s0 _)).trans k1).trans k2
    refine ⟨fun σ H' => ∃ n : Int, σ = [some (.ref p), some (.int m), some (.int n)] ∧ JarAt H' p ∧ Kp p H H' ∧ n.natAbs < 2 ^ 100, ?_, ?_⟩
    · have base : ∃ n : Int, [some (V.ref p), some (V.int m), some (V.int r)] = [some (.ref p), some (.int m), some (.int n)] ∧ JarAt H2 p ∧ Kp p H H2 ∧ n.natAbs < 2 ^ 100 := ⟨r, rfl, J2, k02, by omega⟩
      refine ⟨_, rfl, _, _, rfl, rfl, cp _ (by decide) (by decide), rfl, _, rfl, ?_⟩
      refine ite2 (fun _ => ?_) (fun _ => iteF base)
      refine ⟨_, rfl, _, _, rfl, rfl, cp _ (by decide) (by decide), _, _, rfl, rfl, _, rfl, ?_⟩
      refine ite2 (fun h1 => ?_) (fun _ => base)
      have h2 : r < 10 ^ (10 : Int).toNat := of_decide_eq_true h1
      rw [e10] at h2
      refine ⟨_, rfl, _, _, rfl, rfl, cp _ (by decide) (by decide), _, _, rfl, rfl, .inl ⟨by omega, by omega⟩, _, rfl, _, _, rfl, rfl, cp _ (by decide) (by decide), p, _, rfl, J2, (by decide), (by decide), fun H3 r3 J3 k3 a3 b3 => ?_⟩
      rw [e10] at b3
      refine ⟨_, _, rfl, rfl, cp _ (by decide) (by decide), _, _, rfl, rfl, .inl ⟨by omega, by omega⟩, _, _, rfl, rfl, _, rfl, _, _, rfl, rfl, cp _ (by decide) (by decide), p, _, rfl, J3, (by decide), (by decide), fun H4 r4 J4 k4 a4 b4 => ?_⟩
      rw [e9] at b4
      refine ⟨_, _, rfl, rfl, _, rfl, J4, (k02.trans k3).trans k4, ?_⟩
      rw [e19, e9]
      omega
    · rintro σ H5 ⟨n, rfl, J5, k5, hn⟩
      refine ⟨_, rfl, p, _, rfl, J5, (by decide), (by decide), fun H6 r6 J6 k6 a6 b6 => ?_⟩
      refine ⟨rfl, _, rfl, ?_⟩
      refine ite2 (fun _ => ?_) (fun _ => ?_)
      · exact ⟨_, rfl, _, rfl, q _ _ J6 (k5.trans k6) (by omega)⟩
      · exact ⟨_, rfl, q _ _ J6 (k5.trans k6) hn⟩

theorem scParts : FnScope ["_law_jar_here", "_law_up", "_law_low"] ["_law_jar_here"] (defScope sParts) := ⟨rfl, rfl, rfl, by decide +kernel, rfl, by decide +kernel, by decide +kernel⟩
theorem ok_parts {f : Addr} {fd : FuncData} (F : Fun K "_law_parts" "_law_parts" sParts f fd) (cI : Cl P w K mg base 3 "_law_integer" ["_law_jar_here"] spInteger) : FnOk P w K mg base CX0 4 f fd ["_law_jar_here"] spParts := by
  refine F.ok scParts (fun vs H Q E h => ?_) (fun cdv A outer s H vs Q E hr h => ?_)
  · obtain ⟨p, rfl, _⟩ := h
    rfl
  · obtain ⟨p, rfl, J, q⟩ := h
    refine ⟨_, pss_cons (ps_par (i := 1) (j := 2) (by rfl) scParts.nd rfl rfl (by decide) rfl rfl (pa_cons (pe_k cI hr (Nat.le_refl _) rfl (pa_cons (pv 0) pa_nil)) (pa_cons (pe_k cI hr (Nat.le_refl _) rfl (pa_cons (pv 0) pa_nil)) pa_nil)) (by rfl))
      (pss_one (ps_ret (pe_tup (pa_cons (pv 1) (pa_cons (pe_ifExp (pt_cmpR op_ne (pv 2) pe_int (nomark _)) (pv 2) pe_int) pa_nil))))), ?_⟩
    refine ⟨_, rfl, p, rfl, J, fun H1 n J1 k1 hn => ?_⟩
    refine ⟨_, rfl, p, rfl, J1, fun H2 m J2 k2 hm => ?_⟩
    have k02 := k1.trans k2
    refine ⟨_, _, rfl, _, rfl, _, rfl, rfl, _, rfl, ?_⟩
    have fin : ∀ m' : Int, m'.natAbs < 2 ^ 100 → m' ≠ 0 → ∀ t, H2 t = none → Q (.ref t) (upd H2 t (.tup [.int n, .int m'])) := fun m' h1 h2 t ht => by
      exact q _ t n m' (J2.keep (Same.upd_new ht)) (k02.trans (Kp.same (Same.upd_new ht))) (k02.free J2 ht) upd_same hn h1 h2
    refine ite2 (fun hc => ?_) (fun hc => ?_)
    · have hm0 : m ≠ 0 := fun z => by
        subst z
        exact absurd hc (by decide)
      exact ⟨_, rfl, (by show 2 ≤ sizeLine; decide), fun t ht => fin m hm hm0 t ht⟩
    · exact ⟨(by show 2 ≤ sizeLine; decide), fun t ht => fin 1 (by decide) (by decide) t ht⟩
end
end Cm
end

/-! ## N11 -/
section
namespace Cm
open PySem PySem.Spec PyProof.Rows L2 KG

abbrev sIsInt : Stmt := top 8
abbrev sAsRatio : Stmt := top 9

/-- a def that may be called by its name with its parameters' names, too -/
structure ClK (P : Program) (w : World) (K : PySem.W.Frag) (mg : Str → Option Value) (base : Heap) (k : Nat) (x : Str) (ps : List Str) (sp : Sp) : Prop where
  ex : ∃ (f : Addr) (fd : FuncData), FnOk P w K mg base CX0 k f fd ps sp ∧ mg x = some (.ref f) ∧ PySem.W.keepIn K (.ref f) = true ∧ Binds K fd ps [] ∧
    ∀ (s : Shared) (ws : List Value), ws.length = ps.length → BindsTo s fd ⟨[], ps.zip ws⟩ (ps.zip ws)
theorem ClK.cl {P : Program} {w : World} {K : PySem.W.Frag} {mg : Str → Option Value} {base : Heap} {k : Nat} {x : Str} {ps : List Str} {sp : Sp} (c : ClK P w K mg base k x ps sp) : Cl P w K mg base k x ps sp := by
  obtain ⟨f, fd, a, b, c, d, _⟩ := c.ex
  exact ⟨f, fd, a, b, c, d⟩
section
variable {X : Cx} {k j : Nat} {x : Str} {ps : List Str} {sp : Sp} {p pos : Pos} {kws : List Keyword} {tk : TA}
theorem pe_kk (c : ClK X.prog X.w X.K X.mg X.base k x ps sp) (hr : Room j X.A) (hj : k ≤ j) (gl : Gl X x) (hkw : PK X kws tk)
    (hall : (backToKw pos (keywordEach kws X.env)).all (·.1.isSome) = true := by rfl) (hks : (backToKw pos (keywordEach kws X.env)).filterMap (·.1) = ps := by rfl)
    (hdb : (x == ("__debug__" : Str)) = false := by decide)
    (hpl : ((backTo pos (starEach [] X.env)).any (·.1) || (backToKw pos (keywordEach kws X.env)).any (·.1.isNone)) = false := by rfl) :
    PE X (.Call (.Name x p) [] kws pos) (tK sp tk) := by
  obtain ⟨f, fd, F, hm, hkp, _, hb⟩ := c.ex
  constructor
  intro pins s σ H Q I h
  refine wpAny_Call_Name_kw (ld_glob I gl hm ?_ hdb)
  refine PySem.W.callWith_KW0 (h₀ := X.base) I.ok.mod.kin hkp hall ?_ hpl
  refine thn (hkw.run pos pins s σ H _ I h) ?_
  rintro ws s2 ⟨zs, H2, I2, rz, q2⟩
  refine ⟨I2.kIn, ?_⟩
  rw [hks]
  have hl : ws.length = ps.length := by rw [← rz.length]; exact F.len _ _ _ _ q2
  refine wpAny_call (codeAny_mono (F.run X.A X.stack s2 H2 ⟨[], ps.zip ws⟩ ws zs Q E0 (hr.mono hj) I2.env0 (hb s2 ws hl) rz q2) ?_)
  intro res s' q
  cases res with
  | error e => exact q.elim
  | ok fl =>
    cases fl with
    | ret u => exact I2.after q
    | next => exact q.elim
    | brk => exact q.elim
    | cont => exact q.elim
end

/-- what isinstance says of a value -/
def Kind (K : PySem.W.Frag) (CR : Addr) (H : Hp) (x : V) (bi bb bs br : Bool) : Prop := ∃ t : Value, TyX K H x t ∧ PySem.W.kitOne K t (.type "int") = some bi ∧ PySem.W.kitOne K t (.type "bool") = some bb ∧
  PySem.W.kitOne K t (.type "str") = some bs ∧ PySem.W.kitOne K t (.ref CR) = some br

structure TxtN (mg : Str → Option Value) (CR : Addr) : Prop where
  isi : mg "isinstance" = none
  int : mg "int" = none
  bool : mg "bool" = none

def spIsInt (K : PySem.W.Frag) (CR : Addr) : Sp := fun vs H Q _ => ∃ (x : V) (bi bb bs br : Bool), vs = [x] ∧ Kind K CR H x bi bb bs br ∧ Q (.bl (bi && !bb)) H
section
variable {P : Program} {w : World} {K : PySem.W.Frag} {mg : Str → Option Value} {base : Heap} {CR : Addr}

theorem scIsInt : FnScope ["value"] ["value"] (defScope sIsInt) := ⟨rfl, rfl, rfl, by decide +kernel, rfl, by decide +kernel, by decide +kernel⟩
theorem ok_isInt {f : Addr} {fd : FuncData} (F : Fun K "is_integer" "is_integer" sIsInt f fd) (T : TxtN mg CR) : FnOk P w K mg base CX0 1 f fd ["value"] (spIsInt K CR) := by
  refine F.ok scIsInt (fun vs H Q E h => ?_) (fun cdv A outer s H vs Q E hr h => ?_)
  · obtain ⟨x, _, _, _, _, rfl, _⟩ := h
    rfl
  · obtain ⟨x, bi, bb, bs, br, rfl, ⟨t, ty, k1, k2, k3, k4⟩, q⟩ := h
    refine ⟨_, pss_one (ps_ret (pe_and (pe_callB call_isi (by rfl) T.isi (by decide +kernel) (pa_cons (pv 0) (pa_cons (pe_bltn (v := .ty "int") (by rfl) T.int (by decide +kernel) rfl) pa_nil)))
      (pe_one (pe_not (pe_callB call_isi (by rfl) T.isi (by decide +kernel) (pa_cons (pv 0) (pa_cons (pe_bltn (v := .ty "bool") (by rfl) T.bool (by decide +kernel) rfl) pa_nil))))))), ?_⟩
    refine ⟨_, rfl, _, _, t, _, _, rfl, .ty _, ty, k1, _, rfl, ?_⟩
    cases bi with
    | false => exact iteF q
    | true => exact iteT ⟨_, rfl, _, _, t, _, _, rfl, .ty _, ty, k2, _, rfl, q⟩

end
end Cm
end

/-! ## R11 -/
section
namespace Cm
open PySem PySem.Spec PyProof.Rows L2 KG
abbrev sR (i : Nat) : Stmt := inClass (top 10) i
abbrev sRInit : Stmt := sR 0
abbrev sRTop : Stmt := sR 1
abbrev sRBottom : Stmt := sR 2
abbrev sRSign : Stmt := sR 3
abbrev sRAdd : Stmt := sR 4
abbrev sRRadd : Stmt := sR 5
abbrev sRSub : Stmt := sR 6
abbrev sRRsub : Stmt := sR 7
abbrev sRMul : Stmt := sR 8
abbrev sRRmul : Stmt := sR 9
abbrev sRNeg : Stmt := sR 10
abbrev sROver : Stmt := sR 11
abbrev sRTotal : Stmt := sR 13
abbrev sRStr : Stmt := sR 15
abbrev sRRepr : Stmt := sR 16

/-! ### a ratio's attributes -/
theorem tb_ne : ¬ (("_top" : Str) = "_bottom") := by decide +kernel
def rf (x y : Int) : List (Str × V) := putF "_bottom" (.int y) (putF "_top" (.int x) [])
theorem rf_top (x y : Int) : (rf x y).lookup ("_top" : Str) = some (.int x) := by
  unfold rf
  rw [lookup_putF, if_neg tb_ne, lookup_putF, if_pos rfl]
theorem rf_bot (x y : Int) : (rf x y).lookup ("_bottom" : Str) = some (.int y) := by
  unfold rf
  rw [lookup_putF, if_pos rfl]
theorem rf_no (x y : Int) {m : Str} (h1 : ¬ m = "_bottom") (h2 : ¬ m = "_top") : (rf x y).lookup m = none := by
  unfold rf
  rw [lookup_putF, if_neg h1, lookup_putF, if_neg h2]
  all_goals rfl
/-- the ratio p stands at a -/
def RA (CR : Addr) (H : Hp) (a : Addr) (p : Int × Int) : Prop := ∃ dx, H a = some (.ins CR dx (rf p.1 p.2))
theorem RA.keep {CR : Addr} {H H' : Hp} {a : Addr} {p : Int × Int} (h : RA CR H a p) (e : Same H H') : RA CR H' a p := by
  obtain ⟨dx, h⟩ := h
  exact ⟨dx, e _ _ h⟩
theorem RA.isI {CR : Addr} {H : Hp} {a : Addr} {p : Int × Int} (h : RA CR H a p) : IsI H CR a := by
  obtain ⟨dx, h⟩ := h
  exact ⟨dx, _, h⟩
/-- a number: a ratio or an int -/
def Num (CR : Addr) (H : Hp) (x : V) (q : Int × Int) : Prop := (∃ b, x = .ref b ∧ RA CR H b q) ∨ ∃ n : Int, x = .int n ∧ q = (n, 1)
theorem Num.keep {CR : Addr} {H H' : Hp} {x : V} {p : Int × Int} (h : Num CR H x p) (e : Same H H') : Num CR H' x p := by
  rcases h with ⟨b, h1, h2⟩ | h
  · exact .inl ⟨b, h1, h2.keep e⟩
  · exact .inr h

theorem lg_le {n k : Nat} (h : n ≤ 2 ^ k) : n.log2 ≤ k := by
  have : n < 2 ^ (k + 1) := Nat.lt_of_le_of_lt h (Nat.pow_lt_pow_right (by decide) (Nat.lt_succ_self k))
  have := PySem.Flt.log2_lt_of (Nat.succ_pos k) this
  omega
theorem cm_of {i j : Int} {k l : Nat} (h : i.natAbs ≤ 2 ^ k) (g : j.natAbs ≤ 2 ^ l) (hk : k + l < 1000000) : CMulW i j := by
  have := lg_le h
  have := lg_le g
  unfold CMulW
  omega
theorem Bd.m1 {k l k' l' : Nat} {p q : Int × Int} (h : Bd k l p) (g : Bd k' l' q) (hk : k + l' < 1000000) : CMulW p.1 q.2 := cm_of (Nat.le_of_lt h.1) g.2.1 hk
/-- room for every product -/
def Fit (k l k' l' : Nat) : Prop := k + k' < 12990 ∧ k + l' < 12990 ∧ l + k' < 12990 ∧ l + l' < 12990

structure TxtR (K : PySem.W.Frag) (mg : Str → Option Value) (CR : Addr) : Prop where
  cl : Cls K CR
  nT : NoAttr K CR "_top"
  nB : NoAttr K CR "_bottom"
  mgR : mg "Ratio" = some (.ref CR)
  gcd : mg "gcd" = some (.builtin "math.gcd")
  str : mg "str" = none
  isi : mg "isinstance" = none
  sf : PySem.W.selfFirst K CR = true

def spRInit (CR : Addr) : Sp := fun vs H Q _ => ∃ (p dx : Addr) (t b : Int) (k l : Nat), vs = [.ref p, .int t, .int b] ∧ H p = some (.ins CR dx []) ∧ b ≠ 0 ∧ t.natAbs < 2 ^ k ∧ b.natAbs ≤ 2 ^ l ∧ k ≤ 13000 ∧ l ≤ 13000 ∧
  ∀ H' : Hp, H' p = some (.ins CR dx (rf (low t b).1 (low t b).2)) → (∀ a o, H a = some o → a ≠ p → H' a = some o) → Q .non H'
/-- kinds of ints -/
theorem kind_int {K : PySem.W.Frag} {CR : Addr} {H : Hp} (n : Int) (h : PySem.W.kitOne K (.type "int") (.ref CR) = some false) : Kind K CR H (.int n) true false false false :=
  ⟨_, .base (.int n), kit_ty (by decide +kernel), kit_ty (by decide +kernel), kit_ty (by decide +kernel), h⟩

def spRTop (CR : Addr) : Sp := fun vs H Q _ => ∃ (a : Addr) (p : Int × Int), vs = [.ref a] ∧ RA CR H a p ∧ Q (.int p.1) H
def spRBot (CR : Addr) : Sp := fun vs H Q _ => ∃ (a : Addr) (p : Int × Int), vs = [.ref a] ∧ RA CR H a p ∧ Q (.int p.2) H
def spRSign (CR : Addr) : Sp := fun vs H Q _ => ∃ (a : Addr) (p : Int × Int), vs = [.ref a] ∧ RA CR H a p ∧ Q (.int (if p.1 = 0 then 0 else if 0 < p.1 then 1 else -1)) H
/-- the text of an int -/
def iT (n : Int) : Str := Str.ofString (toString n)
def rStr (p : Int × Int) : Str := if p.2 = 1 then iT p.1 else Str.empty ++ iT p.1 ++ "/" ++ iT p.2
def rRepr (p : Int × Int) : Str := Str.empty ++ "Ratio(" ++ iT p.1 ++ ", " ++ iT p.2 ++ ")"
def spRStr (CR : Addr) : Sp := fun vs H Q _ => ∃ (a : Addr) (p : Int × Int), vs = [.ref a] ∧ RA CR H a p ∧ p.1.natAbs < Big ∧ p.2.natAbs < Big ∧ Q (.str (rStr p)) H
def spRRepr (CR : Addr) : Sp := fun vs H Q _ => ∃ (a : Addr) (p : Int × Int), vs = [.ref a] ∧ RA CR H a p ∧ p.1.natAbs < Big ∧ p.2.natAbs < Big ∧ Q (.str (rRepr p)) H

section
variable {P : Program} {w : World} {K : PySem.W.Frag} {mg : Str → Option Value} {base : Heap} {CR : Addr}

theorem scRInit : FnScope ["self", "top", "bottom", "shared"] ["self", "top", "bottom"] (defScope sRInit) := ⟨rfl, rfl, rfl, by decide +kernel, rfl, by decide +kernel, by decide +kernel⟩
theorem ok_rInit {f : Addr} {fd : FuncData} (F : FunD K "__init__" "Ratio.__init__" (defArgs sRInit) (defBody sRInit) (defScope sRInit) [.int 1] [] f fd) (T : TxtR K mg CR)
    (cI : Cl P w K mg base 1 "is_integer" ["value"] (spIsInt K CR)) (kI : PySem.W.kitOne K (.type "int") (.ref CR) = some false) : FnOk P w K mg base CX0 2 f fd ["self", "top", "bottom"] (spRInit CR) := by
  refine F.ok scRInit (fun vs H Q E h => ?_) (fun cdv A outer s H vs Q E hr h => ?_)
  · obtain ⟨p, dx, t, b, _, _, rfl, _⟩ := h
    rfl
  · obtain ⟨p, dx, t, b, k, l, rfl, hp, hb, ht2, hb2, hk, hl, q⟩ := h
    refine ⟨_, PSs.nox (pss_cons (ps_if (pt_not (pt_val (pe_k cI hr (Nat.le_refl _) (by rfl) (pa_cons (pv 1) pa_nil)))) (pss_one ps_never) pss_nil)
      (pss_cons (ps_if (PW.pt (pw_or (pt_not (pt_val (pe_k cI hr (Nat.le_refl _) (by rfl) (pa_cons (pv 2) pa_nil)))) (pw_or1 (pt_cmpR op_eq (pv 2) pe_int (nomark _))))) (pss_one ps_never) pss_nil)
      (pss_cons (ps_set (i := 3) scRInit.nd rfl (Or.inl rfl) (pe_callBfun cr_gcd (by rfl) T.gcd (pa_cons (pv 1) (pa_cons (pv 2) pa_nil))))
      (C8.pss_cut (ps_if (pt_cmpR op_lt (pv 2) pe_int (nomark _)) (pss_one (ps_set (i := 3) scRInit.nd rfl (Or.inl rfl) (pe_un un_neg (pv 3)))) pss_nil)
      (pss_cons (ps_fld (pv 0) (pe_op KG.op_fdivN (pv 1) (pv 3)) rfl) (pss_one (ps_fld (pv 0) (pe_op KG.op_fdivN (pv 2) (pv 3)) rfl))))))), ?_⟩
    refine ⟨_, rfl, _, _, _, _, _, rfl, kind_int t kI, _, rfl, ?_⟩
    refine iteF ⟨_, rfl, _, _, _, _, _, rfl, kind_int b kI, _, rfl, ?_⟩
    refine iteF ⟨_, rfl, rfl, _, rfl, ?_⟩
    have nb : decide (V.int b = V.int 0) = false := by
      rw [dec_int]
      exact decide_eq_false hb
    rw [nb]
    refine iteF ⟨_, rfl, _, rfl, _, _, rfl, ?_⟩
    refine ⟨fun σ H' => σ = [some (.ref p), some (.int t), some (.int b), some (.int (lowBy t b))] ∧ H' = H, ?_, ?_⟩
    · refine ⟨_, rfl, _, _, rfl, rfl, _, rfl, ?_⟩
      unfold lowBy
      refine ite2 (fun h1 => ?_) (fun h1 => ?_)
      · rw [if_pos (show b < 0 from of_decide_eq_true h1)]
        exact ⟨_, rfl, _, rfl, rfl, rfl⟩
      · rw [if_neg (show ¬ b < 0 from fun z => h1 (decide_eq_true z))]
        exact ⟨rfl, rfl⟩
    · rintro σ H' ⟨rfl, rfl⟩
      have l1 := lg_le (Nat.le_of_lt ht2)
      have l2 := lg_le hb2
      have nz := lowBy_ne (t := t) hb
      refine ⟨_, rfl, _, rfl, _, _, rfl, rfl, ⟨nz, by omega⟩, _, rfl, p, CR, dx, _, rfl, hp, T.cl, T.nT, (by show 0 < 1000; decide), ?_⟩
      refine ⟨_, rfl, _, rfl, _, _, rfl, rfl, ⟨nz, by omega⟩, _, rfl, p, CR, dx, _, rfl, upd_same, T.cl, T.nB, (by show 1 < 1000; decide), ?_⟩
      exact q _ upd_same fun a o e ha => by rw [upd_ne ha, upd_ne ha]; exact e

theorem scRTop : FnScope ["self"] ["self"] (defScope sRTop) := ⟨rfl, rfl, rfl, by decide +kernel, rfl, by decide +kernel, by decide +kernel⟩
theorem ok_rTop {f : Addr} {fd : FuncData} (F : Fun K "top" "Ratio.top" sRTop f fd) (T : TxtR K mg CR) : FnOk P w K mg base CX0 1 f fd ["self"] (spRTop CR) := by
  refine F.ok scRTop (fun vs H Q E h => ?_) (fun cdv A outer s H vs Q E hr h => ?_)
  · obtain ⟨a, p, rfl, _⟩ := h
    rfl
  · obtain ⟨a, p, rfl, ⟨dx, ha⟩, q⟩ := h
    refine ⟨_, pss_one (ps_ret (pe_fld (pv 0) rfl)), ?_⟩
    exact ⟨_, rfl, a, CR, dx, _, _, rfl, ha, T.cl, T.nT, rf_top _ _, q⟩
theorem scRBot : FnScope ["self"] ["self"] (defScope sRBottom) := ⟨rfl, rfl, rfl, by decide +kernel, rfl, by decide +kernel, by decide +kernel⟩
theorem ok_rBot {f : Addr} {fd : FuncData} (F : Fun K "bottom" "Ratio.bottom" sRBottom f fd) (T : TxtR K mg CR) : FnOk P w K mg base CX0 1 f fd ["self"] (spRBot CR) := by
  refine F.ok scRBot (fun vs H Q E h => ?_) (fun cdv A outer s H vs Q E hr h => ?_)
  · obtain ⟨a, p, rfl, _⟩ := h
    rfl
  · obtain ⟨a, p, rfl, ⟨dx, ha⟩, q⟩ := h
    refine ⟨_, pss_one (ps_ret (pe_fld (pv 0) rfl)), ?_⟩
    exact ⟨_, rfl, a, CR, dx, _, _, rfl, ha, T.cl, T.nB, rf_bot _ _, q⟩

theorem scRSign : FnScope ["self"] ["self"] (defScope sRSign) := ⟨rfl, rfl, rfl, by decide +kernel, rfl, by decide +kernel, by decide +kernel⟩
theorem ok_rSign {f : Addr} {fd : FuncData} (F : Fun K "sign" "Ratio.sign" sRSign f fd) (T : TxtR K mg CR) : FnOk P w K mg base CX0 1 f fd ["self"] (spRSign CR) := by
  refine F.ok scRSign (fun vs H Q E h => ?_) (fun cdv A outer s H vs Q E hr h => ?_)
  · obtain ⟨a, p, rfl, _⟩ := h
    rfl
  · obtain ⟨a, p, rfl, ⟨dx, hp⟩, q⟩ := h
    refine ⟨_, pss_cons (ps_if (pt_cmpR op_eq (pe_fld (pv 0) rfl) pe_int (nomark _)) (pss_one (ps_ret pe_int)) pss_nil)
      (pss_one (ps_ret (pe_ifExp (pt_cmpR op_gt (pe_fld (pv 0) rfl) pe_int (nomark _)) pe_int (pe_un un_neg pe_int)))), ?_⟩
    refine ⟨_, rfl, a, CR, dx, _, _, rfl, hp, T.cl, T.nT, rf_top _ _, rfl, _, rfl, ?_⟩
    refine ite2 (fun h1 => ?_) (fun h1 => ?_)
    · have h2 : p.1 = 0 := V.int.inj (of_decide_eq_true h1)
      rw [if_pos h2] at q
      exact q
    · have h2 : ¬ p.1 = 0 := fun z => h1 (decide_eq_true (congrArg V.int z))
      rw [if_neg h2] at q
      refine ⟨_, rfl, a, CR, dx, _, _, rfl, hp, T.cl, T.nT, rf_top _ _, _, _, rfl, rfl, _, rfl, ?_⟩
      refine ite2 (fun h3 => ?_) (fun h3 => ?_)
      · rw [if_pos (show 0 < p.1 from of_decide_eq_true h3)] at q
        exact q
      · rw [if_neg (show ¬ 0 < p.1 from fun z => h3 (decide_eq_true z))] at q
        exact ⟨_, rfl, q⟩

theorem iT_len {n : Int} (h : n.natAbs < Big) : (iT n).length ≤ 12901 := big_text h
theorem scRStr : FnScope ["self"] ["self"] (defScope sRStr) := ⟨rfl, rfl, rfl, by decide +kernel, rfl, by decide +kernel, by decide +kernel⟩
theorem ok_rStr {f : Addr} {fd : FuncData} (F : Fun K "__str__" "Ratio.__str__" sRStr f fd) (T : TxtR K mg CR) (nd : base.NoDigits) : FnOk P w K mg base CX0 1 f fd ["self"] (spRStr CR) := by
  refine F.ok scRStr (fun vs H Q E h => ?_) (fun cdv A outer s H vs Q E hr h => ?_)
  · obtain ⟨a, p, rfl, _⟩ := h
    rfl
  · obtain ⟨a, p, rfl, ⟨dx, hp⟩, hx, hy, q⟩ := h
    refine ⟨_, pss_cons (ps_if (pt_cmpR op_eq (pe_fld (pv 0) rfl) pe_int (nomark _)) (pss_one (ps_ret (pe_callTy (call_str_intD nd (by rfl)) (by rfl) T.str (by decide +kernel) (pa_cons (pe_fld (pv 0) rfl) pa_nil)))) pss_nil)
      (pss_one (ps_ret (pe_joined (.cons (pe_fmtD nd (by rfl) (pe_fld (pv 0) rfl)) (.cons pe_str (.cons (pe_fmtD nd (by rfl) (pe_fld (pv 0) rfl)) .nil)))))), ?_⟩
    have tx := iT_len hx
    have ty := iT_len hy
    have e0 : (Str.empty).length = 0 := by decide
    have e1 : (Str.ofString "/").length = 1 := by decide
    have big : (40000 : Nat) < sizeLine := by decide
    refine ⟨_, rfl, a, CR, dx, _, _, rfl, hp, T.cl, T.nB, rf_bot _ _, rfl, _, rfl, ?_⟩
    unfold rStr at q
    refine ite2 (fun h1 => ?_) (fun h1 => ?_)
    · rw [if_pos (show p.2 = 1 from V.int.inj (of_decide_eq_true h1))] at q
      exact ⟨_, rfl, a, CR, dx, _, _, rfl, hp, T.cl, T.nT, rf_top _ _, _, rfl, hx, q⟩
    · rw [if_neg (show ¬ p.2 = 1 from fun z => h1 (decide_eq_true (congrArg V.int z)))] at q
      refine ⟨_, rfl, a, CR, dx, _, _, rfl, hp, T.cl, T.nT, rf_top _ _, _, rfl, hx, _, rfl, ?_, _, rfl, ?_, _, rfl, a, CR, dx, _, _, rfl, hp, T.cl, T.nB, rf_bot _ _, _, rfl, hy, _, rfl, ?_, q⟩
      all_goals simp only [Str.length_append]
      all_goals first | (show (Str.empty).length + (iT p.1).length ≤ _; omega) | (show (Str.empty).length + (iT p.1).length + (Str.ofString "/").length ≤ _; omega) | (show (Str.empty).length + (iT p.1).length + (Str.ofString "/").length + (iT p.2).length ≤ _; omega)

theorem scRRepr : FnScope ["self"] ["self"] (defScope sRRepr) := ⟨rfl, rfl, rfl, by decide +kernel, rfl, by decide +kernel, by decide +kernel⟩
theorem ok_rRepr {f : Addr} {fd : FuncData} (F : Fun K "__repr__" "Ratio.__repr__" sRRepr f fd) (T : TxtR K mg CR) (nd : base.NoDigits) : FnOk P w K mg base CX0 1 f fd ["self"] (spRRepr CR) := by
  refine F.ok scRRepr (fun vs H Q E h => ?_) (fun cdv A outer s H vs Q E hr h => ?_)
  · obtain ⟨a, p, rfl, _⟩ := h
    rfl
  · obtain ⟨a, p, rfl, ⟨dx, hp⟩, hx, hy, q⟩ := h
    refine ⟨_, pss_one (ps_ret (pe_joined (.cons pe_str (.cons (pe_fmtD nd (by rfl) (pe_fld (pv 0) rfl)) (.cons pe_str (.cons (pe_fmtD nd (by rfl) (pe_fld (pv 0) rfl)) (.cons pe_str .nil))))))), ?_⟩
    have tx := iT_len hx
    have ty := iT_len hy
    have e0 : (Str.empty).length = 0 := by decide
    have e1 : (Str.ofString "Ratio(").length = 6 := by decide
    have e2 : (Str.ofString ", ").length = 2 := by decide
    have e3 : (Str.ofString ")").length = 1 := by decide
    have big : (40000 : Nat) < sizeLine := by decide
    refine ⟨_, rfl, ?_, _, rfl, a, CR, dx, _, _, rfl, hp, T.cl, T.nT, rf_top _ _, _, rfl, hx, _, rfl, ?_, _, rfl, ?_, _, rfl, a, CR, dx, _, _, rfl, hp, T.cl, T.nB, rf_bot _ _, _, rfl, hy, _, rfl, ?_, _, rfl, ?_, q⟩
    all_goals simp only [Str.length_append]
    · show (Str.empty).length + (Str.ofString "Ratio(").length ≤ _
      omega
    · show (Str.empty).length + (Str.ofString "Ratio(").length + (iT p.1).length ≤ _
      omega
    · show (Str.empty).length + (Str.ofString "Ratio(").length + (iT p.1).length + (Str.ofString ", ").length ≤ _
      omega
    · show (Str.empty).length + (Str.ofString "Ratio(").length + (iT p.1).length + (Str.ofString ", ").length + (iT p.2).length ≤ _
      omega
    · show (Str.empty).length + (Str.ofString "Ratio(").length + (iT p.1).length + (Str.ofString ", ").length + (iT p.2).length + (Str.ofString ")").length ≤ _
      omega
end
end Cm
end

/-! ## O11 -/
section
namespace Cm
open PySem PySem.Spec PyProof.Rows L2 KG

/-- what a class must have that isinstance may be asked of its instances -/
structure InsK (K : PySem.W.Frag) (C : Addr) : Prop where
  cl : Cls K C
  ha : PySem.W.findIn K (.ref C) "__class__" = some (some (.builtin "object.__class__"))
  hn : PySem.W.specialIn K (.builtin "object.__class__") "__get__" = some (some (.builtin "getset_descriptor.__get__"))
  htk : PySem.W.takesIn K (.builtin "object.__class__") = some true
  hm : PySem.W.mroIn K C (.type "object") = some true
theorem InsK.ty {K : PySem.W.Frag} {C : Addr} {H : Hp} {a dx : Addr} {fs : List (Str × V)} (c : InsK K C) (h : H a = some (.ins C dx fs)) : TyX K H (.ref a) (.ref C) := .base (.ins h c.cl c.ha c.hn c.htk c.hm)

/-- a class that may be made by its name; dvs: the defaults that fill up -/
structure MkC (P : Program) (w : World) (K : PySem.W.Frag) (mg : Str → Option Value) (base : Heap) (k : Nat) (x : Str) (C : Addr) (ps : List Str) (dvs : List V) (sp : Sp) : Prop where
  ex : ∃ (f : Addr) (fd : FuncData) (ds : List Value), Mk K C f ∧ FnOk P w K mg base CX0 k f fd ps sp ∧ mg x = some (.ref C) ∧ Vals dvs ds ∧ Binds K fd ps ds
section
variable {X : Cx} {k j : Nat} {x : Str} {C : Addr} {ps : List Str} {dvs : List V} {sp : Sp} {p pos : Pos} {e : Expr} {es : List Expr} {t : TA}
theorem pe_mk (c : MkC X.prog X.w X.K X.mg X.base k x C ps dvs sp) (hr : Room j X.A) (hj : k + 1 ≤ j) (gl : Gl X x) (ha : PA X (e :: es) t)
    (hdb : (x == ("__debug__" : Str)) = false := by decide)
    (he : starEach (e :: es) X.env = (false, eval e X.env) :: starEach es X.env := by rfl)
    (hpl : (backTo pos (starEach es X.env)).any (·.1) = false := by rfl) :
    PE X (.Call (.Name x p) (e :: es) [] pos) (tMake C sp dvs E0 t) := by
  obtain ⟨f, fd, ds, M, F, hm, hd, hb⟩ := c.ex
  exact pe_make M F (hr.mono hj) gl hm hb hd pass0 ha hdb he hpl
end

/-- a property of an own class -/
structure Pr (P : Program) (w : World) (K : PySem.W.Frag) (mg : Str → Option Value) (base : Heap) (C : Addr) (f : Str) (sp : Sp) : Prop where
  ex : ∃ (p g : Addr) (fd : FuncData), PropOf K C f p g ∧ FnOk P w K mg base CX0 1 g fd ["self"] sp ∧ Binds K fd ["self"] []
section
variable {X : Cx} {j : Nat} {C : Addr} {f : Str} {sp : Sp} {e : Expr} {pos : Pos} {ta : TE}
theorem pe_pr (c : Pr X.prog X.w X.K X.mg X.base C f sp) (cl : Cls X.K C) (hr : Room j X.A) (hj : 2 ≤ j) (he : PE X e ta) (hab : attributeBase e f X.env (eval e X.env) = eval e X.env := by rfl)
    (hx : Passes CX0 X.nox E0 := by exact pass0) :
    PE X (.Attribute e f pos) (tProp C sp [] E0 ta) := by
  obtain ⟨p, g, fd, hp, F, hb⟩ := c.ex
  exact pe_prop he cl hp F (hr.mono hj) hb .nil hx hab
end

theorem Same.made2 {H : Hp} {x dx : Addr} {o u : HO} (n : H x = none) (m : H dx = none) : Same H (upd (upd H dx o) x u) := fun b v e => by
  rw [upd_ne (ne_of_none e n), upd_ne (ne_of_none e m)]
  exact e

/-- Ratio(t, b) -/
theorem mk_low {CR : Addr} {H : Hp} {Q : VK} {t b : Int} {k l : Nat} (h : t.natAbs < 2 ^ k) (g : b.natAbs ≤ 2 ^ l) (n : b ≠ 0) (hk : k ≤ 13000) (hl : l ≤ 13000) (q : ∀ (H' : Hp) (c : Addr), Same H H' → RA CR H' c (low t b) → Q (.ref c) H') :
    ∀ x dx, H x = none → H dx = none → dx ≠ x → spRInit CR [.ref x, .int t, .int b] (upd (upd H dx (.own x)) x (.ins CR dx [])) (fun v H3 => v = .non ∧ Q (.ref x) H3) E0 := by
  intro x dx nx ndx ne
  refine ⟨x, dx, t, b, k, l, rfl, upd_same, n, h, g, hk, hl, fun H' h1 h2 => ⟨rfl, ?_⟩⟩
  refine q H' x (fun b o e => ?_) ⟨dx, h1⟩
  exact h2 b o ((Same.made2 nx ndx) b o e) (ne_of_none e nx)

def spAsRatio (CR : Addr) : Sp := fun vs H Q _ => ∃ (x : V) (q : Int × Int) (k l : Nat), vs = [x] ∧ Num CR H x q ∧ Bd k l q ∧ k ≤ 13000 ∧ ∀ (H' : Hp) (c : Addr), Same H H' → RA CR H' c q → Q (.ref c) H'
/-- an own operator of a ratio and a number -/
def spBin (CR : Addr) (f : Int × Int → Int × Int → Int × Int) (C : Int × Int → Prop) : Sp := fun vs H Q _ => ∃ (a : Addr) (y : V) (p q : Int × Int) (k l k' l' : Nat), vs = [.ref a, y] ∧ RA CR H a p ∧ Num CR H y q ∧ Bd k l p ∧ Bd k' l' q ∧ Fit k l k' l' ∧ C q ∧
  ∀ (H' : Hp) (c : Addr), Same H H' → RA CR H' c (f p q) → Q (.ref c) H'
def spRBin (CR : Addr) (f : Int × Int → Int × Int → Int × Int) : Sp := fun vs H Q _ => ∃ (a : Addr) (n : Int) (p : Int × Int) (k l k' : Nat), vs = [.ref a, .int n] ∧ RA CR H a p ∧ Bd k l p ∧ n.natAbs < 2 ^ k' ∧ Fit k l k' 0 ∧
  ∀ (H' : Hp) (c : Addr), Same H H' → RA CR H' c (f p (n, 1)) → Q (.ref c) H'
def spNeg (CR : Addr) : Sp := fun vs H Q _ => ∃ (a : Addr) (p : Int × Int) (k l : Nat), vs = [.ref a] ∧ RA CR H a p ∧ Bd k l p ∧ k ≤ 13000 ∧ l ≤ 13000 ∧ ∀ (H' : Hp) (c : Addr), Same H H' → RA CR H' c (negP p) → Q (.ref c) H'

structure KI (K : PySem.W.Frag) (CR : Addr) : Prop where
  i : PySem.W.kitOne K (.type "int") (.ref CR) = some false
  r : PySem.W.kitOne K (.ref CR) (.ref CR) = some true

section
variable {P : Program} {w : World} {K : PySem.W.Frag} {mg : Str → Option Value} {base : Heap} {CR : Addr}

theorem scAsRatio : FnScope ["value"] ["value"] (defScope sAsRatio) := ⟨rfl, rfl, rfl, by decide +kernel, rfl, by decide +kernel, by decide +kernel⟩
theorem ok_asRatio {f : Addr} {fd : FuncData} (F : Fun K "as_ratio" "as_ratio" sAsRatio f fd) (T : TxtR K mg CR) (cR : MkC P w K mg base 2 "Ratio" CR ["self", "top", "bottom"] [.int 1] (spRInit CR)) (iR : InsK K CR)
    (kk : KI K CR) : FnOk P w K mg base CX0 4 f fd ["value"] (spAsRatio CR) := by
  refine F.ok scAsRatio (fun vs H Q E h => ?_) (fun cdv A outer s H vs Q E hr h => ?_)
  · obtain ⟨x, _, _, _, rfl, _⟩ := h
    rfl
  · obtain ⟨x, p, k, l, rfl, h, hb, hk, q⟩ := h
    refine ⟨_, pss_cons (ps_if (pt_val (pe_callB call_isi (by rfl) T.isi (by decide +kernel) (pa_cons (pv 0) (pa_cons (pe_glob (v := .ref CR) (by rfl) T.mgR rfl) pa_nil)))) (pss_one (ps_ret (pv 0))) pss_nil)
      (pss_one (ps_ret (pe_mk cR hr (Nat.le_refl _) (by rfl) (pa_cons (pv 0) pa_nil)))), ?_⟩
    rcases h with ⟨a, rfl, ha⟩ | ⟨n, rfl, rfl⟩
    · have ha' := ha
      obtain ⟨dx, ha'⟩ := ha'
      refine ⟨_, rfl, _, _, _, _, _, rfl, .own _, iR.ty ha', kk.r, _, rfl, ?_⟩
      exact iteT ⟨_, rfl, q H a (fun _ _ e => e) ha⟩
    · refine ⟨_, rfl, _, _, _, _, _, rfl, .own _, .base (.int n), kk.i, _, rfl, ?_⟩
      refine iteF ⟨_, rfl, mk_low (l := 0) hb.1 (by decide) (by decide) hk (by decide) fun H' c s1 r1 => q H' c s1 ?_⟩
      rw [low_int] at r1
      exact r1

theorem scRNeg : FnScope ["self"] ["self"] (defScope sRNeg) := ⟨rfl, rfl, rfl, by decide +kernel, rfl, by decide +kernel, by decide +kernel⟩
theorem ok_rNeg {f : Addr} {fd : FuncData} (F : Fun K "__neg__" "Ratio.__neg__" sRNeg f fd) (T : TxtR K mg CR) (cR : MkC P w K mg base 2 "Ratio" CR ["self", "top", "bottom"] [] (spRInit CR)) : FnOk P w K mg base CX0 4 f fd ["self"] (spNeg CR) := by
  refine F.ok scRNeg (fun vs H Q E h => ?_) (fun cdv A outer s H vs Q E hr h => ?_)
  · obtain ⟨x, _, _, _, rfl, _⟩ := h
    rfl
  · obtain ⟨a, p, k, l, rfl, ⟨dx, ha⟩, hb, hk, hl, q⟩ := h
    refine ⟨_, pss_one (ps_ret (pe_mk cR hr (Nat.le_refl _) (by rfl) (pa_cons (pe_un un_neg (pe_fld (pv 0) rfl)) (pa_cons (pe_fld (pv 0) rfl) pa_nil)))), ?_⟩
    refine ⟨_, rfl, a, CR, dx, _, _, rfl, ha, T.cl, T.nT, rf_top _ _, _, rfl, _, rfl, a, CR, dx, _, _, rfl, ha, T.cl, T.nB, rf_bot _ _, ?_⟩
    exact mk_low (by rw [Int.natAbs_neg]; exact hb.1) hb.2.1 hb.2.2 hk hl q

theorem fit_num {k l k' l' : Nat} {p q : Int × Int} (h : Bd k l p) (g : Bd k' l' q) (f : Fit k l k' l') : (p.1 * q.2 + q.1 * p.2).natAbs < 2 ^ 12991 ∧ (p.2 * q.2).natAbs ≤ 2 ^ 12991 ∧ p.2 * q.2 ≠ 0 := by
  obtain ⟨f1, f2, f3, f4⟩ := f
  refine ⟨abs_add_lt (abs_mul_lt h.1 g.2.1) (abs_mul_lt g.1 h.2.1) (by omega) (by omega), Nat.le_trans (abs_mul_le h.2.1 g.2.1) (pow_le (by omega)), mul_ne h.2.2 g.2.2⟩
theorem cmw {i j : Int} {k l : Nat} (h : i.natAbs ≤ 2 ^ k) (g : j.natAbs ≤ 2 ^ l) (hk : k + l < 13000) : CMulW i j := cm_of h g (by omega)

theorem scRAdd : FnScope ["self", "other", "more"] ["self", "other"] (defScope sRAdd) := ⟨rfl, rfl, rfl, by decide +kernel, rfl, by decide +kernel, by decide +kernel⟩
theorem ok_rAdd {f : Addr} {fd : FuncData} (F : Fun K "__add__" "Ratio.__add__" sRAdd f fd) (T : TxtR K mg CR) (cR : MkC P w K mg base 2 "Ratio" CR ["self", "top", "bottom"] [] (spRInit CR))
    (cA : Cl P w K mg base 4 "as_ratio" ["value"] (spAsRatio CR)) (pT : Pr P w K mg base CR "top" (spRTop CR)) (pB : Pr P w K mg base CR "bottom" (spRBot CR)) : FnOk P w K mg base CX0 5 f fd ["self", "other"] (spBin CR sumP fun _ => True) := by
  refine F.ok scRAdd (fun vs H Q E h => ?_) (fun cdv A outer s H vs Q E hr h => ?_)
  · obtain ⟨a, y, _, _, _, _, _, _, rfl, _⟩ := h
    rfl
  · obtain ⟨a, y, p, q, k, l, k', l', rfl, ha, hy, hp, hq, hf, _, z⟩ := h
    refine ⟨_, pss_cons (ps_set (i := 2) scRAdd.nd rfl (Or.inl rfl) (pe_k cA hr (by decide) (by rfl) (pa_cons (pv 1) pa_nil)))
      (pss_one (ps_ret (pe_mk cR hr (by decide) (by rfl) (pa_cons (pe_op op_add (pe_op op_mulW (pe_fld (pv 0) rfl) (pe_pr pB T.cl hr (by decide) (pv 2))) (pe_op op_mulW (pe_pr pT T.cl hr (by decide) (pv 2)) (pe_fld (pv 0) rfl)))
        (pa_cons (pe_op op_mulW (pe_fld (pv 0) rfl) (pe_pr pB T.cl hr (by decide) (pv 2))) pa_nil))))), ?_⟩
    refine ⟨_, rfl, y, q, k', l', rfl, hy, hq, (by have := hf.1; omega), fun H1 c s1 r1 => ?_⟩
    obtain ⟨dx, h1⟩ := ha.keep s1
    obtain ⟨dc, h2⟩ := id r1
    obtain ⟨g1, g2, g3⟩ := fit_num hp hq hf
    obtain ⟨f1, f2, f3, f4⟩ := hf
    refine ⟨_, rfl, a, CR, dx, _, _, rfl, h1, T.cl, T.nT, rf_top _ _, _, rfl, c, dc, _, rfl, h2, c, q, rfl, r1, _, _, rfl, rfl, cmw (Nat.le_of_lt hp.1) hq.2.1 (by omega), ?_⟩
    refine ⟨_, rfl, c, dc, _, rfl, h2, c, q, rfl, r1, _, rfl, a, CR, dx, _, _, rfl, h1, T.cl, T.nB, rf_bot _ _, _, _, rfl, rfl, cmw (Nat.le_of_lt hq.1) hp.2.1 (by omega), _, _, rfl, rfl, ?_⟩
    refine ⟨_, rfl, a, CR, dx, _, _, rfl, h1, T.cl, T.nB, rf_bot _ _, _, rfl, c, dc, _, rfl, h2, c, q, rfl, r1, _, _, rfl, rfl, cmw hp.2.1 hq.2.1 (by omega), ?_⟩
    exact mk_low g1 g2 g3 (by decide) (by decide) fun H2 d s2 r2 => z H2 d (fun b o e => s2 b o (s1 b o e)) r2
end
end Cm
end

/-! ## P11 -/
section
namespace Cm
open PySem PySem.Spec PyProof.Rows L2 KG

theorem Same.trans' {H H1 H2 : Hp} (a : Same H H1) (b : Same H1 H2) : Same H H2 := fun c o h => b c o (a c o h)

section
variable {X : Cx} {k j : Nat} {CR : Addr} {f : Int × Int → Int × Int → Int × Int} {C : Int × Int → Prop}
def rRN (CR : Addr) (f : Int × Int → Int × Int → Int × Int) (C : Int × Int → Prop) : R2 := fun x y H Q => ∃ (a : Addr) (p q : Int × Int) (k l k' l' : Nat), x = .ref a ∧ RA CR H a p ∧ Num CR H y q ∧ Bd k l p ∧ Bd k' l' q ∧ Fit k l k' l' ∧ C q ∧
  ∀ (H' : Hp) (c : Addr), Same H H' → RA CR H' c (f p q) → Q (.ref c) H'
theorem op_RN {op : Operator} (S : Sl X.prog X.w X.K X.mg X.base CR (PySem.dunder op.info.2) k (spBin CR f C)) (O : IntO X.K CR op) (sf : PySem.W.selfFirst X.K CR = true) (hr : Room j X.A) (hk : k ≤ j) : OpR X (binaryOp op) (rRN CR f C) := by
  intro pins s σ H x y v u Q I rx ry h
  obtain ⟨a, p, q, k0, l0, k1, l1, rfl, ha, hy, hp, hq, hf, hc, z⟩ := h
  have hy' := hy
  rcases hy' with ⟨b, rfl, hb⟩ | ⟨n, rfl, rfl⟩
  · exact op_OO S hr hk sf pins s σ H _ _ v u Q I rx ry ⟨a, b, rfl, rfl, ha.isI, hb.isI, a, _, p, q, k0, l0, k1, l1, rfl, ha, hy, hp, hq, hf, hc, fun H' c s1 r1 => ⟨c, rfl, z H' c s1 r1⟩⟩
  · exact op_OI S O hr hk sf pins s σ H _ _ v u Q I rx ry ⟨a, n, rfl, rfl, ha.isI, a, _, p, _, k0, l0, k1, l1, rfl, ha, hy, hp, hq, hf, hc, fun H' c s1 r1 => ⟨c, rfl, z H' c s1 r1⟩⟩
def rNR (CR : Addr) (f : Int × Int → Int × Int → Int × Int) : R2 := fun x y H Q => ∃ (a : Addr) (n : Int) (p : Int × Int) (k l k' : Nat), x = .int n ∧ y = .ref a ∧ RA CR H a p ∧ Bd k l p ∧ n.natAbs < 2 ^ k' ∧ Fit k l k' 0 ∧
  ∀ (H' : Hp) (c : Addr), Same H H' → RA CR H' c (f p (n, 1)) → Q (.ref c) H'
theorem op_NR {op : Operator} (S : Sl X.prog X.w X.K X.mg X.base CR (dunderR op.info.2) k (spRBin CR f)) (O : RefO X.K CR op) (D : Declines (PySem.dunder op.info.2)) (sf : PySem.W.selfFirst X.K CR = true) (hr : Room j X.A) (hk : k ≤ j) : OpR X (binaryOp op) (rNR CR f) := by
  intro pins s σ H x y v u Q I rx ry h
  obtain ⟨a, n, p, k0, l0, k1, rfl, rfl, ha, hp, hn, hf, z⟩ := h
  exact op_IO S O D hr hk sf pins s σ H _ _ v u Q I rx ry ⟨a, n, rfl, rfl, ha.isI, a, n, p, k0, l0, k1, rfl, ha, hp, hn, hf, fun H' c s1 r1 => ⟨c, rfl, z H' c s1 r1⟩⟩
def rNg (CR : Addr) : V → Hp → VK → Prop := fun x H Q => ∃ (a : Addr) (p : Int × Int) (k l : Nat), x = .ref a ∧ RA CR H a p ∧ Bd k l p ∧ k ≤ 13000 ∧ l ≤ 13000 ∧ ∀ (H' : Hp) (c : Addr), Same H H' → RA CR H' c (negP p) → Q (.ref c) H'
theorem un_R (S : Sl X.prog X.w X.K X.mg X.base CR "__neg__" k (spNeg CR)) (hr : Room j X.A) (hk : k ≤ j) : UnR X (unaryOp .USub) (rNg CR) := by
  intro pins s σ H x v Q I rx h
  obtain ⟨a, p, k0, l0, rfl, ha, hp, h1, h2, z⟩ := h
  exact un_O S hr hk pins s σ H _ v Q I rx ⟨a, rfl, ha.isI, a, p, k0, l0, rfl, ha, hp, h1, h2, z⟩
end

structure Ops (P : Program) (w : World) (K : PySem.W.Frag) (mg : Str → Option Value) (base : Heap) (CR : Addr) : Prop where
  add : Sl P w K mg base CR (PySem.dunder "add") 5 (spBin CR sumP fun _ => True)
  mul : Sl P w K mg base CR (PySem.dunder "mul") 5 (spBin CR mulP fun _ => True)
  neg : Sl P w K mg base CR "__neg__" 4 (spNeg CR)
  oA : IntO K CR .Add
  oM : IntO K CR .Mult
  sf : PySem.W.selfFirst K CR = true

section
variable {P : Program} {w : World} {K : PySem.W.Frag} {mg : Str → Option Value} {base : Heap} {CR : Addr}

theorem scRMul : FnScope ["self", "other", "times"] ["self", "other"] (defScope sRMul) := ⟨rfl, rfl, rfl, by decide +kernel, rfl, by decide +kernel, by decide +kernel⟩
theorem ok_rMul {f : Addr} {fd : FuncData} (F : Fun K "__mul__" "Ratio.__mul__" sRMul f fd) (T : TxtR K mg CR) (cR : MkC P w K mg base 2 "Ratio" CR ["self", "top", "bottom"] [] (spRInit CR))
    (cA : Cl P w K mg base 4 "as_ratio" ["value"] (spAsRatio CR)) (pT : Pr P w K mg base CR "top" (spRTop CR)) (pB : Pr P w K mg base CR "bottom" (spRBot CR)) : FnOk P w K mg base CX0 5 f fd ["self", "other"] (spBin CR mulP fun _ => True) := by
  refine F.ok scRMul (fun vs H Q E h => ?_) (fun cdv A outer s H vs Q E hr h => ?_)
  · obtain ⟨a, y, _, _, _, _, _, _, rfl, _⟩ := h
    rfl
  · obtain ⟨a, y, p, q, k, l, k', l', rfl, ha, hy, hp, hq, hf, _, z⟩ := h
    refine ⟨_, pss_cons (ps_set (i := 2) scRMul.nd rfl (Or.inl rfl) (pe_k cA hr (by decide) (by rfl) (pa_cons (pv 1) pa_nil)))
      (pss_one (ps_ret (pe_mk cR hr (by decide) (by rfl) (pa_cons (pe_op op_mulW (pe_fld (pv 0) rfl) (pe_pr pT T.cl hr (by decide) (pv 2)))
        (pa_cons (pe_op op_mulW (pe_fld (pv 0) rfl) (pe_pr pB T.cl hr (by decide) (pv 2))) pa_nil))))), ?_⟩
    refine ⟨_, rfl, y, q, k', l', rfl, hy, hq, (by have := hf.1; omega), fun H1 c s1 r1 => ?_⟩
    obtain ⟨dx, h1⟩ := ha.keep s1
    obtain ⟨dc, h2⟩ := id r1
    obtain ⟨f1, f2, f3, f4⟩ := hf
    refine ⟨_, rfl, a, CR, dx, _, _, rfl, h1, T.cl, T.nT, rf_top _ _, _, rfl, c, dc, _, rfl, h2, c, q, rfl, r1, _, _, rfl, rfl, cmw (Nat.le_of_lt hp.1) (Nat.le_of_lt hq.1) (by omega), ?_⟩
    refine ⟨_, rfl, a, CR, dx, _, _, rfl, h1, T.cl, T.nB, rf_bot _ _, _, rfl, c, dc, _, rfl, h2, c, q, rfl, r1, _, _, rfl, rfl, cmw hp.2.1 hq.2.1 (by omega), ?_⟩
    exact mk_low (abs_mul_lt hp.1 (Nat.le_of_lt hq.1)) (abs_mul_le hp.2.1 hq.2.1) (mul_ne hp.2.2 hq.2.2) (by omega) (by omega) fun H2 d s2 r2 => z H2 d (Same.trans' s1 s2) r2

theorem scROver : FnScope ["self", "other", "divisor"] ["self", "other"] (defScope sROver) := ⟨rfl, rfl, rfl, by decide +kernel, rfl, by decide +kernel, by decide +kernel⟩
theorem ok_rOver {f : Addr} {fd : FuncData} (F : Fun K "over" "Ratio.over" sROver f fd) (T : TxtR K mg CR) (cR : MkC P w K mg base 2 "Ratio" CR ["self", "top", "bottom"] [] (spRInit CR))
    (cA : Cl P w K mg base 4 "as_ratio" ["value"] (spAsRatio CR)) (pT : Pr P w K mg base CR "top" (spRTop CR)) (pB : Pr P w K mg base CR "bottom" (spRBot CR)) : FnOk P w K mg base CX0 5 f fd ["self", "other"] (spBin CR divP fun q => q.1 ≠ 0) := by
  refine F.ok scROver (fun vs H Q E h => ?_) (fun cdv A outer s H vs Q E hr h => ?_)
  · obtain ⟨a, y, _, _, _, _, _, _, rfl, _⟩ := h
    rfl
  · obtain ⟨a, y, p, q, k, l, k', l', rfl, ha, hy, hp, hq, hf, hn, z⟩ := h
    refine ⟨_, pss_cons (ps_set (i := 2) scROver.nd rfl (Or.inl rfl) (pe_k cA hr (by decide) (by rfl) (pa_cons (pv 1) pa_nil)))
      (pss_cons (ps_if (pt_cmpR op_eq (pe_pr pT T.cl hr (by decide) (pv 2)) pe_int (nomark _)) (pss_one ps_never) pss_nil)
      (pss_one (ps_ret (pe_mk cR hr (by decide) (by rfl) (pa_cons (pe_op op_mulW (pe_fld (pv 0) rfl) (pe_pr pB T.cl hr (by decide) (pv 2)))
        (pa_cons (pe_op op_mulW (pe_fld (pv 0) rfl) (pe_pr pT T.cl hr (by decide) (pv 2))) pa_nil)))))), ?_⟩
    refine ⟨_, rfl, y, q, k', l', rfl, hy, hq, (by have := hf.1; omega), fun H1 c s1 r1 => ?_⟩
    obtain ⟨dx, h1⟩ := ha.keep s1
    obtain ⟨dc, h2⟩ := id r1
    obtain ⟨f1, f2, f3, f4⟩ := hf
    refine ⟨_, rfl, c, dc, _, rfl, h2, c, q, rfl, r1, rfl, _, rfl, ?_⟩
    have nb : decide (V.int q.1 = V.int 0) = false := by
      rw [dec_int]
      exact decide_eq_false hn
    rw [nb]
    refine iteF ?_
    refine ⟨_, rfl, a, CR, dx, _, _, rfl, h1, T.cl, T.nT, rf_top _ _, _, rfl, c, dc, _, rfl, h2, c, q, rfl, r1, _, _, rfl, rfl, cmw (Nat.le_of_lt hp.1) hq.2.1 (by omega), ?_⟩
    refine ⟨_, rfl, a, CR, dx, _, _, rfl, h1, T.cl, T.nB, rf_bot _ _, _, rfl, c, dc, _, rfl, h2, c, q, rfl, r1, _, _, rfl, rfl, cmw hp.2.1 (Nat.le_of_lt hq.1) (by omega), ?_⟩
    exact mk_low (abs_mul_lt hp.1 hq.2.1) (abs_mul_le hp.2.1 (Nat.le_of_lt hq.1)) (mul_ne hp.2.2 hn) (by omega) (by omega) fun H2 d s2 r2 => z H2 d (Same.trans' s1 s2) r2

theorem scRSub : FnScope ["self", "other"] ["self", "other"] (defScope sRSub) := ⟨rfl, rfl, rfl, by decide +kernel, rfl, by decide +kernel, by decide +kernel⟩
theorem ok_rSub {f : Addr} {fd : FuncData} (F : Fun K "__sub__" "Ratio.__sub__" sRSub f fd) (O : Ops P w K mg base CR)
    (cA : Cl P w K mg base 4 "as_ratio" ["value"] (spAsRatio CR)) : FnOk P w K mg base CX0 6 f fd ["self", "other"] (spBin CR (fun p q => sumP p (negP q)) fun _ => True) := by
  refine F.ok scRSub (fun vs H Q E h => ?_) (fun cdv A outer s H vs Q E hr h => ?_)
  · obtain ⟨a, y, _, _, _, _, _, _, rfl, _⟩ := h
    rfl
  · obtain ⟨a, y, p, q, k, l, k', l', rfl, ha, hy, hp, hq, hf, hn, z⟩ := h
    refine ⟨_, pss_one (ps_ret (pe_op (op_RN (op := .Add) O.add O.oA O.sf hr (by decide)) (pv 0) (pe_un (un_R O.neg hr (by decide)) (pe_k cA hr (by decide) (by rfl) (pa_cons (pv 1) pa_nil))))), ?_⟩
    refine ⟨_, rfl, _, rfl, y, q, k', l', rfl, hy, hq, (by have := hf.1; omega), fun H1 c s1 r1 => ?_⟩
    refine ⟨c, q, k', l', rfl, r1, hq, (by have := hf.1; omega), (by have := hf.2.2.2; omega), fun H2 d s2 r2 => ?_⟩
    exact ⟨a, p, negP q, k, l, k', l', rfl, (ha.keep s1).keep s2, .inl ⟨d, rfl, r2⟩, hp, bd_neg hq, hf, trivial, fun H3 e s3 r3 => z H3 e (Same.trans' (Same.trans' s1 s2) s3) r3⟩

theorem scRRadd : FnScope ["self", "other"] ["self", "other"] (defScope sRRadd) := ⟨rfl, rfl, rfl, by decide +kernel, rfl, by decide +kernel, by decide +kernel⟩
theorem ok_rRadd {f : Addr} {fd : FuncData} (F : Fun K "__radd__" "Ratio.__radd__" sRRadd f fd) (O : Ops P w K mg base CR)
    (cI : Cl P w K mg base 1 "is_integer" ["value"] (spIsInt K CR)) (kk : KI K CR) : FnOk P w K mg base CX0 6 f fd ["self", "other"] (spRBin CR sumP) := by
  refine F.ok scRRadd (fun vs H Q E h => ?_) (fun cdv A outer s H vs Q E hr h => ?_)
  · obtain ⟨a, y, _, _, _, _, rfl, _⟩ := h
    rfl
  · obtain ⟨a, n, p, k, l, k', rfl, ha, hp, hn, hf, z⟩ := h
    refine ⟨_, pss_cons (ps_if (pt_not (pt_val (pe_k cI hr (by decide) (by rfl) (pa_cons (pv 1) pa_nil)))) (pss_one ps_never) pss_nil)
      (pss_one (ps_ret (pe_op (op_RN (op := .Add) O.add O.oA O.sf hr (by decide)) (pv 0) (pv 1)))), ?_⟩
    refine ⟨_, rfl, _, _, _, _, _, rfl, kind_int n kk.i, _, rfl, ?_⟩
    refine iteF ?_
    exact ⟨_, rfl, _, rfl, a, p, (n, 1), k, l, k', 0, rfl, ha, .inr ⟨n, rfl, rfl⟩, hp, bd_int hn, hf, trivial, z⟩
theorem scRRmul : FnScope ["self", "other"] ["self", "other"] (defScope sRRmul) := ⟨rfl, rfl, rfl, by decide +kernel, rfl, by decide +kernel, by decide +kernel⟩
theorem ok_rRmul {f : Addr} {fd : FuncData} (F : Fun K "__rmul__" "Ratio.__rmul__" sRRmul f fd) (O : Ops P w K mg base CR)
    (cI : Cl P w K mg base 1 "is_integer" ["value"] (spIsInt K CR)) (kk : KI K CR) : FnOk P w K mg base CX0 6 f fd ["self", "other"] (spRBin CR mulP) := by
  refine F.ok scRRmul (fun vs H Q E h => ?_) (fun cdv A outer s H vs Q E hr h => ?_)
  · obtain ⟨a, y, _, _, _, _, rfl, _⟩ := h
    rfl
  · obtain ⟨a, n, p, k, l, k', rfl, ha, hp, hn, hf, z⟩ := h
    refine ⟨_, pss_cons (ps_if (pt_not (pt_val (pe_k cI hr (by decide) (by rfl) (pa_cons (pv 1) pa_nil)))) (pss_one ps_never) pss_nil)
      (pss_one (ps_ret (pe_op (op_RN (op := .Mult) O.mul O.oM O.sf hr (by decide)) (pv 0) (pv 1)))), ?_⟩
    refine ⟨_, rfl, _, _, _, _, _, rfl, kind_int n kk.i, _, rfl, ?_⟩
    refine iteF ?_
    exact ⟨_, rfl, _, rfl, a, p, (n, 1), k, l, k', 0, rfl, ha, .inr ⟨n, rfl, rfl⟩, hp, bd_int hn, hf, trivial, z⟩
theorem scRRsub : FnScope ["self", "other"] ["self", "other"] (defScope sRRsub) := ⟨rfl, rfl, rfl, by decide +kernel, rfl, by decide +kernel, by decide +kernel⟩
theorem ok_rRsub {f : Addr} {fd : FuncData} (F : Fun K "__rsub__" "Ratio.__rsub__" sRRsub f fd) (O : Ops P w K mg base CR)
    (cI : Cl P w K mg base 1 "is_integer" ["value"] (spIsInt K CR)) (kk : KI K CR) : FnOk P w K mg base CX0 6 f fd ["self", "other"] (spRBin CR fun p q => sumP (negP p) q) := by
  refine F.ok scRRsub (fun vs H Q E h => ?_) (fun cdv A outer s H vs Q E hr h => ?_)
  · obtain ⟨a, y, _, _, _, _, rfl, _⟩ := h
    rfl
  · obtain ⟨a, n, p, k, l, k', rfl, ha, hp, hn, hf, z⟩ := h
    refine ⟨_, pss_cons (ps_if (pt_not (pt_val (pe_k cI hr (by decide) (by rfl) (pa_cons (pv 1) pa_nil)))) (pss_one ps_never) pss_nil)
      (pss_one (ps_ret (pe_op (op_RN (op := .Add) O.add O.oA O.sf hr (by decide)) (pe_un (un_R O.neg hr (by decide)) (pv 0)) (pv 1)))), ?_⟩
    refine ⟨_, rfl, _, _, _, _, _, rfl, kind_int n kk.i, _, rfl, ?_⟩
    refine iteF ?_
    refine ⟨_, rfl, a, p, k, l, rfl, ha, hp, (by have := hf.1; omega), (by have := hf.2.2.2; omega), fun H1 c s1 r1 => ?_⟩
    exact ⟨_, rfl, c, negP p, (n, 1), k, l, k', 0, rfl, r1, .inr ⟨n, rfl, rfl⟩, bd_neg hp, bd_int hn, hf, trivial, fun H2 d s2 r2 => z H2 d (Same.trans' s1 s2) r2⟩

/-- what a total has come to -/
def part (qs : List (Int × Int)) (i : Nat) : Int × Int := (qs.take i).foldl sumP (0, 1)
theorem part_succ {qs : List (Int × Int)} {i : Nat} {q : Int × Int} (h : qs[i]? = some q) : part qs (i + 1) = sumP (part qs i) q := by
  unfold part
  rw [List.take_succ, h, List.foldl_append]
  rfl
def spTotal (CR : Addr) : Sp := fun vs H Q _ => ∃ (c : V) (T : Addr) (ys : List V) (qs : List (Int × Int)), vs = [c, .ref T] ∧ H T = some (.tup ys) ∧ qs.length = ys.length ∧
  (∀ (i : Nat) (y : V), ys[i]? = some y → ∃ q, qs[i]? = some q ∧ Num CR H y q ∧ ∃ k l k' l', Bd k l (part qs i) ∧ Bd k' l' q ∧ Fit k l k' l') ∧
  ∀ (H' : Hp) (c : Addr), Same H H' → RA CR H' c (part qs ys.length) → Q (.ref c) H'
theorem scRTotal : FnScope ["cls", "numbers", "found", "number"] (([("cls" : Str)] : List Str) ++ [("numbers" : Str)]) (defScope sRTotal) := ⟨rfl, rfl, rfl, by decide +kernel, rfl, by decide +kernel, by decide +kernel⟩
theorem ok_rTotal {f : Addr} {oc : Value} {od an : Option Addr} {osl : Array (Option Value)} {kV doc pm cdv ct : Value}
    (lk : K.lookup f = some ⟨oc, od, .func (PySem.W.fnOf "total" "Ratio.total" (defArgs sRTotal) (defBody sRTotal) (defScope sRTotal) .none kV doc pm an cdv ct), osl⟩) (hcd : PySem.W.codeIn K cdv "Ratio.total" = true)
    (cR : MkC P w K mg base 2 "Ratio" CR ["self", "top", "bottom"] [.int 1] (spRInit CR)) (O : Ops P w K mg base CR) :
    FnR P w K mg base CX0 6 f (fun vs H Q E => ∃ ws rest, vs = ws ++ rest ∧ ws.length = ([("cls" : Str)] : List Str).length ∧ rest.length ≤ sizeLine ∧ ∀ p, H p = Option.none → spTotal CR (ws ++ [V.ref p]) (upd H p (.tup rest)) Q E) := by
  refine StX.fn_star (ps := [("cls" : Str)]) (pv := "numbers") lk hcd scRTotal StX.cxUp_none ?_ ?_
  · intro us rest hl
    exact StX.bind_star1 (B := fun l => bindArgs (PySem.W.fnOf "total" "Ratio.total" (defArgs sRTotal) (defBody sRTotal) (defScope sRTotal) .none kV doc pm an cdv ct) ⟨l, []⟩) (fun a => rfl) (fun a r rs => rfl) us rest hl
  · intro A outer s H vs Q E hr h
    obtain ⟨c, T, ys, qs, rfl, hT, hlen, hn, q⟩ := h
    refine ⟨_, PSs.nox (pss_cons (ps_set (i := 2) scRTotal.nd rfl (Or.inl rfl) (pe_mk cR hr (by decide) (by rfl) (pa_cons pe_int pa_nil)))
      (pss_cons (ps_for PassesOwn.never rfl (pi_tup (pv 1)) (pg_name (i := 3) scRTotal.nd rfl (Or.inl rfl))
        (pss_one (ps_set (i := 2) scRTotal.nd rfl (Or.inl rfl) (pe_op (op_RN (op := .Add) O.add O.oA O.sf hr (by decide)) (pv 2) (pv 3)))))
      (pss_one (ps_ret (pv 2))))), ?_⟩
    intro c1 dx nx ndx ne
    refine ⟨c1, dx, 0, 1, 0, 0, rfl, upd_same, by decide, by decide, by decide, by decide, by decide, fun H1 h1 h2 => ⟨rfl, ?_⟩⟩
    have s1 : Same H H1 := fun b o e => h2 b o ((Same.made2 nx ndx) b o e) (ne_of_none e nx)
    have r1 : RA CR H1 c1 (low 0 1) := ⟨dx, h1⟩
    rw [low_int] at r1
    refine ⟨_, rfl, T, rfl, ⟨_, SqT.of (s1 _ _ hT)⟩, for_tup (K := K) (a := T) (xs := ys) (fun i σ H' => (∃ u d, σ = [some c, some (.ref T), some (.ref d), u] ∧ RA CR H' d (part qs i)) ∧ Same H H') ?_ (fun i σ H' _ p => SqT.of (p.2 _ _ hT)) ?_ ?_⟩
    · exact ⟨⟨none, c1, rfl, r1⟩, s1⟩
    · rintro i x σ H2 hx ⟨⟨u, d, rfl, hd⟩, s2⟩
      obtain ⟨r, hr2, hnum, k, l, k', l', b1, b2, hf⟩ := hn i x hx
      refine ⟨_, rfl, _, rfl, d, part qs i, r, k, l, k', l', rfl, hd, hnum.keep s2, b1, b2, hf, trivial, fun H3 e s3 r3 => ?_⟩
      exact ⟨⟨_, e, rfl, by rw [part_succ hr2]; exact r3⟩, Same.trans' s2 s3⟩
    · rintro σ H2 ⟨⟨u, d, rfl, hd⟩, s2⟩
      exact ⟨_, rfl, q H2 d s2 hd⟩
end
end Cm
end

/-! ## L11 -/
section
namespace Cm
open PySem PySem.Spec PyProof.Rows L2 KG
abbrev sCommon : Stmt := top 15
abbrev sLowest : Stmt := top 16
abbrev sSum : Stmt := top 17
abbrev sTimes : Stmt := top 18
abbrev sWords : Stmt := top 21

def spCommon : Sp := fun vs H Q _ => ∃ a b : Int, vs = [.int a, .int b] ∧ Q (.int ((Nat.gcd a.natAbs b.natAbs : Nat) : Int)) H
/-- a fraction stands at t -/
def PA2 (K : PySem.W.Frag) (H : Hp) (t : Addr) (p : Int × Int) : Prop := SqT K H t [.int p.1, .int p.2]
theorem PA2.keep {K : PySem.W.Frag} {H H' : Hp} {t : Addr} {p : Int × Int} (h : PA2 K H t p) (e : Same H H') : PA2 K H' t p := SqT.ext h e
def spLowest (K : PySem.W.Frag) : Sp := fun vs H Q _ => ∃ (a b : Int) (k l : Nat), vs = [.int a, .int b] ∧ b ≠ 0 ∧ a.natAbs < 2 ^ k ∧ b.natAbs ≤ 2 ^ l ∧ k ≤ 13000 ∧ l ≤ 13000 ∧ ∀ (H' : Hp) (t : Addr), Same H H' → PA2 K H' t (low a b) → Q (.ref t) H'
def spP2 (K : PySem.W.Frag) (f : Int × Int → Int × Int → Int × Int) : Sp := fun vs H Q _ => ∃ (s t : Addr) (p q : Int × Int) (k l k' l' : Nat), vs = [.ref s, .ref t] ∧ PA2 K H s p ∧ PA2 K H t q ∧ Bd k l p ∧ Bd k' l' q ∧ Fit k l k' l' ∧
  ∀ (H' : Hp) (t : Addr), Same H H' → PA2 K H' t (f p q) → Q (.ref t) H'

theorem low_sg {a b : Int} (h : b ≠ 0) : ((Nat.gcd a.natAbs b.natAbs : Nat) : Int) * (if decide (0 < b) = true then 1 else -1) = lowBy a b := by
  unfold lowBy
  by_cases h1 : b < 0
  · rw [if_pos h1, if_neg (by rw [decide_eq_true_eq]; omega)]
    omega
  · rw [if_neg h1, if_pos (by rw [decide_eq_true_eq]; omega)]
    omega

section
variable {P : Program} {w : World} {K : PySem.W.Frag} {mg : Str → Option Value} {base : Heap} {CR : Addr}
theorem scCommon : FnScope ["_law_one", "_law_two"] ["_law_one", "_law_two"] (defScope sCommon) := ⟨rfl, rfl, rfl, by decide +kernel, rfl, by decide +kernel, by decide +kernel⟩
theorem ok_common {f : Addr} {fd : FuncData} (F : Fun K "_law_common" "_law_common" sCommon f fd) (T : Txt mg) : FnOk P w K mg base CX0 1 f fd ["_law_one", "_law_two"] spCommon := by
  refine F.ok scCommon (fun vs H Q E h => ?_) (fun cdv A outer s H vs Q E hr h => ?_)
  · obtain ⟨a, b, rfl, _⟩ := h
    rfl
  · obtain ⟨a, b, rfl, q⟩ := h
    refine ⟨_, pss_cons (ps_par (i := 0) (j := 1) (by rfl) scCommon.nd rfl rfl (by decide) rfl rfl (pa_cons (pe_callB call_abs (by rfl) T.abs (by decide +kernel) (pa_cons (pv 0) pa_nil)) (pa_cons (pe_callB call_abs (by rfl) T.abs (by decide +kernel) (pa_cons (pv 1) pa_nil)) pa_nil)) (by rfl))
      (pss_cons (ps_while PassesOwn.never (pt_cmpR op_gt (pv 1) pe_int (nomark _)) (pss_one (ps_par (i := 0) (j := 1) (by rfl) scCommon.nd rfl rfl (by decide) rfl rfl (pa_cons (pv 1) (pa_cons (pe_op op_mod (pe_callTy call_int1 (by rfl) T.int (by decide +kernel) (pa_cons (pv 0) pa_nil)) (pv 1)) pa_nil)) (by rfl))))
      (pss_one (ps_ret (pv 0)))), ?_⟩
    refine ⟨_, rfl, _, rfl, _, rfl, _, rfl, _, _, rfl, ?_⟩
    have ea : ∀ z : Int, (if z < 0 then -z else z) = (z.natAbs : Int) := fun z => by split <;> omega
    rw [ea a, ea b]
    refine while_by (fun σ H' => ∃ x y : Nat, σ = [some (.int (x : Int)), some (.int (y : Int))] ∧ H' = H ∧ Nat.gcd x y = Nat.gcd a.natAbs b.natAbs) (fun σ _ => match σ with
      | [_, some (.int y)] => y.toNat
      | _ => 0) ⟨a.natAbs, b.natAbs, rfl, rfl, rfl⟩ ?_ ?_
    · rintro σ H' ⟨x, y, rfl, rfl, hg⟩
      refine ⟨_, rfl, _, _, rfl, rfl, _, rfl, ?_⟩
      refine ite2 (fun h1 => ?_) (fun h1 => ?_)
      · have h2 : (0 : Int) < (y : Int) := of_decide_eq_true h1
        refine ⟨_, rfl, _, rfl, .inl ⟨_, rfl, _, rfl, _, _, rfl, rfl, h2, _, _, rfl, ?_⟩⟩
        have e1 : (x : Int) % (y : Int) = ((x % y : Nat) : Int) := by omega
        refine ⟨⟨y, x % y, ?_, rfl, ?_⟩, ?_⟩
        · show [some (V.int (y : Int)), some (V.int ((x : Int) % (y : Int)))] = _
          rw [e1]
        · rw [← hg, Nat.gcd_comm x y, Nat.gcd_rec y x, Nat.gcd_comm]
        · show ((x : Int) % (y : Int)).toNat < ((y : Int)).toNat
          have := Nat.mod_lt x (show 0 < y by omega)
          omega
      · have h2 : y = 0 := by
          have : ¬ (0 : Int) < (y : Int) := fun z => h1 (decide_eq_true z)
          omega
        subst h2
        rw [Nat.gcd_zero_right] at hg
        rw [← hg] at q
        exact ⟨_, rfl, q⟩
    · rintro σ H' Q1 Q2 hq ⟨x, h1, i, j, h2, h3, b, h4, q⟩
      exact ⟨x, h1, i, j, h2, h3, b, h4, hq _ _ q⟩

theorem scLowest : FnScope ["_law_up", "_law_low", "_law_by"] ["_law_up", "_law_low"] (defScope sLowest) := ⟨rfl, rfl, rfl, by decide +kernel, rfl, by decide +kernel, by decide +kernel⟩
theorem ok_lowest {f : Addr} {fd : FuncData} (F : Fun K "_law_lowest" "_law_lowest" sLowest f fd) (cC : Cl P w K mg base 1 "_law_common" ["_law_one", "_law_two"] spCommon) : FnOk P w K mg base CX0 2 f fd ["_law_up", "_law_low"] (spLowest K) := by
  refine F.ok scLowest (fun vs H Q E h => ?_) (fun cdv A outer s H vs Q E hr h => ?_)
  · obtain ⟨a, b, _, _, rfl, _⟩ := h
    rfl
  · obtain ⟨a, b, k, l, rfl, hb, h1, h2, hk, hl, q⟩ := h
    refine ⟨_, pss_cons (ps_set (i := 2) scLowest.nd rfl (Or.inl rfl) (pe_op op_mulW (pe_k cC hr (by decide) (by rfl) (pa_cons (pv 0) (pa_cons (pv 1) pa_nil))) (pe_ifExp (pt_cmpR op_gt (pv 1) pe_int (nomark _)) pe_int (pe_un un_neg pe_int))))
      (pss_one (ps_ret (pe_tup (pa_cons (pe_op KG.op_fdivN (pv 0) (pv 2)) (pa_cons (pe_op KG.op_fdivN (pv 1) (pv 2)) pa_nil))))), ?_⟩
    have lg1 := lg_le (Nat.le_of_lt h1)
    have lg2 := lg_le h2
    have nz := lowBy_ne (t := a) hb
    have gl : (((Nat.gcd a.natAbs b.natAbs : Nat) : Int)).natAbs ≤ 2 ^ l := by
      have := Nat.gcd_le_right (n := b.natAbs) a.natAbs (by omega)
      rw [Int.natAbs_natCast]
      exact Nat.le_trans this h2
    have fin : ∀ y : Int, y.natAbs ≤ 2 ^ 0 → ((Nat.gcd a.natAbs b.natAbs : Nat) : Int) * y = lowBy a b → rI CMulW (fun i j => V.int (i * j)) (.int ((Nat.gcd a.natAbs b.natAbs : Nat) : Int)) (.int y) H (fun v H1 => tRet (tTup (tCons (tOp (rI KG.CDivN fun i j => .int (i.fdiv j)) (tVar 0) (tVar 2)) (tCons (tOp (rI KG.CDivN fun i j => .int (i.fdiv j)) (tVar 1) (tVar 2)) tNil))) { nx := fun _ H' => Q V.non H', rt := Q } [some (.int a), some (.int b), some v] H1) := fun y hy ey => by
      refine ⟨_, _, rfl, rfl, cm_of gl hy (by omega), ?_⟩
      dsimp only
      rw [ey]
      refine ⟨_, rfl, _, rfl, _, _, rfl, rfl, ⟨nz, by omega⟩, _, rfl, _, rfl, _, _, rfl, rfl, ⟨nz, by omega⟩, (by show 2 ≤ sizeLine; decide), fun t ht => ?_⟩
      exact q _ t (Same.upd_new ht) (SqT.of upd_same)
    have e := low_sg (a := a) hb
    refine ⟨_, rfl, _, rfl, a, b, rfl, _, rfl, _, _, rfl, rfl, _, rfl, ?_⟩
    refine ite2 (fun h => ?_) (fun h => ?_)
    · rw [if_pos h] at e
      exact fin 1 (by decide) e
    · rw [if_neg h] at e
      exact ⟨_, rfl, fin (-1) (by decide) e⟩

theorem scSum : FnScope ["_law_one", "_law_two"] ["_law_one", "_law_two"] (defScope sSum) := ⟨rfl, rfl, rfl, by decide +kernel, rfl, by decide +kernel, by decide +kernel⟩
theorem ok_sum {f : Addr} {fd : FuncData} (F : Fun K "_law_sum" "_law_sum" sSum f fd) (cL : Cl P w K mg base 2 "_law_lowest" ["_law_up", "_law_low"] (spLowest K)) : FnOk P w K mg base CX0 3 f fd ["_law_one", "_law_two"] (spP2 K sumP) := by
  refine F.ok scSum (fun vs H Q E h => ?_) (fun cdv A outer s H vs Q E hr h => ?_)
  · obtain ⟨a, b, _, _, _, _, _, _, rfl, _⟩ := h
    rfl
  · obtain ⟨a, b, p, q, k, l, k', l', rfl, ha, hb, hp, hq, hf, z⟩ := h
    refine ⟨_, pss_one (ps_ret (pe_k cL hr (by decide) (by rfl) (pa_cons (pe_op op_add (pe_op op_mulW (pe_ix ix_tup (pv 0) pe_int (fun _ _ => rfl)) (pe_ix ix_tup (pv 1) pe_int (fun _ _ => rfl))) (pe_op op_mulW (pe_ix ix_tup (pv 1) pe_int (fun _ _ => rfl)) (pe_ix ix_tup (pv 0) pe_int (fun _ _ => rfl))))
      (pa_cons (pe_op op_mulW (pe_ix ix_tup (pv 0) pe_int (fun _ _ => rfl)) (pe_ix ix_tup (pv 1) pe_int (fun _ _ => rfl))) pa_nil)))), ?_⟩
    obtain ⟨g1, g2, g3⟩ := fit_num hp hq hf
    obtain ⟨f1, f2, f3, f4⟩ := hf
    refine ⟨_, rfl, a, _, _, _, rfl, rfl, ha, rfl, _, rfl, b, _, _, _, rfl, rfl, hb, rfl, _, _, rfl, rfl, cmw (Nat.le_of_lt hp.1) hq.2.1 (by omega), ?_⟩
    refine ⟨_, rfl, b, _, _, _, rfl, rfl, hb, rfl, _, rfl, a, _, _, _, rfl, rfl, ha, rfl, _, _, rfl, rfl, cmw (Nat.le_of_lt hq.1) hp.2.1 (by omega), _, _, rfl, rfl, ?_⟩
    refine ⟨_, rfl, a, _, _, _, rfl, rfl, ha, rfl, _, rfl, b, _, _, _, rfl, rfl, hb, rfl, _, _, rfl, rfl, cmw hp.2.1 hq.2.1 (by omega), ?_⟩
    exact ⟨_, _, _, _, rfl, g3, g1, g2, by decide, by decide, z⟩
theorem scTimes : FnScope ["_law_one", "_law_two"] ["_law_one", "_law_two"] (defScope sTimes) := ⟨rfl, rfl, rfl, by decide +kernel, rfl, by decide +kernel, by decide +kernel⟩
theorem ok_times {f : Addr} {fd : FuncData} (F : Fun K "_law_times" "_law_times" sTimes f fd) (cL : Cl P w K mg base 2 "_law_lowest" ["_law_up", "_law_low"] (spLowest K)) : FnOk P w K mg base CX0 3 f fd ["_law_one", "_law_two"] (spP2 K mulP) := by
  refine F.ok scTimes (fun vs H Q E h => ?_) (fun cdv A outer s H vs Q E hr h => ?_)
  · obtain ⟨a, b, _, _, _, _, _, _, rfl, _⟩ := h
    rfl
  · obtain ⟨a, b, p, q, k, l, k', l', rfl, ha, hb, hp, hq, hf, z⟩ := h
    refine ⟨_, pss_one (ps_ret (pe_k cL hr (by decide) (by rfl) (pa_cons (pe_op op_mulW (pe_ix ix_tup (pv 0) pe_int (fun _ _ => rfl)) (pe_ix ix_tup (pv 1) pe_int (fun _ _ => rfl)))
      (pa_cons (pe_op op_mulW (pe_ix ix_tup (pv 0) pe_int (fun _ _ => rfl)) (pe_ix ix_tup (pv 1) pe_int (fun _ _ => rfl))) pa_nil)))), ?_⟩
    obtain ⟨f1, f2, f3, f4⟩ := hf
    refine ⟨_, rfl, a, _, _, _, rfl, rfl, ha, rfl, _, rfl, b, _, _, _, rfl, rfl, hb, rfl, _, _, rfl, rfl, cmw (Nat.le_of_lt hp.1) (Nat.le_of_lt hq.1) (by omega), ?_⟩
    refine ⟨_, rfl, a, _, _, _, rfl, rfl, ha, rfl, _, rfl, b, _, _, _, rfl, rfl, hb, rfl, _, _, rfl, rfl, cmw hp.2.1 hq.2.1 (by omega), ?_⟩
    exact ⟨_, _, _, _, rfl, mul_ne hp.2.2 hq.2.2, abs_mul_lt hp.1 (Nat.le_of_lt hq.1), abs_mul_le hp.2.1 hq.2.1, by omega, by omega, z⟩

/-- the law's own text of a ratio -/
def lawText (p : Int × Int) : Str := Str.ofString "Ratio(" ++ iT p.1 ++ ", " ++ iT p.2 ++ ")"
theorem lawText_eq (p : Int × Int) : lawText p = rRepr p := by
  unfold lawText rRepr
  have e : (Str.empty ++ Str.ofString "Ratio(" : Str) = Str.ofString "Ratio(" := by decide +kernel
  rw [e]
def spWords (K : PySem.W.Frag) : Sp := fun vs H Q _ => ∃ (t : Addr) (p : Int × Int), vs = [.ref t] ∧ PA2 K H t p ∧ p.1.natAbs < Big ∧ p.2.natAbs < Big ∧ Q (.str (rRepr p)) H
theorem scWords : FnScope ["_law_pair"] ["_law_pair"] (defScope sWords) := ⟨rfl, rfl, rfl, by decide +kernel, rfl, by decide +kernel, by decide +kernel⟩
theorem ok_words {f : Addr} {fd : FuncData} (F : Fun K "_law_words" "_law_words" sWords f fd) (nd : base.NoDigits) (hs : mg "str" = none) : FnOk P w K mg base CX0 1 f fd ["_law_pair"] (spWords K) := by
  refine F.ok scWords (fun vs H Q E h => ?_) (fun cdv A outer s H vs Q E hr h => ?_)
  · obtain ⟨a, b, rfl, _⟩ := h
    rfl
  · obtain ⟨a, p, rfl, ha, hx, hy, q⟩ := h
    refine ⟨_, pss_one (ps_ret (pe_op op_add_str (pe_op op_add_str (pe_op op_add_str (pe_op op_add_str pe_str (pe_callTy (call_str_intD nd (by rfl)) (by rfl) hs (by decide +kernel) (pa_cons (pe_ix ix_tup (pv 0) pe_int (fun _ _ => rfl)) pa_nil))) pe_str)
      (pe_callTy (call_str_intD nd (by rfl)) (by rfl) hs (by decide +kernel) (pa_cons (pe_ix ix_tup (pv 0) pe_int (fun _ _ => rfl)) pa_nil))) pe_str)), ?_⟩
    have tx := iT_len hx
    have ty := iT_len hy
    have e1 : (Str.ofString "Ratio(").length = 6 := by decide
    have e2 : (Str.ofString ", ").length = 2 := by decide
    have e3 : (Str.ofString ")").length = 1 := by decide
    have big : (40000 : Nat) < sizeLine := by decide
    rw [← lawText_eq] at q
    refine ⟨_, rfl, a, _, _, _, rfl, rfl, ha, rfl, _, rfl, hx, _, _, rfl, rfl, ?_, _, _, rfl, rfl, ?_, _, rfl, a, _, _, _, rfl, rfl, ha, rfl, _, rfl, hy, _, _, rfl, rfl, ?_, _, _, rfl, rfl, ?_, q⟩
    all_goals try simp only [Str.length_append]
    · show (Str.ofString "Ratio(").length + (iT p.1).length ≤ _
      omega
    · show (Str.ofString "Ratio(").length + (iT p.1).length + (Str.ofString ", ").length ≤ _
      omega
    · show (Str.ofString "Ratio(").length + (iT p.1).length + (Str.ofString ", ").length + (iT p.2).length ≤ _
      omega
    · show (Str.ofString "Ratio(").length + (iT p.1).length + (Str.ofString ", ").length + (iT p.2).length + (Str.ofString ")").length ≤ _
      omega
end
end Cm
end

/-! ## Is11 -/
section
namespace KG
open PySem PySem.Spec PyProof.Rows L2
section
variable {X : Cx} {k j : Nat} {C : Addr} {sp : Sp}
/-- a text comes back -/
abbrev StrQ (Q : VK) : VK := fun v H' => ∃ z, v = .str z ∧ Q v H'
theorem back_str {pins : List (Addr × Obj)} {σ : L2.St} {Q : VK} {u : Value} {s' : Shared} (h : EP X pins σ (StrQ Q) u s') : PySem.W.StrBack (EP X pins σ Q) u s' := by
  obtain ⟨v, H', I', rv, z, rfl, q⟩ := h
  obtain ⟨t, rfl⟩ := rv
  exact ⟨.str z, H', I', ⟨t, rfl⟩, q⟩
theorem run_at {f : Addr} {fd : FuncData} {ps : List Str} (F : FnOk X.prog X.w X.K X.mg X.base CX0 k f fd ps sp) (hb : Binds X.K fd ps []) {A : Around} (hA : At X k A) {pins : List (Addr × Obj)} {σ : L2.St} {H : Hp} {s : Shared} {Q : VK} {us : List Value} {vs : List V}
    (I : Inv X pins σ H s) (rv : Vals vs us) (q : sp vs H Q E0) {E : Value → Shared → Prop} : wpAny (model X.prog X.w) A (call (.ref f) us) (EP X pins σ Q) E s := by
  have hl : us.length = ps.length := by
    have := F.len _ _ _ _ q
    rw [← rv.length]
    exact this
  have b := hb s us I.kIn (by simpa using hl)
  rw [List.append_nil] at b
  have e0 : Env0 X.prog X.w X.K X.mg X.base A X.stack s H := by
    have e := I.env0
    exact ⟨by rw [hA.fr]; exact e.frames, e.mod, e.bs, e.bsz, e.funs, e.frf, e.hok, e.bare⟩
  refine wpAny_call (codeAny_mono (F.run A X.stack s H ⟨us, []⟩ us vs _ E0 hA.rm e0 b rv q) ?_)
  intro res s' z
  cases res with
  | error e => exact z.elim
  | ok fl =>
    cases fl with
    | next => exact z.elim
    | brk => exact z.elim
    | cont => exact z.elim
    | ret u => exact I.after z
def rTx (C : Addr) (sp : Sp) : List V → Hp → VK → Prop := fun xs H Q => ∃ a, xs = [.ref a] ∧ IsI H C a ∧ sp [.ref a] H (StrQ Q) E0
/-- str(o) -/
theorem call_strS (S : Sl X.prog X.w X.K X.mg X.base C "__str__" k sp) (hr : Room j X.A) (hk : k + 2 ≤ j) : CallR X (.type "str") (rTx C sp) := by
  obtain ⟨f, fd, ps, F, hb, hs, hf⟩ := S.ex
  have hr2 : Room (k + 2) X.A := hr.mono hk
  intro pins s σ H xs us Q I r h
  obtain ⟨a, rfl, ⟨dx, fs, ha⟩, q⟩ := h
  obtain ⟨u, rfl, ru⟩ := vals1 r
  cases ru
  obtain ⟨mA, O, _⟩ := ins_get I.hok ha
  obtain ⟨od, J, _⟩ := O.look
  have hu : X.A.in1.in1.units < cLine := by
    have := hr2.un
    show X.A.units + 1 + 1 < cLine
    omega
  have rv : Vals [V.ref a] [Value.ref a] := .cons rfl .nil
  refine PySem.W.kso_call hu I.kIn J hs hf ?_
  exact wpAny_mono (run_at F hb (A := X.A.in1.in1) ⟨rfl, hr2.in1.in1⟩ I rv q) (fun _ _ z => back_str z) fun _ _ z => z
/-- repr(o) -/
theorem call_reprS (S : Sl X.prog X.w X.K X.mg X.base C "__repr__" k sp) (hr : Room j X.A) (hk : k + 1 ≤ j) : CallR X (.builtin "repr") (rTx C sp) := by
  obtain ⟨f, fd, ps, F, hb, hs, hf⟩ := S.ex
  have hr2 : Room (k + 1) X.A := hr.mono hk
  intro pins s σ H xs us Q I r h
  obtain ⟨a, rfl, ⟨dx, fs, ha⟩, q⟩ := h
  obtain ⟨u, rfl, ru⟩ := vals1 r
  cases ru
  obtain ⟨mA, O, _⟩ := ins_get I.hok ha
  obtain ⟨od, J, _⟩ := O.look
  obtain ⟨m, hF⟩ := I.fr
  have hu : X.A.in1.units < cLine := by
    have := hr2.un
    show X.A.units + 1 < cLine
    omega
  have rv : Vals [V.ref a] [Value.ref a] := .cons rfl .nil
  refine PySem.W.repr_K hu hF I.ok.mod.kin J hs hf ?_
  exact wpAny_mono (run_at F hb (A := X.A.in1) ⟨rfl, hr2.in1⟩ I rv q) (fun _ _ z => back_str z) fun _ _ z => z
end
end KG
namespace Cm
open PySem PySem.Spec PyProof.Rows L2 KG
abbrev sIs : Stmt := top 22

theorem sg_eq (x : Int) : (if decide (x > 0) = true then (1 : Int) else 0) - (if decide (x < 0) = true then (1 : Int) else 0) = (if x = 0 then 0 else if 0 < x then 1 else -1) := by
  by_cases h1 : x = 0
  · subst h1
    decide
  · by_cases h2 : 0 < x
    · rw [if_neg h1, if_pos h2, if_pos (decide_eq_true h2), if_neg (by rw [decide_eq_true_eq]; omega)]
      decide
    · rw [if_neg h1, if_neg h2, if_neg (by rw [decide_eq_true_eq]; omega), if_pos (by rw [decide_eq_true_eq]; omega)]
      decide
theorem sg_small (x : Int) : (if x = 0 then 0 else if 0 < x then 1 else (-1 : Int)).natAbs.log2 < 1920 := by
  split
  · decide
  · split <;> decide
theorem eqv_ints (x y : Int) : PyData.eqv (.list [.int x, .int y]) (.list [.int x, .int y]) = true := by
  simp [PyData.eqv, PyData.eqvAll]
theorem eqv_strs (x y z : Str) : PyData.eqv (.list [.str x, .str y, .str z]) (.list [.str x, .str y, .str z]) = true := by
  simp [PyData.eqv, PyData.eqvAll]
def iSg (x : Int) : Int := if x = 0 then 0 else if 0 < x then 1 else -1
theorem rStr_eq {p : Int × Int} (h : ¬ p.2 = 1) : rStr p = iT p.1 ++ "/" ++ iT p.2 := by
  unfold rStr
  rw [if_neg h]
  have e : (Str.empty ++ iT p.1 : Str) = iT p.1 := by
    generalize iT p.1 = z
    cases z
    show (⟨#[] ++ _⟩ : Str) = _
    simp
  rw [e]

/-- the ratio at a and its fraction at t are one, and small enough to be written -/
def spIs (K : PySem.W.Frag) (CR : Addr) : Sp := fun vs H Q _ => ∃ (a t : Addr) (p : Int × Int), vs = [.ref a, .ref t] ∧ RA CR H a p ∧ PA2 K H t p ∧ p.1.natAbs < Big ∧ p.2.natAbs < Big ∧ ∀ H', Same H H' → Q (.bl true) H'

structure TxtL (mg : Str → Option Value) : Prop where
  isi : mg "isinstance" = none
  int : mg "int" = none
  str : mg "str" = none
  repr : mg "repr" = none

section
variable {P : Program} {w : World} {K : PySem.W.Frag} {mg : Str → Option Value} {base : Heap} {CR : Addr}
theorem scIs : FnScope ["_law_made_here", "_law_due", "_law_sign", "_law_text"] ["_law_made_here", "_law_due"] (defScope sIs) := ⟨rfl, rfl, rfl, by decide +kernel, rfl, by decide +kernel, by decide +kernel⟩
theorem ok_is {f : Addr} {fd : FuncData} (F : Fun K "_law_is" "_law_is" sIs f fd) (T : TxtR K mg CR) (L : TxtL mg) (nd : base.NoDigits) (iR : InsK K CR) (kk : KI K CR)
    (pT : Pr P w K mg base CR "top" (spRTop CR)) (pB : Pr P w K mg base CR "bottom" (spRBot CR)) (pS : Pr P w K mg base CR "sign" (spRSign CR))
    (sS : Sl P w K mg base CR "__str__" 1 (spRStr CR)) (sR : Sl P w K mg base CR "__repr__" 1 (spRRepr CR)) (cW : Cl P w K mg base 1 "_law_words" ["_law_pair"] (spWords K)) : FnOk P w K mg base CX0 4 f fd ["_law_made_here", "_law_due"] (spIs K CR) := by
  refine F.ok scIs (fun vs H Q E h => ?_) (fun cdv A outer s H vs Q E hr h => ?_)
  · obtain ⟨a, t, _, rfl, _⟩ := h
    rfl
  · obtain ⟨a, t, p, rfl, ha, ht, hx, hy, q⟩ := h
    refine ⟨_, pss_cons (ps_if (PW.pt (pw_or (pt_not (pt_val (pe_callB call_isi (by rfl) L.isi (by decide +kernel) (pa_cons (pv 0) (pa_cons (pe_glob (v := .ref CR) (by rfl) T.mgR rfl) pa_nil)))))
        (pw_or1 (pt_cmpR (op_neD hr.units) (pe_lst (pa_cons (pe_pr pT T.cl hr (by decide) (pv 0)) (pa_cons (pe_pr pB T.cl hr (by decide) (pv 0)) pa_nil))) (pe_lst (pa_cons (pe_ix ix_tup (pv 1) pe_int (fun _ _ => rfl)) (pa_cons (pe_ix ix_tup (pv 1) pe_int (fun _ _ => rfl)) pa_nil))) (nomark _)))))
        (pss_one (ps_ret pe_bl)) pss_nil)
      (pss_cons (ps_set (i := 2) scIs.nd rfl (Or.inl rfl) (pe_op op_sub (pe_callTy call_int1 (by rfl) L.int (by decide +kernel) (pa_cons (pe_cmpR op_gt (pe_ix ix_tup (pv 1) pe_int (fun _ _ => rfl)) pe_int (nomark _)) pa_nil))
        (pe_callTy call_int1 (by rfl) L.int (by decide +kernel) (pa_cons (pe_cmpR op_lt (pe_ix ix_tup (pv 1) pe_int (fun _ _ => rfl)) pe_int (nomark _)) pa_nil))))
      (C8.pss_cut (ps_set (i := 3) scIs.nd rfl (Or.inl rfl) (pe_ifExp (pt_cmpR op_eq (pe_ix ix_tup (pv 1) pe_int (fun _ _ => rfl)) pe_int (nomark _)) (pe_callTy (call_str_intD nd (by rfl)) (by rfl) L.str (by decide +kernel) (pa_cons (pe_ix ix_tup (pv 1) pe_int (fun _ _ => rfl)) pa_nil))
        (pe_op op_add_str (pe_op op_add_str (pe_callTy (call_str_intD nd (by rfl)) (by rfl) L.str (by decide +kernel) (pa_cons (pe_ix ix_tup (pv 1) pe_int (fun _ _ => rfl)) pa_nil)) pe_str) (pe_callTy (call_str_intD nd (by rfl)) (by rfl) L.str (by decide +kernel) (pa_cons (pe_ix ix_tup (pv 1) pe_int (fun _ _ => rfl)) pa_nil)))))
      (pss_one (ps_ret (pe_cmpR (op_eqG (rcG_list (n := 0) mon_flat eqG_flat) (hr.mono (by decide))) (pe_lst (pa_cons (pe_callB SkE.call_repr_int (by rfl) L.repr (by decide +kernel) (pa_cons (pe_pr pS T.cl hr (by decide) (pv 0)) pa_nil)) (pa_cons (pe_callTy (call_strS sS hr (by decide)) (by rfl) L.str (by decide +kernel) (pa_cons (pv 0) pa_nil)) (pa_cons (pe_callB (call_reprS sR hr (by decide)) (by rfl) L.repr (by decide +kernel) (pa_cons (pv 0) pa_nil)) pa_nil))))
        (pe_lst (pa_cons (pe_callB SkE.call_repr_int (by rfl) L.repr (by decide +kernel) (pa_cons (pv 2) pa_nil)) (pa_cons (pv 3) (pa_cons (pe_k cW hr (by decide) (by rfl) (pa_cons (pv 1) pa_nil)) pa_nil)))) (nomark _)))))), ?_⟩
    obtain ⟨dx, ha'⟩ := id ha
    refine ⟨_, rfl, _, _, _, _, _, rfl, .own _, iR.ty ha', kk.r, _, rfl, ?_⟩
    refine iteF ⟨_, rfl, a, dx, _, rfl, ha', a, p, rfl, ha, ?_⟩
    refine ⟨_, rfl, a, dx, _, rfl, ha', a, p, rfl, ha, (by show 2 ≤ sizeLine; decide), fun l1 n1 => ?_⟩
    have s1 : ∀ o, Same H (upd H l1 o) := fun _ => Same.upd_new n1
    refine ⟨_, rfl, t, _, _, _, rfl, rfl, ht.keep (s1 _), rfl, _, rfl, t, _, _, _, rfl, rfl, ht.keep (s1 _), rfl, (by show 2 ≤ sizeLine; decide), fun l2 n2 => ?_⟩
    have n12 : l1 ≠ l2 := fun e => by
      rw [← e, upd_same] at n2
      cases n2
    refine ⟨.list [.int p.1, .int p.2], .list [.int p.1, .int p.2], .lst (SqL.of (by rw [upd_ne n12]; exact upd_same)) (.cons (.int _) (.cons (.int _) .nil)), .lst (SqL.of upd_same) (.cons (.int _) (.cons (.int _) .nil)), rfl, rfl, ?_⟩
    rw [eqv_ints]
    refine ⟨_, rfl, ?_⟩
    refine iteF ?_
    have s2 : Same H (upd (upd H l1 (.lst [.int p.1, .int p.2])) l2 (.lst [.int p.1, .int p.2])) := Same.trans' (s1 _) (Same.upd_new n2)
    generalize upd (upd H l1 (.lst [.int p.1, .int p.2])) l2 (.lst [.int p.1, .int p.2]) = H2 at s2
    have ha2 := ha.keep s2
    have ht2 := ht.keep s2
    obtain ⟨dx2, ha2'⟩ := id ha2
    refine ⟨_, rfl, t, _, _, _, rfl, rfl, ht2, rfl, _, _, rfl, rfl, .inr ⟨_, rfl, ?_⟩⟩
    refine ⟨_, rfl, t, _, _, _, rfl, rfl, ht2, rfl, _, _, rfl, rfl, .inr ⟨_, rfl, _, _, rfl, rfl, ?_⟩⟩
    have big : (40000 : Nat) < sizeLine := by decide
    have tx := iT_len hx
    have ty := iT_len hy
    have e1 : (Str.ofString "/").length = 1 := by decide
    refine ⟨fun σ H' => σ = [some (.ref a), some (.ref t), some (.int (iSg p.1)), some (.str (rStr p))] ∧ H' = H2, ?_, ?_⟩
    · have es := sg_eq p.1
      refine ⟨_, rfl, t, _, _, _, rfl, rfl, ht2, rfl, rfl, _, rfl, ?_⟩
      refine ite2 (fun h => ?_) (fun h => ?_)
      · have h2 : p.2 = 1 := V.int.inj (of_decide_eq_true h)
        refine ⟨_, rfl, t, _, _, _, rfl, rfl, ht2, rfl, _, rfl, hx, ?_, rfl⟩
        have er : rStr p = iT p.1 := if_pos h2
        rw [er]
        show [some (V.ref a), some (V.ref t), some (V.int _), some (V.str (iT p.1))] = _
        congr 4
        exact congrArg V.int es
      · have h2 : ¬ p.2 = 1 := fun z => h (decide_eq_true (congrArg V.int z))
        refine ⟨_, rfl, t, _, _, _, rfl, rfl, ht2, rfl, _, rfl, hx, _, _, rfl, rfl, ?_, _, rfl, t, _, _, _, rfl, rfl, ht2, rfl, _, rfl, hy, _, _, rfl, rfl, ?_, ?_, rfl⟩
        · show (iT p.1).length + (Str.ofString "/").length ≤ _
          omega
        · show (iT p.1 ++ Str.ofString "/").length + (iT p.2).length ≤ _
          rw [Str.length_append]
          omega
        · rw [rStr_eq h2]
          show [some (V.ref a), some (V.ref t), some (V.int _), some (V.str (iT p.1 ++ "/" ++ iT p.2))] = _
          congr 4
          exact congrArg V.int es
    · rintro σ H' ⟨rfl, rfl⟩
      have sl := sg_small p.1
      refine ⟨_, rfl, a, dx2, _, rfl, ha2', a, p, rfl, ha2, _, rfl, sl, _, rfl, a, rfl, ha2.isI, a, p, rfl, ha2, hx, hy, _, rfl, _, rfl, a, rfl, ha2.isI, a, p, rfl, ha2, hx, hy, _, rfl, (by show 3 ≤ sizeLine; decide), fun l3 n3 => ?_⟩
      have s3 : ∀ o, Same H' (upd H' l3 o) := fun _ => Same.upd_new n3
      refine ⟨_, rfl, _, rfl, sl, _, rfl, _, rfl, t, p, rfl, ht2.keep (s3 _), hx, hy, (by show 3 ≤ sizeLine; decide), fun l4 n4 => ?_⟩
      have n34 : l3 ≠ l4 := fun e => by
        rw [← e, upd_same] at n4
        cases n4
      have ev : ∀ (z : Str) (H5 : Hp), DFlat (.str z) (.str z) H5 := fun z _ => ⟨rfl, rfl, by simp [eqV]⟩
      refine ⟨⟨l3, l4, _, _, rfl, rfl, by rw [upd_ne n34]; exact upd_same, upd_same, Prs.cons (ev _ _) (Prs.cons (ev _ _) (Prs.cons (ev _ _) Prs.nil))⟩, fun H6 e6 => ?_⟩
      exact q _ (Same.trans' s2 (Same.trans' (s3 _) (Same.trans' (Same.upd_new n4) e6)))
end
end Cm
end

/-! ## Kw11 -/
section
namespace KG
open PySem PySem.Spec PyProof.Rows L2
/-- a class that may be made by its parameters' names alone -/
structure MkN (P : Program) (w : World) (K : PySem.W.Frag) (mg : Str → Option Value) (base : Heap) (k : Nat) (x : Str) (C : Addr) (ks : List Str) (gV : List V → List V → List V) (sp : Sp) : Prop where
  ex : ∃ (f : Addr) (fd : FuncData) (ps : List Str) (g : List Value → List Value → List Value), Mk K C f ∧ FnOk P w K mg base CX0 k f fd ps sp ∧ mg x = some (.ref C) ∧ KBn K fd ps 1 ks g gV
def tMkN (C : Addr) (n : Nat) (sp : Sp) (gV : List V → List V → List V) (tk : TA) : TE := fun σ H Q => tk σ H fun zs H2 => zs.length = n ∧
  ∀ x dx, H2 x = none → H2 dx = none → dx ≠ x → sp (gV [.ref x] zs) (upd (upd H2 dx (.own x)) x (.ins C dx [])) (fun v H3 => v = .non ∧ Q (.ref x) H3) E0
/-- a method that may be called by its parameters' names -/
structure MeN (P : Program) (w : World) (K : PySem.W.Frag) (mg : Str → Option Value) (base : Heap) (k : Nat) (C : Addr) (m : Str) (ks : List Str) (sp : Sp) : Prop where
  ex : ∃ (f : Addr) (fd : FuncData) (ps : List Str), Meth K C m f ∧ FnOk P w K mg base CX0 k f fd ps sp ∧ Binds K fd ps [] ∧ ps.length = ks.length + 1 ∧ ∀ (s : Shared) (a : Value) (ws : List Value), ws.length = ks.length → BindsTo s fd ⟨[a], ks.zip ws⟩ (ps.zip (a :: ws))
def tMeN (C : Addr) (m : Str) (sp : Sp) (ta : TE) (tk : TA) : TE := fun σ H Q => ta σ H fun x H1 => ∃ a dx fs, x = .ref a ∧ H1 a = some (.ins C dx fs) ∧ fs.lookup m = none ∧ tk σ H1 fun zs H2 => sp (.ref a :: zs) H2 Q E0
section
variable {X : Cx} {k j : Nat} {x m : Str} {C : Addr} {ks : List Str} {gV : List V → List V → List V} {sp : Sp} {p pos apos : Pos} {o e : Expr} {es : List Expr} {kws : List Keyword} {ta : TE} {t tk : TA}
theorem pe_mkN (c : MkN X.prog X.w X.K X.mg X.base k x C ks gV sp) (hr : Room j X.A) (hj : k + 1 ≤ j) (gl : Gl X x) (hkw : PK X kws tk)
    (hall : (backToKw pos (keywordEach kws X.env)).all (·.1.isSome) = true := by rfl) (hks : (backToKw pos (keywordEach kws X.env)).filterMap (·.1) = ks := by rfl)
    (hdb : (x == ("__debug__" : Str)) = false := by decide)
    (hpl : ((backTo pos (starEach [] X.env)).any (·.1) || (backToKw pos (keywordEach kws X.env)).any (·.1.isNone)) = false := by rfl) :
    PE X (.Call (.Name x p) [] kws pos) (tMkN C ks.length sp gV tk) := by
  obtain ⟨f, fd, ps, g, M, F, hm, hb⟩ := c.ex
  constructor
  intro pins s σ H Q I h
  refine wpAny_Call_Name_kw (ld_glob I gl hm ?_ hdb)
  refine PySem.W.callWith_KW0 (h₀ := X.base) I.ok.mod.kin M.kp hall ?_ hpl
  refine thn (hkw.run pos pins s σ H _ I h) ?_
  rintro ws s2 ⟨zs, H2, I2, rz, l2, q2⟩
  refine ⟨I2.kIn, ?_⟩
  rw [hks]
  exact run_makeN (n := 0) (us := []) (vs := []) M F (hr.mono hj) hb pass0 I2 .nil rz rfl l2 q2
theorem pe_meN {pl : Sem Bool} (c : MeN X.prog X.w X.K X.mg X.base k C m ks sp) (cl : Cls X.K C) (hr : Room j X.A) (hj : k ≤ j) (he : PE X o ta) (hkw : PK X kws tk)
    (hall : (backToKw pos (keywordEach kws X.env)).all (·.1.isSome) = true := by rfl) (hks : (backToKw pos (keywordEach kws X.env)).filterMap (·.1) = ks := by rfl)
    (hpl : ((backTo pos (starEach [] X.env)).any (·.1) || (backToKw pos (keywordEach kws X.env)).any (·.1.isNone)) = false := by rfl)
    (ht : eval (.Call (.Attribute o m apos) [] kws pos) X.env = (do
      let ov ← eval o X.env
      standAt apos.atName
      let (f, first) ← holding [ov] (getMethod ov m pl)
      callWith pos f first (backTo pos (starEach [] X.env)) (backToKw pos (keywordEach kws X.env))) := by rfl) :
    PE X (.Call (.Attribute o m apos) [] kws pos) (tMeN C m sp ta tk) := by
  obtain ⟨f, fd, ps, hm, F, _, hlen, hb⟩ := c.ex
  refine ⟨fun pins s σ H Q I h => ?_⟩
  refine PySem.W.methodCall_KW (pl := pl) (thn (he.run pins s σ H _ I h) fun u s1 ⟨x, H1, I1, rx, a, dx, fs, ex, ea, l, q⟩ => ?_) ht
  subst ex
  obtain rfl : u = Value.ref a := rx
  refine getmeth_ok I1 ea cl hm l ?_
  refine PySem.W.callWith_KW0 (first := [.ref a]) (h₀ := X.base) I.ok.mod.kin hm.kp hall ?_ hpl
  refine thn (hkw.run pos pins s1 σ H1 _ I1 q) ?_
  rintro ws s2 ⟨zs, H2, I2, rz, q2⟩
  refine ⟨I2.kIn, ?_⟩
  rw [hks]
  have hl : ws.length = ks.length := by
    have h1 := F.len _ _ _ _ q2
    rw [List.length_cons] at h1
    rw [← rz.length]
    omega
  have rv : Vals (V.ref a :: zs) (Value.ref a :: ws) := .cons rfl rz
  refine wpAny_call (codeAny_mono (F.run X.A X.stack s2 H2 ⟨[.ref a], ks.zip ws⟩ (.ref a :: ws) (.ref a :: zs) Q E0 (hr.mono hj) I2.env0 (hb s2 (.ref a) ws hl) rv q2) ?_)
  intro res s' q
  cases res with
  | error e => exact q.elim
  | ok fl =>
    cases fl with
    | ret u => exact I2.after q
    | next => exact q.elim
    | brk => exact q.elim
    | cont => exact q.elim
theorem pe_me {pl : Sem Bool} (c : MeN X.prog X.w X.K X.mg X.base k C m ks sp) (cl : Cls X.K C) (hr : Room j X.A) (hj : k ≤ j) (he : PE X o ta) (ha : PA X (e :: es) t)
    (hst : starEach (e :: es) X.env = (false, eval e X.env) :: starEach es X.env := by rfl) (hpl : (backTo pos (starEach es X.env)).any (·.1) = false := by rfl)
    (ht : eval (.Call (.Attribute o m apos) (e :: es) [] pos) X.env = (do
      let ov ← eval o X.env
      standAt apos.atName
      let (f, first) ← holding [ov] (getMethod ov m pl)
      callWith pos f first (backTo pos (starEach (e :: es) X.env)) (backToKw pos (keywordEach [] X.env))) := by rfl) :
    PE X (.Call (.Attribute o m apos) (e :: es) [] pos) (tMeth C m sp [] E0 ta t) := by
  obtain ⟨f, fd, ps, hm, F, hb, _⟩ := c.ex
  exact pe_meth he cl hm F (hr.mono hj) hb .nil pass0 ha hst hpl ht
end
section
open ClX
variable {X : Cx} {CX : CXT} {k : Nat} {C p g : Addr} {mc : Value} {sp : Sp} {E : XK} {o : Expr} {m : Str} {pos apos : Pos} {ta : TE} {pl : Sem Bool}
theorem pe_cmeth0 (he : PE X o ta) (r : CRead X.K C mc) (c : CMet X.K C mc m p g) (F : FnR X.prog X.w X.K X.mg X.base CX k g sp) (hr : Room k X.A) (hx : Passes CX X E)
    (ht : eval (.Call (.Attribute o m apos) [] [] pos) X.env = (do
      let ov ← eval o X.env
      standAt apos.atName
      let (f, first) ← holding [ov] (getMethod ov m pl)
      callWith pos f first (backTo pos (starEach [] X.env)) (backToKw pos (keywordEach [] X.env))) := by rfl) :
    PE X (.Call (.Attribute o m apos) [] [] pos) (tCMeth C sp E ta tNil) := by
  refine ⟨fun pins s σ H Q I h => ?_⟩
  refine PySem.W.methodCall_KW (pl := pl) (thn (he.run pins s σ H _ I h) fun u s1 ⟨x, H1, I1, rx, ex, q⟩ => ?_) ht
  subst ex
  obtain rfl : u = Value.ref C := rx
  refine getmethcm_ok I1 r c fun s2 I2 => ?_
  exact PySem.W.callWith_M0 ⟨pin_at I2, I2.kIn⟩ c.fi (run_cm F hr hx I2 .nil q)
end
end KG
end

/-! ## Ds11 -/
section
namespace Cm
open PySem PySem.Spec PyProof.Rows L2 KG

/-- all but lists stand as before -/
def SmL (H H' : Hp) : Prop := ∀ b o, H b = some o → (∀ xs, o ≠ .lst xs) → H' b = some o
theorem SmL.of {H H' : Hp} (e : Same H H') : SmL H H' := fun b o h _ => e b o h
theorem SmL.rfl' {H : Hp} : SmL H H := fun _ _ h _ => h
theorem SmL.trans {H H1 H2 : Hp} (a : SmL H H1) (b : SmL H1 H2) : SmL H H2 := fun c o h n => b c o (a c o h n) n
theorem SmL.upd {H : Hp} {l : Addr} {xs ys : List V} (h : H l = some (.lst xs)) : SmL H (L2.upd H l (.lst ys)) := fun b o e n => by
  have : b ≠ l := fun z => by
    rw [z, h] at e
    cases e
    exact n _ rfl
  rw [upd_ne this]
  exact e
theorem RA.keepL {CR : Addr} {H H' : Hp} {a : Addr} {p : Int × Int} (h : RA CR H a p) (e : SmL H H') : RA CR H' a p := by
  obtain ⟨dx, h⟩ := h
  exact ⟨dx, e _ _ h (fun _ z => by cases z)⟩
theorem SqT.keepL {K : PySem.W.Frag} {H H' : Hp} {t : Addr} {xs : List V} (h : SqT K H t xs) (e : SmL H H') : SqT K H' t xs :=
  h.elim (fun h => .inl (h.elim (fun h => .inl (e _ _ h (fun _ z => by cases z))) fun ⟨o, h⟩ => .inr ⟨o, e _ _ h (fun _ z => by cases z)⟩)) fun h => .inr h
theorem PA2.keepL {K : PySem.W.Frag} {H H' : Hp} {t : Addr} {p : Int × Int} (h : PA2 K H t p) (e : SmL H H') : PA2 K H' t p := SqT.keepL h e

abbrev BP := L2.St → Hp → Prop
abbrev RP := V → Hp → Prop
def MonB (B : BP) : Prop := ∀ σ H H', SmL H H' → B σ H → B σ H'
def MonR (R : RP) : Prop := ∀ v H H', SmL H H' → R v H → R v H'
def isR (CR : Addr) (q : Int × Int) : RP := fun v H => ∃ a, v = .ref a ∧ RA CR H a q
def isN (n : Int) : RP := fun v _ => v = .int n
def isP (K : PySem.W.Frag) (q : Int × Int) : RP := fun v H => ∃ t, v = .ref t ∧ PA2 K H t q
def isQ (CR : Addr) (q : Int × Int) : RP := fun v H => Num CR H v q
def isRow (K : PySem.W.Frag) (CR : Addr) (q : Int × Int) : RP := fun v H => ∃ t r d, v = .ref t ∧ H t = some (.tup [.ref r, .ref d]) ∧ RA CR H r q ∧ PA2 K H d q
theorem mon_isR (CR : Addr) (q : Int × Int) : MonR (isR CR q) := fun v H H' e h => by
  obtain ⟨a, h1, h2⟩ := h
  exact ⟨a, h1, h2.keepL e⟩
theorem mon_isN (n : Int) : MonR (isN n) := fun v H H' e h => h
theorem mon_isP (K : PySem.W.Frag) (q : Int × Int) : MonR (isP K q) := fun v H H' e h => by
  obtain ⟨a, h1, h2⟩ := h
  exact ⟨a, h1, h2.keepL e⟩
theorem mon_isQ (CR : Addr) (q : Int × Int) : MonR (isQ CR q) := fun v H H' e h => by
  rcases h with ⟨a, h1, h2⟩ | h
  · exact .inl ⟨a, h1, h2.keepL e⟩
  · exact .inr h
theorem mon_isRow (K : PySem.W.Frag) (CR : Addr) (q : Int × Int) : MonR (isRow K CR q) := fun v H H' e h => by
  obtain ⟨t, r, d, h1, h2, h3, h4⟩ := h
  exact ⟨t, r, d, h1, e _ _ h2 (fun _ z => by cases z), h3.keepL e, h4.keepL e⟩

def tS (B : BP) (R : RP) : TE := fun σ H Q => B σ H ∧ ∀ v H', Same H H' → R v H' → Q v H'
def AllR : List RP → List V → Hp → Prop
  | [], [], _ => True
  | R :: Rs, v :: vs, H => R v H ∧ AllR Rs vs H
  | _, _, _ => False
def tSs (B : BP) (Rs : List RP) : TA := fun σ H Q => B σ H ∧ ∀ vs H', Same H H' → AllR Rs vs H' → Q vs H'
theorem AllR.keep : ∀ {Rs : List RP} {vs : List V} {H H' : Hp}, (∀ R ∈ Rs, MonR R) → SmL H H' → AllR Rs vs H → AllR Rs vs H'
  | [], [], _, _, _, _, _ => trivial
  | R :: Rs, v :: vs, H, H', m, e, h => ⟨m R List.mem_cons_self v H H' e h.1, AllR.keep (fun R hR => m R (List.mem_cons_of_mem _ hR)) e h.2⟩
  | [], _ :: _, _, _, _, _, h => h.elim
  | _ :: _, [], _, _, _, _, h => h.elim
theorem AllR.len : ∀ {Rs : List RP} {vs : List V} {H : Hp}, AllR Rs vs H → vs.length = Rs.length
  | [], [], _, _ => rfl
  | R :: Rs, v :: vs, H, h => by rw [List.length_cons, List.length_cons, AllR.len h.2]
  | [], _ :: _, _, h => h.elim
  | _ :: _, [], _, h => h.elim
theorem AllR.append : ∀ {Rs Ss : List RP} {vs ws : List V} {H : Hp}, AllR Rs vs H → AllR Ss ws H → AllR (Rs ++ Ss) (vs ++ ws) H
  | [], _, [], _, _, _, g => g
  | R :: Rs, _, v :: vs, _, H, h, g => ⟨h.1, AllR.append h.2 g⟩
  | [], _, _ :: _, _, _, h, _ => h.elim
  | _ :: _, _, [], _, _, h, _ => h.elim
theorem AllR.get : ∀ {Rs : List RP} {vs : List V} {H : Hp} {i : Nat} {v : V}, AllR Rs vs H → vs[i]? = some v → ∃ R, Rs[i]? = some R ∧ R v H
  | [], [], _, _, _, _, h => by cases h
  | R :: Rs, v :: vs, H, 0, _, h, e => ⟨R, rfl, by cases e; exact h.1⟩
  | R :: Rs, v :: vs, H, i + 1, w, h, e => AllR.get (i := i) h.2 e
  | [], _ :: _, _, _, _, h, _ => h.elim
  | _ :: _, [], _, _, _, h, _ => h.elim

section
variable {X : Cx} {B : BP} {R Ra Rb : RP} {Rs : List RP} {a b e : Expr} {es : List Expr} {pos p : Pos}
theorem pe_s {t : TE} (h : PE X e t) (hs : ∀ σ H Q, B σ H → (∀ v H', Same H H' → R v H' → Q v H') → t σ H Q) : PE X e (tS B R) := ⟨fun pins s σ H Q I ⟨b, q⟩ => h.run pins s σ H Q I (hs σ H Q b q)⟩
theorem pa_s {t : TA} (h : PA X es t) (hs : ∀ σ H Q, B σ H → (∀ vs H', Same H H' → AllR Rs vs H' → Q vs H') → t σ H Q) : PA X es (tSs B Rs) := ⟨fun pos pins s σ H Q I ⟨b, q⟩ => h.run pos pins s σ H Q I (hs σ H Q b q)⟩
theorem pe_sW (h : PE X e (tS B Ra)) (hw : ∀ v H, Ra v H → R v H) : PE X e (tS B R) := pe_s h fun σ H Q hb q => ⟨hb, fun v H' s1 r => q v H' s1 (hw v H' r)⟩
theorem pe_sOp {op : Operator} {r : R2} (ho : OpR X (binaryOp op) r) (mB : MonB B) (m1 : MonR Ra) (h1 : PE X a (tS B Ra)) (h2 : PE X b (tS B Rb))
    (hs : ∀ v w H Q, Ra v H → Rb w H → (∀ u H', Same H H' → R u H' → Q u H') → r v w H Q) : PE X (.BinOp a op b pos) (tS B R) :=
  pe_s (pe_op ho h1 h2) fun σ H Q hb q => ⟨hb, fun v H1 s1 r1 => ⟨mB _ _ _ (.of s1) hb, fun w H2 s2 r2 => hs v w H2 Q (m1 _ _ _ (.of s2) r1) r2 fun u H' s3 r3 => q u H' (Same.trans' s1 (Same.trans' s2 s3)) r3⟩⟩
theorem pe_sUn {op : UnaryOp} {r : V → Hp → VK → Prop} (ho : UnR X (unaryOp op) r) (h1 : PE X a (tS B Ra))
    (hs : ∀ v H Q, Ra v H → (∀ u H', Same H H' → R u H' → Q u H') → r v H Q) : PE X (.UnaryOp op a pos) (tS B R) :=
  pe_s (pe_un ho h1) fun σ H Q hb q => ⟨hb, fun v H1 s1 r1 => hs v H1 Q r1 fun u H' s3 r3 => q u H' (Same.trans' s1 s3) r3⟩
theorem pe_sTup2 {kt : Nat} (mB : MonB B) (m1 : MonR Ra) (h1 : PE X a (tS B Ra)) (h2 : PE X b (tS B Rb)) (hs : ∀ v w H t, Ra v H → Rb w H → H t = none → R (.ref t) (upd H t (.tup [v, w]))) (he1 : starEach [a, b] X.env = (false, eval a X.env) :: starEach [b] X.env := by rfl) (he2 : starEach [b] X.env = (false, eval b X.env) :: starEach [] X.env := by rfl) : PE X (.Tuple [a, b] kt pos) (tS B R) :=
  pe_s (pe_tup (pa_cons h1 (pa_cons h2 pa_nil he2) he1)) fun σ H Q hb q => ⟨hb, fun v H1 s1 r1 => ⟨mB _ _ _ (.of s1) hb, fun w H2 s2 r2 => ⟨(by show 2 ≤ sizeLine; decide), fun t ht => q _ _ (Same.trans' (Same.trans' s1 s2) (Same.upd_new ht)) (hs v w H2 t (m1 _ _ _ (.of s2) r1) r2 ht)⟩⟩⟩
theorem pa_sNil : PA X [] (tSs B []) := pa_s pa_nil fun σ H Q hb q => q [] H (fun _ _ e => e) trivial
theorem pa_sCons (mB : MonB B) (m : MonR R) (h : PE X e (tS B R)) (g : PA X es (tSs B Rs)) (he : starEach (e :: es) X.env = (false, eval e X.env) :: starEach es X.env := by rfl) : PA X (e :: es) (tSs B (R :: Rs)) :=
  pa_s (pa_cons h g he) fun σ H Q hb q => ⟨hb, fun v H1 s1 r1 => ⟨mB _ _ _ (.of s1) hb, fun vs H2 s2 r2 => q (v :: vs) H2 (Same.trans' s1 s2) ⟨m _ _ _ (.of s2) r1, r2⟩⟩⟩
end

section
variable {X : Cx} {B : BP} {R Ra Rb : RP} {a b e : Expr} {es : List Expr} {pos p : Pos} {CR : Addr} {j : Nat} {K : PySem.W.Frag}
theorem pe_sK2 {k : Nat} {x : Str} {ps : List Str} {sp : Sp} (c : Cl X.prog X.w X.K X.mg X.base k x ps sp) (hr : Room j X.A) (hk : k ≤ j) (gl : Gl X x) (mB : MonB B) (m1 : MonR Ra) (h1 : PE X a (tS B Ra)) (h2 : PE X b (tS B Rb))
    (hs : ∀ v w H Q, Ra v H → Rb w H → (∀ u H', Same H H' → R u H' → Q u H') → sp [v, w] H Q E0)
    (hdb : (x == ("__debug__" : Str)) = false := by decide) (he : starEach [a, b] X.env = (false, eval a X.env) :: starEach [b] X.env := by rfl) (he2 : starEach [b] X.env = (false, eval b X.env) :: starEach [] X.env := by rfl) (hpl : (backTo pos (starEach [b] X.env)).any (·.1) = false := by rfl) : PE X (.Call (.Name x p) [a, b] [] pos) (tS B R) :=
  pe_s (pe_k c hr hk gl (pa_cons h1 (pa_cons h2 pa_nil he2) he) hdb he hpl) fun σ H Q hb q => ⟨hb, fun v H1 s1 r1 => ⟨mB _ _ _ (.of s1) hb, fun w H2 s2 r2 => hs v w H2 Q (m1 _ _ _ (.of s2) r1) r2 fun u H' s3 r3 => q u H' (Same.trans' s1 (Same.trans' s2 s3)) r3⟩⟩
/-- a fraction of two ints -/
theorem pe_sPair {kt : Nat} {m n : Int} (mB : MonB B) (h1 : PE X a (tS B (isN m))) (h2 : PE X b (tS B (isN n))) (he1 : starEach [a, b] X.env = (false, eval a X.env) :: starEach [b] X.env := by rfl) (he2 : starEach [b] X.env = (false, eval b X.env) :: starEach [] X.env := by rfl) : PE X (.Tuple [a, b] kt pos) (tS B (isP K (m, n))) :=
  pe_sTup2 mB (mon_isN m) h1 h2 (fun v w H t r1 r2 ht => by
    cases r1
    cases r2
    exact ⟨t, rfl, SqT.of upd_same⟩) he1 he2
/-- a deed and what is due -/
theorem pe_sRow {kt : Nat} {q : Int × Int} (mB : MonB B) (h1 : PE X a (tS B (isR CR q))) (h2 : PE X b (tS B (isP K q))) (he1 : starEach [a, b] X.env = (false, eval a X.env) :: starEach [b] X.env := by rfl) (he2 : starEach [b] X.env = (false, eval b X.env) :: starEach [] X.env := by rfl) : PE X (.Tuple [a, b] kt pos) (tS B (isRow K CR q)) :=
  pe_sTup2 mB (mon_isR CR q) h1 h2 (fun v w H t r1 r2 ht => by
    obtain ⟨r, rfl, hr⟩ := r1
    obtain ⟨d, rfl, hd⟩ := r2
    exact ⟨t, r, d, rfl, upd_same, hr.keep (Same.upd_new ht), hd.keep (Same.upd_new ht)⟩) he1 he2
/-- the two rule forms of ratios -/
theorem pe_sRN {op : Operator} {f : Int × Int → Int × Int → Int × Int} {C : Int × Int → Prop} {p q : Int × Int} {k l k' l' : Nat} (ho : OpR X (binaryOp op) (rRN CR f C)) (mB : MonB B) (h1 : PE X a (tS B (isR CR p))) (h2 : PE X b (tS B (isQ CR q)))
    (bp : Bd k l p) (bq : Bd k' l' q) (ft : Fit k l k' l') (hc : C q) : PE X (.BinOp a op b pos) (tS B (isR CR (f p q))) :=
  pe_sOp ho mB (mon_isR CR p) h1 h2 fun v w H Q r1 r2 z => by
    obtain ⟨x, rfl, hx⟩ := r1
    exact ⟨x, p, q, k, l, k', l', rfl, hx, r2, bp, bq, ft, hc, fun H' c s1 r => z _ H' s1 ⟨c, rfl, r⟩⟩
theorem pe_sNR {op : Operator} {f : Int × Int → Int × Int → Int × Int} {p : Int × Int} {n : Int} {k l k' : Nat} (ho : OpR X (binaryOp op) (rNR CR f)) (mB : MonB B) (h1 : PE X a (tS B (isN n))) (h2 : PE X b (tS B (isR CR p)))
    (bp : Bd k l p) (hn : n.natAbs < 2 ^ k') (ft : Fit k l k' 0) : PE X (.BinOp a op b pos) (tS B (isR CR (f p (n, 1)))) :=
  pe_sOp ho mB (mon_isN n) h1 h2 fun v w H Q r1 r2 z => by
    obtain ⟨x, rfl, hx⟩ := r2
    cases r1
    exact ⟨x, n, p, k, l, k', rfl, rfl, hx, bp, hn, ft, fun H' c s1 r => z _ H' s1 ⟨c, rfl, r⟩⟩
theorem pe_sNeg {p : Int × Int} {k l : Nat} (ho : UnR X (unaryOp .USub) (rNg CR)) (h1 : PE X a (tS B (isR CR p))) (bp : Bd k l p) (hk : k ≤ 13000) (hl : l ≤ 13000) : PE X (.UnaryOp .USub a pos) (tS B (isR CR (negP p))) :=
  pe_sUn ho h1 fun v H Q r1 z => by
    obtain ⟨x, rfl, hx⟩ := r1
    exact ⟨x, p, k, l, rfl, hx, bp, hk, hl, fun H' c s1 r => z _ H' s1 ⟨c, rfl, r⟩⟩
/-- ints -/
theorem pe_sNegI {n : Int} (h1 : PE X a (tS B (isN n))) : PE X (.UnaryOp .USub a pos) (tS B (isN (-n))) :=
  pe_sUn un_neg h1 fun v H Q r1 z => by
    cases r1
    exact ⟨n, rfl, z _ H (fun _ _ e => e) rfl⟩
theorem pe_sMulI {m n : Int} {k l : Nat} (mB : MonB B) (h1 : PE X a (tS B (isN m))) (h2 : PE X b (tS B (isN n))) (bm : m.natAbs ≤ 2 ^ k) (bn : n.natAbs ≤ 2 ^ l) (h : k + l < 13000) : PE X (.BinOp a .Mult b pos) (tS B (isN (m * n))) :=
  pe_sOp op_mulW mB (mon_isN m) h1 h2 fun v w H Q r1 r2 z => by
    cases r1
    cases r2
    exact ⟨m, n, rfl, rfl, cmw bm bn h, z _ H (fun _ _ e => e) rfl⟩
theorem pe_sInt {n : Int} {kd : Nat} : PE X (.Constant (.int n) kd pos) (tS B (isN n)) := by
  exact pe_s pe_int fun σ H Q hb q => q _ H (fun _ _ e => e) rfl
theorem pe_sIx0 {q : Int × Int} {x : Expr} (h1 : PE X a (tS B (isP X.K q))) (hix : PE X (.Subscript a x pos) (tOp (rIxT X.K) (tS B (isP X.K q)) (tC (V.int 0)))) : PE X (.Subscript a x pos) (tS B (isN q.1)) :=
  pe_s hix fun σ H Q hb z => ⟨hb, fun v H1 s1 r1 => by
    obtain ⟨t, rfl, ht⟩ := r1
    exact ⟨t, _, _, _, rfl, rfl, ht, rfl, z _ H1 s1 rfl⟩⟩
theorem pe_sIx1 {q : Int × Int} {x : Expr} (h1 : PE X a (tS B (isP X.K q))) (hix : PE X (.Subscript a x pos) (tOp (rIxT X.K) (tS B (isP X.K q)) (tC (V.int 1)))) : PE X (.Subscript a x pos) (tS B (isN q.2)) :=
  pe_s hix fun σ H Q hb z => ⟨hb, fun v H1 s1 r1 => by
    obtain ⟨t, rfl, ht⟩ := r1
    exact ⟨t, _, _, _, rfl, rfl, ht, rfl, z _ H1 s1 rfl⟩⟩
/-- the law's own sums and products -/
theorem pe_sP2 {x : Str} {ps : List Str} {f : Int × Int → Int × Int → Int × Int} {p' q : Int × Int} {k l k' l' : Nat} (c : Cl X.prog X.w X.K X.mg X.base 3 x ps (spP2 X.K f)) (hr : Room j X.A) (hk : 3 ≤ j) (gl : Gl X x) (mB : MonB B)
    (h1 : PE X a (tS B (isP X.K p'))) (h2 : PE X b (tS B (isP X.K q))) (bp : Bd k l p') (bq : Bd k' l' q) (ft : Fit k l k' l')
    (hdb : (x == ("__debug__" : Str)) = false := by decide) (he : starEach [a, b] X.env = (false, eval a X.env) :: starEach [b] X.env := by rfl) (he2 : starEach [b] X.env = (false, eval b X.env) :: starEach [] X.env := by rfl) (hpl : (backTo pos (starEach [b] X.env)).any (·.1) = false := by rfl) :
    PE X (.Call (.Name x p) [a, b] [] pos) (tS B (isP X.K (f p' q))) :=
  pe_sK2 c hr hk gl mB (mon_isP X.K p') h1 h2 (fun v w H Q r1 r2 z => by
    obtain ⟨s, rfl, hs⟩ := r1
    obtain ⟨t, rfl, ht⟩ := r2
    exact ⟨s, t, p', q, k, l, k', l', rfl, hs, ht, bp, bq, ft, fun H' t s1 r => z _ H' s1 ⟨t, rfl, r⟩⟩) hdb he he2 hpl
theorem pe_sLow {ps : List Str} {m n : Int} {k l : Nat} (c : Cl X.prog X.w X.K X.mg X.base 2 "_law_lowest" ps (spLowest X.K)) (hr : Room j X.A) (hj : 2 ≤ j) (gl : Gl X "_law_lowest") (mB : MonB B)
    (h1 : PE X a (tS B (isN m))) (h2 : PE X b (tS B (isN n))) (hn : n ≠ 0) (bm : m.natAbs < 2 ^ k) (bn : n.natAbs ≤ 2 ^ l) (hk : k ≤ 13000) (hl : l ≤ 13000)
    (he : starEach [a, b] X.env = (false, eval a X.env) :: starEach [b] X.env := by rfl) (he2 : starEach [b] X.env = (false, eval b X.env) :: starEach [] X.env := by rfl) (hpl : (backTo pos (starEach [b] X.env)).any (·.1) = false := by rfl) :
    PE X (.Call (.Name "_law_lowest" p) [a, b] [] pos) (tS B (isP X.K (low m n))) :=
  pe_sK2 c hr hj gl mB (mon_isN m) h1 h2 (fun v w H Q r1 r2 z => by
    cases r1
    cases r2
    exact ⟨m, n, k, l, rfl, hn, bm, bn, hk, hl, fun H' t s1 r => z _ H' s1 ⟨t, rfl, r⟩⟩) (by decide) he he2 hpl
/-- r.over(x) -/
theorem pe_sOver {p q : Int × Int} {k l k' l' : Nat} {apos : Pos} {pl : Sem Bool} {ks : List Str} (c : MeN X.prog X.w X.K X.mg X.base 5 CR "over" ks (spBin CR divP fun q => q.1 ≠ 0)) (cl : Cls X.K CR) (hr : Room j X.A) (hj : 5 ≤ j) (mB : MonB B)
    (h1 : PE X a (tS B (isR CR p))) (h2 : PE X b (tS B (isQ CR q))) (bp : Bd k l p) (bq : Bd k' l' q) (ft : Fit k l k' l') (hn : q.1 ≠ 0)
    (hst : starEach [b] X.env = (false, eval b X.env) :: starEach [] X.env := by rfl) (hpl : (backTo pos (starEach [] X.env)).any (·.1) = false := by rfl)
    (ht : eval (.Call (.Attribute a "over" apos) [b] [] pos) X.env = (do
      let ov ← eval a X.env
      standAt apos.atName
      let (f, first) ← holding [ov] (getMethod ov "over" pl)
      callWith pos f first (backTo pos (starEach [b] X.env)) (backToKw pos (keywordEach [] X.env))) := by rfl) : PE X (.Call (.Attribute a "over" apos) [b] [] pos) (tS B (isR CR (divP p q))) :=
  pe_s (pe_me c cl hr hj h1 (pa_cons h2 pa_nil hst) hst hpl ht) fun σ H Q hb z => ⟨hb, fun v H1 s1 r1 => by
    obtain ⟨x, rfl, hx⟩ := r1
    obtain ⟨dx, hx'⟩ := id hx
    refine ⟨x, dx, _, rfl, hx', rf_no _ _ (by decide +kernel) (by decide +kernel), mB _ _ _ (.of s1) hb, fun w H2 s2 r2 => ?_⟩
    exact ⟨x, w, p, q, k, l, k', l', rfl, hx.keep s2, r2, bp, bq, ft, hn, fun H' c s3 r => z _ H' (Same.trans' s1 (Same.trans' s2 s3)) ⟨c, rfl, r⟩⟩⟩

/-- Ratio.total(..) -/
def TotSp (CR : Addr) : Sp := fun vs H Q E => ∃ ws rest, vs = ws ++ rest ∧ ws.length = ([("cls" : Str)] : List Str).length ∧ rest.length ≤ sizeLine ∧ ∀ p, H p = Option.none → spTotal CR (ws ++ [V.ref p]) (upd H p (.tup rest)) Q E
structure Tot (P : Program) (w : World) (K : PySem.W.Frag) (mg : Str → Option Value) (base : Heap) (CR : Addr) : Prop where
  ex : ∃ (mc : Value) (p g : Addr), ClX.CRead K CR mc ∧ ClX.CMet K CR mc "total" p g ∧ FnR P w K mg base CX0 6 g (TotSp CR)
  mgR : mg "Ratio" = some (.ref CR)
theorem tot_sp {CR : Addr} {qs : List (Int × Int)} {vs : List V} {H : Hp} {Q : VK} (hl : qs.length < 60) (ha : AllR (qs.map (isQ CR)) vs H) (hb : ∀ (i : Nat) (q : Int × Int), qs[i]? = some q → ∃ k l k' l', Bd k l (part qs i) ∧ Bd k' l' q ∧ Fit k l k' l')
    (z : ∀ (H' : Hp) (c : Addr), Same H H' → RA CR H' c (part qs qs.length) → Q (.ref c) H') : TotSp CR (.ref CR :: vs) H Q E0 := by
  have el := ha.len
  rw [List.length_map] at el
  refine ⟨[.ref CR], vs, rfl, rfl, by rw [el]; exact Nat.le_of_lt (Nat.lt_trans hl (by decide)), fun p hp => ?_⟩
  refine ⟨_, p, vs, qs, rfl, upd_same, el.symm, fun i y hy => ?_, fun H' c s1 r => z H' c (Same.trans' (Same.upd_new hp) s1) (by rw [← el]; exact r)⟩
  obtain ⟨R, hR, h⟩ := ha.get hy
  rw [List.getElem?_map] at hR
  cases e : qs[i]? with
  | none =>
    rw [e] at hR
    cases hR
  | some q =>
    rw [e] at hR
    cases hR
    exact ⟨q, rfl, mon_isQ CR q _ _ _ (.of (Same.upd_new hp)) h, hb i q e⟩
theorem pe_sTot {qs : List (Int × Int)} {apos : Pos} {pl : Sem Bool} (c : Tot X.prog X.w X.K X.mg X.base CR) (hr : Room j X.A) (hj : 6 ≤ j) (gl : Gl X "Ratio") (mB : MonB B) (ha : PA X (e :: es) (tSs B (qs.map (isQ CR)))) (hl : qs.length < 60)
    (hb : ∀ (i : Nat) (q : Int × Int), qs[i]? = some q → ∃ k l k' l', Bd k l (part qs i) ∧ Bd k' l' q ∧ Fit k l k' l')
    (hst : starEach (e :: es) X.env = (false, eval e X.env) :: starEach es X.env := by rfl) (hpl : (backTo pos (starEach es X.env)).any (·.1) = false := by rfl)
    (ht : eval (.Call (.Attribute (.Name "Ratio" p) "total" apos) (e :: es) [] pos) X.env = (do
      let ov ← eval (.Name "Ratio" p) X.env
      standAt apos.atName
      let (f, first) ← holding [ov] (getMethod ov "total" pl)
      callWith pos f first (backTo pos (starEach (e :: es) X.env)) (backToKw pos (keywordEach [] X.env))) := by rfl) :
    PE X (.Call (.Attribute (.Name "Ratio" p) "total" apos) (e :: es) [] pos) (tS B (isR CR (part qs qs.length))) := by
  obtain ⟨mc, q, g, c1, c2, F⟩ := c.ex
  exact pe_s (ClX.pe_cmeth (pe_glob (v := .ref CR) gl c.mgR rfl) c1 c2 F (hr.mono hj) pass0 ha hst hpl ht) fun σ H Q b z =>
    ⟨rfl, b, fun vs H1 s1 r1 => tot_sp hl r1 hb fun H' c s2 r => z _ H' (Same.trans' s1 s2) ⟨c, rfl, r⟩⟩
theorem pe_sTot0 {apos : Pos} {pl : Sem Bool} (c : Tot X.prog X.w X.K X.mg X.base CR) (hr : Room j X.A) (hj : 6 ≤ j) (gl : Gl X "Ratio") (mB : MonB B)
    (ht : eval (.Call (.Attribute (.Name "Ratio" p) "total" apos) [] [] pos) X.env = (do
      let ov ← eval (.Name "Ratio" p) X.env
      standAt apos.atName
      let (f, first) ← holding [ov] (getMethod ov "total" pl)
      callWith pos f first (backTo pos (starEach [] X.env)) (backToKw pos (keywordEach [] X.env))) := by rfl) :
    PE X (.Call (.Attribute (.Name "Ratio" p) "total" apos) [] [] pos) (tS B (isR CR (0, 1))) := by
  obtain ⟨mc, q, g, c1, c2, F⟩ := c.ex
  exact pe_s (pe_cmeth0 (pe_glob (v := .ref CR) gl c.mgR rfl) c1 c2 F (hr.mono hj) pass0 ht) fun σ H Q b z =>
    ⟨rfl, tot_sp (qs := []) (by decide) trivial (fun i q h => by cases h) fun H' c s2 r => z _ H' s2 ⟨c, rfl, r⟩⟩
end
end Cm
end

/-! ## Rw11 -/
section
namespace Cm
open PySem PySem.Spec PyProof.Rows L2 KG
abbrev sRows : Stmt := top 23

/-- what stands in the slots of the rows' def -/
def BR (K : PySem.W.Frag) (CR : Addr) (p s : Int × Int) (n : Int) (ob : Option (Int × Int)) : BP := fun σ H => ∃ a t b u w l m x8 x9, σ = [some (V.ref a), some (.ref t), some (.ref b), some (.ref u), some (.int n), some (.ref w), some (.ref l), some (.ref m), x8, x9] ∧
  RA CR H a p ∧ PA2 K H t p ∧ RA CR H b s ∧ PA2 K H u s ∧ PA2 K H w (n, 1) ∧ PA2 K H l (-p.1, p.2) ∧ PA2 K H m (-s.1, s.2) ∧ (∀ o, ob = some o → ∃ y, x9 = some (.ref y) ∧ PA2 K H y o)
section
variable {X : Cx} {CR : Addr} {p s : Int × Int} {n : Int} {ob : Option (Int × Int)} {e : Expr} {B : BP} {q q' : Int × Int}
theorem mon_BR (K : PySem.W.Frag) (CR : Addr) (p s : Int × Int) (n : Int) (ob : Option (Int × Int)) : MonB (BR K CR p s n ob) := fun σ H H' e h => by
  obtain ⟨a, t, b, u, w, l, m, x8, x9, hσ, h1, h2, h3, h4, h5, h6, h7, h8⟩ := h
  exact ⟨a, t, b, u, w, l, m, x8, x9, hσ, h1.keepL e, h2.keepL e, h3.keepL e, h4.keepL e, h5.keepL e, h6.keepL e, h7.keepL e, fun o ho => let ⟨y, e1, e2⟩ := h8 o ho; ⟨y, e1, e2.keepL e⟩⟩
theorem r0 (h : PE X e (tVar 0)) : PE X e (tS (BR X.K CR p s n ob) (isR CR p)) := pe_s h fun σ H Q hb z => by
  obtain ⟨a, t, b, u, w, l, m, x8, x9, rfl, h1, h2, h3, h4, h5, h6, h7, h8⟩ := hb
  exact ⟨_, rfl, z _ H (fun _ _ e => e) ⟨a, rfl, h1⟩⟩
theorem r1 (h : PE X e (tVar 1)) : PE X e (tS (BR X.K CR p s n ob) (isP X.K p)) := pe_s h fun σ H Q hb z => by
  obtain ⟨a, t, b, u, w, l, m, x8, x9, rfl, h1, h2, h3, h4, h5, h6, h7, h8⟩ := hb
  exact ⟨_, rfl, z _ H (fun _ _ e => e) ⟨t, rfl, h2⟩⟩
theorem r2 (h : PE X e (tVar 2)) : PE X e (tS (BR X.K CR p s n ob) (isR CR s)) := pe_s h fun σ H Q hb z => by
  obtain ⟨a, t, b, u, w, l, m, x8, x9, rfl, h1, h2, h3, h4, h5, h6, h7, h8⟩ := hb
  exact ⟨_, rfl, z _ H (fun _ _ e => e) ⟨b, rfl, h3⟩⟩
theorem r3 (h : PE X e (tVar 3)) : PE X e (tS (BR X.K CR p s n ob) (isP X.K s)) := pe_s h fun σ H Q hb z => by
  obtain ⟨a, t, b, u, w, l, m, x8, x9, rfl, h1, h2, h3, h4, h5, h6, h7, h8⟩ := hb
  exact ⟨_, rfl, z _ H (fun _ _ e => e) ⟨u, rfl, h4⟩⟩
theorem r4 (h : PE X e (tVar 4)) : PE X e (tS (BR X.K CR p s n ob) (isN n)) := pe_s h fun σ H Q hb z => by
  obtain ⟨a, t, b, u, w, l, m, x8, x9, rfl, h1, h2, h3, h4, h5, h6, h7, h8⟩ := hb
  exact ⟨_, rfl, z _ H (fun _ _ e => e) rfl⟩
theorem r5 (h : PE X e (tVar 5)) : PE X e (tS (BR X.K CR p s n ob) (isP X.K (n, 1))) := pe_s h fun σ H Q hb z => by
  obtain ⟨a, t, b, u, w, l, m, x8, x9, rfl, h1, h2, h3, h4, h5, h6, h7, h8⟩ := hb
  exact ⟨_, rfl, z _ H (fun _ _ e => e) ⟨w, rfl, h5⟩⟩
theorem r6 (h : PE X e (tVar 6)) : PE X e (tS (BR X.K CR p s n ob) (isP X.K (-p.1, p.2))) := pe_s h fun σ H Q hb z => by
  obtain ⟨a, t, b, u, w, l, m, x8, x9, rfl, h1, h2, h3, h4, h5, h6, h7, h8⟩ := hb
  exact ⟨_, rfl, z _ H (fun _ _ e => e) ⟨l, rfl, h6⟩⟩
theorem r7 (h : PE X e (tVar 7)) : PE X e (tS (BR X.K CR p s n ob) (isP X.K (-s.1, s.2))) := pe_s h fun σ H Q hb z => by
  obtain ⟨a, t, b, u, w, l, m, x8, x9, rfl, h1, h2, h3, h4, h5, h6, h7, h8⟩ := hb
  exact ⟨_, rfl, z _ H (fun _ _ e => e) ⟨m, rfl, h7⟩⟩
theorem r9 (h : PE X e (tVar 9)) : PE X e (tS (BR X.K CR p s n (some q)) (isP X.K q)) := pe_s h fun σ H Q hb z => by
  obtain ⟨a, t, b, u, w, l, m, x8, x9, rfl, h1, h2, h3, h4, h5, h6, h7, h8⟩ := hb
  obtain ⟨y, rfl, hy⟩ := h8 q rfl
  exact ⟨_, rfl, z _ H (fun _ _ e => e) ⟨y, rfl, hy⟩⟩
theorem toQ (h : PE X e (tS B (isR CR q))) : PE X e (tS B (isQ CR q)) := pe_sW h fun v H ⟨a, e1, h1⟩ => .inl ⟨a, e1, h1⟩
theorem toQn (h : PE X e (tS B (isN n))) : PE X e (tS B (isQ CR (n, 1))) := pe_sW h fun v H e1 => .inr ⟨n, e1, rfl⟩
theorem eqR' (h : PE X e (tS B (isR CR q))) (ee : q = q') : PE X e (tS B (isR CR q')) := ee ▸ h
theorem eqP' {K : PySem.W.Frag} (h : PE X e (tS B (isP K q))) (ee : q = q') : PE X e (tS B (isP K q')) := ee ▸ h
end

/-- the rows' fractions -/
def rows1 (p s : Int × Int) (n : Int) : List (Int × Int) := [sumP p s, sumP p (-s.1, s.2), (-p.1, p.2)]
def rows2 (p s : Int × Int) (n : Int) : List (Int × Int) := [sumP s (-p.1, p.2), mulP p s]
def rows3 (p s : Int × Int) (n : Int) : List (Int × Int) := [sumP p (n, 1), sumP (n, 1) p]
def rows4 (p s : Int × Int) (n : Int) : List (Int × Int) := [sumP p (-n, 1), sumP (n, 1) (-p.1, p.2)]
def rows5 (p s : Int × Int) (n : Int) : List (Int × Int) := [mulP p (n, 1), mulP (n, 1) p]
def rows6 (p s : Int × Int) (n : Int) : List (Int × Int) := [sumP (sumP p s) (n, 1), sumP p s]
def rows7 (p s : Int × Int) (n : Int) : List (Int × Int) := [(n, 1), (0, 1)]
def rowsA (p s : Int × Int) (n : Int) : List (Int × Int) := rows1 p s n ++ rows2 p s n ++ rows3 p s n ++ rows4 p s n ++ rows5 p s n ++ rows6 p s n ++ rows7 p s n ++ [sumP p (3 * n, 1)]
def rowsB (p s : Int × Int) : List (Int × Int) := if s.1 = 0 then [] else [low (p.1 * s.2) (p.2 * s.1), low (p.1 * s.2) (p.2 * s.1)]
def rowsC (p : Int × Int) (n : Int) : List (Int × Int) := if n = 0 then [] else [low p.1 (p.2 * n)]
def rowsOf (p s : Int × Int) (n : Int) : List (Int × Int) := rowsA p s n ++ rowsB p s ++ rowsC p n

/-- a fraction of size m -/
def Bm (m : Nat) (p : Int × Int) : Prop := Lw p ∧ Bd m m p
theorem neg_bd {k l : Nat} {p : Int × Int} (h : Bd k l p) : Bd k l (-p.1, p.2) := ⟨by show (-p.1).natAbs < _; rw [Int.natAbs_neg]; exact h.1, h.2⟩
theorem bd_3n {n : Int} (h : n.natAbs < 2 ^ 100) : Bd 102 0 (3 * n, 1) := bd_int (by omega)
theorem bm_of {k l m : Nat} {p : Int × Int} (h : Lw p) (b : Bd k l p) (hk : k ≤ m) (hl : l ≤ m) : Bm m p := ⟨h, b.mono hk hl⟩
theorem rows_bm {m : Nat} {p s : Int × Int} {n : Int} (hp : Bm m p) (hs : Bm m s) (hn : n.natAbs < 2 ^ 100) (hm : 100 ≤ m) : ∀ q ∈ rowsOf p s n, Bm (2 * m + 102) q := by
  obtain ⟨lp, bp⟩ := hp
  obtain ⟨ls, bs⟩ := hs
  have bn := bd_int hn
  have bn' : Bd 100 0 (-n, 1) := bd_int (by rw [Int.natAbs_neg]; exact hn)
  have b3 := bd_3n hn
  have o1 : Bm (2 * m + 102) (sumP p s) := bm_of (lw_sum lp.ne ls.ne) (bd_sum (m := 2 * m + 1) (j := 2 * m) bp bs (by omega) (by omega) (by omega)) (by omega) (by omega)
  intro q hq
  unfold rowsOf rowsA rows1 rows2 rows3 rows4 rows5 rows6 rows7 at hq
  simp only [List.mem_append, List.mem_cons, List.not_mem_nil, or_false] at hq
  rcases hq with ((((((((((rfl | rfl | rfl) | (rfl | rfl)) | (rfl | rfl)) | (rfl | rfl)) | (rfl | rfl)) | (rfl | rfl)) | (rfl | rfl)) | rfl) | hq) | hq)
  · exact o1
  · exact bm_of (lw_sum lp.ne (lw_neg ls).ne) (bd_sum (m := 2 * m + 1) (j := 2 * m) bp (neg_bd bs) (by omega) (by omega) (by omega)) (by omega) (by omega)
  · exact bm_of (lw_neg lp) (neg_bd bp) (by omega) (by omega)
  · exact bm_of (lw_sum ls.ne (lw_neg lp).ne) (bd_sum (m := 2 * m + 1) (j := 2 * m) bs (neg_bd bp) (by omega) (by omega) (by omega)) (by omega) (by omega)
  · exact bm_of (lw_mul lp.ne ls.ne) (bd_mul (m := 2 * m) (j := 2 * m) bp bs (by omega) (by omega)) (by omega) (by omega)
  · exact bm_of (lw_sum lp.ne (one_ne n)) (bd_sum (m := m + 101) (j := m) bp bn (by omega) (by omega) (by omega)) (by omega) (by omega)
  · exact bm_of (lw_sum (one_ne n) lp.ne) (bd_sum (m := m + 101) (j := m) bn bp (by omega) (by omega) (by omega)) (by omega) (by omega)
  · exact bm_of (lw_sum lp.ne (one_ne (-n))) (bd_sum (m := m + 101) (j := m) bp bn' (by omega) (by omega) (by omega)) (by omega) (by omega)
  · exact bm_of (lw_sum (one_ne n) (lw_neg lp).ne) (bd_sum (m := m + 101) (j := m) bn (neg_bd bp) (by omega) (by omega) (by omega)) (by omega) (by omega)
  · exact bm_of (lw_mul lp.ne (one_ne n)) (bd_mul (m := m + 100) (j := m) bp bn (by omega) (by omega)) (by omega) (by omega)
  · exact bm_of (lw_mul (one_ne n) lp.ne) (bd_mul (m := m + 100) (j := m) bn bp (by omega) (by omega)) (by omega) (by omega)
  · exact bm_of (lw_sum (lw_sum lp.ne ls.ne).ne (one_ne n)) (bd_sum (m := 2 * m + 102) (j := 2 * m) (bd_sum (m := 2 * m + 1) (j := 2 * m) bp bs (by omega) (by omega) (by omega)) bn (by omega) (by omega) (by omega)) (by omega) (by omega)
  · exact o1
  · exact bm_of (lw_int n) bn (by omega) (by omega)
  · exact bm_of (lw_int 0) (bd_int (k := 0) (by decide)) (by omega) (by omega)
  · exact bm_of (lw_sum lp.ne (one_ne (3 * n))) (bd_sum (m := m + 103) (j := m) bp b3 (by omega) (by omega) (by omega)) (by omega) (by omega)
  · unfold rowsB at hq
    split at hq
    · exact absurd hq List.not_mem_nil
    · rename_i h0
      simp only [List.mem_cons, List.not_mem_nil, or_false, or_self] at hq
      subst hq
      exact bm_of (lw_div lp.ne h0) (bd_div (m := 2 * m) (j := 2 * m) bp bs h0 (by omega) (by omega)) (by omega) (by omega)
  · unfold rowsC at hq
    split at hq
    · exact absurd hq List.not_mem_nil
    · rename_i h0
      simp only [List.mem_cons, List.not_mem_nil, or_false] at hq
      subst hq
      have e : low p.1 (p.2 * n) = divP p (n, 1) := by
        show _ = low (p.1 * 1) (p.2 * n)
        rw [Int.mul_one]
      rw [e]
      exact bm_of (lw_div lp.ne h0) (bd_div (m := m) (j := m + 100) bp bn h0 (by omega) (by omega)) (by omega) (by omega)

/-- the rows stand in the list at l -/
def RowsAt (K : PySem.W.Frag) (CR : Addr) (H0 : Hp) (l : Addr) (qs : List (Int × Int)) (H : Hp) : Prop := Same H0 H ∧ H0 l = none ∧ ∃ vs, H l = some (.lst vs) ∧ AllR (qs.map (isRow K CR)) vs H
theorem mon_rows {K : PySem.W.Frag} {CR : Addr} {qs : List (Int × Int)} : ∀ R ∈ qs.map (isRow K CR), MonR R := by
  intro R hR
  obtain ⟨q, _, rfl⟩ := List.mem_map.mp hR
  exact mon_isRow K CR q
theorem same_upd0 {H0 H : Hp} {l : Addr} {o : HO} (s : Same H0 H) (h : H0 l = none) : Same H0 (upd H l o) := fun b u e => by
  rw [upd_ne (ne_of_none e h)]
  exact s b u e
theorem rows_new {K : PySem.W.Frag} {CR : Addr} {H0 H H1 : Hp} {l : Addr} {qs : List (Int × Int)} {vs : List V} (s : Same H0 H) (s1 : Same H H1) (r1 : AllR (qs.map (isRow K CR)) vs H1) (nl : H1 l = none) :
    RowsAt K CR H0 l qs (upd H1 l (.lst vs)) ∧ SmL H (upd H1 l (.lst vs)) := by
  have z : Same H1 (upd H1 l (.lst vs)) := Same.upd_new nl
  refine ⟨⟨Same.trans' (Same.trans' s s1) z, ?_, vs, upd_same, r1.keep mon_rows (.of z)⟩, .of (Same.trans' s1 z)⟩
  cases e : H0 l with
  | none => rfl
  | some o =>
    rw [(Same.trans' s s1) l o e] at nl
    cases nl
theorem rows_ext {K : PySem.W.Frag} {CR : Addr} {H0 H H1 : Hp} {l b : Addr} {qs more : List (Int × Int)} {ws : List V} (ra : RowsAt K CR H0 l qs H) (s1 : Same H H1) (r1 : AllR (more.map (isRow K CR)) ws H1) (nb : H1 b = none) :
    ∃ vs, upd H1 b (.lst ws) l = some (.lst vs) ∧ vs.length = qs.length ∧ ws.length = more.length ∧ RowsAt K CR H0 l (qs ++ more) (upd (upd H1 b (.lst ws)) l (.lst (vs ++ ws))) ∧ SmL H (upd (upd H1 b (.lst ws)) l (.lst (vs ++ ws))) := by
  obtain ⟨s, nl, vs, hl, hr⟩ := ra
  have z : Same H1 (upd H1 b (.lst ws)) := Same.upd_new nb
  have hl2 : upd H1 b (.lst ws) l = some (.lst vs) := z _ _ (s1 _ _ hl)
  have u : SmL (upd H1 b (.lst ws)) (upd (upd H1 b (.lst ws)) l (.lst (vs ++ ws))) := SmL.upd hl2
  have e1 := hr.len
  have e2 := r1.len
  rw [List.length_map] at e1 e2
  have sm : SmL H (upd (upd H1 b (.lst ws)) l (.lst (vs ++ ws))) := SmL.trans (.of (Same.trans' s1 z)) u
  refine ⟨vs, hl2, e1, e2, ⟨same_upd0 (Same.trans' s (Same.trans' s1 z)) nl, nl, _, upd_same, ?_⟩, sm⟩
  rw [List.map_append]
  exact (hr.keep mon_rows sm).append (r1.keep mon_rows (SmL.trans (.of z) u))
theorem rows_app {K : PySem.W.Frag} {CR : Addr} {H0 H H1 : Hp} {l : Addr} {qs : List (Int × Int)} {q : Int × Int} {v : V} (ra : RowsAt K CR H0 l qs H) (s1 : Same H H1) (r1 : isRow K CR q v H1) :
    ∃ vs, H1 l = some (.lst vs) ∧ vs.length = qs.length ∧ RowsAt K CR H0 l (qs ++ [q]) (upd H1 l (.lst (vs ++ [v]))) ∧ SmL H (upd H1 l (.lst (vs ++ [v]))) := by
  obtain ⟨s, nl, vs, hl, hr⟩ := ra
  have hl2 := s1 _ _ hl
  have u : SmL H1 (upd H1 l (.lst (vs ++ [v]))) := SmL.upd hl2
  have e1 := hr.len
  rw [List.length_map] at e1
  have sm : SmL H (upd H1 l (.lst (vs ++ [v]))) := SmL.trans (.of s1) u
  refine ⟨vs, hl2, e1, ⟨same_upd0 (Same.trans' s s1) nl, nl, _, upd_same, ?_⟩, sm⟩
  rw [List.map_append]
  exact (hr.keep mon_rows sm).append ⟨mon_isRow K CR q _ _ _ u r1, trivial⟩

structure RO (P : Program) (w : World) (K : PySem.W.Frag) (mg : Str → Option Value) (base : Heap) (CR : Addr) : Prop where
  add : Sl P w K mg base CR (PySem.dunder "add") 5 (spBin CR sumP fun _ => True)
  sub : Sl P w K mg base CR (PySem.dunder "sub") 6 (spBin CR (fun p q => sumP p (negP q)) fun _ => True)
  mul : Sl P w K mg base CR (PySem.dunder "mul") 5 (spBin CR mulP fun _ => True)
  radd : Sl P w K mg base CR (dunderR "add") 6 (spRBin CR sumP)
  rsub : Sl P w K mg base CR (dunderR "sub") 6 (spRBin CR fun p q => sumP (negP p) q)
  rmul : Sl P w K mg base CR (dunderR "mul") 6 (spRBin CR mulP)
  neg : Sl P w K mg base CR "__neg__" 4 (spNeg CR)
  oA : IntO K CR .Add
  oS : IntO K CR .Sub
  oM : IntO K CR .Mult
  fA : RefO K CR .Add
  fS : RefO K CR .Sub
  fM : RefO K CR .Mult
  sf : PySem.W.selfFirst K CR = true
  ov : MeN P w K mg base 5 CR "over" ["other"] (spBin CR divP fun q => q.1 ≠ 0)
  tot : Tot P w K mg base CR
  cl : Cls K CR

section
variable {X : Cx} {B : BP} {a b : Expr} {pos : Pos} {CR : Addr} {j : Nat}
/-- r.over(other=x) -/
theorem pe_sOverN {p q : Int × Int} {k l k' l' : Nat} {apos kp : Pos} {pl : Sem Bool} {nm : Option Str} (c : MeN X.prog X.w X.K X.mg X.base 5 CR "over" ["other"] (spBin CR divP fun q => q.1 ≠ 0)) (cl : Cls X.K CR) (hr : Room j X.A) (hj : 5 ≤ j) (mB : MonB B)
    (h1 : PE X a (tS B (isR CR p))) (h2 : PE X b (tS B (isQ CR q))) (bp : Bd k l p) (bq : Bd k' l' q) (ft : Fit k l k' l') (hn : q.1 ≠ 0)
    (hall : (backToKw pos (keywordEach [⟨nm, b, kp⟩] X.env)).all (·.1.isSome) = true := by rfl) (hks : (backToKw pos (keywordEach [⟨nm, b, kp⟩] X.env)).filterMap (·.1) = ([("other" : Str)] : List Str) := by rfl)
    (hpl : ((backTo pos (starEach [] X.env)).any (·.1) || (backToKw pos (keywordEach [⟨nm, b, kp⟩] X.env)).any (·.1.isNone)) = false := by rfl)
    (ht : eval (.Call (.Attribute a "over" apos) [] [⟨nm, b, kp⟩] pos) X.env = (do
      let ov ← eval a X.env
      standAt apos.atName
      let (f, first) ← holding [ov] (getMethod ov "over" pl)
      callWith pos f first (backTo pos (starEach [] X.env)) (backToKw pos (keywordEach [⟨nm, b, kp⟩] X.env))) := by rfl) : PE X (.Call (.Attribute a "over" apos) [] [⟨nm, b, kp⟩] pos) (tS B (isR CR (divP p q))) :=
  pe_s (pe_meN c cl hr hj h1 (pk_cons h2 pk_nil) hall hks hpl ht) fun σ H Q hb z => ⟨hb, fun v H1 s1 r1 => by
    obtain ⟨x, rfl, hx⟩ := r1
    obtain ⟨dx, hx'⟩ := id hx
    refine ⟨x, dx, _, rfl, hx', rf_no _ _ (by decide +kernel) (by decide +kernel), mB _ _ _ (.of s1) hb, fun w H2 s2 r2 => ?_⟩
    exact ⟨x, w, p, q, k, l, k', l', rfl, hx.keep s2, r2, bp, bq, ft, hn, fun H' c s3 r => z _ H' (Same.trans' s1 (Same.trans' s2 s3)) ⟨c, rfl, r⟩⟩⟩
end
end Cm
end

/-! ## St11 -/
section
namespace Cm
open PySem PySem.Spec PyProof.Rows L2 KG
theorem bx1 {m : Nat} {p s : Int × Int} (bp : Bd m m p) (bs : Bd m m s) : (p.1 * s.2).natAbs < 2 ^ (2 * m) := Nat.lt_of_lt_of_le (abs_mul_lt bp.1 bs.2.1) (pow_le (by omega))
theorem bx2 {m : Nat} {p s : Int × Int} (bp : Bd m m p) (bs : Bd m m s) : (p.2 * s.1).natAbs ≤ 2 ^ (2 * m) := Nat.le_trans (abs_mul_le bp.2.1 (Nat.le_of_lt bs.1)) (pow_le (by omega))
theorem bx3 {m : Nat} {p : Int × Int} {n : Int} (bp : Bd m m p) (hn : n.natAbs < 2 ^ 100) : (p.2 * n).natAbs ≤ 2 ^ (m + 100) := abs_mul_le bp.2.1 (Nat.le_of_lt hn)
theorem b00 : Bd 0 0 (0, 1) := bd_int (by decide)
theorem tb1 {n : Int} (hn : n.natAbs < 2 ^ 100) : ∀ (i : Nat) (q : Int × Int), [((n, 1) : Int × Int)][i]? = some q → ∃ k l k' l', Bd k l (part [(n, 1)] i) ∧ Bd k' l' q ∧ Fit k l k' l' := by
  intro i q h
  match i, h with
  | 0, h =>
    cases h
    exact ⟨0, 0, 100, 0, b00, bd_int hn, by unfold Fit; decide⟩
theorem tb2 {m : Nat} {p s : Int × Int} (hm : 100 ≤ m) (hm2 : m ≤ 6400) (bp : Bd m m p) (bs : Bd m m s) : ∀ (i : Nat) (q : Int × Int), [s, p][i]? = some q → ∃ k l k' l', Bd k l (part [s, p] i) ∧ Bd k' l' q ∧ Fit k l k' l' := by
  intro i q h
  match i, h with
  | 0, h =>
    cases h
    exact ⟨0, 0, m, m, b00, bs, by unfold Fit; omega⟩
  | 1, h =>
    cases h
    exact ⟨m + 1, m, m, m, bd_sum b00 bs (by omega) (by omega) (by omega), bp, by unfold Fit; omega⟩
theorem tb3 {m : Nat} {p s : Int × Int} {n : Int} (hm : 100 ≤ m) (hm2 : m ≤ 6400) (bp : Bd m m p) (bs : Bd m m s) (hn : n.natAbs < 2 ^ 100) : ∀ (i : Nat) (q : Int × Int), [p, ((n, 1) : Int × Int), s][i]? = some q → ∃ k l k' l', Bd k l (part [p, (n, 1), s] i) ∧ Bd k' l' q ∧ Fit k l k' l' := by
  intro i q h
  have b1 : Bd (m + 1) m (sumP (0, 1) p) := bd_sum b00 bp (by omega) (by omega) (by omega)
  match i, h with
  | 0, h =>
    cases h
    exact ⟨0, 0, m, m, b00, bp, by unfold Fit; omega⟩
  | 1, h =>
    cases h
    exact ⟨m + 1, m, 100, 0, b1, bd_int hn, by unfold Fit; omega⟩
  | 2, h =>
    cases h
    exact ⟨m + 101, m, m, m, bd_sum b1 (bd_int hn) (by omega) (by omega) (by omega), bs, by unfold Fit; omega⟩
theorem tb4 {m : Nat} {p : Int × Int} {n : Int} (hm : 100 ≤ m) (hm2 : m ≤ 6400) (bp : Bd m m p) (hn : n.natAbs < 2 ^ 100) : ∀ (i : Nat) (q : Int × Int), [((n, 1) : Int × Int), (n, 1), p, (n, 1)][i]? = some q → ∃ k l k' l', Bd k l (part [(n, 1), (n, 1), p, (n, 1)] i) ∧ Bd k' l' q ∧ Fit k l k' l' := by
  intro i q h
  have b1 : Bd 101 0 (sumP (0, 1) (n, 1)) := bd_sum b00 (bd_int hn) (by omega) (by omega) (by omega)
  have b2 : Bd 102 0 (sumP (sumP (0, 1) (n, 1)) (n, 1)) := bd_sum b1 (bd_int hn) (by omega) (by omega) (by omega)
  match i, h with
  | 0, h =>
    cases h
    exact ⟨0, 0, 100, 0, b00, bd_int hn, by unfold Fit; omega⟩
  | 1, h =>
    cases h
    exact ⟨101, 0, 100, 0, b1, bd_int hn, by unfold Fit; omega⟩
  | 2, h =>
    cases h
    exact ⟨102, 0, m, m, b2, bp, by unfold Fit; omega⟩
  | 3, h =>
    cases h
    exact ⟨m + 103, m, 100, 0, bd_sum b2 bp (by omega) (by omega) (by omega), bd_int hn, by unfold Fit; omega⟩

def spRows (K : PySem.W.Frag) (CR : Addr) : Sp := fun vs H Q _ => ∃ (a t b u : Addr) (p s : Int × Int) (n : Int) (m : Nat), vs = [.ref a, .ref t, .ref b, .ref u, .int n] ∧ RA CR H a p ∧ PA2 K H t p ∧ RA CR H b s ∧ PA2 K H u s ∧ Bm m p ∧ Bm m s ∧ n.natAbs < 2 ^ 100 ∧ 100 ≤ m ∧ m ≤ 6400 ∧
  ∀ (H' : Hp) (l : Addr), RowsAt K CR H l (rowsOf p s n) H' → Q (.ref l) H'
def tIfP (c : Prop) (t : TS) : TS := fun D σ H => c ∧ t D σ H
theorem pss_if {X : Cx} {c : Prop} {ss : List Stmt} {t : TS} (h : c → PSs X ss t) : PSs X ss (tIfP c t) := ⟨fun pins s σ H D I g => (h g.1).run pins s σ H D I g.2⟩
abbrev nmsRows : List Str := ["_law_one", "_law_pair", "_law_two", "_law_second", "_law_n", "_law_whole", "_law_less", "_law_minus", "_law_rows_here", "_law_both"]

theorem declOp (op : Operator) (h : op = .Add ∨ op = .Sub ∨ op = .Mult) : ∃ nm, nm = PySem.dunder op.info.2 ∧ Declines nm := by
  generalize hn : PySem.dunder op.info.2 = nm
  refine ⟨nm, rfl, ?_⟩
  rcases h with rfl | rfl | rfl
  · exact decl_add hn.symm
  · exact decl_sub hn.symm
  · exact decl_mul hn.symm
theorem declOp' (op : Operator) (h : op = .Add ∨ op = .Sub ∨ op = .Mult) : Declines (PySem.dunder op.info.2) := by
  obtain ⟨nm, e, d⟩ := declOp op h
  rw [← e]
  exact d
/-- the list at slot 8 has come to more rows -/
def tExt (K : PySem.W.Frag) (CR : Addr) (p s : Int × Int) (n : Int) (ob : Option (Int × Int)) (more : List (Int × Int)) : TS := fun D σ H => ∃ (H0 : Hp) (l : Addr) (qs : List (Int × Int)), RowsAt K CR H0 l qs H ∧ BR K CR p s n ob σ H ∧ σ[8]? = some (some (.ref l)) ∧ qs.length ≤ 100 ∧ more.length ≤ 100 ∧
  ∀ H', RowsAt K CR H0 l (qs ++ more) H' → BR K CR p s n ob σ H' → D.nx σ H'
section
variable {X : Cx} {CR : Addr} {p s : Int × Int} {n : Int} {ob : Option (Int × Int)} {more : List (Int × Int)} {q : Int × Int} {eo e : Expr} {es : List Expr} {apos cpos pos lpos : Pos} {e : Expr}
theorem ps_extL (h8 : PE X eo (tVar 8)) (hl : PE X e (tLst (tSs (BR X.K CR p s n ob) (more.map (isRow X.K CR)))))
    (hbase : attributeBase eo "extend" X.env (eval eo X.env) = eval eo X.env := by rfl)
    (hfew : ((backTo cpos (starEach [e] X.env)).all (fun x => !x.1) && (backToKw cpos (keywordEach [] X.env)).all (fun x => x.1.isSome)
      && decide (([e] : List Expr).length + ([] : List Keyword).length + (if ([] : List Keyword).isEmpty then 0 else 1) < 30)) = true := by rfl)
    (hline : (apos.endLine == cpos.line) = true := by rfl) (hs : starEach [e] X.env = (false, eval e X.env) :: starEach [] X.env := by rfl) (hplain : (backTo cpos (starEach [] X.env)).any (·.1) = false := by rfl) :
    PE X (.Call (.Attribute eo "extend" apos) [e] [] cpos) (fun σ H Q => tExt X.K CR p s n ob more { nx := fun _ H' => Q .non H', rt := fun _ _ => False } σ H) := by
  have h := pe_bm PySem.F.plainAttrs_list PySem.F.slot_list_extend PySem.F.type_list_extend mt_extend h8 (pa_cons hl pa_nil hs) hbase hfew hline hs hplain
  refine ⟨fun pins s σ H Q I g => h.run pins s σ H Q I ?_⟩
  obtain ⟨H0, l, qs, ra, hB, h8, hq, hm, z⟩ := g
  obtain ⟨vs0, hl0⟩ : ∃ vs0, H l = some (.lst vs0) := ⟨_, ra.2.2.choose_spec.1⟩
  refine ⟨_, h8, .inl ⟨rfl, _, SqL.of hl0⟩, hB, fun ws H1 s1 r1 => ?_⟩
  have e2 := r1.len
  rw [List.length_map] at e2
  have big : (1000 : Nat) < sizeLine := by decide
  refine ⟨by omega, fun b nb => ?_⟩
  obtain ⟨vs, h1, h2, h3, h4, h5⟩ := rows_ext ra s1 r1 nb
  exact ⟨l, b, vs, ws, rfl, rfl, h1, upd_same, by omega, z _ h4 (mon_BR _ _ _ _ _ _ _ _ _ h5 hB)⟩
theorem ps_appL (h8 : PE X eo (tVar 8)) (hl : PE X e (tS (BR X.K CR p s n ob) (isRow X.K CR q)))
    (hbase : attributeBase eo "append" X.env (eval eo X.env) = eval eo X.env := by rfl)
    (hfew : ((backTo cpos (starEach [e] X.env)).all (fun x => !x.1) && (backToKw cpos (keywordEach [] X.env)).all (fun x => x.1.isSome)
      && decide (([e] : List Expr).length + ([] : List Keyword).length + (if ([] : List Keyword).isEmpty then 0 else 1) < 30)) = true := by rfl)
    (hline : (apos.endLine == cpos.line) = true := by rfl) (hs : starEach [e] X.env = (false, eval e X.env) :: starEach [] X.env := by rfl) (hplain : (backTo cpos (starEach [] X.env)).any (·.1) = false := by rfl) :
    PE X (.Call (.Attribute eo "append" apos) [e] [] cpos) (fun σ H Q => tExt X.K CR p s n ob [q] { nx := fun _ H' => Q .non H', rt := fun _ _ => False } σ H) := by
  have h := pe_bm PySem.F.plainAttrs_list PySem.F.slot_list_append PySem.F.type_list_append mt_append h8 (pa_cons hl pa_nil hs) hbase hfew hline hs hplain
  refine ⟨fun pins s σ H Q I g => h.run pins s σ H Q I ?_⟩
  obtain ⟨H0, l, qs, ra, hB, h8, hq, hm, z⟩ := g
  obtain ⟨vs0, hl0⟩ : ∃ vs0, H l = some (.lst vs0) := ⟨_, ra.2.2.choose_spec.1⟩
  refine ⟨_, h8, .inl ⟨rfl, _, SqL.of hl0⟩, hB, fun w H1 s1 r1 => ?_⟩
  have big : (1000 : Nat) < sizeLine := by decide
  obtain ⟨vs, h1, h2, h4, h5⟩ := rows_app ra s1 r1
  exact ⟨l, vs, w, rfl, rfl, h1, by omega, z _ h4 (mon_BR _ _ _ _ _ _ _ _ _ h5 hB)⟩
end
end Cm
end

/-! ## Su11 -/
section
namespace Cm
open PySem PySem.Spec PyProof.Rows L2 KG
def exprOf : Stmt → Expr
  | .Expr e _ => e
  | _ => .Constant .none 0 ⟨0, 0, 0, 0⟩
def stR (i : Nat) : Stmt := (defBody sRows).getD i (.Pass ⟨0, 0, 0, 0⟩)
abbrev XR (P : Program) (w : World) (K : PySem.W.Frag) (mg : Str → Option Value) (base : Heap) (f : Addr) (cdv : Value) (A : Around) (outer : List Env) (s0 : Shared) (H : Hp) (E : XK) : Cx := (cxOf CX0 P w K mg base nmsRows "_law_rows" (defScope sRows) f cdv A outer s0 H E).nox
def ifB : Stmt → Nat → Stmt
  | .If _ b _ _, i => b.getD i (.Pass ⟨0, 0, 0, 0⟩)
  | st, _ => st
def valOf : Stmt → Expr
  | .Assign _ e _ => e
  | _ => .Constant .none 0 ⟨0, 0, 0, 0⟩
section
variable {P : Program} {w : World} {K : PySem.W.Frag} {mg : Str → Option Value} {base : Heap} {CR f : Addr} {cdv : Value} {A : Around} {outer : List Env} {s0 : Shared} {H : Hp} {E : XK} {p s : Int × Int} {n : Int} {m j : Nat}
theorem x1 (R : RO P w K mg base CR) (cL : Cl P w K mg base 2 "_law_lowest" ["_law_up", "_law_low"] (spLowest K))
    (cS : Cl P w K mg base 3 "_law_sum" ["_law_one", "_law_two"] (spP2 K sumP)) (cT : Cl P w K mg base 3 "_law_times" ["_law_one", "_law_two"] (spP2 K mulP)) (hr : Room 6 (XR P w K mg base f cdv A outer s0 H E).A) (lp : Lw p) (ls : Lw s) (bp : Bd m m p) (bs : Bd m m s) (hn : n.natAbs < 2 ^ 100) (hm : 100 ≤ m) (hm2 : m ≤ 6400) : PE (XR P w K mg base f cdv A outer s0 H E) (valOf (stR 1)) (tLst (tSs (BR K CR p s n none) ((rows1 p s n).map (isRow K CR)))) := by
  have bn := bd_int hn
  have bn' : Bd 100 0 (-n, 1) := bd_int (by rw [Int.natAbs_neg]; exact hn)
  have b3 := bd_3n hn
  have bo : Bd (2 * m + 1) (2 * m) (sumP p s) := bd_sum bp bs (by omega) (by omega) (by omega)
  exact pe_lst (pa_sCons (mon_BR _ _ _ _ _ _) (mon_isRow _ _ _) (pe_sRow (mon_BR _ _ _ _ _ _) (pe_sRN (op_RN (op := .Add) R.add R.oA R.sf hr (by decide)) (mon_BR _ _ _ _ _ _) (r0 (pv 0)) (toQ (r2 (pv 2))) bp bs (by unfold Fit; omega) trivial) (pe_sP2 cS hr (by decide) (by rfl) (mon_BR _ _ _ _ _ _) (r1 (pv 1)) (r3 (pv 3)) bp bs (by unfold Fit; omega))) (pa_sCons (mon_BR _ _ _ _ _ _) (mon_isRow _ _ _) (pe_sRow (mon_BR _ _ _ _ _ _) (eqR' (pe_sRN (op_RN (op := .Sub) R.sub R.oS R.sf hr (by decide)) (mon_BR _ _ _ _ _ _) (r0 (pv 0)) (toQ (r2 (pv 2))) bp bs (by unfold Fit; omega) trivial) (congrArg (sumP p) (neg_lw ls))) (pe_sP2 cS hr (by decide) (by rfl) (mon_BR _ _ _ _ _ _) (r1 (pv 1)) (r7 (pv 7)) bp (neg_bd bs) (by unfold Fit; omega))) (pa_sCons (mon_BR _ _ _ _ _ _) (mon_isRow _ _ _) (pe_sRow (mon_BR _ _ _ _ _ _) (eqR' (pe_sNeg (un_R R.neg hr (by decide)) (r0 (pv 0)) bp (by omega) (by omega)) (neg_lw lp)) (r6 (pv 6))) pa_sNil)))

theorem x2 (R : RO P w K mg base CR) (cL : Cl P w K mg base 2 "_law_lowest" ["_law_up", "_law_low"] (spLowest K))
    (cS : Cl P w K mg base 3 "_law_sum" ["_law_one", "_law_two"] (spP2 K sumP)) (cT : Cl P w K mg base 3 "_law_times" ["_law_one", "_law_two"] (spP2 K mulP)) (hr : Room 6 (XR P w K mg base f cdv A outer s0 H E).A) (lp : Lw p) (ls : Lw s) (bp : Bd m m p) (bs : Bd m m s) (hn : n.natAbs < 2 ^ 100) (hm : 100 ≤ m) (hm2 : m ≤ 6400)  : PE (XR P w K mg base f cdv A outer s0 H E) (exprOf (stR 2)) (fun σ H' Q => tExt K CR p s n none (rows2 p s n) { nx := fun _ H2 => Q .non H2, rt := fun _ _ => False } σ H') := by
  have bn := bd_int hn
  have bn' : Bd 100 0 (-n, 1) := bd_int (by rw [Int.natAbs_neg]; exact hn)
  have b3 := bd_3n hn
  have bo : Bd (2 * m + 1) (2 * m) (sumP p s) := bd_sum bp bs (by omega) (by omega) (by omega)
  exact ps_extL (pv 8) (pe_lst (pa_sCons (mon_BR _ _ _ _ _ _) (mon_isRow _ _ _) (pe_sRow (mon_BR _ _ _ _ _ _) (eqR' (pe_sRN (op_RN (op := .Sub) R.sub R.oS R.sf hr (by decide)) (mon_BR _ _ _ _ _ _) (r2 (pv 2)) (toQ (r0 (pv 0))) bs bp (by unfold Fit; omega) trivial) (congrArg (sumP s) (neg_lw lp))) (pe_sP2 cS hr (by decide) (by rfl) (mon_BR _ _ _ _ _ _) (r3 (pv 3)) (r6 (pv 6)) bs (neg_bd bp) (by unfold Fit; omega))) (pa_sCons (mon_BR _ _ _ _ _ _) (mon_isRow _ _ _) (pe_sRow (mon_BR _ _ _ _ _ _) (pe_sRN (op_RN (op := .Mult) R.mul R.oM R.sf hr (by decide)) (mon_BR _ _ _ _ _ _) (r0 (pv 0)) (toQ (r2 (pv 2))) bp bs (by unfold Fit; omega) trivial) (pe_sP2 cT hr (by decide) (by rfl) (mon_BR _ _ _ _ _ _) (r1 (pv 1)) (r3 (pv 3)) bp bs (by unfold Fit; omega))) pa_sNil)))

theorem x3 (R : RO P w K mg base CR) (cL : Cl P w K mg base 2 "_law_lowest" ["_law_up", "_law_low"] (spLowest K))
    (cS : Cl P w K mg base 3 "_law_sum" ["_law_one", "_law_two"] (spP2 K sumP)) (cT : Cl P w K mg base 3 "_law_times" ["_law_one", "_law_two"] (spP2 K mulP)) (hr : Room 6 (XR P w K mg base f cdv A outer s0 H E).A) (lp : Lw p) (ls : Lw s) (bp : Bd m m p) (bs : Bd m m s) (hn : n.natAbs < 2 ^ 100) (hm : 100 ≤ m) (hm2 : m ≤ 6400)  : PE (XR P w K mg base f cdv A outer s0 H E) (exprOf (stR 3)) (fun σ H' Q => tExt K CR p s n none (rows3 p s n) { nx := fun _ H2 => Q .non H2, rt := fun _ _ => False } σ H') := by
  have bn := bd_int hn
  have bn' : Bd 100 0 (-n, 1) := bd_int (by rw [Int.natAbs_neg]; exact hn)
  have b3 := bd_3n hn
  have bo : Bd (2 * m + 1) (2 * m) (sumP p s) := bd_sum bp bs (by omega) (by omega) (by omega)
  exact ps_extL (pv 8) (pe_lst (pa_sCons (mon_BR _ _ _ _ _ _) (mon_isRow _ _ _) (pe_sRow (mon_BR _ _ _ _ _ _) (pe_sRN (op_RN (op := .Add) R.add R.oA R.sf hr (by decide)) (mon_BR _ _ _ _ _ _) (r0 (pv 0)) (toQn (r4 (pv 4))) bp bn (by unfold Fit; omega) trivial) (pe_sP2 cS hr (by decide) (by rfl) (mon_BR _ _ _ _ _ _) (r1 (pv 1)) (r5 (pv 5)) bp bn (by unfold Fit; omega))) (pa_sCons (mon_BR _ _ _ _ _ _) (mon_isRow _ _ _) (pe_sRow (mon_BR _ _ _ _ _ _) (eqR' (pe_sNR (op_NR (op := .Add) R.radd R.fA (declOp' .Add (by simp)) R.sf hr (by decide)) (mon_BR _ _ _ _ _ _) (r4 (pv 4)) (r0 (pv 0)) bp hn (by unfold Fit; omega)) (sum_comm _ _)) (pe_sP2 cS hr (by decide) (by rfl) (mon_BR _ _ _ _ _ _) (r5 (pv 5)) (r1 (pv 1)) bn bp (by unfold Fit; omega))) pa_sNil)))

theorem x4 (R : RO P w K mg base CR) (cL : Cl P w K mg base 2 "_law_lowest" ["_law_up", "_law_low"] (spLowest K))
    (cS : Cl P w K mg base 3 "_law_sum" ["_law_one", "_law_two"] (spP2 K sumP)) (cT : Cl P w K mg base 3 "_law_times" ["_law_one", "_law_two"] (spP2 K mulP)) (hr : Room 6 (XR P w K mg base f cdv A outer s0 H E).A) (lp : Lw p) (ls : Lw s) (bp : Bd m m p) (bs : Bd m m s) (hn : n.natAbs < 2 ^ 100) (hm : 100 ≤ m) (hm2 : m ≤ 6400)  : PE (XR P w K mg base f cdv A outer s0 H E) (exprOf (stR 4)) (fun σ H' Q => tExt K CR p s n none (rows4 p s n) { nx := fun _ H2 => Q .non H2, rt := fun _ _ => False } σ H') := by
  have bn := bd_int hn
  have bn' : Bd 100 0 (-n, 1) := bd_int (by rw [Int.natAbs_neg]; exact hn)
  have b3 := bd_3n hn
  have bo : Bd (2 * m + 1) (2 * m) (sumP p s) := bd_sum bp bs (by omega) (by omega) (by omega)
  exact ps_extL (pv 8) (pe_lst (pa_sCons (mon_BR _ _ _ _ _ _) (mon_isRow _ _ _) (pe_sRow (mon_BR _ _ _ _ _ _) (eqR' (pe_sRN (op_RN (op := .Sub) R.sub R.oS R.sf hr (by decide)) (mon_BR _ _ _ _ _ _) (r0 (pv 0)) (toQn (r4 (pv 4))) bp bn (by unfold Fit; omega) trivial) (congrArg (sumP p) (neg_lw (lw_int n)))) (pe_sP2 cS hr (by decide) (by rfl) (mon_BR _ _ _ _ _ _) (r1 (pv 1)) (pe_sPair (mon_BR _ _ _ _ _ _) (pe_sNegI (r4 (pv 4))) pe_sInt) bp bn' (by unfold Fit; omega))) (pa_sCons (mon_BR _ _ _ _ _ _) (mon_isRow _ _ _) (pe_sRow (mon_BR _ _ _ _ _ _) (eqR' (pe_sNR (op_NR (op := .Sub) R.rsub R.fS (declOp' .Sub (by simp)) R.sf hr (by decide)) (mon_BR _ _ _ _ _ _) (r4 (pv 4)) (r0 (pv 0)) bp hn (by unfold Fit; omega)) ((sum_comm _ _).trans (congrArg (sumP (n, 1)) (neg_lw lp)))) (pe_sP2 cS hr (by decide) (by rfl) (mon_BR _ _ _ _ _ _) (r5 (pv 5)) (r6 (pv 6)) bn (neg_bd bp) (by unfold Fit; omega))) pa_sNil)))

theorem x5 (R : RO P w K mg base CR) (cL : Cl P w K mg base 2 "_law_lowest" ["_law_up", "_law_low"] (spLowest K))
    (cS : Cl P w K mg base 3 "_law_sum" ["_law_one", "_law_two"] (spP2 K sumP)) (cT : Cl P w K mg base 3 "_law_times" ["_law_one", "_law_two"] (spP2 K mulP)) (hr : Room 6 (XR P w K mg base f cdv A outer s0 H E).A) (lp : Lw p) (ls : Lw s) (bp : Bd m m p) (bs : Bd m m s) (hn : n.natAbs < 2 ^ 100) (hm : 100 ≤ m) (hm2 : m ≤ 6400)  : PE (XR P w K mg base f cdv A outer s0 H E) (exprOf (stR 5)) (fun σ H' Q => tExt K CR p s n none (rows5 p s n) { nx := fun _ H2 => Q .non H2, rt := fun _ _ => False } σ H') := by
  have bn := bd_int hn
  have bn' : Bd 100 0 (-n, 1) := bd_int (by rw [Int.natAbs_neg]; exact hn)
  have b3 := bd_3n hn
  have bo : Bd (2 * m + 1) (2 * m) (sumP p s) := bd_sum bp bs (by omega) (by omega) (by omega)
  exact ps_extL (pv 8) (pe_lst (pa_sCons (mon_BR _ _ _ _ _ _) (mon_isRow _ _ _) (pe_sRow (mon_BR _ _ _ _ _ _) (pe_sRN (op_RN (op := .Mult) R.mul R.oM R.sf hr (by decide)) (mon_BR _ _ _ _ _ _) (r0 (pv 0)) (toQn (r4 (pv 4))) bp bn (by unfold Fit; omega) trivial) (pe_sP2 cT hr (by decide) (by rfl) (mon_BR _ _ _ _ _ _) (r1 (pv 1)) (r5 (pv 5)) bp bn (by unfold Fit; omega))) (pa_sCons (mon_BR _ _ _ _ _ _) (mon_isRow _ _ _) (pe_sRow (mon_BR _ _ _ _ _ _) (eqR' (pe_sNR (op_NR (op := .Mult) R.rmul R.fM (declOp' .Mult (by simp)) R.sf hr (by decide)) (mon_BR _ _ _ _ _ _) (r4 (pv 4)) (r0 (pv 0)) bp hn (by unfold Fit; omega)) (mul_comm' _ _)) (pe_sP2 cT hr (by decide) (by rfl) (mon_BR _ _ _ _ _ _) (r5 (pv 5)) (r1 (pv 1)) bn bp (by unfold Fit; omega))) pa_sNil)))

theorem x7 (R : RO P w K mg base CR) (cL : Cl P w K mg base 2 "_law_lowest" ["_law_up", "_law_low"] (spLowest K))
    (cS : Cl P w K mg base 3 "_law_sum" ["_law_one", "_law_two"] (spP2 K sumP)) (cT : Cl P w K mg base 3 "_law_times" ["_law_one", "_law_two"] (spP2 K mulP)) (hr : Room 6 (XR P w K mg base f cdv A outer s0 H E).A) (lp : Lw p) (ls : Lw s) (bp : Bd m m p) (bs : Bd m m s) (hn : n.natAbs < 2 ^ 100) (hm : 100 ≤ m) (hm2 : m ≤ 6400)  : PE (XR P w K mg base f cdv A outer s0 H E) (exprOf (stR 7)) (fun σ H' Q => tExt K CR p s n (some (sumP p s)) (rows6 p s n) { nx := fun _ H2 => Q .non H2, rt := fun _ _ => False } σ H') := by
  have bn := bd_int hn
  have bn' : Bd 100 0 (-n, 1) := bd_int (by rw [Int.natAbs_neg]; exact hn)
  have b3 := bd_3n hn
  have bo : Bd (2 * m + 1) (2 * m) (sumP p s) := bd_sum bp bs (by omega) (by omega) (by omega)
  exact ps_extL (pv 8) (pe_lst (pa_sCons (mon_BR _ _ _ _ _ _) (mon_isRow _ _ _) (pe_sRow (mon_BR _ _ _ _ _ _) (eqR' (pe_sTot (qs := [p, (n, 1), s]) R.tot hr (by decide) (by rfl) (mon_BR _ _ _ _ _ _) (pa_sCons (mon_BR _ _ _ _ _ _) (mon_isQ _ _) (toQ (r0 (pv 0))) (pa_sCons (mon_BR _ _ _ _ _ _) (mon_isQ _ _) (toQn (r4 (pv 4))) (pa_sCons (mon_BR _ _ _ _ _ _) (mon_isQ _ _) (toQ (r2 (pv 2))) pa_sNil))) (by show 3 < 60; decide) (tb3 hm hm2 bp bs hn)) (total3 n lp ls)) (pe_sP2 cS hr (by decide) (by rfl) (mon_BR _ _ _ _ _ _) (r9 (pv 9)) (r5 (pv 5)) bo bn (by unfold Fit; omega))) (pa_sCons (mon_BR _ _ _ _ _ _) (mon_isRow _ _ _) (pe_sRow (mon_BR _ _ _ _ _ _) (eqR' (pe_sTot (qs := [s, p]) R.tot hr (by decide) (by rfl) (mon_BR _ _ _ _ _ _) (pa_sCons (mon_BR _ _ _ _ _ _) (mon_isQ _ _) (toQ (r2 (pv 2))) (pa_sCons (mon_BR _ _ _ _ _ _) (mon_isQ _ _) (toQ (r0 (pv 0))) pa_sNil)) (by show 2 < 60; decide) (tb2 hm hm2 bp bs)) (total2 lp ls)) (r9 (pv 9))) pa_sNil)))

theorem x8 (R : RO P w K mg base CR) (cL : Cl P w K mg base 2 "_law_lowest" ["_law_up", "_law_low"] (spLowest K))
    (cS : Cl P w K mg base 3 "_law_sum" ["_law_one", "_law_two"] (spP2 K sumP)) (cT : Cl P w K mg base 3 "_law_times" ["_law_one", "_law_two"] (spP2 K mulP)) (hr : Room 6 (XR P w K mg base f cdv A outer s0 H E).A) (lp : Lw p) (ls : Lw s) (bp : Bd m m p) (bs : Bd m m s) (hn : n.natAbs < 2 ^ 100) (hm : 100 ≤ m) (hm2 : m ≤ 6400)  : PE (XR P w K mg base f cdv A outer s0 H E) (exprOf (stR 8)) (fun σ H' Q => tExt K CR p s n (some (sumP p s)) (rows7 p s n) { nx := fun _ H2 => Q .non H2, rt := fun _ _ => False } σ H') := by
  have bn := bd_int hn
  have bn' : Bd 100 0 (-n, 1) := bd_int (by rw [Int.natAbs_neg]; exact hn)
  have b3 := bd_3n hn
  have bo : Bd (2 * m + 1) (2 * m) (sumP p s) := bd_sum bp bs (by omega) (by omega) (by omega)
  exact ps_extL (pv 8) (pe_lst (pa_sCons (mon_BR _ _ _ _ _ _) (mon_isRow _ _ _) (pe_sRow (mon_BR _ _ _ _ _ _) (eqR' (pe_sTot (qs := [(n, 1)]) R.tot hr (by decide) (by rfl) (mon_BR _ _ _ _ _ _) (pa_sCons (mon_BR _ _ _ _ _ _) (mon_isQ _ _) (toQn (r4 (pv 4))) pa_sNil) (by show 1 < 60; decide) (tb1 hn)) (total1 n)) (r5 (pv 5))) (pa_sCons (mon_BR _ _ _ _ _ _) (mon_isRow _ _ _) (pe_sRow (mon_BR _ _ _ _ _ _) (pe_sTot0 R.tot hr (by decide) (by rfl) (mon_BR _ _ _ _ _ _)) (pe_sPair (mon_BR _ _ _ _ _ _) pe_sInt pe_sInt)) pa_sNil)))

theorem x9 (R : RO P w K mg base CR) (cL : Cl P w K mg base 2 "_law_lowest" ["_law_up", "_law_low"] (spLowest K))
    (cS : Cl P w K mg base 3 "_law_sum" ["_law_one", "_law_two"] (spP2 K sumP)) (cT : Cl P w K mg base 3 "_law_times" ["_law_one", "_law_two"] (spP2 K mulP)) (hr : Room 6 (XR P w K mg base f cdv A outer s0 H E).A) (lp : Lw p) (ls : Lw s) (bp : Bd m m p) (bs : Bd m m s) (hn : n.natAbs < 2 ^ 100) (hm : 100 ≤ m) (hm2 : m ≤ 6400)  : PE (XR P w K mg base f cdv A outer s0 H E) (exprOf (stR 9)) (fun σ H' Q => tExt K CR p s n (some (sumP p s)) ([sumP p (3 * n, 1)]) { nx := fun _ H2 => Q .non H2, rt := fun _ _ => False } σ H') := by
  have bn := bd_int hn
  have bn' : Bd 100 0 (-n, 1) := bd_int (by rw [Int.natAbs_neg]; exact hn)
  have b3 := bd_3n hn
  have bo : Bd (2 * m + 1) (2 * m) (sumP p s) := bd_sum bp bs (by omega) (by omega) (by omega)
  exact ps_appL (pv 8) (pe_sRow (mon_BR _ _ _ _ _ _) (eqR' (pe_sTot (qs := [(n, 1), (n, 1), p, (n, 1)]) R.tot hr (by decide) (by rfl) (mon_BR _ _ _ _ _ _) (pa_sCons (mon_BR _ _ _ _ _ _) (mon_isQ _ _) (toQn (r4 (pv 4))) (pa_sCons (mon_BR _ _ _ _ _ _) (mon_isQ _ _) (toQn (r4 (pv 4))) (pa_sCons (mon_BR _ _ _ _ _ _) (mon_isQ _ _) (toQ (r0 (pv 0))) (pa_sCons (mon_BR _ _ _ _ _ _) (mon_isQ _ _) (toQn (r4 (pv 4))) pa_sNil)))) (by show 4 < 60; decide) (tb4 hm hm2 bp hn)) (total4 n lp)) (pe_sP2 cS hr (by decide) (by rfl) (mon_BR _ _ _ _ _ _) (r1 (pv 1)) (pe_sPair (mon_BR _ _ _ _ _ _) (pe_sMulI (k := 2) (l := 100) (mon_BR _ _ _ _ _ _) pe_sInt (r4 (pv 4)) (by decide) (Nat.le_of_lt hn) (by decide)) pe_sInt) bp b3 (by unfold Fit; omega)))

theorem x10 (R : RO P w K mg base CR) (cL : Cl P w K mg base 2 "_law_lowest" ["_law_up", "_law_low"] (spLowest K))
    (cS : Cl P w K mg base 3 "_law_sum" ["_law_one", "_law_two"] (spP2 K sumP)) (cT : Cl P w K mg base 3 "_law_times" ["_law_one", "_law_two"] (spP2 K mulP)) (hr : Room 6 (XR P w K mg base f cdv A outer s0 H E).A) (lp : Lw p) (ls : Lw s) (bp : Bd m m p) (bs : Bd m m s) (hn : n.natAbs < 2 ^ 100) (hm : 100 ≤ m) (hm2 : m ≤ 6400) (h0 : s.1 ≠ 0) : PE (XR P w K mg base f cdv A outer s0 H E) (exprOf (ifB (stR 10) 0)) (fun σ H' Q => tExt K CR p s n (some (sumP p s)) ([low (p.1 * s.2) (p.2 * s.1)]) { nx := fun _ H2 => Q .non H2, rt := fun _ _ => False } σ H') := by
  have bn := bd_int hn
  have bn' : Bd 100 0 (-n, 1) := bd_int (by rw [Int.natAbs_neg]; exact hn)
  have b3 := bd_3n hn
  have bo : Bd (2 * m + 1) (2 * m) (sumP p s) := bd_sum bp bs (by omega) (by omega) (by omega)
  exact ps_appL (pv 8) (pe_sRow (mon_BR _ _ _ _ _ _) (pe_sOver R.ov R.cl hr (by decide) (mon_BR _ _ _ _ _ _) (r0 (pv 0)) (toQ (r2 (pv 2))) bp bs (by unfold Fit; omega) h0) (pe_sLow (k := 2 * m) (l := 2 * m) cL hr (by decide) (by rfl) (mon_BR _ _ _ _ _ _) (pe_sMulI (mon_BR _ _ _ _ _ _) (pe_sIx0 (r1 (pv 1)) (pe_ix ix_tup (r1 (pv 1)) pe_int (fun _ _ => rfl))) (pe_sIx1 (r3 (pv 3)) (pe_ix ix_tup (r3 (pv 3)) pe_int (fun _ _ => rfl))) (Nat.le_of_lt bp.1) bs.2.1 (by omega)) (pe_sMulI (mon_BR _ _ _ _ _ _) (pe_sIx1 (r1 (pv 1)) (pe_ix ix_tup (r1 (pv 1)) pe_int (fun _ _ => rfl))) (pe_sIx0 (r3 (pv 3)) (pe_ix ix_tup (r3 (pv 3)) pe_int (fun _ _ => rfl))) bp.2.1 (Nat.le_of_lt bs.1) (by omega)) (mul_ne bp.2.2 h0) (bx1 bp bs) (bx2 bp bs) (by omega) (by omega)))

theorem x10b (R : RO P w K mg base CR) (cL : Cl P w K mg base 2 "_law_lowest" ["_law_up", "_law_low"] (spLowest K))
    (cS : Cl P w K mg base 3 "_law_sum" ["_law_one", "_law_two"] (spP2 K sumP)) (cT : Cl P w K mg base 3 "_law_times" ["_law_one", "_law_two"] (spP2 K mulP)) (hr : Room 6 (XR P w K mg base f cdv A outer s0 H E).A) (lp : Lw p) (ls : Lw s) (bp : Bd m m p) (bs : Bd m m s) (hn : n.natAbs < 2 ^ 100) (hm : 100 ≤ m) (hm2 : m ≤ 6400) (h0 : s.1 ≠ 0) : PE (XR P w K mg base f cdv A outer s0 H E) (exprOf (ifB (stR 10) 1)) (fun σ H' Q => tExt K CR p s n (some (sumP p s)) ([low (p.1 * s.2) (p.2 * s.1)]) { nx := fun _ H2 => Q .non H2, rt := fun _ _ => False } σ H') := by
  have bn := bd_int hn
  have bn' : Bd 100 0 (-n, 1) := bd_int (by rw [Int.natAbs_neg]; exact hn)
  have b3 := bd_3n hn
  have bo : Bd (2 * m + 1) (2 * m) (sumP p s) := bd_sum bp bs (by omega) (by omega) (by omega)
  exact ps_appL (pv 8) (pe_sRow (mon_BR _ _ _ _ _ _) (pe_sOverN R.ov R.cl hr (by decide) (mon_BR _ _ _ _ _ _) (r0 (pv 0)) (toQ (r2 (pv 2))) bp bs (by unfold Fit; omega) h0) (pe_sLow (k := 2 * m) (l := 2 * m) cL hr (by decide) (by rfl) (mon_BR _ _ _ _ _ _) (pe_sMulI (mon_BR _ _ _ _ _ _) (pe_sIx0 (r1 (pv 1)) (pe_ix ix_tup (r1 (pv 1)) pe_int (fun _ _ => rfl))) (pe_sIx1 (r3 (pv 3)) (pe_ix ix_tup (r3 (pv 3)) pe_int (fun _ _ => rfl))) (Nat.le_of_lt bp.1) bs.2.1 (by omega)) (pe_sMulI (mon_BR _ _ _ _ _ _) (pe_sIx1 (r1 (pv 1)) (pe_ix ix_tup (r1 (pv 1)) pe_int (fun _ _ => rfl))) (pe_sIx0 (r3 (pv 3)) (pe_ix ix_tup (r3 (pv 3)) pe_int (fun _ _ => rfl))) bp.2.1 (Nat.le_of_lt bs.1) (by omega)) (mul_ne bp.2.2 h0) (bx1 bp bs) (bx2 bp bs) (by omega) (by omega)))

theorem x11 (R : RO P w K mg base CR) (cL : Cl P w K mg base 2 "_law_lowest" ["_law_up", "_law_low"] (spLowest K))
    (cS : Cl P w K mg base 3 "_law_sum" ["_law_one", "_law_two"] (spP2 K sumP)) (cT : Cl P w K mg base 3 "_law_times" ["_law_one", "_law_two"] (spP2 K mulP)) (hr : Room 6 (XR P w K mg base f cdv A outer s0 H E).A) (lp : Lw p) (ls : Lw s) (bp : Bd m m p) (bs : Bd m m s) (hn : n.natAbs < 2 ^ 100) (hm : 100 ≤ m) (hm2 : m ≤ 6400) (h0 : n ≠ 0) : PE (XR P w K mg base f cdv A outer s0 H E) (exprOf (ifB (stR 11) 0)) (fun σ H' Q => tExt K CR p s n (some (sumP p s)) ([low p.1 (p.2 * n)]) { nx := fun _ H2 => Q .non H2, rt := fun _ _ => False } σ H') := by
  have bn := bd_int hn
  have bn' : Bd 100 0 (-n, 1) := bd_int (by rw [Int.natAbs_neg]; exact hn)
  have b3 := bd_3n hn
  have bo : Bd (2 * m + 1) (2 * m) (sumP p s) := bd_sum bp bs (by omega) (by omega) (by omega)
  exact ps_appL (pv 8) (pe_sRow (mon_BR _ _ _ _ _ _) (eqR' (pe_sOver R.ov R.cl hr (by decide) (mon_BR _ _ _ _ _ _) (r0 (pv 0)) (toQn (r4 (pv 4))) bp bn (by unfold Fit; omega) h0) (by show low (p.1 * 1) (p.2 * n) = _; rw [Int.mul_one])) (pe_sLow (k := m) (l := m + 100) cL hr (by decide) (by rfl) (mon_BR _ _ _ _ _ _) (pe_sIx0 (r1 (pv 1)) (pe_ix ix_tup (r1 (pv 1)) pe_int (fun _ _ => rfl))) (pe_sMulI (mon_BR _ _ _ _ _ _) (pe_sIx1 (r1 (pv 1)) (pe_ix ix_tup (r1 (pv 1)) pe_int (fun _ _ => rfl))) (r4 (pv 4)) bp.2.1 (Nat.le_of_lt hn) (by omega)) (mul_ne bp.2.2 h0) bp.1 (bx3 bp hn) (by omega) (by omega)))
end
end Cm
end

/-! ## Rz11 -/
section
namespace Cm
open PySem PySem.Spec PyProof.Rows L2 KG
theorem BR.set8 {K : PySem.W.Frag} {CR : Addr} {p s : Int × Int} {n : Int} {ob : Option (Int × Int)} {σ : L2.St} {H : Hp} {x : Option V} (h : BR K CR p s n ob σ H) : BR K CR p s n ob (σ.set 8 x) H := by
  obtain ⟨a, t, b, u, w, l, m, x8, x9, rfl, r⟩ := h
  exact ⟨a, t, b, u, w, l, m, x, x9, rfl, r⟩
theorem BR.set9 {K : PySem.W.Frag} {CR : Addr} {p s o : Int × Int} {n : Int} {σ : L2.St} {H : Hp} {y : Addr} (h : BR K CR p s n none σ H) (hy : PA2 K H y o) : BR K CR p s n (some o) (σ.set 9 (some (.ref y))) H := by
  obtain ⟨a, t, b, u, w, l, m, x8, x9, rfl, h1, h2, h3, h4, h5, h6, h7, _⟩ := h
  exact ⟨a, t, b, u, w, l, m, x8, _, rfl, h1, h2, h3, h4, h5, h6, h7, fun o' e => by cases e; exact ⟨y, rfl, hy⟩⟩
theorem rows_keep {K : PySem.W.Frag} {CR : Addr} {H0 H H1 : Hp} {l : Addr} {qs : List (Int × Int)} (r : RowsAt K CR H0 l qs H) (s : Same H H1) : RowsAt K CR H0 l qs H1 := by
  obtain ⟨s0, nl, vs, hl, hr⟩ := r
  exact ⟨Same.trans' s0 s, nl, vs, s _ _ hl, hr.keep mon_rows (.of s)⟩
section
variable {P : Program} {w : World} {K : PySem.W.Frag} {mg : Str → Option Value} {base : Heap} {CR : Addr}
theorem scRows : FnScope nmsRows ["_law_one", "_law_pair", "_law_two", "_law_second", "_law_n"] (defScope sRows) := ⟨rfl, rfl, rfl, by decide +kernel, rfl, by decide +kernel, by decide +kernel⟩
theorem ok_rows {f : Addr} {fd : FuncData} (F : Fun K "_law_rows" "_law_rows" sRows f fd) (R : RO P w K mg base CR) (cL : Cl P w K mg base 2 "_law_lowest" ["_law_up", "_law_low"] (spLowest K))
    (cS : Cl P w K mg base 3 "_law_sum" ["_law_one", "_law_two"] (spP2 K sumP)) (cT : Cl P w K mg base 3 "_law_times" ["_law_one", "_law_two"] (spP2 K mulP)) : FnOk P w K mg base CX0 7 f fd ["_law_one", "_law_pair", "_law_two", "_law_second", "_law_n"] (spRows K CR) := by
  refine F.ok scRows (fun vs H Q E h => ?_) (fun cdv A outer s0 H vs Q E hr h => ?_)
  · obtain ⟨_, _, _, _, _, _, _, _, rfl, _⟩ := h
    rfl
  · obtain ⟨a, t, b, u, p, s, n, m, rfl, ha, ht, hb, hu, ⟨lp, bp⟩, ⟨ls, bs⟩, hn, hm, hm2, z⟩ := h
    refine ⟨_, pss_cons (ps_par3 (i := 5) (j := 6) (l := 7) (by rfl) scRows.nd rfl rfl rfl (by decide) (by decide) (by decide) rfl rfl rfl (pa_cons (pe_tup (pa_cons (pv 4) (pa_cons pe_int pa_nil)))
        (pa_cons (pe_tup (pa_cons (pe_un un_neg (pe_ix ix_tup (pv 1) pe_int (fun _ _ => rfl))) (pa_cons (pe_ix ix_tup (pv 1) pe_int (fun _ _ => rfl)) pa_nil)))
        (pa_cons (pe_tup (pa_cons (pe_un un_neg (pe_ix ix_tup (pv 3) pe_int (fun _ _ => rfl))) (pa_cons (pe_ix ix_tup (pv 3) pe_int (fun _ _ => rfl)) pa_nil))) pa_nil))) (by rfl))
      (pss_cons (ps_set (i := 8) scRows.nd rfl (Or.inl rfl) (x1 R cL cS cT hr lp ls bp bs hn hm hm2))
      (pss_cons (ps_expr (x2 R cL cS cT hr lp ls bp bs hn hm hm2))
      (pss_cons (ps_expr (x3 R cL cS cT hr lp ls bp bs hn hm hm2))
      (pss_cons (ps_expr (x4 R cL cS cT hr lp ls bp bs hn hm hm2))
      (pss_cons (ps_expr (x5 R cL cS cT hr lp ls bp bs hn hm hm2))
      (pss_cons (ps_set (i := 9) scRows.nd rfl (Or.inl rfl) (pe_sP2 (B := BR K CR p s n none) cS hr (by decide) (by rfl) (mon_BR _ _ _ _ _ _) (r1 (pv 1)) (r3 (pv 3)) bp bs (by unfold Fit; omega)))
      (pss_cons (ps_expr (x7 R cL cS cT hr lp ls bp bs hn hm hm2))
      (pss_cons (ps_expr (x8 R cL cS cT hr lp ls bp bs hn hm hm2))
      (pss_cons (ps_expr (x9 R cL cS cT hr lp ls bp bs hn hm hm2))
      (C8.pss_cut (ps_if (pt_cmpR op_ne (pe_sIx0 (q := s) (B := BR K CR p s n (some (sumP p s))) (r3 (pv 3)) (pe_ix ix_tup (r3 (pv 3)) pe_int (fun _ _ => rfl))) pe_int (nomark _)) (pss_if fun h0 : s.1 ≠ 0 => (pss_cons (ps_expr (x10 R cL cS cT hr lp ls bp bs hn hm hm2 h0)) (pss_one (ps_expr (x10b R cL cS cT hr lp ls bp bs hn hm hm2 h0))))) pss_nil)
      (C8.pss_cut (ps_if (pt_cmpR op_ne (r4 (p := p) (s := s) (n := n) (CR := CR) (ob := some (sumP p s)) (pv 4)) pe_int (nomark _)) (pss_if fun h0 : n ≠ 0 => (pss_one (ps_expr (x11 R cL cS cT hr lp ls bp bs hn hm hm2 h0)))) pss_nil)
      (pss_one (ps_ret (pv 8)))))))))))))), ?_⟩
    refine ⟨_, rfl, (by show 2 ≤ sizeLine; decide), fun w nw => ?_⟩
    have s1 : Same H (upd H w (.tup [.int n, .int 1])) := Same.upd_new nw
    refine ⟨_, rfl, t, _, _, _, rfl, rfl, ht.keep s1, rfl, _, rfl, _, rfl, t, _, _, _, rfl, rfl, ht.keep s1, rfl, (by show 2 ≤ sizeLine; decide), fun l nl => ?_⟩
    have s2 := Same.trans' s1 (Same.upd_new (o := .tup [.int (-p.1), .int p.2]) nl)
    refine ⟨_, rfl, u, _, _, _, rfl, rfl, hu.keep s2, rfl, _, rfl, _, rfl, u, _, _, _, rfl, rfl, hu.keep s2, rfl, (by show 2 ≤ sizeLine; decide), fun q nq => ?_⟩
    have s3 := Same.trans' s2 (Same.upd_new (o := .tup [.int (-s.1), .int s.2]) nq)
    refine ⟨_, _, _, rfl, ?_⟩
    have hB : BR K CR p s n none [some (.ref a), some (.ref t), some (.ref b), some (.ref u), some (.int n), some (.ref w), some (.ref l), some (.ref q), none, none] (upd (upd (upd H w (.tup [.int n, .int 1])) l (.tup [.int (-p.1), .int p.2])) q (.tup [.int (-s.1), .int s.2])) := by
      refine ⟨a, t, b, u, w, l, q, none, none, rfl, ha.keep s3, ht.keep s3, hb.keep s3, hu.keep s3, ?_, ?_, SqT.of upd_same, fun o ho => by cases ho⟩
      · exact SqT.of ((Same.upd_new nq) _ _ ((Same.upd_new nl) _ _ upd_same))
      · exact SqT.of ((Same.upd_new nq) _ _ upd_same)
    generalize upd (upd (upd H w (.tup [.int n, .int 1])) l (.tup [.int (-p.1), .int p.2])) q (.tup [.int (-s.1), .int s.2]) = H4 at s3 hB
    refine ⟨hB, fun vs H5 s5 r5 => ⟨(by have := r5.len; rw [this]; exact Nat.le_of_ble_eq_true rfl), fun l8 n8 => ?_⟩⟩
    obtain ⟨ra, sm⟩ := rows_new s3 s5 r5 n8
    have hB := (mon_BR _ _ _ _ _ _ _ _ _ sm hB).set8 (x := some (.ref l8))
    refine ⟨H, l8, _, ra, hB, rfl, Nat.le_of_ble_eq_true rfl, Nat.le_of_ble_eq_true rfl, fun H6 ra hB => ?_⟩
    refine ⟨H, l8, _, ra, hB, rfl, Nat.le_of_ble_eq_true rfl, Nat.le_of_ble_eq_true rfl, fun H7 ra hB => ?_⟩
    refine ⟨H, l8, _, ra, hB, rfl, Nat.le_of_ble_eq_true rfl, Nat.le_of_ble_eq_true rfl, fun H8 ra hB => ?_⟩
    refine ⟨H, l8, _, ra, hB, rfl, Nat.le_of_ble_eq_true rfl, Nat.le_of_ble_eq_true rfl, fun H9 ra hB => ?_⟩
    refine ⟨hB, fun v H10 s10 r10 => ?_⟩
    obtain ⟨y, rfl, hy⟩ := r10
    have ra := rows_keep ra s10
    have hB := (mon_BR _ _ _ _ _ _ _ _ _ (.of s10) hB).set9 hy
    refine ⟨H, l8, _, ra, hB, rfl, Nat.le_of_ble_eq_true rfl, Nat.le_of_ble_eq_true rfl, fun H11 ra hB => ?_⟩
    refine ⟨H, l8, _, ra, hB, rfl, Nat.le_of_ble_eq_true rfl, Nat.le_of_ble_eq_true rfl, fun H12 ra hB => ?_⟩
    refine ⟨H, l8, _, ra, hB, rfl, Nat.le_of_ble_eq_true rfl, Nat.le_of_ble_eq_true rfl, fun H13 ra hB => ?_⟩
    have ra : RowsAt K CR H l8 (rowsA p s n) H13 := ra
    refine ⟨fun σ H' => RowsAt K CR H l8 (rowsA p s n ++ rowsB p s) H' ∧ BR K CR p s n (some (sumP p s)) σ H' ∧ σ[8]? = some (some (.ref l8)), ?_, ?_⟩
    · refine ⟨hB, fun v Hc sc e => ?_⟩
      cases e
      have ra := rows_keep ra sc
      have hB := mon_BR _ _ _ _ _ _ _ _ _ (.of sc) hB
      refine ⟨rfl, _, rfl, ?_⟩
      refine ite2 (fun h1 => ?_) (fun h1 => ?_)
      · have h0 : s.1 ≠ 0 := fun e => by
          rw [e] at h1
          exact absurd h1 (by decide)
        refine ⟨h0, H, l8, _, ra, hB, rfl, Nat.le_of_ble_eq_true rfl, Nat.le_of_ble_eq_true rfl, fun Hd ra hB => ?_⟩
        refine ⟨H, l8, _, ra, hB, rfl, Nat.le_of_ble_eq_true rfl, Nat.le_of_ble_eq_true rfl, fun He ra hB => ⟨?_, hB, rfl⟩⟩
        rw [List.append_assoc] at ra
        unfold rowsB
        rw [if_neg h0]
        exact ra
      · refine ⟨?_, hB, rfl⟩
        have h0 : s.1 = 0 := by
          by_cases e : s.1 = 0
          · exact e
          · exact absurd (show (!decide (V.int s.1 = V.int 0)) = true by rw [decide_eq_false (fun z => e (V.int.inj z))]; rfl) h1
        unfold rowsB
        rw [if_pos h0, List.append_nil]
        exact ra
    · rintro σ H14 ⟨ra, hB, h8⟩
      have hA : (rowsA p s n ++ rowsB p s).length ≤ 100 := by
        rw [List.length_append]
        have : (rowsA p s n).length = 16 := rfl
        have : (rowsB p s).length ≤ 2 := by
          unfold rowsB
          split <;> simp
        omega
      refine ⟨fun σ H' => RowsAt K CR H l8 (rowsOf p s n) H' ∧ σ[8]? = some (some (.ref l8)), ?_, ?_⟩
      · refine ⟨hB, fun v Hc sc e => ?_⟩
        cases e
        have ra := rows_keep ra sc
        have hB := mon_BR _ _ _ _ _ _ _ _ _ (.of sc) hB
        refine ⟨rfl, _, rfl, ?_⟩
        refine ite2 (fun h1 => ?_) (fun h1 => ?_)
        · have h0 : n ≠ 0 := fun e => by
            rw [e] at h1
            exact absurd h1 (by decide)
          refine ⟨h0, H, l8, _, ra, hB, h8, hA, Nat.le_of_ble_eq_true rfl, fun He ra hB => ⟨?_, h8⟩⟩
          unfold rowsOf rowsC
          rw [if_neg h0]
          exact ra
        · refine ⟨?_, h8⟩
          have h0 : n = 0 := by
            by_cases e : n = 0
            · exact e
            · exact absurd (show (!decide (V.int n = V.int 0)) = true by rw [decide_eq_false (fun z => e (V.int.inj z))]; rfl) h1
          unfold rowsOf rowsC
          rw [if_pos h0, List.append_nil]
          exact ra
      · rintro σ H15 ⟨ra, h8⟩
        exact ⟨_, h8, z _ l8 ra⟩
end
end Cm
end

/-! ## Mk11 -/
section
namespace Cm
open PySem PySem.Spec PyProof.Rows L2 KG
abbrev sMade : Stmt := top 24
/-- the bottom first, then the top, by name -/
def gK {α : Type} (us _ds ws : List α) : List α := match us, ws with
  | [s], [b, t] => [s, t, b]
  | _, _ => []
def spMade (K : PySem.W.Frag) (CR : Addr) : Sp := fun vs H Q _ => ∃ p : Addr, vs = [.ref p] ∧ JarAt H p ∧ ∀ (H' : Hp) (t r d : Addr) (q : Int × Int), JarAt H' p → Kp p H H' → H' t = some (.tup [.ref r, .ref d]) → RA CR H' r q → PA2 K H' d q → Bm 100 q → Q (.ref t) H'
section
variable {P : Program} {w : World} {K : PySem.W.Frag} {mg : Str → Option Value} {base : Heap} {CR : Addr}
theorem scMade : FnScope ["_law_jar_here", "_law_up", "_law_low", "_law_way"] ["_law_jar_here"] (defScope sMade) := ⟨rfl, rfl, rfl, by decide +kernel, rfl, by decide +kernel, by decide +kernel⟩
theorem ok_made {f : Addr} {fd : FuncData} (F : Fun K "_law_made" "_law_made" sMade f fd) (cP : Cl P w K mg base 4 "_law_parts" ["_law_jar_here"] spParts) (cD : Cl P w K mg base 1 "_law_dip" ["_law_jar_here", "_law_many"] spDip)
    (cL : Cl P w K mg base 2 "_law_lowest" ["_law_up", "_law_low"] (spLowest K)) (c1 : MkC P w K mg base 2 "Ratio" CR ["self", "top", "bottom"] [.int 1] (spRInit CR)) (c2 : MkC P w K mg base 2 "Ratio" CR ["self", "top", "bottom"] [] (spRInit CR))
    (cN : MkN P w K mg base 2 "Ratio" CR ["bottom", "top"] (fun vs zs => gK vs [.int 1] zs) (spRInit CR)) : FnOk P w K mg base CX0 5 f fd ["_law_jar_here"] (spMade K CR) := by
  refine F.ok scMade (fun vs H Q E h => ?_) (fun cdv A outer s H vs Q E hr h => ?_)
  · obtain ⟨p, rfl, _⟩ := h
    rfl
  · obtain ⟨p, rfl, J, q⟩ := h
    refine ⟨_, pss_cons (ps_asg (pe_k cP hr (by decide) (by rfl) (pa_cons (pv 0) pa_nil)) (pg_tup (by rfl) (pgs_cons (pg_name (i := 1) scMade.nd rfl (Or.inl rfl)) (pgs_cons (pg_name (i := 2) scMade.nd rfl (Or.inl rfl)) pgs_nil))))
      (pss_cons (ps_set (i := 3) scMade.nd rfl (Or.inl rfl) (pe_k cD hr (by decide) (by rfl) (pa_cons (pv 0) (pa_cons pe_int pa_nil))))
      (pss_cons (ps_if (pt_cmpR op_eq (pv 3) pe_int (nomark _)) (pss_one (ps_ret (pe_tup (pa_cons (pe_mk c1 hr (by decide) (by rfl) (pa_cons (pv 1) pa_nil)) (pa_cons (pe_tup (pa_cons (pv 1) (pa_cons pe_int pa_nil))) pa_nil))))) pss_nil)
      (pss_cons (ps_if (pt_cmpR op_eq (pv 3) pe_int (nomark _)) (pss_one (ps_ret (pe_tup (pa_cons (pe_mkN cN hr (by decide) (by rfl) (pk_cons (pv 2) (pk_cons (pv 1) pk_nil))) (pa_cons (pe_k cL hr (by decide) (by rfl) (pa_cons (pv 1) (pa_cons (pv 2) pa_nil))) pa_nil))))) pss_nil)
      (pss_one (ps_ret (pe_tup (pa_cons (pe_mk c2 hr (by decide) (by rfl) (pa_cons (pv 1) (pa_cons (pv 2) pa_nil))) (pa_cons (pe_k cL hr (by decide) (by rfl) (pa_cons (pv 1) (pa_cons (pv 2) pa_nil))) pa_nil)))))))), ?_⟩
    refine ⟨_, rfl, p, rfl, J, fun H1 t n m J1 k1 _ et hn hm hm0 => ?_⟩
    refine ⟨t, _, rfl, SqT.of et, rfl, _, _, rfl, _, _, rfl, rfl, ?_⟩
    refine ⟨_, rfl, p, 4, rfl, J1, by decide, by decide, fun H2 way J2 k2 w0 w1 => ?_⟩
    have k02 := k1.trans k2
    have fin : ∀ (qq : Int × Int) (H3 : Hp) (x d : Addr), Same H2 H3 → RA CR H3 x qq → PA2 K H3 d qq → Bm 100 qq → ∀ t, H3 t = none → Q (.ref t) (upd H3 t (.tup [.ref x, .ref d])) := fun qq H3 x d s3 hx hd hb t nt => by
      have s4 := Same.trans' s3 (Same.upd_new (o := .tup [.ref x, .ref d]) nt)
      exact q _ t x d qq (J2.keep s4) (k02.trans (Kp.same s4)) upd_same (hx.keep (Same.upd_new nt)) (hd.keep (Same.upd_new nt)) hb
    have hl : Bm 100 (low n m) := bm_of (low_lw hm0) (bd_low hn (Nat.le_of_lt hm) hm0) (Nat.le_refl _) (Nat.le_refl _)
    refine ⟨_, rfl, rfl, _, rfl, ?_⟩
    refine ite2 (fun _ => ?_) (fun _ => ?_)
    · refine ⟨_, rfl, fun x dx nx ndx ne => ?_⟩
      refine ⟨x, dx, n, 1, 100, 0, rfl, upd_same, one_ne', hn, by decide, by decide, by decide, fun H3 h1 h2 => ⟨rfl, ?_⟩⟩
      have s3 : Same H2 H3 := fun b o e => h2 b o ((Same.made2 nx ndx) b o e) (ne_of_none e nx)
      have r3 : RA CR H3 x (low n 1) := ⟨dx, h1⟩
      rw [low_int] at r3
      refine ⟨_, rfl, (by show 2 ≤ sizeLine; decide), fun d nd => ⟨(by show 2 ≤ sizeLine; decide), fun t nt => ?_⟩⟩
      exact fin (n, 1) _ x d (Same.trans' s3 (Same.upd_new nd)) (r3.keep (Same.upd_new nd)) (SqT.of upd_same) (bm_of (lw_int n) (bd_int hn) (by decide) (by decide)) t nt
    refine ⟨_, rfl, rfl, _, rfl, ?_⟩
    refine ite2 (fun _ => ?_) (fun _ => ?_)
    · refine ⟨_, rfl, _, rfl, rfl, fun x dx nx ndx ne => ?_⟩
      refine ⟨x, dx, n, m, 100, 100, rfl, upd_same, hm0, hn, Nat.le_of_lt hm, by decide, by decide, fun H3 h1 h2 => ⟨rfl, ?_⟩⟩
      have s3 : Same H2 H3 := fun b o e => h2 b o ((Same.made2 nx ndx) b o e) (ne_of_none e nx)
      have r3 : RA CR H3 x (low n m) := ⟨dx, h1⟩
      refine ⟨_, rfl, _, rfl, n, m, 100, 100, rfl, hm0, hn, Nat.le_of_lt hm, by decide, by decide, fun H4 d s4 hd => ⟨(by show 2 ≤ sizeLine; decide), fun t nt => ?_⟩⟩
      exact fin _ _ x d (Same.trans' s3 s4) (r3.keep s4) hd hl t nt
    · refine ⟨_, rfl, _, rfl, fun x dx nx ndx ne => ?_⟩
      refine ⟨x, dx, n, m, 100, 100, rfl, upd_same, hm0, hn, Nat.le_of_lt hm, by decide, by decide, fun H3 h1 h2 => ⟨rfl, ?_⟩⟩
      have s3 : Same H2 H3 := fun b o e => h2 b o ((Same.made2 nx ndx) b o e) (ne_of_none e nx)
      have r3 : RA CR H3 x (low n m) := ⟨dx, h1⟩
      refine ⟨_, rfl, _, rfl, n, m, 100, 100, rfl, hm0, hn, Nat.le_of_lt hm, by decide, by decide, fun H4 d s4 hd => ⟨(by show 2 ≤ sizeLine; decide), fun t nt => ?_⟩⟩
      exact fin _ _ x d (Same.trans' s3 s4) (r3.keep s4) hd hl t nt
end
end Cm
end

/-! ## Rg11 -/
section
namespace Cm
open PySem PySem.Spec PyProof.Rows L2 KG
abbrev sRight : Stmt := top 25
structure ClG (P : Program) (w : World) (K : PySem.W.Frag) (mg : Str → Option Value) (base : Heap) (k : Nat) (x : Str) (sp : Sp) : Prop where
  ex : ∃ f : Addr, FnG P w K mg base k f sp ∧ mg x = some (.ref f) ∧ PySem.W.keepIn K (.ref f) = true
section
variable {X : Cx} {k j : Nat} {x : Str} {sp : Sp} {p pos : Pos} {e : Expr} {es : List Expr} {t : TA}
theorem pe_g (c : ClG X.prog X.w X.K X.mg X.base k x sp) (hr : Room j X.A) (hj : k ≤ j) (hg : X.A.guards = some []) (gl : Gl X x) (ha : PA X (e :: es) t)
    (hdb : (x == ("__debug__" : Str)) = false := by decide)
    (he : starEach (e :: es) X.env = (false, eval e X.env) :: starEach es X.env := by rfl)
    (hpl : (backTo pos (starEach es X.env)).any (·.1) = false := by rfl) : PE X (.Call (.Name x p) (e :: es) [] pos) (tK sp t) := by
  obtain ⟨f, F, hm, hk⟩ := c.ex
  exact pe_callG F (hr.mono hj) hg gl hm hk ha hdb he hpl
end
def spRight : Sp := fun vs H Q _ => ∃ p : Addr, vs = [.ref p] ∧ JarAt H p ∧ ∀ H' : Hp, Kp p H H' → Q (.bl true) H'
theorem SmL.kp {H H' : Hp} {p : Addr} (J : JarAt H p) (k : Kp p H H') : SmL H H' := fun b o e n => by
  by_cases h : b = p
  · subst h
    obtain ⟨c, s, e2, _⟩ := J
    rw [e2] at e
    cases e
    exact absurd rfl (n _)
  · exact k b o e h

/-- a walk over rows, each deed and what is due at hand -/
theorem lc_rows {K : PySem.W.Frag} {CR : Addr} {s0 s1 s2 s3 s4 s5 s6 s7 s8 s9 : Option V} {H0 H1 : Hp} {l D : Addr} {qs : List (Int × Int)} {te : TE} {Rq : Int × Int → RP} {R : Hp → Prop} (hD : H1 D = none) (ra : RowsAt K CR H0 l qs H1) (hq : qs.length < 1000)
    (mq : ∀ q, MonR (Rq q))
    (ht : ∀ (q : Int × Int) (r d : Addr) (τ : L2.St) (G : Hp) (Qv : VK), q ∈ qs → τ[8]? = some (some (.ref r)) → τ[9]? = some (some (.ref d)) → RA CR G r q → PA2 K G d q → (∀ v G', Same G G' → Rq q v G' → Qv v G') → te τ G Qv)
    (z : ∀ (H' : Hp) (vs : List V), Same H1 H' → H' D = some (.lst vs) → AllR (qs.map Rq) vs H' → R H') :
    ∃ W : Nat → Nat → Hp → Prop, (∃ m, W 0 m (upd H1 D (.lst []))) ∧ ∀ i m G, W i m G →
      ((Itl K l).stop i G ∧ R G) ∨
      ((Itl K l).go i G ∧ ∃ Nx : Hp → Prop, (∀ G', Nx G' → ∃ m', m' < m ∧ W (i + 1) m' G') ∧
        ∀ x G', (Itl K l).yld i G x G' → gTup K 2 (gCons (gName 8) (gCons (gName 9) gNil)) x (wipe [s0, s1, s2, s3, s4, s5, s6, s7, s8, s9] [8, 9]) G' fun τ G2 => wipe τ [8, 9] = wipe [s0, s1, s2, s3, s4, s5, s6, s7, s8, s9] [8, 9] ∧ tYes τ G2 fun b G3 =>
          if b = true then te τ G3 fun y G4 =>
            ∃ acc, G4 D = some (.lst acc) ∧ acc.length < sizeLine ∧ Nx (upd G4 D (.lst (acc ++ [y])))
          else Nx G3) := by
  obtain ⟨_, _, vs, hl, hr⟩ := ra
  have e1 := hr.len
  rw [List.length_map] at e1
  have big : (1000 : Nat) < sizeLine := by decide
  refine lc_it (walk_list (xs := vs)) (fun i H' => Same H1 H' ∧ ∃ ws, H' D = some (.lst ws) ∧ AllR ((qs.take i).map Rq) ws H') ?_ (fun i H' _ p => SqL.of (p.1 _ _ hl)) ?_ ?_
  · exact ⟨Same.upd_new hD, [], upd_same, by rw [List.take_zero]; trivial⟩
  · rintro i x H2 H3 hi ⟨s1, ws, d1, al⟩ ⟨rfl, hx⟩
    obtain ⟨Rr, hR, hrow⟩ := hr.get hx
    rw [List.getElem?_map] at hR
    cases eq : qs[i]? with
    | none =>
      rw [eq] at hR
      cases hR
    | some q =>
      rw [eq] at hR
      cases hR
      obtain ⟨t, r, d, rfl, h1, h2, h3⟩ := mon_isRow K CR q _ _ _ (.of s1) hrow
      refine ⟨t, _, rfl, SqT.of h1, rfl, _, _, rfl, _, _, rfl, rfl, rfl, ?_⟩
      refine ht q r d _ _ _ (List.mem_of_getElem? eq) rfl rfl h2 h3 fun v G' sg rq => ?_
      have el := al.len
      rw [List.length_map, List.length_take] at el
      have u : SmL G' (upd G' D (.lst (ws ++ [v]))) := SmL.upd (sg _ _ d1)
      refine ⟨ws, sg _ _ d1, by omega, ?_, ws ++ [v], upd_same, ?_⟩
      · intro b o e
        rw [upd_ne (ne_of_none e hD)]
        exact sg b o (s1 b o e)
      · rw [List.take_succ, eq, List.map_append]
        refine (al.keep ?_ (SmL.trans (.of sg) u)).append ⟨mq q _ _ _ u rq, trivial⟩
        intro R' hR'
        obtain ⟨q', _, rfl⟩ := List.mem_map.mp hR'
        exact mq q'
  · rintro H2 ⟨s1, ws, d1, al⟩
    rw [e1, List.take_length] at al
    exact z H2 ws s1 d1 al
theorem all_bl : ∀ {qs : List (Int × Int)} {vs : List V} {H : Hp}, AllR (qs.map fun _ v _ => v = V.bl true) vs H → vs = (List.replicate qs.length true).map V.bl
  | [], [], _, _ => rfl
  | q :: qs, v :: vs, H, h => by
    rw [List.length_cons, List.replicate_succ, List.map_cons, ← all_bl h.2]
    rw [show v = V.bl true from h.1]
  | [], _ :: _, _, h => h.elim
  | _ :: _, [], _, h => h.elim
theorem all_true (n : Nat) : (List.replicate n true).all id = true := by
  rw [List.all_eq_true]
  intro b hb
  exact (List.mem_replicate.mp hb).2
/-- how long the text of rows may be -/
theorem rText_len {p : Int × Int} (h1 : p.1.natAbs < Big) (h2 : p.2.natAbs < Big) : (rRepr p).length ≤ 25811 := by
  have tx := iT_len h1
  have ty := iT_len h2
  have e0 : (Str.empty).length = 0 := by decide
  have e1 : (Str.ofString "Ratio(").length = 6 := by decide
  have e2 : (Str.ofString ", ").length = 2 := by decide
  have e3 : (Str.ofString ")").length = 1 := by decide
  unfold rRepr
  simp only [Str.length_append]
  show (Str.empty).length + (Str.ofString "Ratio(").length + (iT p.1).length + (Str.ofString ", ").length + (iT p.2).length + (Str.ofString ")").length ≤ _
  omega
theorem txt_len : ∀ (ts : List Str) (k : Nat) (acc : Str), (textFrom k acc ts).length ≤ acc.length + piled ts
  | [], k, acc => Nat.le_refl _
  | t :: ts, k, acc => by
    have ih := txt_len ts (k + 1) (acc ++ (if k > 0 then ", " else "" : String) ++ t)
    have step : (acc ++ (if k > 0 then ", " else "" : String) ++ t).length ≤ acc.length + 2 + t.length := by
      simp only [Str.length_append]
      split
      · show acc.length + 2 + t.length ≤ _
        omega
      · show acc.length + 0 + t.length ≤ _
        omega
    rw [piled_cons]
    exact Nat.le_trans ih (by omega)
theorem pile_le {b : Nat} : ∀ (ts : List Str), (∀ t ∈ ts, t.length ≤ b) → piled ts ≤ ts.length * (b + 2)
  | [], _ => Nat.zero_le _
  | t :: ts, h => by
    have ih := pile_le ts fun t m => h t (List.mem_cons_of_mem _ m)
    have := h t List.mem_cons_self
    rw [piled_cons, List.length_cons, Nat.succ_mul]
    omega
theorem list_len (ts : List Str) (b : Nat) (h : ∀ t ∈ ts, t.length ≤ b) : (listText ts).length ≤ ts.length * (b + 2) + 2 := by
  have one := txt_len ts 0 "["
  have two := pile_le ts h
  have br : (Str.ofString "[").length = 1 := by decide
  have br2 : (Str.ofString "]").length = 1 := by decide
  unfold listText
  rw [Str.length_append, br2]
  omega
def Mz : Nat → Nat
  | 0 => 100
  | i + 1 => 2 * Mz i + 102
theorem mz_le : ∀ i, i ≤ 5 → 100 ≤ Mz i ∧ Mz i ≤ 6400 ∧ 2 * Mz i + 102 ≤ 12899 := by decide
theorem Bm.big {m : Nat} {q : Int × Int} (h : Bm m q) (hm : m ≤ 12899) : q.1.natAbs < Big ∧ q.2.natAbs < Big := by
  obtain ⟨_, h1, h2, _⟩ := h
  refine ⟨big_of h1 (by omega), big_of (k := m + 1) ?_ (by omega)⟩
  exact Nat.lt_of_le_of_lt h2 (Nat.pow_lt_pow_right (by decide) (Nat.lt_succ_self m))
theorem Bm.up {m j : Nat} {q : Int × Int} (h : Bm m q) (hj : m ≤ j) : Bm j q := ⟨h.1, h.2.mono hj hj⟩
theorem rowsOf_len (p s : Int × Int) (n : Int) : 16 ≤ (rowsOf p s n).length ∧ (rowsOf p s n).length ≤ 19 := by
  unfold rowsOf
  rw [List.length_append, List.length_append]
  have : (rowsA p s n).length = 16 := rfl
  have : (rowsB p s).length ≤ 2 := by
    unfold rowsB
    split <;> simp
  have : (rowsC p n).length ≤ 1 := by
    unfold rowsC
    split <;> simp
  omega
end Cm
end

/-! ## Rr11 -/
section
namespace Cm
open PySem PySem.Spec PyProof.Rows L2 KG
structure TxtG (mg : Str → Option Value) : Prop where
  all : mg "all" = none
  range : mg "range" = none
  repr : mg "repr" = none
abbrev nmsRight : List Str := ["_law_jar_here", "_law_one", "_law_pair", "_law_turn", "_law_two", "_law_second", "_law_n", "_law_rows_here", "_law_made_here", "_law_due"]
theorem RowsAt.sml {K : PySem.W.Frag} {CR : Addr} {H0 H : Hp} {l : Addr} {qs : List (Int × Int)} (r : RowsAt K CR H0 l qs H) : Same H0 H := r.1
/-- the items' texts -/
theorem row_items {X : Cx} {CR : Addr} {qs : List (Int × Int)} {vs : List V} {H : Hp} (sR : Sl X.prog X.w X.K X.mg X.base CR "__repr__" 1 (spRRepr CR)) (al : AllR (qs.map (isR CR)) vs H) (hb : ∀ q ∈ qs, q.1.natAbs < Big ∧ q.2.natAbs < Big) :
    ∀ (pins : List (Addr × Obj)) (σ : L2.St) (i : Nat) (y : V) (t : Str), vs[i]? = some y → (qs.map rRepr)[i]? = some t → ItemR X 1 pins σ H y t := by
  obtain ⟨f, fd, ps, F, hbd, hs, hf⟩ := sR.ex
  intro pins σ i y t hy ht
  obtain ⟨R, hR, h⟩ := al.get hy
  rw [List.getElem?_map] at hR ht
  cases e : qs[i]? with
  | none =>
    rw [e] at hR
    cases hR
  | some q =>
    rw [e] at hR ht
    cases hR
    cases ht
    obtain ⟨a, rfl, ha⟩ := h
    obtain ⟨b1, b2⟩ := hb q (List.mem_of_getElem? e)
    exact itemG F hbd hs hf ⟨a, rfl, ha.isI, fun H' s => ⟨a, q, rfl, ha.keep s, b1, b2, rfl, rfl⟩⟩
section
variable {P : Program} {w : World} {K : PySem.W.Frag} {mg : Str → Option Value} {base : Heap} {CR : Addr}
theorem scRight : FnScope nmsRight ["_law_jar_here"] (defScope sRight) := ⟨rfl, rfl, rfl, by decide +kernel, rfl, by decide +kernel, by decide +kernel⟩
theorem ok_right {f : Addr} {fd : FuncData} (F : Fun K "_law_right" "_law_right" sRight f fd) (B : Binds K fd ["_law_jar_here"] []) (T : TxtG mg) (cM : Cl P w K mg base 5 "_law_made" ["_law_jar_here"] (spMade K CR)) (cD : Cl P w K mg base 1 "_law_dip" ["_law_jar_here", "_law_many"] spDip)
    (cC : Cl P w K mg base 2 "_law_choice" ["_law_jar_here", "_law_some"] (spChoice K)) (cN : Cl P w K mg base 3 "_law_integer" ["_law_jar_here"] spInteger) (cI : Cl P w K mg base 4 "_law_is" ["_law_made_here", "_law_due"] (spIs K CR))
    (cR : Cl P w K mg base 7 "_law_rows" ["_law_one", "_law_pair", "_law_two", "_law_second", "_law_n"] (spRows K CR)) (sR : Sl P w K mg base CR "__repr__" 1 (spRRepr CR)) : FnG P w K mg base 8 f spRight := by
  refine fnG_of F scRight B (fun vs H Q E h => ?_) (fun cdv A outer s H vs Q E hr hg h => ?_)
  · obtain ⟨p, rfl, _⟩ := h
    rfl
  · obtain ⟨p, rfl, J, z⟩ := h
    refine ⟨_, pss_cons (ps_asg (pe_k cM hr (by decide) (by rfl) (pa_cons (pv 0) pa_nil)) (pg_tup (by rfl) (pgs_cons (pg_name (i := 1) scRight.nd rfl (Or.inl rfl)) (pgs_cons (pg_name (i := 2) scRight.nd rfl (Or.inl rfl)) pgs_nil))))
      (pss_cons (ps_for PassesOwn.never rfl (pi_range1 (by rfl) T.range (pa_cons pe_int pa_nil)) (pg_name (i := 3) scRight.nd rfl (Or.inl rfl))
        (pss_cons (ps_asg (pe_k cM hr (by decide) (by rfl) (pa_cons (pv 0) pa_nil)) (pg_tup (by rfl) (pgs_cons (pg_name (i := 4) scRight.nd rfl (Or.inl rfl)) (pgs_cons (pg_name (i := 5) scRight.nd rfl (Or.inl rfl)) pgs_nil))))
        (C8.pss_cut (ps_if (pt_cmpR op_eq (pe_k cD hr (by decide) (by rfl) (pa_cons (pv 0) (pa_cons pe_int pa_nil))) pe_int (nomark _)) (pss_one (ps_par (i := 4) (j := 5) (by rfl) scRight.nd rfl rfl (by decide) rfl rfl (pa_cons (pv 1) (pa_cons (pv 2) pa_nil)) (by rfl))) pss_nil)
        (pss_cons (ps_set (i := 6) scRight.nd rfl (Or.inl rfl) (pe_k cN hr (by decide) (by rfl) (pa_cons (pv 0) pa_nil)))
        (pss_cons (ps_set (i := 7) scRight.nd rfl (Or.inl rfl) (pe_k cR hr (by decide) (by rfl) (pa_cons (pv 1) (pa_cons (pv 2) (pa_cons (pv 4) (pa_cons (pv 5) (pa_cons (pv 6) pa_nil)))))))
        (pss_cons (ps_if (PW.pt (pw_or (pt_not (pt_val (pe_k cI hr (by decide) (by rfl) (pa_cons (pv 1) (pa_cons (pv 2) pa_nil))))) (pw_or (pt_not (pt_val (pe_k cI hr (by decide) (by rfl) (pa_cons (pv 4) (pa_cons (pv 5) pa_nil)))))
            (pw_or1 (pt_not (pt_val (pe_callB (cr_all (by rfl)) (by rfl) T.all (by decide +kernel) (pa_cons (pe_lc (own := [("_law_made_here", 8), ("_law_due", 9)]) (g := gTup K 2 (gCons (gName 8) (gCons (gName 9) gNil))) (by rfl) scRight.nd (pi_list (pv 7))
              (blkOk_by (own := [("_law_made_here", 8), ("_law_due", 9)]) (N := nmsRight) (sc := defScope sRight) (by decide +kernel)) (fun _ _ _ _ _ => pg_tup (by rfl) (pgs_cons (pg_name (i := 8) scRight.nd rfl (Or.inl rfl)) (pgs_cons (pg_name (i := 9) scRight.nd rfl (Or.inl rfl)) pgs_nil))) (fun _ _ _ _ _ => pts_nil)
              (fun _ _ _ _ _ => pe_k cI hr (by decide) (by rfl) (pa_cons (pv 8) (pa_cons (pv 9) pa_nil)))) pa_nil))))))))
            (pss_one (ps_ret pe_bl)) pss_nil)
        (pss_cons (ps_if (pt_cmpR op_ne (pe_callB (call_reprL (k := 1) hg (hr.mono (by decide))) (by rfl) T.repr (by decide +kernel) (pa_cons (pe_lc (own := [("_law_made_here", 8), ("_law_due", 9)]) (g := gTup K 2 (gCons (gName 8) (gCons (gName 9) gNil))) (by rfl) scRight.nd (pi_list (pe_k cR hr (by decide) (by rfl) (pa_cons (pv 1) (pa_cons (pv 2) (pa_cons (pv 4) (pa_cons (pv 5) (pa_cons (pv 6) pa_nil)))))))
              (blkOk_by (own := [("_law_made_here", 8), ("_law_due", 9)]) (N := nmsRight) (sc := defScope sRight) (by decide +kernel)) (fun _ _ _ _ _ => pg_tup (by rfl) (pgs_cons (pg_name (i := 8) scRight.nd rfl (Or.inl rfl)) (pgs_cons (pg_name (i := 9) scRight.nd rfl (Or.inl rfl)) pgs_nil))) (fun _ _ _ _ _ => pts_nil) (fun _ _ _ _ _ => pv 8)) pa_nil))
            (pe_callB (call_reprL (k := 1) hg (hr.mono (by decide))) (by rfl) T.repr (by decide +kernel) (pa_cons (pe_lc (own := [("_law_made_here", 8), ("_law_due", 9)]) (g := gTup K 2 (gCons (gName 8) (gCons (gName 9) gNil))) (by rfl) scRight.nd (pi_list (pv 7))
              (blkOk_by (own := [("_law_made_here", 8), ("_law_due", 9)]) (N := nmsRight) (sc := defScope sRight) (by decide +kernel)) (fun _ _ _ _ _ => pg_tup (by rfl) (pgs_cons (pg_name (i := 8) scRight.nd rfl (Or.inl rfl)) (pgs_cons (pg_name (i := 9) scRight.nd rfl (Or.inl rfl)) pgs_nil))) (fun _ _ _ _ _ => pts_nil) (fun _ _ _ _ _ => pv 8)) pa_nil)) (nomark _)) (pss_one (ps_ret pe_bl)) pss_nil)
        (pss_one (ps_asg (pe_k cC hr (by decide) (by rfl) (pa_cons (pv 0) (pa_cons (pv 7) pa_nil))) (pg_tup (by rfl) (pgs_cons (pg_name (i := 1) scRight.nd rfl (Or.inl rfl)) (pgs_cons (pg_name (i := 2) scRight.nd rfl (Or.inl rfl)) pgs_nil))))))))))))
      (pss_one (ps_ret pe_bl))), ?_⟩
    refine ⟨_, rfl, p, rfl, J, fun H1 t0 a0 d0 q0 J1 k1 et ha hd hq0 => ?_⟩
    refine ⟨t0, _, rfl, SqT.of et, rfl, _, _, rfl, _, _, rfl, rfl, ?_⟩
    refine ⟨6, rfl, by decide, by decide, for_range (n := 6) (fun i σ H' => ∃ (a t : Addr) (q : Int × Int) (x3 x4 x5 x6 x7 x8 x9 : Option V), σ = [some (.ref p), some (.ref a), some (.ref t), x3, x4, x5, x6, x7, x8, x9] ∧ JarAt H' p ∧ Kp p H H' ∧ RA CR H' a q ∧ PA2 K H' t q ∧ Bm (Mz i) q) ?_ ?_ ?_⟩
    · exact ⟨a0, d0, q0, none, none, none, none, none, none, none, rfl, J1, k1, ha, hd, hq0⟩
    · rintro i σ H2 hi ⟨a, t, q, x3, x4, x5, x6, x7, x8, x9, rfl, J2, k2, ra, rt, bq⟩
      obtain ⟨m1, m2, m3⟩ := mz_le i (by omega)
      refine ⟨_, rfl, p, rfl, J2, fun H3 t3 b u s J3 k3 et3 rb ru bs => ?_⟩
      have sm3 := SmL.kp J2 k3
      refine ⟨t3, _, rfl, SqT.of et3, rfl, _, _, rfl, _, _, rfl, rfl, ?_⟩
      refine ⟨fun σ H' => ∃ (b u : Addr) (s : Int × Int), σ = [some (.ref p), some (.ref a), some (.ref t), some (.int (0 + i)), some (.ref b), some (.ref u), x6, x7, x8, x9] ∧ JarAt H' p ∧ Kp p H H' ∧ RA CR H' a q ∧ PA2 K H' t q ∧ RA CR H' b s ∧ PA2 K H' u s ∧ Bm (Mz i) s, ?_, ?_⟩
      · refine ⟨_, rfl, p, 5, rfl, J3, by decide, by decide, fun H4 way J4 k4 _ _ => ?_⟩
        have sm4 := SmL.kp J3 k4
        have k24 := (k2.trans k3).trans k4
        have ra4 := (ra.keepL sm3).keepL sm4
        have rt4 := (rt.keepL sm3).keepL sm4
        refine ⟨rfl, _, rfl, ?_⟩
        refine ite2 (fun _ => ?_) (fun _ => ?_)
        · exact ⟨_, rfl, _, rfl, _, _, rfl, a, t, q, rfl, J4, k24, ra4, rt4, ra4, rt4, bq⟩
        · exact ⟨b, u, s, rfl, J4, k24, ra4, rt4, rb.keepL sm4, ru.keepL sm4, bs.up m1⟩
      · rintro σ H4 ⟨b, u, s, rfl, J4, k4, ra4, rt4, rb4, ru4, bs4⟩
        refine ⟨_, rfl, p, rfl, J4, fun H5 n J5 k5 hn => ?_⟩
        have sm5 := SmL.kp J4 k5
        have ra5 := ra4.keepL sm5
        have rt5 := rt4.keepL sm5
        have rb5 := rb4.keepL sm5
        have ru5 := ru4.keepL sm5
        refine ⟨_, rfl, _, rfl, _, rfl, _, rfl, _, rfl, a, t, b, u, q, s, n, Mz i, rfl, ra5, rt5, rb5, ru5, bq, bs4, hn, m1, m2, fun H6 l R6 => ?_⟩
        have s6 := R6.sml
        obtain ⟨g1, g2⟩ := bq.big (by omega)
        obtain ⟨g3, g4⟩ := bs4.big (by omega)
        have hb := rows_bm bq bs4 hn m1
        have hbig : ∀ r ∈ rowsOf q s n, r.1.natAbs < Big ∧ r.2.natAbs < Big := fun r hr => (hb r hr).big m3
        obtain ⟨n1, n2⟩ := rowsOf_len q s n
        have big : (1000000 : Nat) < sizeLine := by decide
        refine ⟨_, rfl, _, rfl, a, t, q, rfl, ra5.keep s6, rt5.keep s6, g1, g2, fun H7 s7 => ⟨_, rfl, ?_⟩⟩
        have s57 := Same.trans' s6 s7
        refine iteF ⟨_, rfl, _, rfl, b, u, s, rfl, rb5.keep s57, ru5.keep s57, g3, g4, fun H8 s8 => ⟨_, rfl, ?_⟩⟩
        have s58 := Same.trans' s57 s8
        have R8 := rows_keep (rows_keep R6 s7) s8
        obtain ⟨_, nl8, vs8, hl8, _⟩ := id R8
        refine iteF ⟨_, rfl, l, rfl, ⟨_, SqL.of hl8⟩, fun D nD => ?_⟩
        refine lc_rows (Rq := fun _ v _ => v = V.bl true) nD R8 (by omega) (fun _ _ _ _ _ h => h) (fun qq r d τ G Qv hm h8 h9 hr hd zz => ?_) (fun H9 vs s9 hD al => ?_)
        · exact ⟨_, h8, _, h9, r, d, qq, rfl, hr, hd, (hbig qq hm).1, (hbig qq hm).2, fun G' sg => zz _ G' sg rfl⟩
        have ev := all_bl al
        subst ev
        refine ⟨D, _, rfl, SqL.of hD, ?_⟩
        rw [all_true]
        refine ⟨_, rfl, ?_⟩
        refine iteF ?_
        have s59 := Same.trans' s58 s9
        have R9 := rows_keep R8 s9
        have hlen : ∀ {vs : List V} {H' : Hp} {Rq : Int × Int → RP}, AllR ((rowsOf q s n).map Rq) vs H' → vs.length = (rowsOf q s n).length := fun al => by
          have := al.len
          rw [List.length_map] at this
          exact this
        have tl : (listText ((rowsOf q s n).map rRepr)).length ≤ sizeLine := by
          have h1 := list_len ((rowsOf q s n).map rRepr) 25811 (fun t ht => by
            obtain ⟨r, hr, rfl⟩ := List.mem_map.mp ht
            exact rText_len (hbig r hr).1 (hbig r hr).2)
          rw [List.length_map] at h1
          have h2 : (rowsOf q s n).length * (25811 + 2) ≤ 19 * 25813 := Nat.mul_le_mul_right _ n2
          omega
        refine ⟨_, rfl, _, rfl, _, rfl, _, rfl, _, rfl, a, t, b, u, q, s, n, Mz i, rfl, ra5.keep s59, rt5.keep s59, rb5.keep s59, ru5.keep s59, bq, bs4, hn, m1, m2, fun H10 l2 R10 => ?_⟩
        have s10 := R10.sml
        obtain ⟨_, _, vs10, hl10, _⟩ := id R10
        refine ⟨l2, rfl, ⟨_, SqL.of hl10⟩, fun D2 nD2 => ?_⟩
        refine lc_rows (Rq := isR CR) nD2 R10 (by omega) (mon_isR CR) (fun qq r d τ G Qv hm h8 h9 hr hd zz => ⟨_, h8, zz _ G (fun _ _ e => e) ⟨r, rfl, hr⟩⟩) (fun H11 vs2 s11 hD2 al2 => ?_)
        have e2 := hlen al2
        obtain ⟨v2, r2, rfl⟩ : ∃ v r, vs2 = v :: r := by
          cases vs2 with
          | nil => rw [List.length_nil] at e2; omega
          | cons v r => exact ⟨v, r, rfl⟩
        refine ⟨D2, v2, r2, (rowsOf q s n).map rRepr, rfl, hD2, by rw [List.length_map, e2], row_items sR al2 hbig, tl, fun H12 s12 => ?_⟩
        have R12 := rows_keep (rows_keep (rows_keep R9 s10) s11) s12
        obtain ⟨_, _, vs12, hl12, _⟩ := id R12
        refine ⟨_, rfl, l, rfl, ⟨_, SqL.of hl12⟩, fun D3 nD3 => ?_⟩
        refine lc_rows (Rq := isR CR) nD3 R12 (by omega) (mon_isR CR) (fun qq r d τ G Qv hm h8 h9 hr hd zz => ⟨_, h8, zz _ G (fun _ _ e => e) ⟨r, rfl, hr⟩⟩) (fun H13 vs3 s13 hD3 al3 => ?_)
        have e3 := hlen al3
        obtain ⟨v3, r3, rfl⟩ : ∃ v r, vs3 = v :: r := by
          cases vs3 with
          | nil => rw [List.length_nil] at e3; omega
          | cons v r => exact ⟨v, r, rfl⟩
        refine ⟨D3, v3, r3, (rowsOf q s n).map rRepr, rfl, hD3, by rw [List.length_map, e3], row_items sR al3 hbig, tl, fun H14 s14 => ?_⟩
        refine ⟨rfl, _, rfl, ?_⟩
        refine ite2 (fun h => absurd h (by simp)) (fun _ => ?_)
        have R14 := rows_keep (rows_keep R12 s13) s14
        have s514 : Same H5 H14 := Same.trans' s59 (Same.trans' s10 (Same.trans' s11 (Same.trans' s12 (Same.trans' s13 s14))))
        have J14 := J5.keep s514
        have nlp : l ≠ p := by
          obtain ⟨_, _, e, _⟩ := J5
          exact (ne_of_none e nl8).symm
        obtain ⟨_, _, vs14, hl14, al14⟩ := id R14
        have e14 := hlen al14
        refine ⟨_, rfl, _, rfl, p, .ref l, rfl, J14, .inl ⟨l, vs14, rfl, nlp, SqL.of hl14, by omega, by omega, fun H15 j v J15 k15 hv => ?_⟩⟩
        have sm15 := SmL.kp J14 k15
        obtain ⟨Rr, hR, hrow⟩ := al14.get hv
        rw [List.getElem?_map] at hR
        cases eq : (rowsOf q s n)[j]? with
        | none =>
          rw [eq] at hR
          cases hR
        | some q' =>
          rw [eq] at hR
          cases hR
          obtain ⟨t', r', d', rfl, h1, h2, h3⟩ := mon_isRow K CR q' _ _ _ sm15 hrow
          refine ⟨t', _, rfl, SqT.of h1, rfl, _, _, rfl, _, _, rfl, rfl, ?_⟩
          exact ⟨r', d', q', _, _, _, _, _, _, _, rfl, J15, ((k4.trans k5).trans (Kp.same s514)).trans k15, h2, h3, hb q' (List.mem_of_getElem? eq)⟩
    · rintro σ H2 ⟨a, t, q, x3, x4, x5, x6, x7, x8, x9, rfl, J2, k2, ra, rt, bq⟩
      exact z H2 k2
end
end Cm
end

/-! ## Lw11 -/
section
namespace Cm
open PySem PySem.Spec PyProof.Rows L2 KG

abbrev sLaw : Stmt := top 26
def spLaw (K : PySem.W.Frag) : Sp := fun vs H Q _ => ∃ (a : Addr) (ns : List Int), vs = [.ref a] ∧ SqL K H a (ns.map V.int) ∧ ns.length ≤ 63 ∧ ∀ H', Q (.bl true) H'
section
variable {P : Program} {w : World} {K : PySem.W.Frag} {mg : Str → Option Value} {base : Heap}
theorem scLaw : FnScope ["_law_script", "_law_k"] ["_law_script"] (defScope sLaw) := ⟨rfl, rfl, rfl, by decide +kernel, rfl, by decide +kernel, by decide +kernel⟩
theorem ok_law {f : Addr} {fd : FuncData} (F : Fun K "law" "law" sLaw f fd) (B : Binds K fd ["_law_script"] []) (T : Txt mg)
    (cJ : Cl P w K mg base 1 "_law_jar" ["_law_script", "_law_k"] (spJar K)) (cR : ClG P w K mg base 8 "_law_right" spRight) : FnG P w K mg base 9 f (spLaw K) := by
  refine fnG_of F scLaw B (fun vs H Q E h => ?_) (fun cdv A outer s H vs Q E hr hg h => ?_)
  · obtain ⟨a, ns, rfl, _⟩ := h
    rfl
  · obtain ⟨a, ns, rfl, hS, hlen, q⟩ := h
    refine ⟨_, pss_one (ps_ret (pe_callB (cr_all (by rfl)) (by rfl) T.all (by decide +kernel) (pa_cons (pe_lc (own := [("_law_k", 1)]) (g := gName 1) (by rfl) scLaw.nd
      (pi_range1 (by rfl) T.range (pa_cons (pe_callB (call_max2 (by rfl)) (by rfl) T.max (by decide +kernel) (pa_cons pe_int (pa_cons (pe_callB (call_min2 (by rfl)) (by rfl) T.min (by decide +kernel)
        (pa_cons (pe_callB call_len (by rfl) T.len PySem.boot_len (pa_cons (pv 0) pa_nil)) (pa_cons pe_int pa_nil))) pa_nil))) pa_nil))
      (blkOk_by (own := [("_law_k", 1)]) (N := ["_law_script", "_law_k"]) (sc := defScope sLaw) (by decide +kernel)) (fun _ _ _ _ _ => pg_name (i := 1) scLaw.nd rfl (Or.inl rfl)) (fun _ _ _ _ _ => pts_nil)
      (fun _ _ _ _ _ => pe_g cR hr (by decide) hg (by rfl) (pa_cons (pe_k cJ hr (by decide) (by rfl) (pa_cons (pv 0) (pa_cons (pv 1) pa_nil))) pa_nil))) pa_nil))), ?_⟩
    refine ⟨_, rfl, _, _, rfl, .inl ⟨_, hS, rfl⟩, _, _, rfl, _, _, rfl, ?_⟩
    have bd : ∀ z : Int, 0 ≤ (if (if (4 : Int) < z then 4 else z) > 1 then (if (4 : Int) < z then 4 else z) else 1) ∧ (if (if (4 : Int) < z then 4 else z) > 1 then (if (4 : Int) < z then 4 else z) else 1) ≤ 4 := by
      intro z
      split <;> split <;> omega
    obtain ⟨z0, z4⟩ := bd ((ns.map V.int).length : Int)
    generalize (if (if (4 : Int) < ((ns.map V.int).length : Int) then 4 else ((ns.map V.int).length : Int)) > 1 then (if (4 : Int) < ((ns.map V.int).length : Int) then 4 else ((ns.map V.int).length : Int)) else 1) = z at z0 z4
    refine ⟨z, rfl, by omega, by omega, fun D nD => ?_⟩
    refine lc_range (lo := 0) (n := z.toNat) (fun i H' => Same H H' ∧ H' D = some (.lst ((List.replicate i true).map V.bl))) ⟨Same.upd_new nD, upd_same⟩ ?_ ?_
    · rintro i H1 hi ⟨s1, d1⟩
      refine ⟨rfl, _, rfl, _, rfl, a, ns, i, by rw [Int.zero_add], s1.seq hS, hlen, by omega, fun H2 p s2 np J2 => ?_⟩
      refine ⟨p, rfl, J2, fun H3 k3 => ?_⟩
      have nDp : D ≠ p := ne_of_none d1 np
      refine ⟨_, k3 _ _ (s2 _ _ d1) nDp, ?_, ?_, ?_⟩
      · rw [List.length_map, List.length_replicate]
        have : (63 : Nat) < sizeLine := by decide
        omega
      · intro b o e
        have e1 := s1 b o e
        rw [upd_ne (ne_of_none e nD)]
        exact k3 _ _ (s2 _ _ e1) (ne_of_none e1 np)
      · rw [upd_same, List.replicate_succ', List.map_append]
        rfl
    · rintro H1 ⟨s1, d1⟩
      refine ⟨D, List.replicate z.toNat true, rfl, SqL.of d1, ?_⟩
      rw [all_true]
      exact q H1
end
end Cm
end

/-! ## En11 -/
section
namespace Cm
open PySem PySem.Spec PyProof.Rows L2 KG
section
variable {K : PySem.W.Frag} {C D : Addr} {T : String} {b : Bool}
theorem kit_tr (hc : PySem.W.isClsIn K C = true) (ht : PySem.W.typeIn K (.ref C) = some (.type "type")) (hs : PySem.W.subIn K (.type T) (.ref C) = some b) : PySem.W.kitOne K (.type T) (.ref C) = some b := by
  have hc' : (PySem.W.clsIn K C).isSome = true := hc
  unfold PySem.W.kitOne PySem.W.kitCls
  rw [if_neg (fun z => by cases beq_iff_eq.mp z)]
  dsimp only
  rw [hc', ht, if_pos (by simp)]
  exact hs
theorem kit_rt (hm : PySem.W.kitMeta T = true) (hs : PySem.W.subIn K (.ref C) (.type T) = some b) : PySem.W.kitOne K (.ref C) (.type T) = some b := by
  unfold PySem.W.kitOne PySem.W.kitCls
  rw [if_neg (fun z => by cases beq_iff_eq.mp z)]
  dsimp only
  rw [if_pos hm]
  exact hs
theorem kit_rr (hc : PySem.W.isClsIn K C = true) (ht : PySem.W.typeIn K (.ref C) = some (.type "type")) (hs : PySem.W.subIn K (.ref C) (.ref C) = some true) : PySem.W.kitOne K (.ref C) (.ref C) = some true := by
  unfold PySem.W.kitOne
  rw [if_pos (by simp)]
theorem kit_rn (n : D ≠ C) (hc : PySem.W.isClsIn K C = true) (ht : PySem.W.typeIn K (.ref C) = some (.type "type")) (hs : PySem.W.subIn K (.ref D) (.ref C) = some b) : PySem.W.kitOne K (.ref D) (.ref C) = some b := by
  have hc' : (PySem.W.clsIn K C).isSome = true := hc
  unfold PySem.W.kitOne PySem.W.kitCls
  rw [if_neg (fun z => n (Value.ref.inj (beq_iff_eq.mp z)))]
  dsimp only
  rw [hc', ht, if_pos (by simp)]
  exact hs
end
theorem gk_rel {vs ds zs : List V} {us its ws : List Value} (r1 : Vals vs us) (r2 : Vals ds its) (r3 : Vals zs ws) : Vals (gK vs ds zs) (gK us its ws) := by
  cases r1 with
  | nil => exact .nil
  | cons a ra =>
    cases ra with
    | cons _ _ => exact .nil
    | nil =>
      cases r3 with
      | nil => exact .nil
      | cons b rb =>
        cases rb with
        | nil => exact .nil
        | cons c rc =>
          cases rc with
          | cons _ _ => exact .nil
          | nil => exact .cons a (.cons c (.cons b .nil))
set_option maxHeartbeats 4000000 in
theorem all_mk {l : PySem.W.OpenLaw} {w : World} {K : PySem.W.Frag} {h : Heap} {mg : Str → Option Value} {fa CR TR pO p_tp p_bt p_sg : Addr} (X : K.In h) (G : h.Ns mainGlobals mg) (hfa : mg "law" = some (.ref fa))
    {f_isI f_asR f_jar f_dip f_cho f_com f_low f_sum f_tim f_int f_par f_wrd f_is f_row f_mad f_rgt f_law f_ri f_rs f_rr f_ad f_ra f_sb f_rb f_ml f_rm f_ng f_ov f_tp f_bt f_sg f_tt : Addr}
    {od_isI an_isI od_asR an_asR od_jar an_jar od_dip an_dip od_cho an_cho od_com an_com od_low an_low od_sum an_sum od_tim an_tim od_int an_int od_par an_par od_wrd an_wrd od_is an_is od_row an_row od_mad an_mad od_rgt an_rgt od_law an_law od_ri an_ri od_rs an_rs od_rr an_rr od_ad an_ad od_ra an_ra od_sb an_sb od_rb an_rb od_ml an_ml od_rm an_rm od_ng an_ng od_ov an_ov od_tp an_tp od_bt an_bt od_sg an_sg od_tt an_tt dTR : Option Addr} {sl_isI sl_asR sl_jar sl_dip sl_cho sl_com sl_low sl_sum sl_tim sl_int sl_par sl_wrd sl_is sl_row sl_mad sl_rgt sl_law sl_ri sl_rs sl_rr sl_ad sl_ra sl_sb sl_rb sl_ml sl_rm sl_ng sl_ov sl_tp sl_bt sl_sg sl_tt slTR : Array (Option Value)}
    {oc_isI kV_isI dc_isI pm_isI cd_isI ct_isI oc_asR kV_asR dc_asR pm_asR cd_asR ct_asR oc_jar kV_jar dc_jar pm_jar cd_jar ct_jar oc_dip kV_dip dc_dip pm_dip cd_dip ct_dip oc_cho kV_cho dc_cho pm_cho cd_cho ct_cho oc_com kV_com dc_com pm_com cd_com ct_com oc_low kV_low dc_low pm_low cd_low ct_low oc_sum kV_sum dc_sum pm_sum cd_sum ct_sum oc_tim kV_tim dc_tim pm_tim cd_tim ct_tim oc_int kV_int dc_int pm_int cd_int ct_int oc_par kV_par dc_par pm_par cd_par ct_par oc_wrd kV_wrd dc_wrd pm_wrd cd_wrd ct_wrd oc_is kV_is dc_is pm_is cd_is ct_is oc_row kV_row dc_row pm_row cd_row ct_row oc_mad kV_mad dc_mad pm_mad cd_mad ct_mad oc_rgt kV_rgt dc_rgt pm_rgt cd_rgt ct_rgt oc_law kV_law dc_law pm_law cd_law ct_law oc_ri kV_ri dc_ri pm_ri cd_ri ct_ri oc_rs kV_rs dc_rs pm_rs cd_rs ct_rs oc_rr kV_rr dc_rr pm_rr cd_rr ct_rr oc_ad kV_ad dc_ad pm_ad cd_ad ct_ad oc_ra kV_ra dc_ra pm_ra cd_ra ct_ra oc_sb kV_sb dc_sb pm_sb cd_sb ct_sb oc_rb kV_rb dc_rb pm_rb cd_rb ct_rb oc_ml kV_ml dc_ml pm_ml cd_ml ct_ml oc_rm kV_rm dc_rm pm_rm cd_rm ct_rm oc_ng kV_ng dc_ng pm_ng cd_ng ct_ng oc_ov kV_ov dc_ov pm_ov cd_ov ct_ov oc_tp kV_tp dc_tp pm_tp cd_tp ct_tp oc_bt kV_bt dc_bt pm_bt cd_bt ct_bt oc_sg kV_sg dc_sg pm_sg cd_sg ct_sg oc_tt kV_tt dc_tt pm_tt cd_tt ct_tt cTR : Value} {tkR : Tok} {nTR : Nat} {restO rest_tp rest_bt rest_sg : List Value}
    (a_isI : PySem.W.nsIn K mainGlobals "is_integer" = some (some (.ref f_isI)))
    (l_isI : K.lookup f_isI = some ⟨oc_isI, od_isI, .func (PySem.W.fnOf "is_integer" "is_integer" (defArgs sIsInt) (defBody sIsInt) (defScope sIsInt) .none kV_isI dc_isI pm_isI an_isI cd_isI ct_isI), sl_isI⟩)
    (c_isI : PySem.W.codeIn K cd_isI "is_integer" = true)
    (k_isI : PySem.W.keepIn K (.ref f_isI) = true)
    (a_asR : PySem.W.nsIn K mainGlobals "as_ratio" = some (some (.ref f_asR)))
    (l_asR : K.lookup f_asR = some ⟨oc_asR, od_asR, .func (PySem.W.fnOf "as_ratio" "as_ratio" (defArgs sAsRatio) (defBody sAsRatio) (defScope sAsRatio) .none kV_asR dc_asR pm_asR an_asR cd_asR ct_asR), sl_asR⟩)
    (c_asR : PySem.W.codeIn K cd_asR "as_ratio" = true)
    (k_asR : PySem.W.keepIn K (.ref f_asR) = true)
    (a_jar : PySem.W.nsIn K mainGlobals "_law_jar" = some (some (.ref f_jar)))
    (l_jar : K.lookup f_jar = some ⟨oc_jar, od_jar, .func (PySem.W.fnOf "_law_jar" "_law_jar" (defArgs sJar) (defBody sJar) (defScope sJar) .none kV_jar dc_jar pm_jar an_jar cd_jar ct_jar), sl_jar⟩)
    (c_jar : PySem.W.codeIn K cd_jar "_law_jar" = true)
    (k_jar : PySem.W.keepIn K (.ref f_jar) = true)
    (a_dip : PySem.W.nsIn K mainGlobals "_law_dip" = some (some (.ref f_dip)))
    (l_dip : K.lookup f_dip = some ⟨oc_dip, od_dip, .func (PySem.W.fnOf "_law_dip" "_law_dip" (defArgs sDip) (defBody sDip) (defScope sDip) .none kV_dip dc_dip pm_dip an_dip cd_dip ct_dip), sl_dip⟩)
    (c_dip : PySem.W.codeIn K cd_dip "_law_dip" = true)
    (k_dip : PySem.W.keepIn K (.ref f_dip) = true)
    (a_cho : PySem.W.nsIn K mainGlobals "_law_choice" = some (some (.ref f_cho)))
    (l_cho : K.lookup f_cho = some ⟨oc_cho, od_cho, .func (PySem.W.fnOf "_law_choice" "_law_choice" (defArgs sChoice) (defBody sChoice) (defScope sChoice) .none kV_cho dc_cho pm_cho an_cho cd_cho ct_cho), sl_cho⟩)
    (c_cho : PySem.W.codeIn K cd_cho "_law_choice" = true)
    (k_cho : PySem.W.keepIn K (.ref f_cho) = true)
    (a_com : PySem.W.nsIn K mainGlobals "_law_common" = some (some (.ref f_com)))
    (l_com : K.lookup f_com = some ⟨oc_com, od_com, .func (PySem.W.fnOf "_law_common" "_law_common" (defArgs sCommon) (defBody sCommon) (defScope sCommon) .none kV_com dc_com pm_com an_com cd_com ct_com), sl_com⟩)
    (c_com : PySem.W.codeIn K cd_com "_law_common" = true)
    (k_com : PySem.W.keepIn K (.ref f_com) = true)
    (a_low : PySem.W.nsIn K mainGlobals "_law_lowest" = some (some (.ref f_low)))
    (l_low : K.lookup f_low = some ⟨oc_low, od_low, .func (PySem.W.fnOf "_law_lowest" "_law_lowest" (defArgs sLowest) (defBody sLowest) (defScope sLowest) .none kV_low dc_low pm_low an_low cd_low ct_low), sl_low⟩)
    (c_low : PySem.W.codeIn K cd_low "_law_lowest" = true)
    (k_low : PySem.W.keepIn K (.ref f_low) = true)
    (a_sum : PySem.W.nsIn K mainGlobals "_law_sum" = some (some (.ref f_sum)))
    (l_sum : K.lookup f_sum = some ⟨oc_sum, od_sum, .func (PySem.W.fnOf "_law_sum" "_law_sum" (defArgs sSum) (defBody sSum) (defScope sSum) .none kV_sum dc_sum pm_sum an_sum cd_sum ct_sum), sl_sum⟩)
    (c_sum : PySem.W.codeIn K cd_sum "_law_sum" = true)
    (k_sum : PySem.W.keepIn K (.ref f_sum) = true)
    (a_tim : PySem.W.nsIn K mainGlobals "_law_times" = some (some (.ref f_tim)))
    (l_tim : K.lookup f_tim = some ⟨oc_tim, od_tim, .func (PySem.W.fnOf "_law_times" "_law_times" (defArgs sTimes) (defBody sTimes) (defScope sTimes) .none kV_tim dc_tim pm_tim an_tim cd_tim ct_tim), sl_tim⟩)
    (c_tim : PySem.W.codeIn K cd_tim "_law_times" = true)
    (k_tim : PySem.W.keepIn K (.ref f_tim) = true)
    (a_int : PySem.W.nsIn K mainGlobals "_law_integer" = some (some (.ref f_int)))
    (l_int : K.lookup f_int = some ⟨oc_int, od_int, .func (PySem.W.fnOf "_law_integer" "_law_integer" (defArgs sInteger) (defBody sInteger) (defScope sInteger) .none kV_int dc_int pm_int an_int cd_int ct_int), sl_int⟩)
    (c_int : PySem.W.codeIn K cd_int "_law_integer" = true)
    (k_int : PySem.W.keepIn K (.ref f_int) = true)
    (a_par : PySem.W.nsIn K mainGlobals "_law_parts" = some (some (.ref f_par)))
    (l_par : K.lookup f_par = some ⟨oc_par, od_par, .func (PySem.W.fnOf "_law_parts" "_law_parts" (defArgs sParts) (defBody sParts) (defScope sParts) .none kV_par dc_par pm_par an_par cd_par ct_par), sl_par⟩)
    (c_par : PySem.W.codeIn K cd_par "_law_parts" = true)
    (k_par : PySem.W.keepIn K (.ref f_par) = true)
    (a_wrd : PySem.W.nsIn K mainGlobals "_law_words" = some (some (.ref f_wrd)))
    (l_wrd : K.lookup f_wrd = some ⟨oc_wrd, od_wrd, .func (PySem.W.fnOf "_law_words" "_law_words" (defArgs sWords) (defBody sWords) (defScope sWords) .none kV_wrd dc_wrd pm_wrd an_wrd cd_wrd ct_wrd), sl_wrd⟩)
    (c_wrd : PySem.W.codeIn K cd_wrd "_law_words" = true)
    (k_wrd : PySem.W.keepIn K (.ref f_wrd) = true)
    (a_is : PySem.W.nsIn K mainGlobals "_law_is" = some (some (.ref f_is)))
    (l_is : K.lookup f_is = some ⟨oc_is, od_is, .func (PySem.W.fnOf "_law_is" "_law_is" (defArgs sIs) (defBody sIs) (defScope sIs) .none kV_is dc_is pm_is an_is cd_is ct_is), sl_is⟩)
    (c_is : PySem.W.codeIn K cd_is "_law_is" = true)
    (k_is : PySem.W.keepIn K (.ref f_is) = true)
    (a_row : PySem.W.nsIn K mainGlobals "_law_rows" = some (some (.ref f_row)))
    (l_row : K.lookup f_row = some ⟨oc_row, od_row, .func (PySem.W.fnOf "_law_rows" "_law_rows" (defArgs sRows) (defBody sRows) (defScope sRows) .none kV_row dc_row pm_row an_row cd_row ct_row), sl_row⟩)
    (c_row : PySem.W.codeIn K cd_row "_law_rows" = true)
    (k_row : PySem.W.keepIn K (.ref f_row) = true)
    (a_mad : PySem.W.nsIn K mainGlobals "_law_made" = some (some (.ref f_mad)))
    (l_mad : K.lookup f_mad = some ⟨oc_mad, od_mad, .func (PySem.W.fnOf "_law_made" "_law_made" (defArgs sMade) (defBody sMade) (defScope sMade) .none kV_mad dc_mad pm_mad an_mad cd_mad ct_mad), sl_mad⟩)
    (c_mad : PySem.W.codeIn K cd_mad "_law_made" = true)
    (k_mad : PySem.W.keepIn K (.ref f_mad) = true)
    (a_rgt : PySem.W.nsIn K mainGlobals "_law_right" = some (some (.ref f_rgt)))
    (l_rgt : K.lookup f_rgt = some ⟨oc_rgt, od_rgt, .func (PySem.W.fnOf "_law_right" "_law_right" (defArgs sRight) (defBody sRight) (defScope sRight) .none kV_rgt dc_rgt pm_rgt an_rgt cd_rgt ct_rgt), sl_rgt⟩)
    (c_rgt : PySem.W.codeIn K cd_rgt "_law_right" = true)
    (k_rgt : PySem.W.keepIn K (.ref f_rgt) = true)
    (a_law : PySem.W.nsIn K mainGlobals "law" = some (some (.ref f_law)))
    (l_law : K.lookup f_law = some ⟨oc_law, od_law, .func (PySem.W.fnOf "law" "law" (defArgs sLaw) (defBody sLaw) (defScope sLaw) .none kV_law dc_law pm_law an_law cd_law ct_law), sl_law⟩)
    (c_law : PySem.W.codeIn K cd_law "law" = true)
    (k_law : PySem.W.keepIn K (.ref f_law) = true)
    (a_CR : PySem.W.nsIn K mainGlobals "Ratio" = some (some (.ref CR)))
    (pg_CR : PySem.W.plainGet K CR Str.empty = true)
    (hd_CR : PySem.W.hasDictIn K CR = true)
    (po_CR : PySem.W.plainOver K CR = true)
    (sa_CR : PySem.W.findIn K (.ref CR) "__setattr__" = some (some (.builtin "object.__setattr__")))
    (mk_CR : PySem.W.makesIn K CR = true)
    (kc_CR : PySem.W.keepIn K (.ref CR) = true)
    (ha_CR : PySem.W.findIn K (.ref CR) "__class__" = some (some (.builtin "object.__class__")))
    (hm_CR : PySem.W.mroIn K CR (.type "object") = some true)
    (ic_CR : PySem.W.isClsIn K CR = true)
    (tc_CR : PySem.W.typeIn K (.ref CR) = some (.type "type"))
    (si_CR : PySem.W.subIn K (.ref CR) (.type "int") = some false)
    (sr_CR : PySem.W.subIn K (.ref CR) (.ref CR) = some true)
    (sf_CR : PySem.W.selfFirst K CR = true)
    (hn : PySem.W.specialIn K (.builtin "object.__class__") "__get__" = some (some (.builtin "getset_descriptor.__get__")))
    (htk : PySem.W.takesIn K (.builtin "object.__class__") = some true)
    (u_int : PySem.W.subIn K (.type "int") (.ref CR) = some false)
    (nT : PySem.W.findIn K (.ref CR) "_top" = some none)
    (nB : PySem.W.findIn K (.ref CR) "_bottom" = some none)
    (ib_add : PySem.W.findIn K (.type "int") "__add__" = some (some (.builtin "int.__add__")))
    (ir_add : PySem.W.findIn K (.type "int") "__radd__" = some (some (.builtin "int.__radd__")))
    (ib_sub : PySem.W.findIn K (.type "int") "__sub__" = some (some (.builtin "int.__sub__")))
    (ir_sub : PySem.W.findIn K (.type "int") "__rsub__" = some (some (.builtin "int.__rsub__")))
    (ib_mul : PySem.W.findIn K (.type "int") "__mul__" = some (some (.builtin "int.__mul__")))
    (ir_mul : PySem.W.findIn K (.type "int") "__rmul__" = some (some (.builtin "int.__rmul__")))
    (a_ri : PySem.W.findIn K (.ref CR) "__init__" = some (some (.ref f_ri)))
    (i_ri : PySem.W.isFn K (.ref f_ri) = true)
    (l_ri : K.lookup f_ri = some ⟨oc_ri, od_ri, .func (PySem.W.fnOf "__init__" "Ratio.__init__" (defArgs sRInit) (defBody sRInit) (defScope sRInit) (.ref TR) kV_ri dc_ri pm_ri an_ri cd_ri ct_ri), sl_ri⟩)
    (c_ri : PySem.W.codeIn K cd_ri "Ratio.__init__" = true)
    (k_ri : PySem.W.keepIn K (.ref f_ri) = true)
    (d_ri : K.lookup TR = some ⟨cTR, dTR, .seq #[.int 1 tkR] nTR, slTR⟩)
    (a_rs : PySem.W.findIn K (.ref CR) "__str__" = some (some (.ref f_rs)))
    (i_rs : PySem.W.isFn K (.ref f_rs) = true)
    (l_rs : K.lookup f_rs = some ⟨oc_rs, od_rs, .func (PySem.W.fnOf "__str__" "Ratio.__str__" (defArgs sRStr) (defBody sRStr) (defScope sRStr) .none kV_rs dc_rs pm_rs an_rs cd_rs ct_rs), sl_rs⟩)
    (c_rs : PySem.W.codeIn K cd_rs "Ratio.__str__" = true)
    (k_rs : PySem.W.keepIn K (.ref f_rs) = true)
    (a_rr : PySem.W.findIn K (.ref CR) "__repr__" = some (some (.ref f_rr)))
    (i_rr : PySem.W.isFn K (.ref f_rr) = true)
    (l_rr : K.lookup f_rr = some ⟨oc_rr, od_rr, .func (PySem.W.fnOf "__repr__" "Ratio.__repr__" (defArgs sRRepr) (defBody sRRepr) (defScope sRRepr) .none kV_rr dc_rr pm_rr an_rr cd_rr ct_rr), sl_rr⟩)
    (c_rr : PySem.W.codeIn K cd_rr "Ratio.__repr__" = true)
    (k_rr : PySem.W.keepIn K (.ref f_rr) = true)
    (a_ad : PySem.W.findIn K (.ref CR) "__add__" = some (some (.ref f_ad)))
    (i_ad : PySem.W.isFn K (.ref f_ad) = true)
    (l_ad : K.lookup f_ad = some ⟨oc_ad, od_ad, .func (PySem.W.fnOf "__add__" "Ratio.__add__" (defArgs sRAdd) (defBody sRAdd) (defScope sRAdd) .none kV_ad dc_ad pm_ad an_ad cd_ad ct_ad), sl_ad⟩)
    (c_ad : PySem.W.codeIn K cd_ad "Ratio.__add__" = true)
    (k_ad : PySem.W.keepIn K (.ref f_ad) = true)
    (a_ra : PySem.W.findIn K (.ref CR) "__radd__" = some (some (.ref f_ra)))
    (i_ra : PySem.W.isFn K (.ref f_ra) = true)
    (l_ra : K.lookup f_ra = some ⟨oc_ra, od_ra, .func (PySem.W.fnOf "__radd__" "Ratio.__radd__" (defArgs sRRadd) (defBody sRRadd) (defScope sRRadd) .none kV_ra dc_ra pm_ra an_ra cd_ra ct_ra), sl_ra⟩)
    (c_ra : PySem.W.codeIn K cd_ra "Ratio.__radd__" = true)
    (k_ra : PySem.W.keepIn K (.ref f_ra) = true)
    (a_sb : PySem.W.findIn K (.ref CR) "__sub__" = some (some (.ref f_sb)))
    (i_sb : PySem.W.isFn K (.ref f_sb) = true)
    (l_sb : K.lookup f_sb = some ⟨oc_sb, od_sb, .func (PySem.W.fnOf "__sub__" "Ratio.__sub__" (defArgs sRSub) (defBody sRSub) (defScope sRSub) .none kV_sb dc_sb pm_sb an_sb cd_sb ct_sb), sl_sb⟩)
    (c_sb : PySem.W.codeIn K cd_sb "Ratio.__sub__" = true)
    (k_sb : PySem.W.keepIn K (.ref f_sb) = true)
    (a_rb : PySem.W.findIn K (.ref CR) "__rsub__" = some (some (.ref f_rb)))
    (i_rb : PySem.W.isFn K (.ref f_rb) = true)
    (l_rb : K.lookup f_rb = some ⟨oc_rb, od_rb, .func (PySem.W.fnOf "__rsub__" "Ratio.__rsub__" (defArgs sRRsub) (defBody sRRsub) (defScope sRRsub) .none kV_rb dc_rb pm_rb an_rb cd_rb ct_rb), sl_rb⟩)
    (c_rb : PySem.W.codeIn K cd_rb "Ratio.__rsub__" = true)
    (k_rb : PySem.W.keepIn K (.ref f_rb) = true)
    (a_ml : PySem.W.findIn K (.ref CR) "__mul__" = some (some (.ref f_ml)))
    (i_ml : PySem.W.isFn K (.ref f_ml) = true)
    (l_ml : K.lookup f_ml = some ⟨oc_ml, od_ml, .func (PySem.W.fnOf "__mul__" "Ratio.__mul__" (defArgs sRMul) (defBody sRMul) (defScope sRMul) .none kV_ml dc_ml pm_ml an_ml cd_ml ct_ml), sl_ml⟩)
    (c_ml : PySem.W.codeIn K cd_ml "Ratio.__mul__" = true)
    (k_ml : PySem.W.keepIn K (.ref f_ml) = true)
    (a_rm : PySem.W.findIn K (.ref CR) "__rmul__" = some (some (.ref f_rm)))
    (i_rm : PySem.W.isFn K (.ref f_rm) = true)
    (l_rm : K.lookup f_rm = some ⟨oc_rm, od_rm, .func (PySem.W.fnOf "__rmul__" "Ratio.__rmul__" (defArgs sRRmul) (defBody sRRmul) (defScope sRRmul) .none kV_rm dc_rm pm_rm an_rm cd_rm ct_rm), sl_rm⟩)
    (c_rm : PySem.W.codeIn K cd_rm "Ratio.__rmul__" = true)
    (k_rm : PySem.W.keepIn K (.ref f_rm) = true)
    (a_ng : PySem.W.findIn K (.ref CR) "__neg__" = some (some (.ref f_ng)))
    (i_ng : PySem.W.isFn K (.ref f_ng) = true)
    (l_ng : K.lookup f_ng = some ⟨oc_ng, od_ng, .func (PySem.W.fnOf "__neg__" "Ratio.__neg__" (defArgs sRNeg) (defBody sRNeg) (defScope sRNeg) .none kV_ng dc_ng pm_ng an_ng cd_ng ct_ng), sl_ng⟩)
    (c_ng : PySem.W.codeIn K cd_ng "Ratio.__neg__" = true)
    (k_ng : PySem.W.keepIn K (.ref f_ng) = true)
    (a_ov : PySem.W.findIn K (.ref CR) "over" = some (some (.ref f_ov)))
    (i_ov : PySem.W.isFn K (.ref f_ov) = true)
    (l_ov : K.lookup f_ov = some ⟨oc_ov, od_ov, .func (PySem.W.fnOf "over" "Ratio.over" (defArgs sROver) (defBody sROver) (defScope sROver) .none kV_ov dc_ov pm_ov an_ov cd_ov ct_ov), sl_ov⟩)
    (c_ov : PySem.W.codeIn K cd_ov "Ratio.over" = true)
    (k_ov : PySem.W.keepIn K (.ref f_ov) = true)
    (pa_tp : PySem.W.findIn K (.ref CR) "top" = some (some (.ref p_tp)))
    (pg_tp : PySem.W.specialIn K (.ref p_tp) "__get__" = some (some (.builtin "property.__get__")))
    (pt_tp : PySem.W.takesIn K (.ref p_tp) = some true)
    (pr_tp : PySem.W.recIn K p_tp "property" = some (.ref f_tp :: rest_tp))
    (l_tp : K.lookup f_tp = some ⟨oc_tp, od_tp, .func (PySem.W.fnOf "top" "Ratio.top" (defArgs sRTop) (defBody sRTop) (defScope sRTop) .none kV_tp dc_tp pm_tp an_tp cd_tp ct_tp), sl_tp⟩)
    (c_tp : PySem.W.codeIn K cd_tp "Ratio.top" = true)
    (k_tp : PySem.W.keepIn K (.ref f_tp) = true)
    (pa_bt : PySem.W.findIn K (.ref CR) "bottom" = some (some (.ref p_bt)))
    (pg_bt : PySem.W.specialIn K (.ref p_bt) "__get__" = some (some (.builtin "property.__get__")))
    (pt_bt : PySem.W.takesIn K (.ref p_bt) = some true)
    (pr_bt : PySem.W.recIn K p_bt "property" = some (.ref f_bt :: rest_bt))
    (l_bt : K.lookup f_bt = some ⟨oc_bt, od_bt, .func (PySem.W.fnOf "bottom" "Ratio.bottom" (defArgs sRBottom) (defBody sRBottom) (defScope sRBottom) .none kV_bt dc_bt pm_bt an_bt cd_bt ct_bt), sl_bt⟩)
    (c_bt : PySem.W.codeIn K cd_bt "Ratio.bottom" = true)
    (k_bt : PySem.W.keepIn K (.ref f_bt) = true)
    (pa_sg : PySem.W.findIn K (.ref CR) "sign" = some (some (.ref p_sg)))
    (pg_sg : PySem.W.specialIn K (.ref p_sg) "__get__" = some (some (.builtin "property.__get__")))
    (pt_sg : PySem.W.takesIn K (.ref p_sg) = some true)
    (pr_sg : PySem.W.recIn K p_sg "property" = some (.ref f_sg :: rest_sg))
    (l_sg : K.lookup f_sg = some ⟨oc_sg, od_sg, .func (PySem.W.fnOf "sign" "Ratio.sign" (defArgs sRSign) (defBody sRSign) (defScope sRSign) .none kV_sg dc_sg pm_sg an_sg cd_sg ct_sg), sl_sg⟩)
    (c_sg : PySem.W.codeIn K cd_sg "Ratio.sign" = true)
    (k_sg : PySem.W.keepIn K (.ref f_sg) = true)
    (o_rd : PySem.W.readsIn K CR (.type "type") = true)
    (o_ga : PySem.W.specialIn K (.ref CR) "__getattribute__" = some (some (.builtin "type.__getattribute__")))
    (o_at : PySem.W.findCls K (.ref CR) (.type "type") "total" = some (.get (.builtin "classmethod.__get__") (.ref pO) .none (.ref CR)))
    (o_rec : PySem.W.recIn K pO "classmethod" = some (.ref f_tt :: restO))
    (o_fi : PySem.W.fnIn K f_tt = true)
    (l_tt : K.lookup f_tt = some ⟨oc_tt, od_tt, .func (PySem.W.fnOf "total" "Ratio.total" (defArgs sRTotal) (defBody sRTotal) (defScope sRTotal) .none kV_tt dc_tt pm_tt an_tt cd_tt ct_tt), sl_tt⟩)
    (c_tt : PySem.W.codeIn K cd_tt "Ratio.total" = true)
    (k_tt : PySem.W.keepIn K (.ref f_tt) = true)
    (g_gcd : PySem.W.nsIn K mainGlobals "gcd" = some (some (.builtin "math.gcd")))
    (z_len : PySem.W.nsIn K mainGlobals "len" = some none)
    (z_abs : PySem.W.nsIn K mainGlobals "abs" = some none)
    (z_max : PySem.W.nsIn K mainGlobals "max" = some none)
    (z_min : PySem.W.nsIn K mainGlobals "min" = some none)
    (z_int : PySem.W.nsIn K mainGlobals "int" = some none)
    (z_divmod : PySem.W.nsIn K mainGlobals "divmod" = some none)
    (z_range : PySem.W.nsIn K mainGlobals "range" = some none)
    (z_all : PySem.W.nsIn K mainGlobals "all" = some none)
    (z_isinstance : PySem.W.nsIn K mainGlobals "isinstance" = some none)
    (z_bool : PySem.W.nsIn K mainGlobals "bool" = some none)
    (z_str : PySem.W.nsIn K mainGlobals "str" = some none)
    (z_repr : PySem.W.nsIn K mainGlobals "repr" = some none)
    : ∀ base : Heap, K.In base → base.Ns mainGlobals mg → base.NoDigits → FnG l.prog w K mg base 9 fa (spLaw K) := by
  intro base _ _ nd
  have e := hfa.symm.trans (PySem.W.mg_of X G a_law)
  cases e
  have F_isI := fun_mk (st := sIsInt) l_isI c_isI k_isI
  have b_isI := F_isI.binds (ps := ["value"]) fun _ _ _ _ _ _ us hl => match us, hl with | [_], _ => rfl
  have m_isI := PySem.W.mg_of X G a_isI
  have F_asR := fun_mk (st := sAsRatio) l_asR c_asR k_asR
  have b_asR := F_asR.binds (ps := ["value"]) fun _ _ _ _ _ _ us hl => match us, hl with | [_], _ => rfl
  have m_asR := PySem.W.mg_of X G a_asR
  have F_jar := fun_mk (st := sJar) l_jar c_jar k_jar
  have b_jar := F_jar.binds (ps := ["_law_script", "_law_k"]) fun _ _ _ _ _ _ us hl => match us, hl with | [_, _], _ => rfl
  have m_jar := PySem.W.mg_of X G a_jar
  have F_dip := fun_mk (st := sDip) l_dip c_dip k_dip
  have b_dip := F_dip.binds (ps := ["_law_jar_here", "_law_many"]) fun _ _ _ _ _ _ us hl => match us, hl with | [_, _], _ => rfl
  have m_dip := PySem.W.mg_of X G a_dip
  have F_cho := fun_mk (st := sChoice) l_cho c_cho k_cho
  have b_cho := F_cho.binds (ps := ["_law_jar_here", "_law_some"]) fun _ _ _ _ _ _ us hl => match us, hl with | [_, _], _ => rfl
  have m_cho := PySem.W.mg_of X G a_cho
  have F_com := fun_mk (st := sCommon) l_com c_com k_com
  have b_com := F_com.binds (ps := ["_law_one", "_law_two"]) fun _ _ _ _ _ _ us hl => match us, hl with | [_, _], _ => rfl
  have m_com := PySem.W.mg_of X G a_com
  have F_low := fun_mk (st := sLowest) l_low c_low k_low
  have b_low := F_low.binds (ps := ["_law_up", "_law_low"]) fun _ _ _ _ _ _ us hl => match us, hl with | [_, _], _ => rfl
  have m_low := PySem.W.mg_of X G a_low
  have F_sum := fun_mk (st := sSum) l_sum c_sum k_sum
  have b_sum := F_sum.binds (ps := ["_law_one", "_law_two"]) fun _ _ _ _ _ _ us hl => match us, hl with | [_, _], _ => rfl
  have m_sum := PySem.W.mg_of X G a_sum
  have F_tim := fun_mk (st := sTimes) l_tim c_tim k_tim
  have b_tim := F_tim.binds (ps := ["_law_one", "_law_two"]) fun _ _ _ _ _ _ us hl => match us, hl with | [_, _], _ => rfl
  have m_tim := PySem.W.mg_of X G a_tim
  have F_int := fun_mk (st := sInteger) l_int c_int k_int
  have b_int := F_int.binds (ps := ["_law_jar_here"]) fun _ _ _ _ _ _ us hl => match us, hl with | [_], _ => rfl
  have m_int := PySem.W.mg_of X G a_int
  have F_par := fun_mk (st := sParts) l_par c_par k_par
  have b_par := F_par.binds (ps := ["_law_jar_here"]) fun _ _ _ _ _ _ us hl => match us, hl with | [_], _ => rfl
  have m_par := PySem.W.mg_of X G a_par
  have F_wrd := fun_mk (st := sWords) l_wrd c_wrd k_wrd
  have b_wrd := F_wrd.binds (ps := ["_law_pair"]) fun _ _ _ _ _ _ us hl => match us, hl with | [_], _ => rfl
  have m_wrd := PySem.W.mg_of X G a_wrd
  have F_is := fun_mk (st := sIs) l_is c_is k_is
  have b_is := F_is.binds (ps := ["_law_made_here", "_law_due"]) fun _ _ _ _ _ _ us hl => match us, hl with | [_, _], _ => rfl
  have m_is := PySem.W.mg_of X G a_is
  have F_row := fun_mk (st := sRows) l_row c_row k_row
  have b_row := F_row.binds (ps := ["_law_one", "_law_pair", "_law_two", "_law_second", "_law_n"]) fun _ _ _ _ _ _ us hl => match us, hl with | [_, _, _, _, _], _ => rfl
  have m_row := PySem.W.mg_of X G a_row
  have F_mad := fun_mk (st := sMade) l_mad c_mad k_mad
  have b_mad := F_mad.binds (ps := ["_law_jar_here"]) fun _ _ _ _ _ _ us hl => match us, hl with | [_], _ => rfl
  have m_mad := PySem.W.mg_of X G a_mad
  have F_rgt := fun_mk (st := sRight) l_rgt c_rgt k_rgt
  have b_rgt := F_rgt.binds (ps := ["_law_jar_here"]) fun _ _ _ _ _ _ us hl => match us, hl with | [_], _ => rfl
  have m_rgt := PySem.W.mg_of X G a_rgt
  have F_law := fun_mk (st := sLaw) l_law c_law k_law
  have b_law := F_law.binds (ps := ["_law_script"]) fun _ _ _ _ _ _ us hl => match us, hl with | [_], _ => rfl
  have m_law := PySem.W.mg_of X G a_law
  have y_len := PySem.W.mg_none_of X G z_len
  have y_abs := PySem.W.mg_none_of X G z_abs
  have y_max := PySem.W.mg_none_of X G z_max
  have y_min := PySem.W.mg_none_of X G z_min
  have y_int := PySem.W.mg_none_of X G z_int
  have y_divmod := PySem.W.mg_none_of X G z_divmod
  have y_range := PySem.W.mg_none_of X G z_range
  have y_all := PySem.W.mg_none_of X G z_all
  have y_isinstance := PySem.W.mg_none_of X G z_isinstance
  have y_bool := PySem.W.mg_none_of X G z_bool
  have y_str := PySem.W.mg_none_of X G z_str
  have y_repr := PySem.W.mg_none_of X G z_repr
  have mR := PySem.W.mg_of X G a_CR
  have clR : Cls K CR := ⟨pg_CR, hd_CR, po_CR, sa_CR⟩
  have iR : InsK K CR := ⟨clR, ha_CR, hn, htk, hm_CR⟩
  have kk : KI K CR := ⟨kit_tr ic_CR tc_CR u_int, kit_rr ic_CR tc_CR sr_CR⟩
  have T : Txt mg := ⟨y_len, y_abs, y_max, y_min, y_int, y_divmod, y_range, y_all⟩
  have TN : TxtN mg CR := ⟨y_isinstance, y_int, y_bool⟩
  have TR' : TxtR K mg CR := ⟨clR, nT, nB, mR, PySem.W.mg_of X G g_gcd, y_str, y_isinstance, sf_CR⟩
  have TL : TxtL mg := ⟨y_isinstance, y_int, y_str, y_repr⟩
  have TG : TxtG mg := ⟨y_all, y_range, y_repr⟩
  have C_isI : Cl l.prog w K mg base 1 "is_integer" ["value"] (spIsInt K CR) := ⟨_, _, ok_isInt F_isI TN, m_isI, k_isI, b_isI⟩
  have C_jar : Cl l.prog w K mg base 1 "_law_jar" ["_law_script", "_law_k"] (spJar K) := ⟨_, _, ok_jar F_jar T, m_jar, k_jar, b_jar⟩
  have C_dip : Cl l.prog w K mg base 1 "_law_dip" ["_law_jar_here", "_law_many"] spDip := ⟨_, _, ok_dip F_dip T, m_dip, k_dip, b_dip⟩
  have C_cho : Cl l.prog w K mg base 2 "_law_choice" ["_law_jar_here", "_law_some"] (spChoice K) := ⟨_, _, ok_choice F_cho T C_dip, m_cho, k_cho, b_cho⟩
  have C_int : Cl l.prog w K mg base 3 "_law_integer" ["_law_jar_here"] spInteger := ⟨_, _, ok_integer F_int T C_dip C_cho, m_int, k_int, b_int⟩
  have C_par : Cl l.prog w K mg base 4 "_law_parts" ["_law_jar_here"] spParts := ⟨_, _, ok_parts F_par C_int, m_par, k_par, b_par⟩
  have C_com : Cl l.prog w K mg base 1 "_law_common" ["_law_one", "_law_two"] spCommon := ⟨_, _, ok_common F_com T, m_com, k_com, b_com⟩
  have C_low : Cl l.prog w K mg base 2 "_law_lowest" ["_law_up", "_law_low"] (spLowest K) := ⟨_, _, ok_lowest F_low C_com, m_low, k_low, b_low⟩
  have C_sum : Cl l.prog w K mg base 3 "_law_sum" ["_law_one", "_law_two"] (spP2 K sumP) := ⟨_, _, ok_sum F_sum C_low, m_sum, k_sum, b_sum⟩
  have C_tim : Cl l.prog w K mg base 3 "_law_times" ["_law_one", "_law_two"] (spP2 K mulP) := ⟨_, _, ok_times F_tim C_low, m_tim, k_tim, b_tim⟩
  have C_wrd : Cl l.prog w K mg base 1 "_law_words" ["_law_pair"] (spWords K) := ⟨_, _, ok_words F_wrd nd y_str, m_wrd, k_wrd, b_wrd⟩
  have D_ri : FunD K "__init__" "Ratio.__init__" (defArgs sRInit) (defBody sRInit) (defScope sRInit) [.int 1] [] f_ri _ := ⟨⟨_, _, _, _, _, _, _, _, _, _, rfl, l_ri, c_ri, .inr ⟨by simp, TR, _, [.int 1 tkR], _, rfl, d_ri, rfl, .cons ⟨_, rfl⟩ .nil⟩, .inl rfl⟩, k_ri⟩
  have O_ri : FnOk l.prog w K mg base CX0 2 f_ri _ ["self", "top", "bottom"] (spRInit CR) := ok_rInit D_ri TR' C_isI kk.i
  obtain ⟨ds2, v2, b2⟩ := D_ri.binds1 (ps := ["self", "top", "bottom"]) 2 0 (by simp) (by decide) (fun T kV doc pm an cdv ct us its h1 h2 => match us, h1, its, h2 with | [_, _], _, [_], _ => ⟨_, rfl, rfl⟩)
  obtain ⟨ds3, v3, b3⟩ := D_ri.binds1 (ps := ["self", "top", "bottom"]) 3 1 (by simp) (by decide) (fun T kV doc pm an cdv ct us its h1 h2 => match us, h1, its, h2 with | [_, _, _], _, [_], _ => ⟨_, rfl, rfl⟩)
  obtain ⟨itn, bn⟩ := D_ri.kbindsD (ps := ["self", "top", "bottom"]) 1 ["bottom", "top"] (fun us its ws => gK us its ws) (by simp) gk_rel (fun T kV doc pm an cdv ct us its ws h1 h2 h3 => match us, h1, its, h2, ws, h3 with | [_], _, [_], _, [_, _], _ => ⟨_, rfl, rfl⟩)
  have M_R : Mk K CR f_ri := ⟨mk_CR, a_ri, i_ri, kc_CR⟩
  have C_R2 : MkC l.prog w K mg base 2 "Ratio" CR ["self", "top", "bottom"] [.int 1] (spRInit CR) := ⟨_, _, _, M_R, O_ri, mR, v2, b2⟩
  have C_R3 : MkC l.prog w K mg base 2 "Ratio" CR ["self", "top", "bottom"] [] (spRInit CR) := ⟨_, _, _, M_R, O_ri, mR, v3, b3⟩
  have C_RN : MkN l.prog w K mg base 2 "Ratio" CR ["bottom", "top"] (fun vs zs => gK vs [.int 1] zs) (spRInit CR) := ⟨_, _, _, _, M_R, O_ri, mR, bn⟩
  have C_asR : Cl l.prog w K mg base 4 "as_ratio" ["value"] (spAsRatio CR) := ⟨_, _, ok_asRatio F_asR TR' C_R2 iR kk, m_asR, k_asR, b_asR⟩
  have F_rs := fun_mk (st := sRStr) l_rs c_rs k_rs
  have b_rs := F_rs.binds (ps := ["self"]) fun _ _ _ _ _ _ us hl => match us, hl with | [_], _ => rfl
  have F_rr := fun_mk (st := sRRepr) l_rr c_rr k_rr
  have b_rr := F_rr.binds (ps := ["self"]) fun _ _ _ _ _ _ us hl => match us, hl with | [_], _ => rfl
  have F_ad := fun_mk (st := sRAdd) l_ad c_ad k_ad
  have b_ad := F_ad.binds (ps := ["self", "other"]) fun _ _ _ _ _ _ us hl => match us, hl with | [_, _], _ => rfl
  have F_ra := fun_mk (st := sRRadd) l_ra c_ra k_ra
  have b_ra := F_ra.binds (ps := ["self", "other"]) fun _ _ _ _ _ _ us hl => match us, hl with | [_, _], _ => rfl
  have F_sb := fun_mk (st := sRSub) l_sb c_sb k_sb
  have b_sb := F_sb.binds (ps := ["self", "other"]) fun _ _ _ _ _ _ us hl => match us, hl with | [_, _], _ => rfl
  have F_rb := fun_mk (st := sRRsub) l_rb c_rb k_rb
  have b_rb := F_rb.binds (ps := ["self", "other"]) fun _ _ _ _ _ _ us hl => match us, hl with | [_, _], _ => rfl
  have F_ml := fun_mk (st := sRMul) l_ml c_ml k_ml
  have b_ml := F_ml.binds (ps := ["self", "other"]) fun _ _ _ _ _ _ us hl => match us, hl with | [_, _], _ => rfl
  have F_rm := fun_mk (st := sRRmul) l_rm c_rm k_rm
  have b_rm := F_rm.binds (ps := ["self", "other"]) fun _ _ _ _ _ _ us hl => match us, hl with | [_, _], _ => rfl
  have F_ng := fun_mk (st := sRNeg) l_ng c_ng k_ng
  have b_ng := F_ng.binds (ps := ["self"]) fun _ _ _ _ _ _ us hl => match us, hl with | [_], _ => rfl
  have F_ov := fun_mk (st := sROver) l_ov c_ov k_ov
  have b_ov := F_ov.binds (ps := ["self", "other"]) fun _ _ _ _ _ _ us hl => match us, hl with | [_, _], _ => rfl
  have F_tp := fun_mk (st := sRTop) l_tp c_tp k_tp
  have b_tp := F_tp.binds (ps := ["self"]) fun _ _ _ _ _ _ us hl => match us, hl with | [_], _ => rfl
  have F_bt := fun_mk (st := sRBottom) l_bt c_bt k_bt
  have b_bt := F_bt.binds (ps := ["self"]) fun _ _ _ _ _ _ us hl => match us, hl with | [_], _ => rfl
  have F_sg := fun_mk (st := sRSign) l_sg c_sg k_sg
  have b_sg := F_sg.binds (ps := ["self"]) fun _ _ _ _ _ _ us hl => match us, hl with | [_], _ => rfl
  have P_tp : Pr l.prog w K mg base CR "top" (spRTop CR) := ⟨p_tp, f_tp, _, ⟨pa_tp, pg_tp, pt_tp, _, pr_tp⟩, ok_rTop F_tp TR', b_tp⟩
  have P_bt : Pr l.prog w K mg base CR "bottom" (spRBot CR) := ⟨p_bt, f_bt, _, ⟨pa_bt, pg_bt, pt_bt, _, pr_bt⟩, ok_rBot F_bt TR', b_bt⟩
  have P_sg : Pr l.prog w K mg base CR "sign" (spRSign CR) := ⟨p_sg, f_sg, _, ⟨pa_sg, pg_sg, pt_sg, _, pr_sg⟩, ok_rSign F_sg TR', b_sg⟩
  have S_rs : Sl l.prog w K mg base CR "__str__" 1 (spRStr CR) := ⟨_, _, _, ok_rStr F_rs TR' nd, b_rs, a_rs, i_rs⟩
  have S_rr : Sl l.prog w K mg base CR "__repr__" 1 (spRRepr CR) := ⟨_, _, _, ok_rRepr F_rr TR' nd, b_rr, a_rr, i_rr⟩
  have e_add : PySem.dunder "add" = ("__add__" : Str) := by decide +kernel
  have er_add : dunderR "add" = ("__radd__" : Str) := by decide +kernel
  have e_sub : PySem.dunder "sub" = ("__sub__" : Str) := by decide +kernel
  have er_sub : dunderR "sub" = ("__rsub__" : Str) := by decide +kernel
  have e_mul : PySem.dunder "mul" = ("__mul__" : Str) := by decide +kernel
  have er_mul : dunderR "mul" = ("__rmul__" : Str) := by decide +kernel
  have OI_add : IntO K CR .Add := ⟨⟨f_ra, er_add.symm ▸ a_ra⟩, ⟨_, e_add.symm ▸ ib_add⟩, ⟨_, er_add.symm ▸ ir_add⟩, u_int⟩
  have OR_add : RefO K CR .Add := ⟨⟨f_ad, e_add.symm ▸ a_ad⟩, ⟨_, e_add.symm ▸ ib_add, by decide +kernel⟩, ⟨_, er_add.symm ▸ ir_add⟩, si_CR⟩
  have OI_sub : IntO K CR .Sub := ⟨⟨f_rb, er_sub.symm ▸ a_rb⟩, ⟨_, e_sub.symm ▸ ib_sub⟩, ⟨_, er_sub.symm ▸ ir_sub⟩, u_int⟩
  have OR_sub : RefO K CR .Sub := ⟨⟨f_sb, e_sub.symm ▸ a_sb⟩, ⟨_, e_sub.symm ▸ ib_sub, by decide +kernel⟩, ⟨_, er_sub.symm ▸ ir_sub⟩, si_CR⟩
  have OI_mul : IntO K CR .Mult := ⟨⟨f_rm, er_mul.symm ▸ a_rm⟩, ⟨_, e_mul.symm ▸ ib_mul⟩, ⟨_, er_mul.symm ▸ ir_mul⟩, u_int⟩
  have OR_mul : RefO K CR .Mult := ⟨⟨f_ml, e_mul.symm ▸ a_ml⟩, ⟨_, e_mul.symm ▸ ib_mul, by decide +kernel⟩, ⟨_, er_mul.symm ▸ ir_mul⟩, si_CR⟩
  have S_ad : Sl l.prog w K mg base CR (PySem.dunder "add") 5 (spBin CR sumP fun _ => True) := ⟨_, _, _, ok_rAdd F_ad TR' C_R3 C_asR P_tp P_bt, b_ad, e_add.symm ▸ a_ad, i_ad⟩
  have S_ml : Sl l.prog w K mg base CR (PySem.dunder "mul") 5 (spBin CR mulP fun _ => True) := ⟨_, _, _, ok_rMul F_ml TR' C_R3 C_asR P_tp P_bt, b_ml, e_mul.symm ▸ a_ml, i_ml⟩
  have S_ng : Sl l.prog w K mg base CR "__neg__" 4 (spNeg CR) := ⟨_, _, _, ok_rNeg F_ng TR' C_R3, b_ng, a_ng, i_ng⟩
  have OO : Ops l.prog w K mg base CR := ⟨S_ad, S_ml, S_ng, OI_add, OI_mul, sf_CR⟩
  have S_sb : Sl l.prog w K mg base CR (PySem.dunder "sub") 6 (spBin CR (fun p q => sumP p (negP q)) fun _ => True) := ⟨_, _, _, ok_rSub F_sb OO C_asR, b_sb, e_sub.symm ▸ a_sb, i_sb⟩
  have S_ra : Sl l.prog w K mg base CR (dunderR "add") 6 (spRBin CR sumP) := ⟨_, _, _, ok_rRadd F_ra OO C_isI kk, b_ra, er_add.symm ▸ a_ra, i_ra⟩
  have S_rb : Sl l.prog w K mg base CR (dunderR "sub") 6 (spRBin CR fun p q => sumP (negP p) q) := ⟨_, _, _, ok_rRsub F_rb OO C_isI kk, b_rb, er_sub.symm ▸ a_rb, i_rb⟩
  have S_rm : Sl l.prog w K mg base CR (dunderR "mul") 6 (spRBin CR mulP) := ⟨_, _, _, ok_rRmul F_rm OO C_isI kk, b_rm, er_mul.symm ▸ a_rm, i_rm⟩
  have N_ov : MeN l.prog w K mg base 5 CR "over" ["other"] (spBin CR divP fun q => q.1 ≠ 0) := ⟨f_ov, _, ["self", "other"], ⟨a_ov, i_ov, k_ov⟩, ok_rOver F_ov TR' C_R3 C_asR P_tp P_bt, b_ov, rfl, fun s a ws hl => match ws, hl with | [_], _ => .of_eq rfl⟩
  have O_tt : FnR l.prog w K mg base CX0 6 f_tt (TotSp CR) := ok_rTotal l_tt c_tt C_R2 OO
  have TT : Tot l.prog w K mg base CR := ⟨⟨.type "type", pO, f_tt, ⟨o_rd, o_ga⟩, ⟨o_at, ⟨_, o_rec⟩, o_fi⟩, O_tt⟩, mR⟩
  have RR : RO l.prog w K mg base CR := ⟨S_ad, S_sb, S_ml, S_ra, S_rb, S_rm, S_ng, OI_add, OI_sub, OI_mul, OR_add, OR_sub, OR_mul, sf_CR, N_ov, TT, clR⟩
  have C_is : Cl l.prog w K mg base 4 "_law_is" ["_law_made_here", "_law_due"] (spIs K CR) := ⟨_, _, ok_is F_is TR' TL nd iR kk P_tp P_bt P_sg S_rs S_rr C_wrd, m_is, k_is, b_is⟩
  have C_row : Cl l.prog w K mg base 7 "_law_rows" ["_law_one", "_law_pair", "_law_two", "_law_second", "_law_n"] (spRows K CR) := ⟨_, _, ok_rows F_row RR C_low C_sum C_tim, m_row, k_row, b_row⟩
  have C_mad : Cl l.prog w K mg base 5 "_law_made" ["_law_jar_here"] (spMade K CR) := ⟨_, _, ok_made F_mad C_par C_dip C_low C_R2 C_R3 C_RN, m_mad, k_mad, b_mad⟩
  have C_rgt : ClG l.prog w K mg base 8 "_law_right" spRight := ⟨_, ok_right F_rgt b_rgt TG C_mad C_dip C_cho C_int C_is C_row S_rr, m_rgt, k_rgt⟩
  exact ok_law F_law b_law T C_jar C_rgt
end Cm
end

open PySem PySem.W PyProof.Rows
set_option maxRecDepth 100000 in
set_option maxHeartbeats 0 in
theorem PySem.Challenge.cw_calledmidway_k11_whole_ratios_by_rows_of_holds : PySem.Challenge.rw_calledmidway_k11_whole_ratios_by_rows_of.Holds := by
  w_on; o_law; k_head; (case hw => w_witness2)
  k_fill
  refine KG.walk_ofG (l := PySem.Challenge.rw_calledmidway_k11_whole_ratios_by_rows_of) (n := 63) (k := 9) (sp := Cm.spLaw) rfl (by decide) rfl ⟨rfl, by decide, by decide⟩ (fun w h Y => PySem.W.kIn_of Y) ?F (fun K H a ns hl _ hS => ⟨a, ns, rfl, hS, hl, fun _ => rfl⟩)
  case F =>
    intro w mg fa h KX G hmg
    refine' Cm.all_mk KX G hmg ?a_isI ?l_isI ?c_isI ?k_isI ?a_asR ?l_asR ?c_asR ?k_asR ?a_jar ?l_jar ?c_jar ?k_jar ?a_dip ?l_dip ?c_dip ?k_dip ?a_cho ?l_cho ?c_cho ?k_cho ?a_com ?l_com ?c_com ?k_com ?a_low ?l_low ?c_low ?k_low ?a_sum ?l_sum ?c_sum ?k_sum ?a_tim ?l_tim ?c_tim ?k_tim ?a_int ?l_int ?c_int ?k_int ?a_par ?l_par ?c_par ?k_par ?a_wrd ?l_wrd ?c_wrd ?k_wrd ?a_is ?l_is ?c_is ?k_is ?a_row ?l_row ?c_row ?k_row ?a_mad ?l_mad ?c_mad ?k_mad ?a_rgt ?l_rgt ?c_rgt ?k_rgt ?a_law ?l_law ?c_law ?k_law ?a_CR ?pg_CR ?hd_CR ?po_CR ?sa_CR ?mk_CR ?kc_CR ?ha_CR ?hm_CR ?ic_CR ?tc_CR ?si_CR ?sr_CR ?sf_CR ?hn ?htk ?u_int ?nT ?nB ?ib_add ?ir_add ?ib_sub ?ir_sub ?ib_mul ?ir_mul ?a_ri ?i_ri ?l_ri ?c_ri ?k_ri ?d_ri ?a_rs ?i_rs ?l_rs ?c_rs ?k_rs ?a_rr ?i_rr ?l_rr ?c_rr ?k_rr ?a_ad ?i_ad ?l_ad ?c_ad ?k_ad ?a_ra ?i_ra ?l_ra ?c_ra ?k_ra ?a_sb ?i_sb ?l_sb ?c_sb ?k_sb ?a_rb ?i_rb ?l_rb ?c_rb ?k_rb ?a_ml ?i_ml ?l_ml ?c_ml ?k_ml ?a_rm ?i_rm ?l_rm ?c_rm ?k_rm ?a_ng ?i_ng ?l_ng ?c_ng ?k_ng ?a_ov ?i_ov ?l_ov ?c_ov ?k_ov ?pa_tp ?pg_tp ?pt_tp ?pr_tp ?l_tp ?c_tp ?k_tp ?pa_bt ?pg_bt ?pt_bt ?pr_bt ?l_bt ?c_bt ?k_bt ?pa_sg ?pg_sg ?pt_sg ?pr_sg ?l_sg ?c_sg ?k_sg ?o_rd ?o_ga ?o_at ?o_rec ?o_fi ?l_tt ?c_tt ?k_tt ?g_gcd ?z_len ?z_abs ?z_max ?z_min ?z_int ?z_divmod ?z_range ?z_all ?z_isinstance ?z_bool ?z_str ?z_repr
    (case a_isI => k_is)
    (case l_isI => k_is)
    (case c_isI => k_is)
    (case k_isI => k_is)
    (case a_asR => k_is)
    (case l_asR => k_is)
    (case c_asR => k_is)
    (case k_asR => k_is)
    (case a_jar => k_is)
    (case l_jar => k_is)
    (case c_jar => k_is)
    (case k_jar => k_is)
    (case a_dip => k_is)
    (case l_dip => k_is)
    (case c_dip => k_is)
    (case k_dip => k_is)
    (case a_cho => k_is)
    (case l_cho => k_is)
    (case c_cho => k_is)
    (case k_cho => k_is)
    (case a_com => k_is)
    (case l_com => k_is)
    (case c_com => k_is)
    (case k_com => k_is)
    (case a_low => k_is)
    (case l_low => k_is)
    (case c_low => k_is)
    (case k_low => k_is)
    (case a_sum => k_is)
    (case l_sum => k_is)
    (case c_sum => k_is)
    (case k_sum => k_is)
    (case a_tim => k_is)
    (case l_tim => k_is)
    (case c_tim => k_is)
    (case k_tim => k_is)
    (case a_int => k_is)
    (case l_int => k_is)
    (case c_int => k_is)
    (case k_int => k_is)
    (case a_par => k_is)
    (case l_par => k_is)
    (case c_par => k_is)
    (case k_par => k_is)
    (case a_wrd => k_is)
    (case l_wrd => k_is)
    (case c_wrd => k_is)
    (case k_wrd => k_is)
    (case a_is => k_is)
    (case l_is => k_is)
    (case c_is => k_is)
    (case k_is => k_is)
    (case a_row => k_is)
    (case l_row => k_is)
    (case c_row => k_is)
    (case k_row => k_is)
    (case a_mad => k_is)
    (case l_mad => k_is)
    (case c_mad => k_is)
    (case k_mad => k_is)
    (case a_rgt => k_is)
    (case l_rgt => k_is)
    (case c_rgt => k_is)
    (case k_rgt => k_is)
    (case a_law => k_is)
    (case l_law => k_is)
    (case c_law => k_is)
    (case k_law => k_is)
    (case a_CR => k_is)
    (case pg_CR => k_is)
    (case hd_CR => k_is)
    (case po_CR => k_is)
    (case sa_CR => k_is)
    (case mk_CR => k_is)
    (case kc_CR => k_is)
    (case ha_CR => k_is)
    (case hm_CR => k_is)
    (case ic_CR => k_is)
    (case tc_CR => k_is)
    (case si_CR => k_is)
    (case sr_CR => k_is)
    (case sf_CR => k_is)
    (case hn => k_is)
    (case htk => k_is)
    (case u_int => k_is)
    (case nT => k_is)
    (case nB => k_is)
    (case ib_add => k_is)
    (case ir_add => k_is)
    (case ib_sub => k_is)
    (case ir_sub => k_is)
    (case ib_mul => k_is)
    (case ir_mul => k_is)
    (case a_ri => k_is)
    (case i_ri => k_is)
    (case l_ri => k_is)
    (case c_ri => k_is)
    (case k_ri => k_is)
    (case d_ri => k_is)
    (case a_rs => k_is)
    (case i_rs => k_is)
    (case l_rs => k_is)
    (case c_rs => k_is)
    (case k_rs => k_is)
    (case a_rr => k_is)
    (case i_rr => k_is)
    (case l_rr => k_is)
    (case c_rr => k_is)
    (case k_rr => k_is)
    (case a_ad => k_is)
    (case i_ad => k_is)
    (case l_ad => k_is)
    (case c_ad => k_is)
    (case k_ad => k_is)
    (case a_ra => k_is)
    (case i_ra => k_is)
    (case l_ra => k_is)
    (case c_ra => k_is)
    (case k_ra => k_is)
    (case a_sb => k_is)
    (case i_sb => k_is)
    (case l_sb => k_is)
    (case c_sb => k_is)
    (case k_sb => k_is)
    (case a_rb => k_is)
    (case i_rb => k_is)
    (case l_rb => k_is)
    (case c_rb => k_is)
    (case k_rb => k_is)
    (case a_ml => k_is)
    (case i_ml => k_is)
    (case l_ml => k_is)
    (case c_ml => k_is)
    (case k_ml => k_is)
    (case a_rm => k_is)
    (case i_rm => k_is)
    (case l_rm => k_is)
    (case c_rm => k_is)
    (case k_rm => k_is)
    (case a_ng => k_is)
    (case i_ng => k_is)
    (case l_ng => k_is)
    (case c_ng => k_is)
    (case k_ng => k_is)
    (case a_ov => k_is)
    (case i_ov => k_is)
    (case l_ov => k_is)
    (case c_ov => k_is)
    (case k_ov => k_is)
    (case pa_tp => k_is)
    (case pg_tp => k_is)
    (case pt_tp => k_is)
    (case pr_tp => k_is)
    (case l_tp => k_is)
    (case c_tp => k_is)
    (case k_tp => k_is)
    (case pa_bt => k_is)
    (case pg_bt => k_is)
    (case pt_bt => k_is)
    (case pr_bt => k_is)
    (case l_bt => k_is)
    (case c_bt => k_is)
    (case k_bt => k_is)
    (case pa_sg => k_is)
    (case pg_sg => k_is)
    (case pt_sg => k_is)
    (case pr_sg => k_is)
    (case l_sg => k_is)
    (case c_sg => k_is)
    (case k_sg => k_is)
    (case o_rd => k_is)
    (case o_ga => k_is)
    (case o_at => k_is)
    (case o_rec => k_is)
    (case o_fi => k_is)
    (case l_tt => k_is)
    (case c_tt => k_is)
    (case k_tt => k_is)
    (case g_gcd => k_is)
    (case z_len => k_is)
    (case z_abs => k_is)
    (case z_max => k_is)
    (case z_min => k_is)
    (case z_int => k_is)
    (case z_divmod => k_is)
    (case z_range => k_is)
    (case z_all => k_is)
    (case z_isinstance => k_is)
    (case z_bool => k_is)
    (case z_str => k_is)
    (case z_repr => k_is)
