import PyProof.Rows.All
import Wide.All
import OpenK.AllK
import Wide.FinOn
import HandS.ForMost
import HandS.Wide
import HandS.IsInst
import HandS.SortInts
import HandS.TupAny
import HandS.Conv
import HandS.Zip
import KE.GoesEnum
import HandS.Style
import HandS.TupLe
import HandS.Exc
import HandS.ExcInit
import HandS.ExcOwn
import HandS.ExcField
import HandS.ExcValue
import HandS.WordsExc
import HandS.CallSlots
import HandS.ExcIs
import KE.KExcIs
import KE.KExcInit
import KE.KExcHand
import KE.KTryMore
import KE.KIsAll
import KE.KExcLine
import PySem.Challenge.RW_lackcry_k04_lots_by_number_to_sixty
set_option Elab.async false
set_option linter.all false
set_option maxRecDepth 100000
set_option maxHeartbeats 4000000
namespace My
open PySem PySem.Spec PyProof.Rows L2
/-! ### a def of the top, as callers use it -/
structure DefAt (K : PySem.W.Frag) (mg : Str → Option Value) (x : Str) (st : Stmt) (ps : List Str) (f : Addr) (fd : FuncData) : Prop where
  F : Fun K x x st f fd
  g : mg x = some (.ref f)
  b : Binds K fd ps []
section
variable {X : Cx} {CX : CXT} {k : Nat} {f : Addr} {fd : FuncData} {ps ks : List Str} {sp : Sp} {E : XK} {x : Str} {p pos : Pos} {kws : List Keyword} {tk : TA} {g : List Value → List Value → List Value} {gV : List V → List V → List V}
/-- f(k = v, ..), nothing by position -/
theorem pe_callK0 (F : FnOk X.prog X.w X.K X.mg X.base CX k f fd ps sp) (hr : Room k X.A) (hg : Gl X x) (hm : X.mg x = some (.ref f)) (hk : PySem.W.keepIn X.K (.ref f) = true) (hb : KBinds X.K fd ps ks g gV) (hx : Passes CX X E)
    (hkw : PK X kws tk) (hall : (backToKw pos (keywordEach kws X.env)).all (·.1.isSome) = true := by rfl) (hks : (backToKw pos (keywordEach kws X.env)).filterMap (·.1) = ks := by rfl)
    (hdb : (x == ("__debug__" : Str)) = false := by decide)
    (hpl : ((backTo pos (starEach [] X.env)).any (·.1) || (backToKw pos (keywordEach kws X.env)).any (·.1.isNone)) = false := by rfl) :
    PE X (.Call (.Name x p) [] kws pos) (tCallK sp gV E tNil tk) := by
  refine ⟨fun pins s σ H Q I h => ?_⟩
  refine wpAny_Call_Name_kw (ld_glob I hg hm ?_ hdb)
  refine PySem.W.callWith_KW0 (h₀ := X.base) I.ok.mod.kin hk hall (thn (hkw.run pos pins s σ H _ I h) fun ws s2 ⟨zs, H2, I2, rz, q2⟩ => ⟨I2.kIn, ?_⟩) hpl
  rw [hks]
  exact run_fnk (us := []) (vs := []) F hr hb hx I2 .nil rz q2
/-- a power of a great base -/
def CPowW (i j : Int) : Prop := 0 ≤ j ∧ (Builtin.Int.intBits i : Int) * j ≤ 2 ^ 27
theorem op_powW : OpR X (binaryOp .Pow) (rI CPowW fun i j => .int (i ^ j.toNat)) := opI fun _ _ _ _ _ _ _ hc q => pow_int hc.1 hc.2 q
end
/-! ### the rules that read K, with K named (within a comprehension the reading may not lean on the block) -/
section
variable {X : Cx} (K : PySem.W.Frag)
theorem k_ixL (h : X.K = K := by rfl) : IxR X (rIxL K) := h ▸ ix_list
theorem k_ixT (h : X.K = K := by rfl) : IxR X (rIxT K) := h ▸ ix_tup
def rLenS (K : PySem.W.Frag) : List V → Hp → VK → Prop := fun xs H Q => ∃ p ys, xs = [.ref p] ∧ (SqL K H p ys ∨ SqT K H p ys) ∧ Q (.int ys.length) H
theorem k_len (h : X.K = K := by rfl) : CallR X (.builtin "len") (rLenS K) := h ▸ call_len_seq
theorem k_in (h : X.K = K := by rfl) : OpR X (compareOp .In) (rIn K false) := h ▸ op_in_seq
theorem k_notIn (h : X.K = K := by rfl) : OpR X (compareOp .NotIn) (rIn K true) := h ▸ op_notIn_seq
theorem k_eqD (hu : X.A.units + 64 < cLine) (h : X.K = K := by rfl) : OpR X (compareOp .Eq) (rEqD K) := h ▸ op_eqD hu
theorem k_neD (hu : X.A.units + 64 < cLine) (h : X.K = K := by rfl) : OpR X (compareOp .NotEq) (rNeD K) := h ▸ op_neD hu
theorem k_catA (h : X.K = K := by rfl) : OpR X (binaryOp .Add) (rCatA K) := h ▸ op_catA
theorem k_sum (hc : X.calm = true) (h : X.K = K := by rfl) : CallR X (.builtin "sum") (rSum K) := h ▸ cr_sum hc
theorem k_all (hc : X.calm = true) (h : X.K = K := by rfl) : CallR X (.builtin "all") (rAll K) := h ▸ cr_all hc
theorem k_any (hc : X.calm = true) (h : X.K = K := by rfl) : CallR X (.builtin "any") (rAny K) := h ▸ cr_any hc
theorem k_sorted (h : X.K = K := by rfl) : CallR X (.builtin "sorted") (rSortedI K) := h ▸ cr_sortedI
def rTupOf (K : PySem.W.Frag) : List V → Hp → VK → Prop := fun xs H Q => ∃ p ys, xs = [.ref p] ∧ ((SqL K H p ys ∧ ∀ l, H l = none → Q (.ref l) (upd H l (.tup ys))) ∨ (SqT K H p ys ∧ Q (.ref p) H))
theorem k_tuple (h : X.K = K := by rfl) : CallR X (.type "tuple") (rTupOf K) := h ▸ call_tuple_of
def rLstOf (K : PySem.W.Frag) : List V → Hp → VK → Prop := fun xs H Q => ∃ p ys, xs = [.ref p] ∧ (SqL K H p ys ∨ SqT K H p ys) ∧ ∀ l, H l = none → Q (.ref l) (upd H l (.lst ys))
theorem k_list (h : X.K = K := by rfl) : CallR X (.type "list") (rLstOf K) := h ▸ call_list_of
theorem k_slL (h : X.K = K := by rfl) : SlR X (rSlL K) := h ▸ sl_list
theorem k_slT (h : X.K = K := by rfl) : SlR X (rSlA K) := h ▸ sl_tupA
theorem k_isi (h : X.K = K := by rfl) : CallR X (.builtin "isinstance") (rIsi K) := h ▸ call_isi
theorem k_pgT {es : List Expr} {k n : Nat} {t : TGs} {pos : Pos} (hc : X.calm = true) (h : PGs X es t) (hK : X.K = K := by rfl) (hn : (assignEach es X.env).length = n := by rfl) (hst : (assignEach es X.env).findIdx? (·.1) = none := by rfl) : PG X (.Tuple es k pos) (gTup K n t) := hK ▸ pg_tup hc h hn hst
theorem k_piL {tg l : Expr} {tl : TE} (hl : PE X l tl) (h : X.K = K := by rfl) : PI X tg l (iList K tl) := h ▸ pi_list hl
theorem k_piT {tg l : Expr} {tl : TE} (hl : PE X l tl) (h : X.K = K := by rfl) : PI X tg l (iTup K tl) := h ▸ pi_tup hl
theorem k_ltT (hu : X.A.units < cLine) (h : X.K = K := by rfl) : OpR X (compareOp .Lt) (rLtT K) := h ▸ op_ltT hu
end
/-! ### heaps -/
theorem same_upd {H : Hp} {p : Addr} {o : HO} (h : H p = none) : Same H (upd H p o) := fun b x e => by
  rw [upd_ne (ne_of_none e h)]
  exact e
/-- all that was tracked but at a is as it was -/
def SameB (a : Addr) (H H' : Hp) : Prop := ∀ b o, b ≠ a → H b = some o → H' b = some o
theorem SameB.refl (a : Addr) (H : Hp) : SameB a H H := fun _ _ _ h => h
theorem SameB.trans {a : Addr} {H H1 H2 : Hp} (x : SameB a H H1) (y : SameB a H1 H2) : SameB a H H2 := fun b o n h => y b o n (x b o n h)
theorem SameB.upd {a : Addr} {H : Hp} {o : HO} : SameB a H (L2.upd H a o) := fun b _ n h => by
  rw [upd_ne n]
  exact h
theorem sameb {a : Addr} {H H' : Hp} (e : Same H H') : SameB a H H' := fun b o _ h => e b o h
theorem SameB.seq {K : PySem.W.Frag} {a l : Addr} {H H' : Hp} {xs : List V} (e : SameB a H H') (n : l ≠ a) (h : SqL K H l xs) : SqL K H' l xs := by
  rcases h with (h | ⟨o, h⟩) | h
  · exact .inl (.inl (e _ _ n h))
  · exact .inl (.inr ⟨o, e _ _ n h⟩)
  · exact .inr h
/-! ### the law's pot: three ints in a list -/
def PotAt (H : Hp) (a : Addr) (b : Nat) : Prop := ∃ g s c : Int, H a = some (.lst [.int g, .int s, .int c]) ∧ 0 ≤ g ∧ 0 ≤ s ∧ s < 2 ^ 61 ∧ 0 ≤ c ∧ c ≤ b ∧ b ≤ 1000000
theorem PotAt.same {H H' : Hp} {a : Addr} {b : Nat} (h : PotAt H a b) (e : Same H H') : PotAt H' a b := by
  obtain ⟨g, s, c, h1, h2⟩ := h
  exact ⟨g, s, c, e _ _ h1, h2⟩
theorem PotAt.ne {H : Hp} {a b : Addr} {n : Nat} (h : PotAt H a n) (q : H b = none) : a ≠ b := by
  obtain ⟨_, _, _, h1, _⟩ := h
  exact ne_of_none h1 q
/-! ### rows of ints as data -/
def intsD (ns : List Int) : List PyData := ns.map PyData.int
theorem dp_ints {K : PySem.W.Frag} {H : Hp} : ∀ ns : List Int, DpAll K H (ns.map V.int) (intsD ns)
  | [] => .nil
  | n :: ns => .cons (.int n) (dp_ints ns)
theorem ints_lay : ∀ ns : List Int, PyData.canLayAll0 (intsD ns) = true
  | [] => by simp [intsD, PyData.canLayAll0]
  | n :: ns => by
    have h := ints_lay ns
    simp only [intsD, List.map_cons, PyData.canLayAll0, PyData.canLay0] at h ⊢
    simpa using h
theorem ints_depth : ∀ ns : List Int, PyData.depthAll (intsD ns) ≤ 2
  | [] => by simp [intsD, PyData.depthAll]
  | n :: ns => by
    have h := ints_depth ns
    simp only [intsD, List.map_cons, PyData.depthAll, PyData.depth] at h ⊢
    omega
theorem ints_shaped (ns : List Int) : SeqAt.shaped (.list (intsD ns)) = true := by
  have h1 := ints_depth ns
  have h2 : PyData.depth (.list (intsD ns)) ≤ 64 := by
    simp only [PyData.depth]
    omega
  show (PyData.canLay0 (.list (intsD ns)) && decide (PyData.depth (.list (intsD ns)) ≤ 64)) = true
  rw [Bool.and_eq_true]
  exact ⟨by simp only [PyData.canLay0]; exact ints_lay ns, decide_eq_true h2⟩
theorem intsT_shaped (ns : List Int) : SeqAt.shaped (.tuple (intsD ns)) = true := by
  have h1 := ints_depth ns
  have h2 : PyData.depth (.tuple (intsD ns)) ≤ 64 := by
    simp only [PyData.depth]
    omega
  show (PyData.canLay0 (.tuple (intsD ns)) && decide (PyData.depth (.tuple (intsD ns)) ≤ 64)) = true
  rw [Bool.and_eq_true]
  exact ⟨by simp only [PyData.canLay0]; exact ints_lay ns, decide_eq_true h2⟩
theorem eqv_self {d : PyData} (h : SeqAt.shaped d = true) : PyData.eqv d d = true := SeqAt.eqv_refl d (SeqAt.canLay_of_shaped h)
theorem atI_neg1 {α : Type} {xs : List α} {v : α} (h : xs[xs.length - 1]? = some v) : atI xs (-1) = some v := by
  have hl : 0 < xs.length := by
    cases xs with
    | nil => simp at h
    | cons _ _ => simp
  unfold atI ixN
  rw [if_neg (by decide), if_pos (by omega)]
  show xs[(-1 + (xs.length : Int)).toNat]? = some v
  rw [show (-1 + (xs.length : Int)).toNat = xs.length - 1 by omega]
  exact h
theorem map_int_get {ns : List Int} {i : Nat} {y : V} (h : (ns.map V.int)[i]? = some y) : ∃ u, ns[i]? = some u ∧ y = .int u := by
  rw [List.getElem?_map] at h
  cases e : ns[i]? with
  | none =>
    rw [e] at h
    cases h
  | some u =>
    rw [e] at h
    exact ⟨u, rfl, (Option.some.inj h).symm⟩
theorem range_map_succ {α : Type} (f : Nat → α) (i : Nat) : (List.range (i + 1)).map f = (List.range i).map f ++ [f i] := by
  rw [List.range_succ, List.map_append]
  rfl
theorem lcT {A B : Hp → Prop} {σ : L2.St} {H : Hp} (h : A H) : tYes σ H (fun b H3 => if b = true then A H3 else B H3) := by
  show (if (true = true) then A H else B H)
  rw [if_pos rfl]
  exact h
theorem row_get {l : List Int} {i : Nat} (h : i < l.length) : (l.map V.int)[i]? = some (.int (l.getD i 0)) := by
  rw [List.getElem?_map, List.getElem?_eq_getElem h, List.getD_eq_getElem?_getD, List.getElem?_eq_getElem h]
  rfl
theorem flat_rep (n : Nat) : (List.replicate n [V.int 0]).flatten = (List.replicate n (0 : Int)).map V.int := by
  induction n with
  | zero => rfl
  | succ n ih =>
    rw [List.replicate_succ, List.flatten_cons, ih, List.replicate_succ, List.map_cons]
    rfl
theorem seqT {K : PySem.W.Frag} {H H' : Hp} {a : Addr} {xs : List V} (e : Same H H') (h : SqT K H a xs) : SqT K H' a xs := by
  rcases h with (h | ⟨o, h⟩) | h
  · exact .inl (.inl (e _ _ h))
  · exact .inl (.inr ⟨o, e _ _ h⟩)
  · exact .inr h
theorem SameB.seqT {K : PySem.W.Frag} {a l : Addr} {H H' : Hp} {xs : List V} (e : SameB a H H') (n : l ≠ a) (h : SqT K H l xs) : SqT K H' l xs := by
  rcases h with (h | ⟨o, h⟩) | h
  · exact .inl (.inl (e _ _ n h))
  · exact .inl (.inr ⟨o, e _ _ n h⟩)
  · exact .inr h
/-- a comprehension over enumerate of a tuple is told by IteT: see enumT -/
theorem lc_noif {A B : Hp → Prop} {b : Bool} {H : Hp} (hb : b = true) (h : A H) : if b = true then A H else B H := by
  rw [if_pos hb]
  exact h
theorem PotAt.mono {H : Hp} {a : Addr} {b b' : Nat} (h : PotAt H a b) (l : b ≤ b') (m : b' ≤ 1000000) : PotAt H a b' := by
  obtain ⟨g, s, c, h1, h2, h3, h4, h5, h6, h7⟩ := h
  exact ⟨g, s, c, h1, h2, h3, h4, h5, by omega, m⟩
theorem PotAt.some {H : Hp} {a : Addr} {n : Nat} (h : PotAt H a n) : ∃ o, H a = some o := by
  obtain ⟨_, _, _, h1, _⟩ := h
  exact ⟨_, h1⟩
theorem PotAt.sameB {H H' : Hp} {a b : Addr} {n : Nat} (h : PotAt H a n) (e : SameB b H H') (ne : a ≠ b) : PotAt H' a n := by
  obtain ⟨g, s, c, h1, h2⟩ := h
  exact ⟨g, s, c, e _ _ ne h1, h2⟩
theorem eqv_ints : ∀ l m : List Int, PyData.eqvAll (intsD l) (intsD m) = decide (l = m)
  | [], [] => rfl
  | [], y :: m => rfl
  | x :: l, [] => rfl
  | x :: l, y :: m => by
    show (PyData.eqv (.int x) (.int y) && PyData.eqvAll (intsD l) (intsD m)) = decide (x :: l = y :: m)
    rw [eqv_ints l m]
    show ((x == y) && decide (l = m)) = decide (x :: l = y :: m)
    by_cases h : x = y
    · subst h
      by_cases h2 : l = m
      · subst h2
        simp
      · simp [h2]
    · simp [h]
theorem eqvL_ints (l m : List Int) : PyData.eqv (.list (intsD l)) (.list (intsD m)) = decide (l = m) := eqv_ints l m
theorem eqvT_ints (l m : List Int) : PyData.eqv (.tuple (intsD l)) (.tuple (intsD m)) = decide (l = m) := eqv_ints l m
theorem flat_ints (l : List Int) : (l.map V.int).all flatV = true := by
  rw [List.all_map]
  exact List.all_eq_true.mpr fun _ _ => rfl
theorem inV_ints (x : Int) : ∀ l : List Int, inV (.int x) (l.map V.int) = l.contains x
  | [] => rfl
  | y :: l => by
    have ih := inV_ints x l
    have e1 : inV (.int x) ((y :: l).map V.int) = (eqV (.int y) (.int x) || inV (.int x) (l.map V.int)) := rfl
    rw [e1, ih, List.contains_cons]
    congr 1
    show (y == x) = (x == y)
    exact BEq.comm
/-! ### an exception held as a value: at a, of the class cls, its own dict d -/
def exv (a : Addr) (cls : Value) (d : Option Addr) : HO := .ext fun h => ∃ (oe : Obj) (vs : Array Value), h.get? a = some oe ∧ Zc cls d oe ∧ oe.data = .fields vs
theorem exv_ok {P : Program} {w : World} {H : Hp} {h : Heap} {a : Addr} {cls : Value} {d : Option Addr} {oe : Obj} {vs : Array Value} (e : h.get? a = some oe) (z : Zc cls d oe) (y : oe.data = .fields vs) : ObjOk P w H h a (exv a cls d) := by
  refine ⟨⟨oe, vs, e, z, y⟩, ⟨oe, e⟩, ?_⟩
  rintro h1 h2 ⟨o, v, q1, q2, q3⟩ k
  exact ⟨o, v, k _ q1, q2, q3⟩
theorem exv_at {P : Program} {w : World} {H : Hp} {h : Heap} {a : Addr} {cls : Value} {d : Option Addr} (ok : HOk P w H h) (e : H a = some (exv a cls d)) : ∃ (oe : Obj) (vs : Array Value), h.get? a = some oe ∧ Zc cls d oe ∧ oe.data = .fields vs := by
  have z : ObjOk P w H h a (.ext _) := ok a _ e
  exact z.1
section
variable {X : Cx} {pins : List (Addr × Obj)} {σ : L2.St} {H : Hp} {s : Shared}
/-- from now on it is tracked -/
theorem inv_track {a : Addr} {cls : Value} {d : Option Addr} {oe : Obj} {vs : Array Value} (I : Inv X pins σ H s) (e : s.heap.get? a = some oe) (z : Zc cls d oe) (y : oe.data = .fields vs)
    (na : H a = none) (n0 : X.s_0.heap.get? a = none) (nl : a ≠ X.env.locals) (np : ∀ p ∈ X.pn ++ pins, p.1 ≠ a) : Inv X pins σ (upd H a (exv a cls d)) s where
  ok := I.ok
  os := I.os
  bare := I.bare
  base := by
    have apart : ∀ {b : Addr} {u : HO}, H b = some u → b ≠ a := fun q => ne_of_none q na
    constructor
    · exact I.base.keep
    · exact I.base.slot
    · intro b o q1 q2 q3
      have ne : b ≠ a := by
        rintro rfl
        rw [n0] at q1
        cases q1
      rw [upd_ne ne]
      exact I.base.free b o q1 q2 q3
    · exact I.base.there
    · intro b xs q
      have r := I.base.tups b xs q
      rw [upd_ne (apart r)]
      exact r
    · intro b o u q
      have r := I.base.frzs b o u q
      rw [upd_ne (apart r)]
      exact r
    · intro b ps q
      obtain ⟨m, r⟩ := I.base.tbls b ps q
      exact ⟨m, (upd_ne (apart r)).trans r⟩
  loc := I.loc
  cell := I.cell
  free := (upd_ne (Ne.symm nl)).trans I.free
  freeC := by
    intro x c q
    obtain ⟨v, o, r1, r2⟩ := I.cell x c q
    have ne : c ≠ a := by
      rintro rfl
      rw [e] at r1
      cases r1
      rw [y] at r2
      cases r2
    exact (upd_ne ne).trans (I.freeC x c q)
  pin := by
    intro p hp
    obtain ⟨r1, r2, r3⟩ := I.pin p hp
    exact ⟨r1, (upd_ne (np p hp)).trans r2, r3⟩
  hok := by
    intro b u q
    by_cases hb : b = a
    · subst hb
      rw [upd_same] at q
      cases q
      exact exv_ok e z y
    · rw [upd_ne hb] at q
      refine (I.hok b u q).stay (fun _ _ _ r => r) ?_ ?_
      · intro c r
        exact (upd_ne (ne_of_none r na)).trans r
      · intro c xs r
        exact (upd_ne (ne_of_none r na)).trans r
  len := I.len
end
/-- what a class says, so that an exception of it can be asked -/
structure XvC (K : PySem.W.Frag) (C : Addr) : Prop where
  ga : PySem.W.findIn K (.ref C) "__getattribute__" = some (some (.builtin "BaseException.__getattribute__"))
  gg : PySem.W.findIn K (.ref C) "__getattr__" = some none
  bx : PySem.W.subIn K (.ref C) (.type "BaseException") = some true
  hd : PySem.W.hasDictIn K C = true
  ca : PySem.W.findIn K (.ref C) "__class__" = some (some (.builtin "object.__class__"))
  cg : PySem.W.specialIn K (.builtin "object.__class__") "__get__" = some (some (.builtin "getset_descriptor.__get__"))
  ct : PySem.W.takesIn K (.builtin "object.__class__") = some true
  mo : PySem.W.mroIn K C (.type "object") = some true
section
variable {X : Cx} (K : PySem.W.Frag)
theorem inst_of {pins : List (Addr × Obj)} {σ : L2.St} {H : Hp} {s : Shared} {a C : Addr} {d : Option Addr} (I : Inv X pins σ H s) (e : H a = some (exv a (.ref C) d)) (hd : ∀ dd, d = some dd → ∃ o, s.heap.get? dd = some o) :
    ∃ (oe : Obj) (od : Option Obj), PySem.W.InstAt s.heap a oe C od ∧ (∀ dd, d = some dd → ∃ o, od = some o ∧ s.heap.get? dd = some o) := by
  obtain ⟨oe, vs, q1, ⟨q2, q3⟩, q4⟩ := exv_at I.hok e
  have nc : PySem.W.notCls oe = true := by
    unfold PySem.W.notCls
    rw [q4] <;> rfl
  cases d with
  | none => exact ⟨oe, none, ⟨q1, q2, nc, by rw [q3]; trivial⟩, fun dd z => by cases z⟩
  | some dd =>
    obtain ⟨o, ho⟩ := hd dd rfl
    exact ⟨oe, some o, ⟨q1, q2, nc, by rw [q3]; exact ho⟩, fun d' z => by cases z; exact ⟨o, rfl, ho⟩⟩
/-- isinstance(e, c): e such an exception -/
def rIsX (K : PySem.W.Frag) : List V → Hp → VK → Prop := fun xs H Q => ∃ (a C : Addr) (d : Option Addr) (c : V) (cv : Value) (b : Bool), xs = [.ref a, c] ∧ H a = some (exv a (.ref C) d) ∧ XvC K C ∧
  (∀ dd, d = some dd → ∃ fs, H dd = some (.xd fs)) ∧ (∀ u, RelV c u → u = cv) ∧ PySem.W.kitOne K (.ref C) cv = some b ∧ Q (.bl b) H
theorem xd_there {P : Program} {w : World} {H : Hp} {h : Heap} {dd : Addr} {fs : List (Str × V)} (ok : HOk P w H h) (e : H dd = some (.xd fs)) : ∃ o, h.get? dd = some o := by
  have z : ObjOk P w H h dd (.xd fs) := ok dd _ e
  obtain ⟨m, ⟨o, _, _, q, _⟩, _⟩ := z
  exact ⟨o, q⟩
theorem k_isX (h : X.K = K := by rfl) : CallR X (.builtin "isinstance") (rIsX K) := by
  subst h
  intro pins s σ H xs us Q I r hh
  obtain ⟨a, C, d, c, cv, b, rfl, e, T, hd, hc, e2, q⟩ := hh
  match us, r with
  | [_, _], .cons rx (.cons rt .nil) =>
    cases rx
    have z := hc _ rt
    subst z
    obtain ⟨oe, od, J, _⟩ := inst_of I e fun dd z => by
      obtain ⟨fs, y⟩ := hd dd z
      exact xd_there I.hok y
    obtain ⟨cd, y, _⟩ := PySem.W.any_some T.hd
    refine PySem.W.kia_one (PySem.W.kitx_exc (by rw [y]; rfl) T.ga T.gg T.bx T.ca T.cg T.ct T.mo) I.kIn J e2 (fun z => nomatch z) ?_
    intro tk
    exact ⟨.bl b, H, I.kept (t' := tk) fun _ _ z => z, rfl, q⟩
/-- e.f: e such an exception -/
def tXv (K : PySem.W.Frag) (f : Str) (te : TE) : TE := fun σ H Q => te σ H fun x H1 => ∃ (a C dd : Addr) (fs : List (Str × V)) (v : V), x = .ref a ∧ H1 a = some (exv a (.ref C) (some dd)) ∧ XvC K C ∧ PySem.W.findIn K (.ref C) f = some none ∧ H1 dd = some (.xd fs) ∧ fs.lookup f = some v ∧ Q v H1
theorem pe_xv {e : Expr} {te : TE} {pos : Pos} {f : Str} (he : PE X e te) (h : X.K = K := by rfl) (hb : attributeBase e f X.env (eval e X.env) = eval e X.env := by rfl) : PE X (.Attribute e f pos) (tXv K f te) := by
  subst h
  constructor
  intro pins s σ H Q I hh
  refine attr_of hb (thn (he.run pins s σ H _ I hh) ?_)
  rintro u s1 ⟨x, H1, I1, rx, a, C, dd, fs, v, rfl, e1, T, hno, e2, l, q⟩
  obtain rfl : u = Value.ref a := rx
  have ok : ObjOk X.prog X.w H1 s1.heap dd (.xd fs) := I1.hok dd _ e2
  obtain ⟨mA, ns, rel⟩ := ok
  obtain ⟨od, ho, look⟩ := lookIn_ns ns
  have rf := rel f
  rw [l] at rf
  obtain ⟨u, hu, ru⟩ := RelO.some_of (v := v) (o := mA f) rf
  obtain ⟨oe, od', J, more⟩ := inst_of I1 e1 fun d' z => by
    cases z
    exact ⟨od, ho⟩
  obtain ⟨o', z1, z2⟩ := more dd rfl
  rw [ho] at z2
  cases z2
  subst z1
  refine HandSPX.exc_get I1.kIn J T.ga T.gg T.bx (PySem.W.findObj_own T.hd hno rfl ?_) (handed_of ru) ⟨v, H1, I1.tok _, ru, q⟩
  rw [look, hu]
end
/-! ### own exceptions whose __init__ is walked as a def, over any built-in base -/
section
open PySem.W
variable {prog : Program} {w : World} {A : Around} {R : Result → Shared → Prop} {hp : Heap} {g : Array GenState} {dr : Drawn} {t : Nat} {os : OsState}
/-- the first field of a new one -/
theorem osaB {K : Frag} {B : String} {bmB : List Value} {x C t1 : Addr} {f : Str} {tk : Tok} {v : Value} (SF : StoreFacts B bmB "object.__setattr__" "object") (kin : K.In hp) (hx : hp.get? x = some (excObj C t1 none .none))
    (ov : excOver K C bmB = true) (ta : takerIn K C f = some none) (hd : hasDictIn K C = true)
    (hq : ∀ (h' : Heap) (tk' : Nat) (dx : Addr), (∀ b o, b ≠ x → hp.get? b = some o → h'.get? b = some o) → hp.objs.size ≤ dx → dx ≠ x → h'.get? x = some (excObj C t1 (some dx) .none) →
      h'.Ns1 dx (fun y => if y = f then some v else none) → R (.ok (.ret .none)) ⟨h', g, dr, tk', os⟩) :
    codeAny (model prog w) A (.call (.builtin "object.__setattr__") ⟨[.ref x, .str f tk, v], []⟩) R ⟨hp, g, dr, t, os⟩ := by
  refine osa_openX (od := none) SF kin ⟨hx, rfl, rfl, trivial⟩ ov ta ?_
  intro b
  obtain ⟨cd, c1, c2⟩ := any_some hd
  have lt := Heap.lt_size hx
  refine wpAny_bind (wpAny_pure (wpAny_bind (instanceDict_exc hx (looks_clsIn kin c1) c2 ?_)))
  show wpAny _ _ (Builtin.ObjectAttr.storeInDict hp.objs.size (.str f tk) f v) _ _ _
  have up : (hp.push (dictOf [] 0)).get? x = some (excObj C t1 none .none) := Heap.get?_push_of_some _ hx
  refine HandSPX.store_in_new ?_ ?_
  · refine ⟨dictOf [] 0, #[], 0, ?_, rfl, fun e he => absurd he (by simp), fun _ => rfl⟩
    exact (Heap.get?_update_ne _ _ _ _ (Nat.ne_of_gt lt)).trans (Heap.get?_push_size _ rfl)
  · intro h' tk' ns sb
    refine hq h' tk' hp.objs.size ?_ (Nat.le_refl _) (Nat.ne_of_gt lt) ?_ ns
    · intro b o ne e
      rw [sb.2 b (Nat.ne_of_lt (Heap.lt_size e)), Heap.get?_update_ne _ _ _ _ ne]
      exact Heap.get?_push_of_some _ e
    · rw [sb.2 x (Nat.ne_of_lt lt)]
      exact Heap.get?_update_self _ up rfl
end
/-- what is known of the class at C, over the built-in class B -/
structure OexB (K : PySem.W.Frag) (C : Addr) : Prop where
  ex : ∃ (B nId iId : String) (bmB : List Value), ExcBaseFacts B nId iId bmB ∧ StoreFacts B bmB "object.__setattr__" "object" ∧ PySem.W.excInitIn K C bmB nId = true ∧ PySem.W.excOver K C bmB = true
  hd : PySem.W.hasDictIn K C = true
  sa : PySem.W.findIn K (.ref C) "__setattr__" = some (some (.builtin "object.__setattr__"))
  bx : PySem.W.subIn K (.ref C) (.type "BaseException") = some true
  ty : PySem.W.typeIn K (.ref C) = some (.type "type")
  kp : PySem.W.keepIn K (.ref C) = true
section
variable {X : Cx} {pins : List (Addr × Obj)} {σ : L2.St} {H : Hp} {s : Shared} {a C : Addr} {f : Str} {y : V} {u : Value}
/-- self.f = y -/
theorem ost_B {Q : Unit → Shared → Prop} {E : Value → Shared → Prop} {A : Around} (T : OexB X.K C) (I : Inv X pins σ H s) (e : H a = some (exo a C none)) (ta : PySem.W.takerIn X.K C f = some none) (ry : RelV y u)
    (h : ∀ dx s', H dx = none → dx ≠ a → Inv X pins σ (upd (upd H dx (exd dx [(f, y)])) a (exo a C (some dx))) s' → Q () s') : wpAny (model X.prog X.w) A (setAttr (.ref a) f u) Q E s := by
  obtain ⟨B, nId, iId, bmB, fb, sf, ini, ov⟩ := T.ex
  obtain ⟨t1, ho⟩ := exo_at I.hok e
  obtain ⟨hp, g, dr, t, os⟩ := s
  refine PySem.W.set_plain (od := none) I.kIn ⟨ho, rfl, rfl, trivial⟩ T.sa ?_
  refine osaB (t1 := t1) sf I.kIn ho ov ta T.hd ?_
  intro h' tk' dx keep big ne hx ns
  have fresh : H dx = none := I.hok.fresh big
  have old : ∀ {b : Addr} {o : Obj}, hp.get? b = some o → b ≠ dx := fun q => Nat.ne_of_lt (Nat.lt_of_lt_of_le (Heap.lt_size q) big)
  have off : ∀ {b : Addr}, H b = none → b ≠ a := by
    rintro b q rfl
    rw [e] at q
    cases q
  have away : ∀ {b : Addr} {o : HO}, H b = some o → o ≠ exo a C none → b ≠ a := by
    rintro b o q d rfl
    rw [e] at q
    exact d (Option.some.inj q).symm
  have both : ∀ {b : Addr} {o : HO}, H b = some o → o ≠ exo a C none → upd (upd H dx (exd dx [(f, y)])) a (exo a C (some dx)) b = some o := fun q d => by
    rw [upd_ne (away q d), upd_ne (ne_of_none q fresh)]
    exact q
  have un : Un X.fs [] H (upd (upd H dx (exd dx [(f, y)])) a (exo a C (some dx))) hp h' := by
    constructor
    · intro b o q1 q2 _ _
      exact keep b o (off q2) q1
    · intro b o q1 q2 _ _
      exact ⟨o.slots, keep b o (off q2) q1⟩
    · intro b o q1 q2 _
      rw [upd_ne (off q2), upd_ne (old q1)]
      exact q2
    · intro b o q1 _
      by_cases z : b = a
      · subst z
        exact ⟨_, hx⟩
      · exact ⟨o, keep b o z q1⟩
    · intro b xs q
      exact both q (fun z => exo_tup z.symm)
    · intro b o v q
      exact both q (fun z => exo_frz z.symm)
    · intro b ps q
      refine ⟨#[], ?_⟩
      rw [Array.append_empty]
      exact both q (fun z => exo_tbl z.symm)
  refine h dx _ fresh ne (I.un (t' := tk') un ?_)
  intro b o q
  by_cases z1 : b = a
  · subst z1
    rw [upd_same] at q
    cases q
    exact exo_ok hx
  rw [upd_ne z1] at q
  by_cases z2 : b = dx
  · subst z2
    rw [upd_same] at q
    cases q
    exact exd_ok ns (relO_put (fs := []) ry fun _ => trivial)
  rw [upd_ne z2] at q
  refine (I.hok b o q).stay ?_ (fun c r => both r (fun z => exo_own z.symm)) (fun c xs r => both r (fun z => exo_tup z.symm))
  intro c v r1 r2
  refine keep c v ?_ r2
  rcases r1 with r | r
  · rw [r]
    exact z1
  · exact away r (fun z => exo_own z.symm)
end
def tOsB (K : PySem.W.Frag) (f : Str) (to te : TE) : TS := fun D σ H => te σ H fun y H1 => to σ H1 fun x H2 => ∃ a C : Addr, x = .ref a ∧ OexB K C ∧ PySem.W.takerIn K C f = some none ∧ H2 a = some (exo a C none) ∧
  ∀ dx, H2 dx = none → dx ≠ a → D.nx σ (upd (upd H2 dx (exd dx [(f, y)])) a (exo a C (some dx)))
section
variable {X : Cx} {o e : Expr} {es : List Expr} {to te : TE} {ta : TA} {f : Str} {p p' pos : Pos}
theorem ps_osB (K : PySem.W.Frag) (ho : PE X o to) (he : PE X e te) (h : X.K = K := by rfl) (hs : swapsWith e (some (.Attribute o f p')) pos.line X.env = pure false := by rfl) : PS X (.Assign [.Attribute o f p'] e pos) (tOsB K f to te) := by
  subst h
  constructor
  intro pins s σ H D I hh
  refine plainObj_wpAny_Assign_Attribute (thn (he.run pins s σ H _ I hh) ?_) hs
  rintro v s1 ⟨y, H1, I1, r1, q1⟩
  refine thn (ho.run pins s1 σ H1 _ I1 q1) ?_
  rintro u s2 ⟨x, H2, I2, r2, a, C, rfl, T, tk, ea, q⟩
  obtain rfl : u = Value.ref a := r2
  refine ost_B T I2 ea tk r1 ?_
  intro dx s' z1 z2 J
  exact ⟨σ, _, J, q dx z1 z2⟩
/-- C(e, ..), the __init__ of C keeping sp -/
theorem pmk_B {CX : CXT} {x : Str} {C fI : Addr} {k : Nat} {fd : FuncData} {ps : List Str} {sp : Sp} (T : OexB X.K C) (iC : PySem.W.findIn X.K (.ref C) "__init__" = some (some (.ref fI))) (tI : PySem.W.typeIn X.K (.ref fI) = some (.type "function"))
    (F : FnOk X.prog X.w X.K X.mg X.base CX k fI fd ps sp) (hr : Room (k + 1) X.A) (hb : Binds X.K fd ps []) (hx : Passes CX X (fun _ _ _ => False)) (hg : Gl X x) (hm : X.mg x = some (.ref C)) (ha : PA X (e :: es) ta)
    (d1 : (x == ("__debug__" : Str)) = false := by decide) (d2 : starEach (e :: es) X.env = (false, eval e X.env) :: starEach es X.env := by rfl) (d3 : (backTo pos (starEach es X.env)).any (·.1) = false := by rfl) :
    PMk X (.Call (.Name x p) (e :: es) [] pos) (tMkO C sp [] ta) := by
  intro pins s σ H Q I hh
  obtain ⟨B, nId, iId, bmB, fb, sf, ini, ov⟩ := T.ex
  refine wpAny_Call_Name_kw (ld_glob I hg hm ?_ d1)
  refine PySem.W.callWith_K (h₀ := X.base) I.ok.mod.kin T.kp (thn (ha.run pos pins s σ H _ I hh) ?_) d2 d3
  rintro us s1 ⟨vs, H1, I1, r1, few, q1⟩
  refine ⟨I1.kIn, ?_⟩
  show wpAny _ _ (call (.ref C) us) _ _ _
  obtain ⟨hp, g, dr, tk, os⟩ := s1
  obtain ⟨nm, N, qn, bs, bm, hdct, sn, sub, ab, col, dd, k0, k1, k2, k3, k5, hC, cont⟩ := PySem.W.excInit_of I1.kIn ini
  have up1 : hp.objs.size ≤ hp.objs.size + 1 := Nat.le_succ _
  have none1 : H1 (hp.objs.size + 1) = none := I1.hok.fresh up1
  have ask := q1 (hp.objs.size + 1) none1
  rw [List.append_nil] at ask
  generalize eh : (hp.push (PySem.W.kdv_tup us)).push (HandSPX.excO C hp.objs.size) = hp2
  have stay : ∀ b o, hp.get? b = some o → hp2.get? b = some o := fun b o q => by
    rw [← eh]
    exact Heap.get?_push_of_some _ (Heap.get?_push_of_some _ q)
  have made : hp2.get? (hp.objs.size + 1) = some (HandSPX.excO C hp.objs.size) := by
    rw [← eh]
    heap_get
  have I2 : Inv X pins σ (upd H1 (hp.objs.size + 1) (exo (hp.objs.size + 1) C none)) ⟨hp2, g, dr, tk, os⟩ := I1.laid (t' := tk) stay up1 (exo_ok made)
  have r2 : Vals (V.ref (hp.objs.size + 1) :: vs) (Value.ref (hp.objs.size + 1) :: us) := .cons rfl r1
  have len : (Value.ref (hp.objs.size + 1) :: us ++ []).length = ps.length := by
    rw [List.append_nil, ← r2.length]
    exact F.len _ _ _ _ ask
  have small : us.length ≤ sizeLine := by
    have z := r1.length
    rw [sizeLine_eq]
    omega
  have bd := hb ⟨hp2, g, dr, tk, os⟩ (Value.ref (hp.objs.size + 1) :: us) I2.kIn len
  rw [List.append_nil] at bd
  refine wpAny_call (HandSPX.call_own fb cont hC (PySem.W.looks_findIn I1.kIn iC) (fun self => PySem.W.bind_fn I1.kIn self tI) small ?_)
  rw [eh]
  refine codeAny_mono (F.run _ X.stack _ _ ⟨Value.ref (hp.objs.size + 1) :: us, []⟩ (Value.ref (hp.objs.size + 1) :: us) _ _ (fun _ _ _ => False) (hr.make C us []) (I2.env0.make C us []) bd r2 ask) ?_
  intro res s' z
  match res, z with
  | .error er, z => exact hx pins σ _ _ er s' I2 z
  | .ok .next, z => exact False.elim z
  | .ok .brk, z => exact False.elim z
  | .ok .cont, z => exact False.elim z
  | .ok (.ret u), ⟨v, H2, os2, bare2, un2, ok2, rv, ev, d, fs, ea, ed, hd1, q2⟩ =>
    subst ev
    obtain ⟨h2, g2, d2', t2, os'⟩ := s'
    exact ⟨rv, mk_end (raises_own T.bx T.ty) I1 up1 stay un2 ok2 os2 bare2 ea ed hd1 q2⟩
end
/-! ### try: body / except (A, B) as n: m = n — the exception stays as a value in m -/
theorem fly_more {B h h' : Heap} {l : List Env} {a : Addr} {Z : Obj → Prop} (x : HandSPX.FlyingZ B l a Z h) (k : ∀ b o, h.get? b = some o → h'.get? b = some o) : HandSPX.FlyingZ B l a Z h' := by
  obtain ⟨x1, x2, x3, oe, vs, T, oT, ts, y1, y2, y3, y4, y5, y6, y7, y8⟩ := x
  refine ⟨fun b o e => k b o (x1 b o e), x2, Heap.FunFrames.of_keeps (fun b o e _ => ⟨o, k b o e, rfl⟩) x3, oe, vs, T, oT, ts, k _ _ y1, y2, y3, y4, y5, y6, k _ _ y7, y8⟩
theorem sky_new {B h : Heap} {l : List Env} {a L : Addr} {Z : Obj → Prop} (x : Sky B l a Z L h) : B.get? a = none := by
  rcases x with x | x | x
  · exact x.2.1
  · exact x.2.1
  · exact x.2.1
/-- what such a clause wishes: slot i is the name's, slot j the one that keeps it -/
def wKeep (K : PySem.W.Frag) (cs : List Value) (i j : Nat) (D : Ends) : WX := fun cls d σ H =>
  PySem.W.exmAny K cls cs = some true ∧ ∀ a, H a = none → D.nx (((σ.set i (some (.ref a))).set j (some (.ref a))).set i none) (upd H a (exv a cls d))
section
variable {X : Cx} {x1 x2 n m : Str} {c1 c2 : Value} {i j kk : Nat} {body : List Stmt} {p1 p2 p3 p4 p5 p6 pos pos' : Pos} {tb : WX → TS}
theorem ps_tryKeep (K : PySem.W.Frag) (hK : X.K = K) (st : X.stack = X.env :: X.outer) (fr : X.env.frame = some X.env.locals) (hex : X.ex = []) (nd : X.N.Nodup) (hi : X.N[i]? = some n) (hj : X.N[j]? = some m) (ln : X.env.kindOf n = some .local) (lm : X.env.kindOf m = some .local)
    (g1 : Names X x1 c1) (g2 : Names X x2 c2)
    (hb : ∀ (W : WX) (pn : List (Addr × Obj)) (xe : Value → Shared → Prop), Takes (X.tr pn xe) W → PassesOwn (model X.prog X.w) X.A X.env xe → PSs (X.tr pn xe) body (tb W))
    (dn : (n == ("__debug__" : Str)) = false := by decide) (dc : (n == ("__classdict__" : Str)) = false := by decide) (sw : swapsWith (.Name n p5) (some (.Name m p4)) p6.line X.env = pure false := by rfl)
    (se : starEach [.Name x1 p1, .Name x2 p2] X.env = [(false, eval (.Name x1 p1) X.env), (false, eval (.Name x2 p2) X.env)] := by rfl) :
    PS X (.Try body [.ExceptHandler (some (.Tuple [.Name x1 p1, .Name x2 p2] kk p3)) (some n) [.Assign [.Name m p4] (.Name n p5) p6] pos'] [] [] pos) (fun D σ H => tb (wKeep K [c1, c2] i j D) D σ H) := by
  subst hK
  constructor
  intro pins s σ H D I hh
  have ok := I.ok
  have frs' : X.A.frames = some (X.env :: X.outer) := ok.frames.trans (congrArg some st)
  refine wpAny_Try_except ?_
  refine wpAny_mono ((hb (wKeep X.K [c1, c2] i j D) (X.pn ++ pins) (fun e s₁ => wpAny (model X.prog X.w) X.A (noteFrame e X.env) (fun _ s₂ => wpAny (model X.prog X.w) X.A (setFlight e none) (fun _ s₃ =>
    wpAny (model X.prog X.w) X.A (handleBy e X.env [.ExceptHandler (some (.Tuple [.Name x1 p1, .Name x2 p2] kk p3)) (some n) [.Assign [.Name m p4] (.Name n p5) p6] pos']) (SP X pins D) X.xe s₃) X.xe s₂) X.xe s₁) ?take PassesOwn.looking).run [] s σ H D (I.toTry _) hh) ?after (fun _ _ z => z)
  case after =>
    intro fl s1 q
    match fl, q with
    | .next, ⟨σ', H', J, r⟩ => exact wpAny_execs_nil ⟨σ', H', J.ofTry ok, r⟩
    | .brk, ⟨σ', H', J, r⟩ => exact ⟨σ', H', J.ofTry ok, r⟩
    | .cont, ⟨σ', H', J, r⟩ => exact ⟨σ', H', J.ofTry ok, r⟩
    | .ret u, ⟨v, σ', H', J, r1, r2⟩ => exact ⟨v, σ', H', J.ofTry ok, r1, r2⟩
  case take =>
    rintro u s' ⟨a, B, sI, pins', σ', H', cls, d, rfl, J0, ground, up, sky, na, os, ag, match1, want⟩
    have J : Inv X pins σ' H' sI := J0.ofTry ok
    have sky2 : Sky B (X.env :: X.outer) a (Zc cls d) X.env.locals s'.heap := by
      rw [← st]
      exact sky
    have Ba := sky_new sky2
    show wpAny (model X.prog X.w) X.A (noteFrame (.ref a) X.env) _ _ _
    refine Sky.land Zc.steady frs' fr sky2 ?_
    intro h3 fl3 up3
    have J3 : Inv X pins σ' H' { s' with heap := h3 } := J.landed ground fl3.1 (up.trans up3) os ag
    obtain ⟨oe3, vs3, a3, z3, d3⟩ := fl3.there
    have nfr : a ∉ frs (X.env :: X.outer) := fun hm => by
      obtain ⟨_, o', e', z⟩ := fl3.2.2.1.mem hm
      rw [a3] at e'
      cases e'
      exact z _ d3
    have nl : a ≠ X.env.locals := by
      rintro rfl
      exact nfr (List.mem_filterMap.mpr ⟨X.env, List.mem_cons_self, fr⟩)
    have nf : a ∉ X.fs := fun hm => by
      obtain ⟨e, he, q⟩ := List.mem_filterMap.mp hm
      exact nfr (List.mem_filterMap.mpr ⟨e, List.mem_cons_of_mem _ he, q⟩)
    have newI : ∀ b o, sI.heap.get? b = some o → b ≠ a := by
      rintro b o e rfl
      have z := ground b o e (by rw [st]; exact nfr)
      rw [Ba] at z
      cases z
    have new0 : X.s_0.heap.get? a = none := by
      cases e : X.s_0.heap.get? a with
      | none => rfl
      | some o =>
        obtain ⟨o', e'⟩ := J.base.there a o e (by rw [hex]; exact fun z => nomatch z)
        exact absurd rfl (newI a o' e')
    have newp : ∀ p ∈ X.pn ++ pins, p.1 ≠ a := fun p hp => newI p.1 p.2 (J.pin p hp).1
    have S3 := J3.suite a3 d3 na nl nf
    refine PySem.W.exc_clause_as ?_
    -- the tuple of classes
    have name : ∀ {x : Str} {c : Value} {p : Pos} {s4 : Shared} {oe : Obj} {Q : Value → Shared → Prop} {E : Value → Shared → Prop}, Names X x c → Inv (X.suite a ((a, oe) :: (X.pn ++ pins))) [] σ' H' s4 → Q c s4 → wpAny (model X.prog X.w) (X.A.mark (some (.ref a))) (eval (.Name x p) X.env) Q E s4 := by
      intro x c p s4 oe Q E hc S4 q
      obtain ⟨k1, k2, k3 | ⟨k3, k4, k5⟩⟩ := hc
      · exact ld_glob (X := X.suite a ((a, oe) :: (X.pn ++ pins))) S4 k1 k3 q k2
      · exact ld_blt (X := X.suite a ((a, oe) :: (X.pn ++ pins))) S4 k1 k3 k4 q k5 k2
    refine wpAny_Tuple ?_
    rw [se]
    show wpAny _ _ (spliced [(false, _), (false, _)]) _ _ _
    refine Calls.spliced_cons (name g1 S3 (Calls.spliced_cons (name g2 S3 (Calls.spliced_nil ⟨by show 2 ≤ sizeLine; decide, true, ?_, ?_⟩))))
    · have kin : X.K.In (h3.push { cls := .type "tuple", data := .seq [c1, c2].toArray }) := J3.kIn.keeps fun b o e => Heap.get?_push_of_some _ e
      have ty : PySem.W.Looks (model X.prog X.w) (h3.push { cls := .type "tuple", data := .seq [c1, c2].toArray }) (typeOf (.ref a)) cls := by
        intro A Q E s6 k q
        refine wpAny_typeOf_ref (k _ _ (Heap.get?_push_of_some _ a3)) ?_
        rw [z3.1]
        exact q
      exact PySem.W.exm_tup2 kin ty (Heap.get?_push_size _ rfl) match1
    rw [if_pos rfl]
    have fl4 : HandSPX.FlyingZ B (X.env :: X.outer) a (Zc cls d) (h3.push { cls := .type "tuple", data := .seq [c1, c2].toArray }) := fly_more fl3 fun b o e => Heap.get?_push_of_some _ e
    have J4 : Inv X pins σ' H' ⟨h3.push { cls := .type "tuple", data := .seq [c1, c2].toArray }, s'.gens, s'.drawn, s'.toks, s'.os⟩ := J3.kept (t' := s'.toks) fun b o e => Heap.get?_push_of_some _ e
    refine HandSPX.lands_againZ fl4 ?_
    intro h5 fl5 up5
    obtain ⟨oe5, vs5, a5, z5, d5⟩ := fl5.there
    have J5 : Inv X pins σ' H' ⟨h5, s'.gens, s'.drawn, s'.toks, s'.os⟩ := J.landed (s' := ⟨h5, s'.gens, s'.drawn, s'.toks, s'.os⟩) ground fl5.1 ((up.trans up3).trans ((Heap.UpToSlots.of_keeps fun b o e => Heap.get?_push_of_some _ e).trans up5)) os ag
    have S5 := J5.suite a5 d5 na nl nf
    refine store_ok (X := X.suite a ((a, oe5) :: (X.pn ++ pins))) (v := .ref a) S5 nd hi (.inl ln) rfl ?_ (.inr ln)
    intro s6 S6
    have set1 : (σ'.set i (some (V.ref a)))[i]? = some (some (V.ref a)) := by
      refine List.getElem?_set_self ?_
      rw [J.len]
      exact (List.getElem?_eq_some_iff.mp hi).1
    have body1 : PSs (X.suite a ((a, oe5) :: (X.pn ++ pins))) [.Assign [.Name m p4] (.Name n p5) p6] (tAsg (tVar i) (gName j)) :=
      pss_one (ps_set nd hj (.inl lm) (pe_var hi (.inl ln) dn dc) sw (.inr lm))
    refine wpAny_mono (body1.run [] s6 _ H' { nx := fun σ7 H7 => σ7 = (σ'.set i (some (.ref a))).set j (some (.ref a)) ∧ H7 = H', rt := fun _ _ => False, bk := fun _ _ => False, ct := fun _ _ => False } S6 ⟨_, set1, rfl, rfl⟩) ?_ (fun _ _ z => False.elim z)
    intro fl s7 q
    match fl, q with
    | .brk, ⟨_, _, _, z⟩ => exact False.elim z
    | .cont, ⟨_, _, _, z⟩ => exact False.elim z
    | .ret _, ⟨_, _, _, _, _, z⟩ => exact False.elim z
    | .next, ⟨σ7, H7, S7, e1, e2⟩ =>
      subst e1
      subst e2
      refine gone_ok (X := X.suite a ((a, oe5) :: (X.pn ++ pins))) S7 nd hi ln ?_
      intro s8 S8
      have here := (S8.pin (a, oe5) (List.mem_append_left _ List.mem_cons_self)).1
      exact ⟨_, _, inv_track (S8.unsuite ok) here z5 d5 na new0 nl newp, want a na⟩
end
/-! ### the program's refusals, as callers use them -/
def clsDef (s : Stmt) : Stmt := match s with
  | .ClassDef _ _ _ (d :: _) _ _ _ _ _ _ _ => d
  | _ => .Pass ⟨0, 0, 0, 0⟩
/-- a class that an except clause names -/
structure FamAt (K : PySem.W.Frag) (mg : Str → Option Value) (x : Str) (A : Addr) : Prop where
  g : mg x = some (.ref A)
  bx : PySem.W.subIn K (.ref A) (.type "BaseException") = some true
  hd : PySem.W.hasDictIn K A = true
  ty : PySem.W.typeIn K (.ref A) = some (.type "type")
theorem exm_two {K : PySem.W.Frag} {mg : Str → Option Value} {x y : Str} {A B : Addr} {cls : Value} {b1 b2 : Bool} (FA : FamAt K mg x A) (FB : FamAt K mg y B) (h1 : PySem.W.subIn K cls (.ref A) = some b1) (h2 : PySem.W.subIn K cls (.ref B) = some b2) :
    PySem.W.exmAny K cls [.ref A, .ref B] = some (b1 || b2) := by
  have e1 := PySem.W.exm_ref FA.bx FA.hd FA.ty h1
  have e2 := PySem.W.exm_ref FB.bx FB.hd FB.ty h2
  unfold PySem.W.exmAny
  rw [e1]
  unfold PySem.W.exmAny
  rw [e2]
  unfold PySem.W.exmAny
  cases b1 <;> cases b2 <;> rfl
theorem kit_self {K : PySem.W.Frag} {C : Addr} : PySem.W.kitOne K (.ref C) (.ref C) = some true := if_pos (beq_self_eq_true _)
theorem kit_base {K : PySem.W.Frag} {C : Addr} {T : String} {b : Bool} (h : PySem.W.subIn K (.ref C) (.type T) = some b) (m : PySem.W.kitMeta T = true) : PySem.W.kitOne K (.ref C) (.type T) = some b := by
  unfold PySem.W.kitOne PySem.W.kitCls
  rw [if_neg (by simp)]
  dsimp only
  rw [if_pos m]
  exact h
/-- a refusal x with its one value f, its __init__ the def st -/
structure ErrAt (K : PySem.W.Frag) (mg : Str → Option Value) (x f qual : Str) (st : Stmt) (C : Addr) : Prop where
  g : mg x = some (.ref C)
  O : OexB K C
  V : XvC K C
  no : PySem.W.findIn K (.ref C) f = some none
  tk : PySem.W.takerIn K C f = some none
  ini : ∃ fI fd, Fun K "__init__" qual st fI fd ∧ PySem.W.findIn K (.ref C) "__init__" = some (some (.ref fI)) ∧ PySem.W.typeIn K (.ref fI) = some (.type "function") ∧ Binds K fd ["self", f] []
def spIni (f : Str) (C : Addr) : Sp := fun vs H Q _ => ∃ (a : Addr) (v : V), vs = [.ref a, v] ∧ H a = some (exo a C none) ∧ ∀ dx, H dx = none → dx ≠ a → Q .non (upd (upd H dx (exd dx [(f, v)])) a (exo a C (some dx)))
/-- what C(v) asks -/
theorem mk_err {f : Str} {C : Addr} {ta : TA} {σ : L2.St} {H : Hp} {Q : XK} (h : ta σ H fun vs H1 => ∃ v, vs = [v] ∧ ∀ d, H1 d = none → Q (.ref C) (some d) (upd H1 d (.xd [(f, v)])))
    (mono : ∀ (R R' : List V → Hp → Prop), (∀ vs H1, R vs H1 → R' vs H1) → ta σ H R → ta σ H R') : tMkO C (spIni f C) [] ta σ H Q := by
  refine mono _ _ ?_ h
  rintro vs H1 ⟨v, rfl, q⟩
  refine ⟨by show 1 ≤ 1000; decide, fun a na => ⟨a, v, rfl, upd_same, fun dx nd ne => ?_⟩⟩
  have nd1 : H1 dx = none := by
    rw [upd_ne ne] at nd
    exact nd
  refine ⟨rfl, dx, [(f, v)], upd_same, ?_, nd1, ?_⟩
  · rw [upd_ne ne, upd_same]
  have e : upd (del (upd (upd (upd H1 a (exo a C none)) dx (exd dx [(f, v)])) a (exo a C (some dx))) a) dx (.xd [(f, v)]) = upd H1 dx (.xd [(f, v)]) := by
    funext b
    by_cases h1 : b = dx
    · subst h1
      rw [upd_same, upd_same]
    · rw [upd_ne h1, upd_ne h1]
      by_cases h2 : b = a
      · subst h2
        rw [del_same, na]
      · rw [del_ne h2, upd_ne h2, upd_ne h1, upd_ne h2]
  rw [e]
  exact q dx nd1
def topS (i : Nat) : Stmt := PySem.Challenge.pw_lackcry_k04_lots_by_number_to_sixty.main.body.getD i (.Pass ⟨0, 0, 0, 0⟩)
abbrev s_is_whole : Stmt := topS 5
theorem sc_is_whole : FnScope ["thing"] ["thing"] (defScope s_is_whole) := ⟨rfl, rfl, rfl, by decide +kernel, rfl, by decide +kernel, by decide +kernel⟩
abbrev s_is_below : Stmt := topS 6
theorem sc_is_below : FnScope ["bound", "thing"] ["bound", "thing"] (defScope s_is_below) := ⟨rfl, rfl, rfl, by decide +kernel, rfl, by decide +kernel, by decide +kernel⟩
abbrev s_choose : Stmt := topS 8
theorem sc_choose : FnScope ["n", "k", "many", "step"] ["n", "k"] (defScope s_choose) := ⟨rfl, rfl, rfl, by decide +kernel, rfl, by decide +kernel, by decide +kernel⟩
abbrev s_lot_at : Stmt := topS 9
theorem sc_lot_at : FnScope ["hands", "size", "number", "lot", "ahead", "hand", "many"] ["hands", "size", "number"] (defScope s_lot_at) := ⟨rfl, rfl, rfl, by decide +kernel, rfl, by decide +kernel, by decide +kernel⟩
abbrev s_number_of : Stmt := topS 10
theorem sc_number_of : FnScope ["hands", "lot", "size", "behind", "place", "hand"] ["hands", "lot"] (defScope s_number_of) := ⟨rfl, rfl, rfl, by decide +kernel, rfl, by decide +kernel, by decide +kernel⟩
abbrev s__law_pot : Stmt := topS 12
theorem sc__law_pot : FnScope ["_law_script", "_law_k", "_law_cell", "_law_great"] ["_law_script", "_law_k"] (defScope s__law_pot) := ⟨rfl, rfl, rfl, by decide +kernel, rfl, by decide +kernel, by decide +kernel⟩
abbrev s__law_take : Stmt := topS 13
theorem sc__law_take : FnScope ["_law_pot_here", "_law_room", "_law_digit", "_law_low", "_law_high", "_law_mixed", "_law_last"] ["_law_pot_here", "_law_room"] (defScope s__law_take) := ⟨rfl, rfl, rfl, by decide +kernel, rfl, by decide +kernel, by decide +kernel⟩
abbrev s__law_pick : Stmt := topS 14
theorem sc__law_pick : FnScope ["_law_pot_here", "_law_some"] ["_law_pot_here", "_law_some"] (defScope s__law_pick) := ⟨rfl, rfl, rfl, by decide +kernel, rfl, by decide +kernel, by decide +kernel⟩
abbrev s__law_some_lot : Stmt := topS 15
theorem sc__law_some_lot : FnScope ["_law_pot_here", "_law_many", "_law_room", "_law_left", "_law_found", "_law_turn"] ["_law_pot_here", "_law_many", "_law_room"] (defScope s__law_some_lot) := ⟨rfl, rfl, rfl, by decide +kernel, rfl, by decide +kernel, by decide +kernel⟩
abbrev s__law_rows : Stmt := topS 16
theorem sc__law_rows : FnScope ["_law_rows_here", "_law_last", "_law_k"] [] (defScope s__law_rows) := ⟨rfl, rfl, rfl, by decide +kernel, rfl, by decide +kernel, by decide +kernel⟩
abbrev s__law_ahead : Stmt := topS 17
theorem sc__law_ahead : FnScope ["_law_rows_here", "_law_many", "_law_row", "_law_found", "_law_at", "_law_hand", "_law_low", "_law_less"] ["_law_rows_here", "_law_many", "_law_row"] (defScope s__law_ahead) := ⟨rfl, rfl, rfl, by decide +kernel, rfl, by decide +kernel, by decide +kernel⟩
abbrev s__law_next : Stmt := topS 18
theorem sc__law_next : FnScope ["_law_many", "_law_row", "_law_at", "_law_k"] ["_law_many", "_law_row"] (defScope s__law_next) := ⟨rfl, rfl, rfl, by decide +kernel, rfl, by decide +kernel, by decide +kernel⟩
abbrev s__law_refused : Stmt := topS 19
theorem sc__law_refused : FnScope ["_law_many", "_law_wide", "_law_odd", "_law_caught", "error"] ["_law_many", "_law_wide", "_law_odd"] (defScope s__law_refused) := ⟨rfl, rfl, rfl, by decide +kernel, rfl, by decide +kernel, by decide +kernel⟩
abbrev s__law_lot_right : Stmt := topS 20
theorem sc__law_lot_right : FnScope ["_law_rows_here", "_law_many", "_law_row", "_law_due", "_law_later"] ["_law_rows_here", "_law_many", "_law_row"] (defScope s__law_lot_right) := ⟨rfl, rfl, rfl, by decide +kernel, rfl, by decide +kernel, by decide +kernel⟩
abbrev s__law_right : Stmt := topS 21
theorem sc__law_right : FnScope ["_law_pot_here", "_law_rows_here", "_law_turn", "_law_many", "_law_wide", "_law_total", "_law_place", "_law_some", "_law_row", "_law_odd"] ["_law_pot_here"] (defScope s__law_right) := ⟨rfl, rfl, rfl, by decide +kernel, rfl, by decide +kernel, by decide +kernel⟩
abbrev s_law : Stmt := topS 22
theorem sc_law : FnScope ["_law_script", "_law_k"] ["_law_script"] (defScope s_law) := ⟨rfl, rfl, rfl, by decide +kernel, rfl, by decide +kernel, by decide +kernel⟩
abbrev s_NoNumber : Stmt := clsDef (topS 3)
theorem sc_NoNumber : FnScope ["self", "thing"] ["self", "thing"] (defScope s_NoNumber) := ⟨rfl, rfl, rfl, by decide +kernel, rfl, by decide +kernel, by decide +kernel⟩
structure Txt (K : PySem.W.Frag) (mg : Str → Option Value) : Prop where
  d_is_whole : ∃ f fd, DefAt K mg "is_whole" s_is_whole ["thing"] f fd
  d_is_below : ∃ f fd, DefAt K mg "is_below" s_is_below ["bound", "thing"] f fd
  d_choose : ∃ f fd, DefAt K mg "choose" s_choose ["n", "k"] f fd
  d_lot_at : ∃ f fd, DefAt K mg "lot_at" s_lot_at ["hands", "size", "number"] f fd
  d_number_of : ∃ f fd, DefAt K mg "number_of" s_number_of ["hands", "lot"] f fd
  d_pot : ∃ f fd, DefAt K mg "_law_pot" s__law_pot ["_law_script", "_law_k"] f fd
  d_take : ∃ f fd, DefAt K mg "_law_take" s__law_take ["_law_pot_here", "_law_room"] f fd
  d_pick : ∃ f fd, DefAt K mg "_law_pick" s__law_pick ["_law_pot_here", "_law_some"] f fd
  d_some_lot : ∃ f fd, DefAt K mg "_law_some_lot" s__law_some_lot ["_law_pot_here", "_law_many", "_law_room"] f fd
  d_rows : ∃ f fd, DefAt K mg "_law_rows" s__law_rows [] f fd
  d_ahead : ∃ f fd, DefAt K mg "_law_ahead" s__law_ahead ["_law_rows_here", "_law_many", "_law_row"] f fd
  d_next : ∃ f fd, DefAt K mg "_law_next" s__law_next ["_law_many", "_law_row"] f fd
  d_refused : ∃ f fd, DefAt K mg "_law_refused" s__law_refused ["_law_many", "_law_wide", "_law_odd"] f fd
  d_lot_right : ∃ f fd, DefAt K mg "_law_lot_right" s__law_lot_right ["_law_rows_here", "_law_many", "_law_row"] f fd
  d_right : ∃ f fd, DefAt K mg "_law_right" s__law_right ["_law_pot_here"] f fd
  errs : ∃ C_NotSo C_Gone C_NoNumber : Addr, FamAt K mg "NotSo" C_NotSo ∧ FamAt K mg "Gone" C_Gone ∧ ErrAt K mg "NoNumber" "thing" "NoNumber.__init__" s_NoNumber C_NoNumber ∧ PySem.W.subIn K (.ref C_NoNumber) (.ref C_NotSo) = some false ∧ PySem.W.subIn K (.ref C_NoNumber) (.ref C_Gone) = some true ∧ PySem.W.subIn K (.ref C_NoNumber) (.type "LookupError") = some true
  z_LookupError : mg "LookupError" = none
  z_ValueError : mg "ValueError" = none
  z_abs : mg "abs" = none
  z_all : mg "all" = none
  z_bool : mg "bool" = none
  z_enumerate : mg "enumerate" = none
  z_int : mg "int" = none
  z_isinstance : mg "isinstance" = none
  z_len : mg "len" = none
  z_list : mg "list" = none
  z_max : mg "max" = none
  z_min : mg "min" = none
  z_range : mg "range" = none
  z_repr : mg "repr" = none
  z_sorted : mg "sorted" = none
  z_sum : mg "sum" = none
  z_tuple : mg "tuple" = none
section
variable {P : Program} {w : World} {K : PySem.W.Frag} {mg : Str → Option Value} {base : Heap}
/-! ### promises that hold where no repr is under way (the layer's own promises say nothing of that, and repr of a tuple asks it) -/
structure FnG (P : Program) (w : World) (K : PySem.W.Frag) (mg : Str → Option Value) (base : Heap) (CX : CXT) (k : Nat) (f : Addr)
    (fd : FuncData) (ps : List Str) (sp : Sp) : Prop where
  len : ∀ vs H Q E, sp vs H Q E → vs.length = ps.length
  go : ∀ (A : Around) (fs : List Env) (s : Shared) (H : Hp) (ar : Args) (us : List Value) (vs : List V) (Q : VK) (E : XK),
    Room k A → A.guards = some [] → Env0 P w K mg base A fs s H → BindsTo s fd ar (ps.zip us) → Vals vs us → sp vs H Q E →
    codeAny (model P w) A (.call (.ref f) ar) (CR CX fs P w H s Q E) s
section
variable {P : Program} {w : World} {K : PySem.W.Frag} {mg : Str → Option Value} {base : Heap} {CX : CXT}
theorem FnG.of {k : Nat} {f : Addr} {fd : FuncData} {ps : List Str} {sp : Sp} (F : FnOk P w K mg base CX k f fd ps sp) :
    FnG P w K mg base CX k f fd ps sp :=
  ⟨F.len, fun A fs s H ar us vs Q E a _ => F.run A fs s H ar us vs Q E a⟩
/-- a def's promise from its body, where no repr is under way -/
theorem FnG.by {x qual : Str} {st : Stmt} {f : Addr} {fd : FuncData} {N ps : List Str} {k : Nat} {sp : Sp} (F : Fun K x qual st f fd)
    (S : FnScope N ps (defScope st)) (len : ∀ vs H Q E, sp vs H Q E → vs.length = ps.length)
    (body : ∀ (cdv : Value) (A : Around) (fs : List Env) (s : Shared) (H : Hp) (vs : List V) (Q : VK) (E : XK),
      Room k (A.deeper (envOfC qual (defScope st) s.heap.objs.size f cdv)) → A.guards = some [] → sp vs H Q E →
      ∃ t, PSs (cxOf CX P w K mg base N qual (defScope st) f cdv A fs s H E) (defBody st) t ∧
        t { nx := fun _ H' => Q .non H', rt := Q } (start N vs) H) :
    FnG P w K mg base CX (k + 1) f fd ps sp := by
  obtain ⟨oc, od, kV, doc, pm, an, cdv, ct, osl, rfl, lk, cdok⟩ := F.ex
  refine ⟨len, ?_⟩
  intro A fs s H ar us vs Q E room gd env bd rel ask
  have kin : K.In s.heap := env.mod.kin.keeps fun b o z => (env.bs b o z).1
  have nol : s.heap.NoLimit := env.mod.nolimit.keeps fun b o z => (env.bs b o z).1
  have parK : ∀ y ∈ ps.zip us, (defScope st).names.lookup y.1 = some .local ∨
      ((defScope st).names.lookup y.1 = some .cell ∧
        ((cellsFrom (s.heap.objs.size + 1) (defScope st).names []).lookup y.1).isSome = true) := by
    rintro ⟨m, v⟩ hy
    rcases S.par m (List.of_mem_zip hy).1 with z | z
    · exact .inl z
    · exact .inr ⟨z, PySem.W.cellsFrom_some _ _ _ (.inl z)⟩
  refine codeAny_call_function room.depth (kin _ _ lk) rfl S.co S.gen rfl (PySem.W.codeRec_of kin cdok) (bd _ _ _ _ ?_)
  refine wpAny_newFunctionEnv_cells S.kind parK ?_
  rintro _ rfl s1 x
  refine ⟨nol.keeps x.toInCall.keep, codeAny_func ?_⟩
  obtain ⟨t, der, rd⟩ := body cdv A fs s H vs Q E (room.deeper _) gd ask
  have I := inv_start (CX := CX) (E := E) S room.hd env (len _ _ _ _ ask) rel x
  refine wpAny_mono (der.run [] s1 (start N vs) H _ I rd) ?_ fun e s' z => z
  intro fl s' z
  match fl, z with
  | .ret u, ⟨v, σ', H', J, rv, q⟩ => exact ⟨v, H', J.os, J.bare, J.base, J.hok, rv, q⟩
  | .next, ⟨σ', H', J, q⟩ => exact ⟨V.non, H', J.os, J.bare, J.base, J.hok, rfl, q⟩
  | .brk, ⟨_, _, _, q⟩ => exact False.elim q
  | .cont, ⟨_, _, _, q⟩ => exact False.elim q
end
/-- the same of a def that no error leaves -/
theorem FnG.by0 {P : Program} {w : World} {K : PySem.W.Frag} {mg : Str → Option Value} {base : Heap} {x qual : Str} {st : Stmt} {f : Addr}
    {fd : FuncData} {N ps : List Str} {k : Nat} {sp : Sp} (F : Fun K x qual st f fd) (S : FnScope N ps (defScope st))
    (len : ∀ vs H Q E, sp vs H Q E → vs.length = ps.length)
    (body : ∀ (cdv : Value) (A : Around) (fs : List Env) (s : Shared) (H : Hp) (vs : List V) (Q : VK) (E : XK),
      Room k (A.deeper (envOfC qual (defScope st) s.heap.objs.size f cdv)) → A.guards = some [] → sp vs H Q E →
      ∃ t, PSs (cxOf CX0 P w K mg base N qual (defScope st) f cdv A fs s H E).nox (defBody st) t ∧
        t { nx := fun _ H' => Q .non H', rt := Q } (start N vs) H) :
    FnG P w K mg base CX0 (k + 1) f fd ps sp :=
  FnG.by F S len fun cdv A fs s H vs Q E hr gd ask => by
    obtain ⟨t, d, r⟩ := body cdv A fs s H vs Q E hr gd ask
    exact ⟨t, d.nox, r⟩
theorem room70 {k : Nat} {A : Around} (r : Room k A) : A.units + 70 < cLine := by
  have z := r.un
  omega
section
variable {X : Cx} {CX : CXT} {k : Nat} {f : Addr} {fd : FuncData} {ps ks : List Str} {sp : Sp} {dvs : List V} {ds : List Value} {E : XK}
  {x : Str} {p pos : Pos} {e : Expr} {es : List Expr} {t tk : TA} {kws : List Keyword} {g : List Value → List Value → List Value} {gV : List V → List V → List V}
theorem goG {pins : List (Addr × Obj)} {σ : L2.St} {H : Hp} {s : Shared} {Q : VK} {ar : Args} {us : List Value} {vs : List V}
    (F : FnG X.prog X.w X.K X.mg X.base CX k f fd ps sp) (hr : Room k X.A) (gd : X.A.guards = some []) (hx : Passes CX X E)
    (I : Inv X pins σ H s) (bd : BindsTo s fd ar (ps.zip us)) (r : Vals vs us) (h : sp vs H Q E) :
    wpAny (model X.prog X.w) X.A (call (.ref f) ar.pos ar.kw) (EP X pins σ Q) X.xe s := by
  refine wpAny_call (codeAny_mono (F.go X.A X.stack s H ar us vs Q E hr gd I.env0 bd r h) ?_)
  intro res s' z
  match res, z with
  | .error e, z => exact hx pins σ H s e s' I z
  | .ok (.ret u), z => exact I.after z
  | .ok .next, z => exact False.elim z
  | .ok .brk, z => exact False.elim z
  | .ok .cont, z => exact False.elim z
theorem pg_call (F : FnG X.prog X.w X.K X.mg X.base CX k f fd ps sp) (hr : Room k X.A) (gd : X.A.guards = some []) (hg : Gl X x)
    (hm : X.mg x = some (.ref f)) (hk : PySem.W.keepIn X.K (.ref f) = true) (hb : Binds X.K fd ps []) (hx : Passes CX X E)
    (ha : PA X (e :: es) t) (d1 : (x == ("__debug__" : Str)) = false := by decide)
    (d2 : starEach (e :: es) X.env = (false, eval e X.env) :: starEach es X.env := by rfl)
    (d3 : (backTo pos (starEach es X.env)).any (·.1) = false := by rfl) :
    PE X (.Call (.Name x p) (e :: es) [] pos) (tCall sp [] E t) := by
  refine ⟨fun pins s σ H Q I h => wpAny_Call_Name_kw (ld_glob I hg hm ?_ d1)⟩
  refine PySem.W.callWith_K (h₀ := X.base) I.ok.mod.kin hk (thn (ha.run pos pins s σ H _ I h) ?_) d2 d3
  rintro us s1 ⟨vs, H1, I1, r, q⟩
  have q' : sp vs H1 Q E := by
    have z := q
    rw [List.append_nil] at z
    exact z
  have hl : (us ++ []).length = ps.length := by
    rw [List.append_nil, ← r.length]
    exact F.len _ _ _ _ q'
  have b := hb s1 us I1.kIn hl
  rw [List.append_nil] at b
  exact ⟨I1.kIn, goG (ar := ⟨us, []⟩) F hr gd hx I1 b r q'⟩
theorem pg_call0 (F : FnG X.prog X.w X.K X.mg X.base CX k f fd [] sp) (hr : Room k X.A) (gd : X.A.guards = some []) (hg : Gl X x)
    (hm : X.mg x = some (.ref f)) (hk : PySem.W.keepIn X.K (.ref f) = true) (hb : Binds X.K fd [] []) (hx : Passes CX X E)
    (d1 : (x == ("__debug__" : Str)) = false := by decide) : PE X (.Call (.Name x p) [] [] pos) (tCall sp [] E tNil) := by
  refine ⟨fun pins s σ H Q I h => wpAny_Call_Name_kw (ld_glob I hg hm ?_ d1)⟩
  exact PySem.W.callWith_K0 I.kIn hk (goG (ar := ⟨[], []⟩) F hr gd hx I (hb s [] I.kIn rfl) .nil h)
theorem pg_callK0 (F : FnG X.prog X.w X.K X.mg X.base CX k f fd ps sp) (hr : Room k X.A) (gd : X.A.guards = some []) (hg : Gl X x)
    (hm : X.mg x = some (.ref f)) (hk : PySem.W.keepIn X.K (.ref f) = true) (hb : KBinds X.K fd ps ks g gV) (hx : Passes CX X E)
    (hkw : PK X kws tk) (c1 : (backToKw pos (keywordEach kws X.env)).all (·.1.isSome) = true := by rfl)
    (c2 : (backToKw pos (keywordEach kws X.env)).filterMap (·.1) = ks := by rfl) (d1 : (x == ("__debug__" : Str)) = false := by decide)
    (c3 : ((backTo pos (starEach [] X.env)).any (·.1) || (backToKw pos (keywordEach kws X.env)).any (·.1.isNone)) = false := by rfl) :
    PE X (.Call (.Name x p) [] kws pos) (tCallK sp gV E tNil tk) := by
  refine ⟨fun pins s σ H Q I h => wpAny_Call_Name_kw (ld_glob I hg hm ?_ d1)⟩
  refine PySem.W.callWith_KW0 (h₀ := X.base) I.ok.mod.kin hk c1 (thn (hkw.run pos pins s σ H _ I h) ?_) c3
  rintro ws s2 ⟨zs, H2, I2, rz, q2⟩
  refine ⟨I2.kIn, ?_⟩
  rw [c2]
  have r2 : Vals (gV [] zs) (g [] ws) := hb.rel .nil rz
  have hl : (g [] ws).length = ps.length := by
    rw [← r2.length]
    exact F.len _ _ _ _ q2
  exact goG (ar := ⟨[], ks.zip ws⟩) F hr gd hx I2 (hb.to s2 [] ws I2.kIn hl) r2 q2
end
/-! the end over such a promise -/
theorem law_callG {P : Program} {w : World} {K : PySem.W.Frag} {mg mb : Str → Option Value} {CX : CXT} {k : Nat} {fa a : Addr} {fd : FuncData}
    {x : Str} {sp : Sp} {s : Shared} {vs : List Value} {ns : List Int} (kin : K.In s.heap) (gl : s.heap.Ns mainGlobals mg)
    (bn : s.heap.Ns builtinsNs mb) (bb : ∀ x : Str, x ≠ "__name__" → mb x = bootBuiltins x) (nol : s.heap.NoLimit) (ge : s.gens = #[])
    (ha : s.heap.get? a = some ⟨.type "list", none, .seq vs.toArray 0, #[]⟩) (hi : IntsAre vs ns) (hl : ns.length ≤ sizeLine)
    (hr : Room k callerA) (F : ∀ base : Heap, K.In base → base.Ns mainGlobals mg → FnG P w K mg base CX k fa fd [x] sp)
    (bd : ∀ (s : Shared) (u : Value), BindsTo s fd ⟨[u], []⟩ [(x, u)])
    (ask : ∀ H : Hp, SqL K H a (ns.map V.int) → sp [.ref a] H (fun v _ => v = .bl true) fun _ _ _ => False)
    (noX : ∀ H e s', CX [] H s (fun _ _ _ => False) e s' → False) :
    codeAny (model P w) callerA (.call (.ref fa) ⟨[.ref a], []⟩)
      (fun r s' => r = .ok (.ret (.bool true)) ∧ OldK s.heap s'.heap ∧ s'.os = s.os ∧ AllBare s'.gens) s := by
  have rv := vals_ints hi
  -- what is tracked: the script alone, locked; nothing where it is the module's own
  have main : ∀ H : Hp, (∀ b u, H b = some u → b = a ∧ K.lookup a = none ∧ u = .frz ⟨.type "list", none, .seq vs.toArray 0, #[]⟩ (.lst (ns.map V.int))) →
      SqL K H a (ns.map V.int) →
      codeAny (model P w) callerA (.call (.ref fa) ⟨[.ref a], []⟩)
        (fun r s' => r = .ok (.ret (.bool true)) ∧ OldK s.heap s'.heap ∧ s'.os = s.os ∧ AllBare s'.gens) s := by
    intro H only sq
    have free : ∀ {b : Addr}, b ≠ a → H b = none := fun {b} ne => by
      cases z : H b with
      | none => rfl
      | some u => exact absurd (only b u z).1 ne
    have off : ∀ {b : Addr} {o : Obj}, s.heap.get? b = some o → o.data ≠ .seq vs.toArray 0 → H b = none := fun {b o} z d => by
      refine free fun e => d ?_
      rw [e, ha] at z
      rw [← Option.some.inj z]
    have ns2 : ∀ {b : Addr} {m : Str → Option Value}, s.heap.Ns b m → (hidT s.heap H).Ns b m := by
      rintro b m ⟨o, es, ep, z, d, r⟩
      exact ⟨o, es, ep, hidT_get z (off z (by rw [d]; intro q; cases q)), d, r⟩
    have kin2 : K.In (hidT s.heap H) := fun b o z => hidT_get (kin b o z) (by
      cases q : H b with
      | none => rfl
      | some u =>
        obtain ⟨e, n, _⟩ := only b u q
        rw [e, n] at z
        cases z)
    have ok : HOk P w H s.heap := fun b u z => by
      obtain ⟨e, _, rfl⟩ := only b u z
      subst e
      exact ⟨ha, by rw [List.length_map]; exact hl, vs, _, rv, ha⟩
    obtain ⟨mc, c1, c2⟩ := nol
    have env : Env0 P w K mg (hidT s.heap H) callerA [] s H :=
      { frames := rfl, mod := ⟨kin2, ns2 gl, ⟨mb, ns2 bn, bb⟩, ⟨mc, ns2 c1, c2⟩⟩, bs := fun b o z => of_hidT z,
        bsz := Nat.le_of_eq (hidT_size _ _), funs := trivial, frf := fun b hb => (List.not_mem_nil hb).elim, hok := ok, bare := .of_eq ge }
    refine codeAny_mono ((F _ kin2 (ns2 gl)).go callerA [] s H ⟨[.ref a], []⟩ [.ref a] [.ref a] _ _ hr rfl env (bd s _) (.cons rfl .nil) (ask H sq)) ?_
    intro res s' z
    match res, z with
    | .error e, z => exact (noX H e s' z).elim
    | .ok .next, z => exact False.elim z
    | .ok .brk, z => exact False.elim z
    | .ok .cont, z => exact False.elim z
    | .ok (.ret u), ⟨v, H', os, bare, un, ok', r', q⟩ =>
      have q' : v = .bl true := q
      subst q'
      obtain rfl : u = Value.bool true := r'
      refine ⟨rfl, OldK.of_keep fun b o z => ?_, os, bare⟩
      cases y : H b with
      | none => exact un.keep b o z y (fun h => (List.not_mem_nil h).elim) (List.not_mem_nil)
      | some u =>
        obtain ⟨e, _, rfl⟩ := only b u y
        have y2 := un.frzs b _ _ y
        obtain ⟨e2, _⟩ := ok' b _ y2
        rw [e] at z e2 ⊢
        rw [ha] at z
        cases z
        exact e2
  cases hk : K.lookup a with
  | some o =>
    have z := kin a o hk
    rw [ha] at z
    cases z
    refine main (fun _ => none) (fun b u q => nomatch q) (.inr ⟨_, vs.toArray, _, hk, rfl, rfl, rfl, ?_, by simpa using rv⟩)
    rw [List.size_toArray, hi.length]
    exact hl
  | none =>
    refine main (fun b => if b = a then some (.frz ⟨.type "list", none, .seq vs.toArray 0, #[]⟩ (.lst (ns.map V.int))) else none) ?_ (.inl (.inr ⟨_, if_pos rfl⟩))
    intro b u q
    by_cases e : b = a
    · rw [if_pos e] at q
      exact ⟨e, hk, (Option.some.inj q).symm⟩
    · rw [if_neg e] at q
      cases q
theorem walkG {l : PySem.W.OpenLaw} {n k : Nat} {q : Program} {loose : List Str} {XP : (Str → Option Value) → Heap → Prop}
    {YP : World → Heap → Prop} {d : DefRec} {K : Params → PySem.W.Frag} {sp : World → Sp} {x : Str} (hn : l.most = some n) (hz : n ≤ sizeLine)
    (hdf : d.params.defaults = []) (hr : Room k callerA) (hY : ∀ (w : World) (h : Heap), YP w h → (K w.params).In h)
    (F : ∀ (w : World) (mg : Str → Option Value) (fa : Addr) (h : Heap), (K w.params).In h → h.Ns mainGlobals mg → mg d.name = some (.ref fa) →
      ∃ fd : FuncData, (∀ (s : Shared) (u : Value), BindsTo s fd ⟨[u], []⟩ [(x, u)]) ∧
        ∀ base : Heap, (K w.params).In base → base.Ns mainGlobals mg → FnG l.prog w (K w.params) mg base CX0 k fa fd [x] (sp w))
    (ask : ∀ (w : World) (H : Hp) (a : Addr) (ns : List Int), ns.length ≤ n → SqL (K w.params) H a (ns.map V.int) →
      sp w [.ref a] H (fun v _ => v = .bl true) fun _ _ _ => False) :
    PySem.W.WalkO q loose XP YP l.row.toRowW d [] (fun f vs => PySem.call f vs) := by
  refine Att.attach_call hn hdf ?_
  intro w s₀ s₁ mg mb fa o pm cd doc a vs ns G Y ho hd hcd hmg hobj hints hlen hg
  have kin := hY w _ Y
  obtain ⟨fd, hb, hF⟩ := F w mg fa _ kin G.T.g hmg
  exact law_callG kin G.T.g G.T.b G.T.builtins G.T.nolimit hg hobj hints (Nat.le_trans hlen hz) hr hF hb (fun H hS => ask w H a ns hlen hS) fun _ _ _ z => z

/-! ### repr of data, where no repr is under way -/
def Shows (K : PySem.W.Frag) (H : Hp) (x : V) (d : PyData) : Prop :=
  (Dp K H x d ∧ d.showable = true ∧ SeqAt.shaped d = true ∧ d.shown.length ≤ sizeLine) ∨ (∃ a, x = .ref a ∧ H a = some (.dK []) ∧ d = .dict [])
def rRepr (K : PySem.W.Frag) : List V → Hp → VK → Prop := fun xs H Q =>
  ∃ (x : V) (d : PyData), xs = [x] ∧ Shows K H x d ∧ Q (.str d.shown) H
theorem k_repr {X : Cx} (K : PySem.W.Frag) (gd : X.A.guards = some []) (hu : X.A.units + 70 < cLine) (hK : X.K = K := by rfl) :
    CallR X (.builtin "repr") (rRepr K) := by
  subst hK
  intro pins s σ H xs us Q I r h
  obtain ⟨x, d, rfl, sh, q⟩ := h
  cases r with
  | cons r rr =>
    cases rr
    rename_i u
    rcases sh with ⟨dp, hs, hsh, hz⟩ | ⟨a, rfl, ha, rfl⟩
    · have hd := SeqAt.depth_of_shaped hsh
      have nd := PyData.hasDict_of_canLay d (SeqAt.canLay_of_shaped hsh)
      obtain ⟨as, rd⟩ := dp.reads I d x u r
      cases rd with
      | none => exact PySem.P.repr_of_none ⟨.str _, H, I.tok _, ⟨_, rfl⟩, q⟩
      | bool b => exact PySem.P.repr_of_bool ⟨.str _, H, I.tok _, ⟨_, rfl⟩, q⟩
      | int i t => exact PySem.P.repr_of_int (of_decide_eq_true hs) ⟨.str _, H, I.tok _, ⟨_, rfl⟩, q⟩
      | str y t => exact PySem.P.repr_of_str ⟨.str _, H, I.tok _, ⟨_, rfl⟩, q⟩ hz
      | list h1 h2 h3 h4 =>
        refine repr_of_reads' (h₀ := s.heap) (Reads.list h1 h2 h3 h4) hs (PyData.noDict_hsm nd) gd (by omega) (fun _ _ e => e) (fun h' v tk hk => ?_) hz
        exact ⟨.str _, H, I.kept (t' := tk) hk, ⟨_, rfl⟩, q⟩
      | tuple h1 h2 h3 h4 =>
        refine repr_of_reads' (h₀ := s.heap) (Reads.tuple h1 h2 h3 h4) hs (PyData.noDict_hsm nd) gd (by omega) (fun _ _ e => e) (fun h' v tk hk => ?_) hz
        exact ⟨.str _, H, I.kept (t' := tk) hk, ⟨_, rfl⟩, q⟩
      | dict => cases nd
    · cases r
      obtain ⟨_, sm, vs, kv, o, es, ep, h1, h2, h3, h4⟩ := I.hok a _ ha
      cases kv
      have e0 : es = #[] := by
        obtain ⟨_, h5, _⟩ := h4
        have z : es.toList = [] := by
          cases hz : es.toList with
          | nil => rfl
          | cons y r =>
            rw [hz] at h5
            cases h5
        exact Array.toList_eq_nil_iff.mp z
      subst e0
      have dd : PyData.depth (.dict []) ≤ 3 := by decide +kernel
      refine repr_of_reads' (h₀ := s.heap) (d := .dict []) (Reads.dict h1 h2.1 h3 .nil .nil) rfl (fun _ => ?_) gd (by omega) (fun _ _ e => e) (fun h' v tk hk => ?_) (by decide +kernel)
      · intro z
        have z2 : sysModules = a := by simpa using z
        rw [z2] at sm
        simp at sm
      · exact ⟨.str _, H, I.kept (t' := tk) hk, ⟨_, rfl⟩, q⟩

/-! ### choose -/
def chF (n : Int) : Nat → Int
  | 0 => 1
  | i + 1 => chF n i * (n - i) / ((i : Int) + 1)
def chs (n k : Int) : Int := if k < 0 then 0 else if k > n then 0 else chF n (if n - k < k then n - k else k).toNat
def spChoose : Sp := fun vs H Q _ => ∃ n k : Int, vs = [.int n, .int k] ∧ n ≤ 1000 ∧ Q (.int (chs n k)) H
theorem ok_choose {f : Addr} {fd : FuncData} (F : Fun K "choose" "choose" s_choose f fd) (T : Txt K mg) : FnOk P w K mg base CX0 1 f fd ["n", "k"] spChoose := by
  refine F.ok sc_choose (fun vs H Q E h => ?_) (fun cdv A outer s H vs Q E hr h => ?_)
  · obtain ⟨n, k, rfl, _⟩ := h
    rfl
  · obtain ⟨n, k, rfl, hn, q⟩ := h
    refine ⟨_, (pss_cons (ps_if (PW.pt (pw_or (pt_cmpR op_lt (pv 1) pe_int (nomark _)) (pw_or1 (pt_cmpR op_gt (pv 1) (pv 0) (nomark _)))))
 (pss_one (ps_ret pe_int))
 pss_nil)
 (pss_cons (ps_set (i := 2) sc_choose.nd rfl (by first | exact Or.inl rfl | exact Or.inr rfl) pe_int)
 (pss_cons (ps_for PassesOwn.never rfl (pi_range1 (by rfl) T.z_range (pa_cons (pe_callB (call_min2 rfl) (by rfl) T.z_min (by decide +kernel) (pa_cons (pv 1) (pa_cons (pe_op op_sub (pv 0) (pv 1)) pa_nil))) pa_nil)) (pg_name (i := 3) sc_choose.nd rfl (by first | exact Or.inl rfl | exact Or.inr rfl))
 (pss_one (ps_set (i := 2) sc_choose.nd rfl (by first | exact Or.inl rfl | exact Or.inr rfl) (pe_op op_fdiv (pe_op op_mul (pv 2) (pe_op op_sub (pv 0) (pv 3))) (pe_op op_add (pv 3) pe_int)))))
 (pss_one (ps_ret (pv 2)))))), ?_⟩
    refine ⟨_, rfl, _, _, rfl, rfl, _, rfl, ite2 (fun e => ?_) (fun e => ?_)⟩
    · have e0 : k < 0 := of_decide_eq_true e
      refine iteT ?_
      have z : chs n k = 0 := by
        unfold chs
        rw [if_pos e0]
      rw [z] at q
      exact q
    · have e0 : ¬ k < 0 := fun z => e (decide_eq_true z)
      refine ⟨_, rfl, _, rfl, _, _, rfl, rfl, _, rfl, ite2 (fun e2 => ?_) (fun e2 => ?_)⟩
      · have e1 : k > n := of_decide_eq_true e2
        have z : chs n k = 0 := by
          unfold chs
          rw [if_neg e0, if_pos e1]
        rw [z] at q
        exact q
      · have e1 : ¬ k > n := fun z => e2 (decide_eq_true z)
        have z : chs n k = chF n (if n - k < k then n - k else k).toNat := by
          unfold chs
          rw [if_neg e0, if_neg e1]
        rw [z] at q
        refine ⟨_, rfl, _, rfl, _, rfl, _, _, rfl, rfl, _, _, rfl, _, rfl, ?_, ?_, for_range (lo := 0) (fun i σ H' => ∃ v, σ = [some (.int n), some (.int k), some (.int (chF n i)), v] ∧ H' = H) ⟨none, rfl, rfl⟩ ?_ ?_⟩
        · split <;> omega
        · split <;> omega
        · rintro i σ H' hi ⟨v, rfl, rfl⟩
          have hin : (i : Int) < n := by
            split at hi <;> omega
          refine ⟨_, rfl, _, rfl, _, rfl, _, _, rfl, rfl, _, _, rfl, rfl, .inr ⟨?_, ?_⟩, _, rfl, _, _, rfl, rfl, _, _, rfl, rfl, ⟨?_, ?_⟩, some (.int (0 + (i : Int))), ?_, rfl⟩
          · omega
          · omega
          · omega
          · omega
          · show _ = [some (V.int n), some (V.int k), some (V.int (chF n i * (n - (i : Int)) / ((i : Int) + 1))), some (V.int (0 + (i : Int)))]
            rw [Int.zero_add]
            rfl
        · rintro σ H' ⟨v, rfl, rfl⟩
          exact ⟨_, rfl, q⟩

/-! ### rising rows -/
def Ris (n : Int) : Int → List Int → Prop
  | _, [] => True
  | h, x :: t => h ≤ x ∧ x < n ∧ Ris n (x + 1) t
theorem Ris.le {n : Int} : ∀ {l : List Int} {h h' : Int}, Ris n h l → h' ≤ h → Ris n h' l
  | [], _, _, _, _ => trivial
  | _ :: _, _, _, r, e => ⟨Int.le_trans e r.1, r.2⟩
theorem Ris.up {n h x : Int} {t : List Int} (r : Ris n h (x :: t)) (e : ¬ x = h) : Ris n (h + 1) (x :: t) := ⟨by have := r.1; omega, r.2⟩
theorem Ris.at {n : Int} : ∀ {l : List Int} {h : Int} {i : Nat} {x : Int}, Ris n h l → l[i]? = some x → h ≤ x ∧ x < n
  | y :: t, h, 0, x, r, e => by
    cases e
    exact ⟨r.1, r.2.1⟩
  | y :: t, h, i + 1, x, r, e => by
    have z := Ris.at (i := i) r.2.2 e
    have := r.1
    exact ⟨by omega, z.2⟩
theorem Ris.len {n : Int} : ∀ {l : List Int} {h : Int}, Ris n h l → h ≤ n → (l.length : Int) ≤ n - h
  | [], h, _, e => by
    show (0 : Int) ≤ n - h
    omega
  | x :: t, h, r, _ => by
    have z := Ris.len r.2.2 (by have := r.2.1; omega)
    have := r.1
    show ((t.length + 1 : Nat) : Int) ≤ n - h
    omega

/-! ### lots as rows of signs in and out, and their numbers -/
theorem pas_all : ((List.range 60).all fun m => (List.range 63).all fun j => decide (chs ((m : Int) + 1) (j : Int) = chs (m : Int) ((j : Int) - 1) + chs (m : Int) (j : Int))) = true := by decide +kernel
theorem chs_big {n k : Int} (h : n < k) : chs n k = 0 := by
  unfold chs
  by_cases h0 : k < 0
  · rw [if_pos h0]
  · rw [if_neg h0, if_pos h]
theorem chs_in {n k : Int} (h0 : 0 ≤ k) (h1 : k ≤ n) : chs n k = chF n (if n - k < k then n - k else k).toNat := by
  unfold chs
  rw [if_neg (show ¬ k < 0 by omega), if_neg (show ¬ k > n by omega)]
theorem chs_neg {n k : Int} (h : k < 0) : chs n k = 0 := by
  unfold chs
  rw [if_pos h]
theorem pas {m j : Nat} (hm : m < 60) : chs ((m : Int) + 1) (j : Int) = chs (m : Int) ((j : Int) - 1) + chs (m : Int) (j : Int) := by
  by_cases hj : j < 63
  · exact of_decide_eq_true (List.all_eq_true.mp (List.all_eq_true.mp pas_all m (List.mem_range.mpr hm)) j (List.mem_range.mpr hj))
  · rw [chs_big (by omega), chs_big (by omega), chs_big (by omega)]
    rfl
theorem chs_zero (n : Nat) : chs (n : Int) 0 = 1 := by
  unfold chs
  rw [if_neg (by decide), if_neg (by omega)]
  split
  · rename_i h
    omega
  · rfl
theorem chs_sym {n k : Int} (h0 : 0 ≤ k) (h1 : k ≤ n) : chs n (n - k) = chs n k := by
  rw [chs_in h0 h1, chs_in (show 0 ≤ n - k by omega) (show n - k ≤ n by omega)]
  congr 2
  split <;> split <;> omega
theorem chs_nn_all : ((List.range 61).all fun m => (List.range 62).all fun j => decide (0 ≤ chs (m : Int) (j : Int))) = true := by decide +kernel
theorem chs_nn {m : Nat} (hm : m ≤ 60) (k : Int) : 0 ≤ chs (m : Int) k := by
  by_cases h0 : k < 0
  · rw [chs_neg h0]
    exact Int.le_refl 0
  · by_cases h1 : k < 62
    · obtain ⟨j, rfl⟩ : ∃ j : Nat, k = (j : Int) := ⟨k.toNat, by omega⟩
      exact of_decide_eq_true (List.all_eq_true.mp (List.all_eq_true.mp chs_nn_all m (List.mem_range.mpr (by omega))) j (List.mem_range.mpr (by omega)))
    · rw [chs_big (by omega)]
      exact Int.le_refl 0
def cnt : List Bool → Nat
  | [] => 0
  | true :: b => cnt b + 1
  | false :: b => cnt b
def rk : List Bool → Int
  | [] => 0
  | true :: b => rk b
  | false :: b => chs (b.length : Int) ((cnt b : Int) - 1) + rk b
def bh : List Bool → Int
  | [] => 0
  | true :: b => chs (b.length : Int) ((cnt b : Int) + 1) + bh b
  | false :: b => bh b
def nots (b : List Bool) : List Bool := b.map (!·)
theorem cnt_le : ∀ b : List Bool, cnt b ≤ b.length
  | [] => Nat.le_refl _
  | true :: b => Nat.succ_le_succ (cnt_le b)
  | false :: b => Nat.le_succ_of_le (cnt_le b)
theorem cnt_nots : ∀ b : List Bool, cnt (nots b) + cnt b = b.length
  | [] => rfl
  | true :: b => by
    have h := cnt_nots b
    show cnt (nots b) + (cnt b + 1) = b.length + 1
    omega
  | false :: b => by
    have h := cnt_nots b
    show cnt (nots b) + 1 + cnt b = b.length + 1
    omega
theorem rk_bh : ∀ b : List Bool, b.length ≤ 60 → rk b + bh b + 1 = chs (b.length : Int) (cnt b : Int)
  | [], _ => by decide +kernel
  | true :: b, h => by
    have hl : b.length < 60 := h
    have ih := rk_bh b (by omega)
    have p := pas (m := b.length) (j := cnt b + 1) hl
    show rk b + (chs (b.length : Int) ((cnt b : Int) + 1) + bh b) + 1 = chs ((b.length + 1 : Nat) : Int) ((cnt b + 1 : Nat) : Int)
    rw [show ((b.length + 1 : Nat) : Int) = (b.length : Int) + 1 by omega, p, show ((cnt b + 1 : Nat) : Int) - 1 = (cnt b : Int) by omega, show ((cnt b + 1 : Nat) : Int) = (cnt b : Int) + 1 by omega, ← ih]
    omega
  | false :: b, h => by
    have hl : b.length < 60 := h
    have ih := rk_bh b (by omega)
    have p := pas (m := b.length) (j := cnt b) hl
    show chs (b.length : Int) ((cnt b : Int) - 1) + rk b + bh b + 1 = chs ((b.length + 1 : Nat) : Int) (cnt b : Int)
    rw [show ((b.length + 1 : Nat) : Int) = (b.length : Int) + 1 by omega, p, ← ih]
    omega
theorem rk_nn : ∀ b : List Bool, b.length ≤ 60 → 0 ≤ rk b
  | [], _ => Int.le_refl 0
  | true :: b, h => rk_nn b (by have z : b.length + 1 ≤ 60 := h; omega)
  | false :: b, h => by
    have z : b.length + 1 ≤ 60 := h
    exact Int.add_nonneg (chs_nn (by omega) _) (rk_nn b (by omega))
theorem bh_nn : ∀ b : List Bool, b.length ≤ 60 → 0 ≤ bh b
  | [], _ => Int.le_refl 0
  | false :: b, h => bh_nn b (by have z : b.length + 1 ≤ 60 := h; omega)
  | true :: b, h => by
    have z : b.length + 1 ≤ 60 := h
    exact Int.add_nonneg (chs_nn (by omega) _) (bh_nn b (by omega))
theorem rk_lt {b : List Bool} (h : b.length ≤ 60) : rk b < chs (b.length : Int) (cnt b : Int) := by
  have e := rk_bh b h
  have n := bh_nn b h
  omega
theorem rk_nots : ∀ b : List Bool, b.length ≤ 60 → rk (nots b) = bh b
  | [], _ => rfl
  | true :: b, h => by
    have z : b.length + 1 ≤ 60 := h
    have ih := rk_nots b (by omega)
    have c := cnt_nots b
    show chs ((nots b).length : Int) ((cnt (nots b) : Int) - 1) + rk (nots b) = chs (b.length : Int) ((cnt b : Int) + 1) + bh b
    rw [ih, show (nots b).length = b.length from List.length_map _]
    by_cases hc : cnt b = b.length
    · rw [chs_neg (by omega), chs_big (by omega)]
    · have s := chs_sym (n := (b.length : Int)) (k := (cnt b : Int) + 1) (by omega) (by have := cnt_le b; omega)
      rw [← s, show (b.length : Int) - ((cnt b : Int) + 1) = (cnt (nots b) : Int) - 1 by omega]
  | false :: b, h => by
    have z : b.length + 1 ≤ 60 := h
    exact rk_nots b (by omega)
/-! rising rows of hands -/
def bts : Nat → Int → List Int → List Bool
  | 0, _, _ => []
  | m + 1, h, [] => false :: bts m (h + 1) []
  | m + 1, h, x :: t => if x = h then true :: bts m (h + 1) t else false :: bts m (h + 1) (x :: t)
theorem bts_cons (m : Nat) (h x : Int) (t : List Int) : bts (m + 1) h (x :: t) = if x = h then true :: bts m (h + 1) t else false :: bts m (h + 1) (x :: t) := rfl
theorem bts_len : ∀ (m : Nat) (h : Int) (l : List Int), (bts m h l).length = m
  | 0, _, _ => rfl
  | m + 1, h, [] => congrArg (· + 1) (bts_len m (h + 1) [])
  | m + 1, h, x :: t => by
    unfold bts
    split
    · exact congrArg (· + 1) (bts_len m (h + 1) t)
    · exact congrArg (· + 1) (bts_len m (h + 1) (x :: t))
theorem bts_cnt : ∀ (m : Nat) (h : Int) (l : List Int), Ris (h + m) h l → cnt (bts m h l) = l.length
  | 0, h, [], _ => rfl
  | 0, h, x :: t, r => by
    have := r.1
    have := r.2.1
    omega
  | m + 1, h, [], _ => bts_cnt m (h + 1) [] trivial
  | m + 1, h, x :: t, r => by
    have e1 : h + ((m + 1 : Nat) : Int) = h + 1 + (m : Int) := by omega
    rw [e1] at r
    unfold bts
    split
    · rename_i e
      subst e
      exact congrArg (· + 1) (bts_cnt m (x + 1) t r.2.2)
    · rename_i e
      exact bts_cnt m (h + 1) (x :: t) (r.up e)
/-- what number_of takes off -/
def bs (n : Int) : List Int → Int
  | [] => 0
  | x :: t => chs (n - x - 1) ((t.length : Int) + 1) + bs n t
theorem bs_bh : ∀ (m : Nat) (h : Int) (l : List Int), Ris (h + m) h l → bs (h + m) l = bh (bts m h l)
  | 0, h, [], _ => rfl
  | 0, h, x :: t, r => by
    have := r.1
    have := r.2.1
    omega
  | m + 1, h, [], _ => by
    have ih := bs_bh m (h + 1) [] trivial
    exact ih
  | m + 1, h, x :: t, r => by
    have e1 : h + ((m + 1 : Nat) : Int) = h + 1 + (m : Int) := by omega
    rw [e1] at r ⊢
    unfold bts
    split
    · rename_i e
      subst e
      have ih := bs_bh m (x + 1) t r.2.2
      have c := bts_cnt m (x + 1) t r.2.2
      show chs (x + 1 + (m : Int) - x - 1) ((t.length : Int) + 1) + bs (x + 1 + m) t = chs ((bts m (x + 1) t).length : Int) ((cnt (bts m (x + 1) t) : Int) + 1) + bh (bts m (x + 1) t)
      rw [ih, c, bts_len, show x + 1 + (m : Int) - x - 1 = (m : Int) by omega]
    · rename_i e
      exact bs_bh m (h + 1) (x :: t) (r.up e)
/-- the number of a lot of n hands -/
def num (n : Nat) (l : List Int) : Int := rk (bts n 0 l)
theorem num_is {n : Nat} {l : List Int} (hn : n ≤ 60) (r : Ris n 0 l) : chs n l.length - 1 - bs n l = num n l := by
  have r0 : Ris ((0 : Int) + n) 0 l := by
    rw [Int.zero_add]
    exact r
  have e := rk_bh (bts n 0 l) (by rw [bts_len]; exact hn)
  rw [bts_len, bts_cnt n 0 l r0, ← bs_bh n 0 l r0, Int.zero_add] at e
  unfold num
  omega
theorem num_nn {n : Nat} {l : List Int} (hn : n ≤ 60) : 0 ≤ num n l := rk_nn _ (by rw [bts_len]; exact hn)
theorem num_lt {n : Nat} {l : List Int} (hn : n ≤ 60) (r : Ris n 0 l) : num n l < chs n l.length := by
  have r0 : Ris ((0 : Int) + n) 0 l := by
    rw [Int.zero_add]
    exact r
  have e := rk_lt (b := bts n 0 l) (by rw [bts_len]; exact hn)
  rw [bts_len, bts_cnt n 0 l r0] at e
  exact e
/-- of two lots of a size the lesser tuple has the lesser number -/
theorem rk_lex : ∀ (m : Nat) (h : Int) (l k : List Int), m ≤ 60 → l.length = k.length → Ris (h + m) h l → Ris (h + m) h k → HT.lexLt l k = decide (rk (bts m h l) < rk (bts m h k)) ∧ (rk (bts m h l) = rk (bts m h k) → l = k)
  | 0, h, [], [], _, _, _, _ => ⟨rfl, fun _ => rfl⟩
  | 0, h, [], y :: u, _, e, _, _ => by cases e
  | 0, h, x :: t, k, _, _, r, _ => by
    have := r.1
    have := r.2.1
    omega
  | m + 1, h, [], [], _, _, _, _ => ⟨by rw [decide_eq_false (Int.lt_irrefl _)]; rfl, fun _ => rfl⟩
  | m + 1, h, [], y :: u, _, e, _, _ => by cases e
  | m + 1, h, x :: t, [], _, e, _, _ => by cases e
  | m + 1, h, x :: t, y :: u, hm, e, r, q => by
    have e1 : h + ((m + 1 : Nat) : Int) = h + 1 + (m : Int) := by omega
    rw [e1] at r q
    have el : t.length = u.length := Nat.succ.inj e
    by_cases hx : x = h
    · by_cases hy : y = h
      · subst hx
        subst hy
        have ih := rk_lex m (y + 1) t u (by omega) el r.2.2 q.2.2
        unfold bts
        rw [if_pos rfl, if_pos rfl, HT.lexLt_cons, if_pos rfl]
        refine ⟨ih.1, fun z => ?_⟩
        rw [ih.2 z]
      · subst hx
        have c1 := bts_cnt m (x + 1) t r.2.2
        have c2 := bts_cnt m (x + 1) (y :: u) (q.up hy)
        have l1 := rk_lt (b := bts m (x + 1) t) (by rw [bts_len]; omega)
        have n2 := rk_nn (bts m (x + 1) (y :: u)) (by rw [bts_len]; omega)
        have lt : rk (bts (m + 1) x (x :: t)) < rk (bts (m + 1) x (y :: u)) := by
          unfold bts
          rw [if_pos rfl, if_neg hy]
          show rk (bts m (x + 1) t) < chs ((bts m (x + 1) (y :: u)).length : Int) ((cnt (bts m (x + 1) (y :: u)) : Int) - 1) + rk (bts m (x + 1) (y :: u))
          rw [c2, bts_len]
          rw [c1, bts_len] at l1
          rw [show (((y :: u).length : Nat) : Int) - 1 = (t.length : Int) by rw [List.length_cons, ← el]; omega]
          omega
        refine ⟨?_, fun z => absurd z (by omega)⟩
        rw [decide_eq_true lt, HT.lexLt_cons, if_neg (fun z => hy z.symm)]
        exact decide_eq_true (by have := q.1; omega)
    · by_cases hy : y = h
      · subst hy
        have c1 := bts_cnt m (y + 1) u q.2.2
        have c2 := bts_cnt m (y + 1) (x :: t) (r.up hx)
        have l1 := rk_lt (b := bts m (y + 1) u) (by rw [bts_len]; omega)
        have n2 := rk_nn (bts m (y + 1) (x :: t)) (by rw [bts_len]; omega)
        have lt : rk (bts (m + 1) y (y :: u)) < rk (bts (m + 1) y (x :: t)) := by
          unfold bts
          rw [if_pos rfl, if_neg hx]
          show rk (bts m (y + 1) u) < chs ((bts m (y + 1) (x :: t)).length : Int) ((cnt (bts m (y + 1) (x :: t)) : Int) - 1) + rk (bts m (y + 1) (x :: t))
          rw [c2, bts_len]
          rw [c1, bts_len] at l1
          rw [show (((x :: t).length : Nat) : Int) - 1 = (u.length : Int) by rw [List.length_cons, el]; omega]
          omega
        refine ⟨?_, fun z => absurd z (by omega)⟩
        rw [decide_eq_false (by omega), HT.lexLt_cons, if_neg hx]
        exact decide_eq_false (by have := r.1; omega)
      · have ih := rk_lex m (h + 1) (x :: t) (y :: u) (by omega) e (r.up hx) (q.up hy)
        have c1 := bts_cnt m (h + 1) (x :: t) (r.up hx)
        have c2 := bts_cnt m (h + 1) (y :: u) (q.up hy)
        have e3 : ∀ a b : Int, decide (chs ((bts m (h + 1) (x :: t)).length : Int) ((cnt (bts m (h + 1) (x :: t)) : Int) - 1) + a < chs ((bts m (h + 1) (y :: u)).length : Int) ((cnt (bts m (h + 1) (y :: u)) : Int) - 1) + b) = decide (a < b) := fun a b => by
          rw [c1, c2, bts_len, bts_len, e]
          exact decide_eq_decide.mpr ⟨by omega, by omega⟩
        unfold bts
        rw [if_neg hx, if_neg hy]
        refine ⟨ih.1.trans (e3 _ _).symm, fun z => ih.2 ?_⟩
        have z2 : chs ((bts m (h + 1) (x :: t)).length : Int) ((cnt (bts m (h + 1) (x :: t)) : Int) - 1) + rk (bts m (h + 1) (x :: t)) = chs ((bts m (h + 1) (y :: u)).length : Int) ((cnt (bts m (h + 1) (y :: u)) : Int) - 1) + rk (bts m (h + 1) (y :: u)) := z
        rw [c1, c2, bts_len, bts_len, e] at z2
        omega
theorem num_lex {n : Nat} {l k : List Int} (hn : n ≤ 60) (e : l.length = k.length) (r : Ris n 0 l) (q : Ris n 0 k) : HT.lexLt l k = decide (num n l < num n k) := by
  have z : (0 : Int) + n = n := Int.zero_add _
  exact (rk_lex n 0 l k hn e (z.symm ▸ r) (z.symm ▸ q)).1
theorem num_inj {n : Nat} {l k : List Int} (hn : n ≤ 60) (e : l.length = k.length) (r : Ris n 0 l) (q : Ris n 0 k) (h : num n l = num n k) : l = k := by
  have z : (0 : Int) + n = n := Int.zero_add _
  exact (rk_lex n 0 l k hn e (z.symm ▸ r) (z.symm ▸ q)).2 h
/-- the hands left out -/
def rst : Nat → Int → List Int → List Int
  | 0, _, _ => []
  | m + 1, h, [] => h :: rst m (h + 1) []
  | m + 1, h, x :: t => if x = h then rst m (h + 1) t else h :: rst m (h + 1) (x :: t)
theorem rst_ris : ∀ (m : Nat) (h : Int) (l : List Int), Ris (h + m) h (rst m h l)
  | 0, _, _ => trivial
  | m + 1, h, [] => by
    have ih := rst_ris m (h + 1) []
    rw [show h + ((m + 1 : Nat) : Int) = h + 1 + (m : Int) by omega]
    exact ⟨Int.le_refl _, by omega, ih⟩
  | m + 1, h, x :: t => by
    rw [show h + ((m + 1 : Nat) : Int) = h + 1 + (m : Int) by omega]
    unfold rst
    split
    · exact (rst_ris m (h + 1) t).le (by omega)
    · exact ⟨Int.le_refl _, by omega, rst_ris m (h + 1) (x :: t)⟩
theorem bts_skip (m : Nat) (h : Int) (l : List Int) (r : Ris (h + 1 + m) (h + 1) l) : bts (m + 1) h l = false :: bts m (h + 1) l := by
  cases l with
  | nil => rfl
  | cons y u =>
    rw [bts_cons, if_neg (by have := r.1; omega)]
theorem bts_rst : ∀ (m : Nat) (h : Int) (l : List Int), bts m h (rst m h l) = nots (bts m h l)
  | 0, _, _ => rfl
  | m + 1, h, [] => by
    have ih := bts_rst m (h + 1) []
    unfold rst
    show (if h = h then true :: bts m (h + 1) (rst m (h + 1) []) else _) = true :: nots (bts m (h + 1) [])
    rw [if_pos rfl, ih]
  | m + 1, h, x :: t => by
    unfold rst
    by_cases e : x = h
    · rw [if_pos e, bts_skip m h _ (rst_ris m (h + 1) t), bts_rst m (h + 1) t]
      rw [show bts (m + 1) h (x :: t) = true :: bts m (h + 1) t from by rw [bts_cons, if_pos e]]
      rfl
    · rw [if_neg e, show bts (m + 1) h (x :: t) = false :: bts m (h + 1) (x :: t) from by rw [bts_cons, if_neg e]]
      show (if h = h then true :: bts m (h + 1) (rst m (h + 1) (x :: t)) else _) = true :: nots (bts m (h + 1) (x :: t))
      rw [if_pos rfl, bts_rst m (h + 1) (x :: t)]
theorem num_rst {n : Nat} {l : List Int} (hn : n ≤ 60) (r : Ris n 0 l) : num n (rst n 0 l) = chs n l.length - 1 - num n l := by
  have r0 : Ris ((0 : Int) + n) 0 l := by
    rw [Int.zero_add]
    exact r
  have e := rk_bh (bts n 0 l) (by rw [bts_len]; exact hn)
  rw [bts_len, bts_cnt n 0 l r0] at e
  unfold num
  rw [bts_rst, rk_nots _ (by rw [bts_len]; exact hn)]
  omega
theorem rst_len {n : Nat} {l : List Int} (r : Ris n 0 l) : (rst n 0 l).length + l.length = n := by
  have r0 : Ris ((0 : Int) + n) 0 l := by
    rw [Int.zero_add]
    exact r
  have c := cnt_nots (bts n 0 l)
  rw [← bts_rst, bts_cnt n 0 _ (rst_ris n 0 l), bts_cnt n 0 l r0, bts_len] at c
  exact c
/-- a rising row of hands, gone through hand by hand: those that aren't in it -/
theorem rst_filter : ∀ (m : Nat) (h : Int) (l : List Int), Ris (h + m) h l → rst m h l = ((List.range m).map fun (i : Nat) => h + (i : Int)).filter fun x => !l.contains x
  | 0, _, _, _ => rfl
  | m + 1, h, l, r => by
    have hshift : ((List.range (m + 1)).map fun (i : Nat) => h + (i : Int)) = h :: ((List.range m).map fun (i : Nat) => h + 1 + (i : Int)) := by
      rw [List.range_succ_eq_map, List.map_cons, List.map_map]
      congr 1
      · omega
      · apply List.map_congr_left
        intro i _
        show h + ((i + 1 : Nat) : Int) = h + 1 + (i : Int)
        omega
    rw [hshift]
    have e1 : h + ((m + 1 : Nat) : Int) = h + 1 + (m : Int) := by omega
    rw [e1] at r
    cases l with
    | nil =>
      have ih := rst_filter m (h + 1) [] trivial
      rw [List.filter_cons, if_pos (show (!([] : List Int).contains h) = true from rfl), ← ih]
      rfl
    | cons x t =>
      unfold rst
      by_cases e : x = h
      · subst e
        have ih := rst_filter m (x + 1) t r.2.2
        rw [if_pos rfl, List.filter_cons, if_neg (by simp), ih]
        apply List.filter_congr
        intro y hy
        obtain ⟨i, _, rfl⟩ := List.mem_map.mp hy
        have ne : ¬ (x + 1 + (i : Int) = x) := by omega
        simp [ne]
      · have ih := rst_filter m (h + 1) (x :: t) (r.up e)
        have nin : (x :: t).contains h = false := by
          have : ∀ (k : List Int) (b : Int), Ris (h + 1 + m) b k → h < b → k.contains h = false := by
            intro k
            induction k with
            | nil => intros; rfl
            | cons z u ih2 =>
              intro b rz hb
              rw [List.contains_cons, ih2 (z + 1) rz.2.2 (by have := rz.1; omega)]
              have : ¬ h = z := by have := rz.1; omega
              simp [this]
          exact this _ _ (r.up e) (by omega)
        rw [if_neg e, List.filter_cons, if_pos (by rw [nin]; rfl), ih]

/-! ### is_whole, is_below -/
def wholeV : V → Bool
  | .int _ => true
  | _ => false
def boolV : V → Bool
  | .bl _ => true
  | _ => false
def belowV (b : Int) : V → Bool
  | .int i => decide (0 ≤ i) && decide (i < b)
  | _ => false
/-- its kind is known, and whether it is an int, a bool -/
def Kd (K : PySem.W.Frag) (H : Hp) (v : V) : Prop := ∃ n : String, TyX K H v (.type n) ∧ kitB n "int" = some (wholeV v || boolV v) ∧ kitB n "bool" = some (boolV v)
theorem kd_int {K : PySem.W.Frag} {H : Hp} (i : Int) : Kd K H (.int i) := ⟨"int", .base (.int i), by show kitB "int" "int" = some true; decide +kernel, by show kitB "int" "bool" = some false; decide +kernel⟩
theorem kd_bl {K : PySem.W.Frag} {H : Hp} (b : Bool) : Kd K H (.bl b) := ⟨"bool", .base (.bl b), by show kitB "bool" "int" = some true; decide +kernel, by show kitB "bool" "bool" = some true; decide +kernel⟩
theorem kd_non {K : PySem.W.Frag} {H : Hp} : Kd K H .non := ⟨"NoneType", .base .non, by decide +kernel, by decide +kernel⟩
theorem kd_str {K : PySem.W.Frag} {H : Hp} (x : Str) : Kd K H (.str x) := ⟨"str", .base (.str x), by show kitB "str" "int" = some false; decide +kernel, by show kitB "str" "bool" = some false; decide +kernel⟩
theorem kd_lst {K : PySem.W.Frag} {H : Hp} {a : Addr} {xs : List V} (e : H a = some (.lst xs)) : Kd K H (.ref a) := ⟨"list", .base (.lst e), by show kitB "list" "int" = some false; decide +kernel, by show kitB "list" "bool" = some false; decide +kernel⟩
theorem kd_tup {K : PySem.W.Frag} {H : Hp} {a : Addr} {xs : List V} (e : H a = some (.tup xs)) : Kd K H (.ref a) := ⟨"tuple", .base (.tup e), by show kitB "tuple" "int" = some false; decide +kernel, by show kitB "tuple" "bool" = some false; decide +kernel⟩
theorem kd_dK {K : PySem.W.Frag} {H : Hp} {a : Addr} {xs : List (Key × V)} (e : H a = some (.dK xs)) : Kd K H (.ref a) := ⟨"dict", .base (.dK e), by show kitB "dict" "int" = some false; decide +kernel, by show kitB "dict" "bool" = some false; decide +kernel⟩
def spWhole (K : PySem.W.Frag) : Sp := fun vs H Q _ => ∃ v, vs = [v] ∧ Kd K H v ∧ Q (.bl (wholeV v)) H
theorem ok_is_whole {f : Addr} {fd : FuncData} (F : Fun K "is_whole" "is_whole" s_is_whole f fd) (T : Txt K mg) : FnOk P w K mg base CX0 1 f fd ["thing"] (spWhole K) := by
  refine F.ok sc_is_whole (fun vs H Q E h => ?_) (fun cdv A outer s H vs Q E hr h => ?_)
  · obtain ⟨v, rfl, _⟩ := h
    rfl
  · obtain ⟨v, rfl, ⟨n, ty, k1, k2⟩, q⟩ := h
    refine ⟨_, (pss_one (ps_ret (pe_and (pe_callB (k_isi K) (by rfl) T.z_isinstance (by decide +kernel) (pa_cons (pv 0) (pa_cons (pe_bltn (v := .ty "int") (by rfl) T.z_int (by decide +kernel) rfl) pa_nil))) (pe_one (pe_not (pe_callB (k_isi K) (by rfl) T.z_isinstance (by decide +kernel) (pa_cons (pv 0) (pa_cons (pe_bltn (v := .ty "bool") (by rfl) T.z_bool (by decide +kernel) rfl) pa_nil)))))))), ?_⟩
    refine ⟨_, rfl, _, _, _, _, _, rfl, .ty _, ty, kit_ty k1, _, rfl, ?_⟩
    cases hw : wholeV v || boolV v with
    | false =>
      refine iteF ?_
      have : wholeV v = false := by
        cases h1 : wholeV v with
        | false => rfl
        | true =>
          rw [h1] at hw
          cases hw
      rw [this] at q
      exact q
    | true =>
      refine iteT ?_
      refine ⟨_, rfl, _, _, _, _, _, rfl, .ty _, ty, kit_ty k2, _, rfl, ?_⟩
      have : wholeV v = !boolV v := by
        cases v <;> first | rfl | cases hw
      rw [← this]
      exact q
def spBelow (K : PySem.W.Frag) : Sp := fun vs H Q _ => ∃ b v, vs = [.int b, v] ∧ Kd K H v ∧ Q (.bl (belowV b v)) H
theorem ok_is_below {f : Addr} {fd : FuncData} (F : Fun K "is_below" "is_below" s_is_below f fd) (T : Txt K mg) : FnOk P w K mg base CX0 2 f fd ["bound", "thing"] (spBelow K) := by
  obtain ⟨fW, fdW, D_is_whole⟩ := T.d_is_whole
  have G_is_whole : FnOk P w K mg base CX0 1 fW fdW _ _ := ok_is_whole D_is_whole.F T
  refine F.ok sc_is_below (fun vs H Q E h => ?_) (fun cdv A outer s H vs Q E hr h => ?_)
  · obtain ⟨b, v, rfl, _⟩ := h
    rfl
  · obtain ⟨b, v, rfl, kd, q⟩ := h
    refine ⟨_, (pss_one (ps_ret (pe_and (pe_call G_is_whole (hr.mono (by decide)) (by rfl) D_is_whole.g D_is_whole.F.kp D_is_whole.b .nil pass0 (pa_cons (pv 1) pa_nil)) (pe_one (pe_chain op_le op_lt pe_int (pv 1) (pv 0)))))), ?_⟩
    refine ⟨_, rfl, v, rfl, kd, _, rfl, ?_⟩
    cases v with
    | int i =>
      refine iteT ?_
      refine ⟨_, rfl, _, _, rfl, rfl, _, rfl, ite2 (fun e => ?_) (fun e => ?_)⟩
      · refine ⟨_, rfl, _, _, rfl, rfl, ?_⟩
        have e1 : belowV b (.int i) = decide (i < b) := by
          show (decide (0 ≤ i) && decide (i < b)) = decide (i < b)
          rw [e]
          rfl
        rw [e1] at q
        exact q
      · have e1 : belowV b (.int i) = false := by
          show (decide (0 ≤ i) && decide (i < b)) = false
          rw [show decide (0 ≤ i) = false from Bool.eq_false_iff.mpr e]
          rfl
        rw [e1] at q
        exact q
    | _ => exact iteF q

/-! ### enumerate of a tuple: the rule that the layer lacks -/
section
set_option maxHeartbeats 4000000
theorem enumT_new (t : Addr) (vals : Array Value) :
    Meets (Builtin.«enumerate.__new__» ⟨[.type "enumerate", .ref t], []⟩)
      (fun _ R s => s.heap.IsTuple t vals ∧
        R (.ok (.ret (.ref (s.heap.push ⟨.type "tuple_iterator", none, .fields #[.ref t, .int 0 0], #[]⟩).objs.size)))
          { s with heap := ((s.heap.push ⟨.type "tuple_iterator", none, .fields #[.ref t, .int 0 0], #[]⟩).push ⟨.type "enumerate", none, .fields #[.none, .bool false, .ref s.heap.objs.size, rawInt 0, .none, .none], #[]⟩) }) :=
  .of_wp fun prog w A R s hyp => by
    obtain ⟨hp, g, d, tk, os⟩ := s
    obtain ⟨hT, hyp⟩ := hyp
    have below := sub_enumerate
    have B := begins_tuple t vals
    have it : ∀ {A' : Around} {E' : Value → Shared → Prop} {Q' : Value → Shared → Prop},
        Q' (.ref hp.objs.size) ⟨hp.push ⟨.type "tuple_iterator", none, .fields #[.ref t, .int 0 0], #[]⟩, g, d, tk, os⟩ →
        wpAny (model prog w) A' (pyIter (.ref t)) Q' E' ⟨hp, g, d, tk, os⟩ :=
      fun z => B.iter prog w _ _ ⟨hp, g, d, tk, os⟩ _ hT z
    wp_walk using it
    refine wpAny_stack_any fun st => ?_
    refine wpAny_pure ?_
    split
    · rename_i c _ _ _ _ _
      cases (c == Value.type "enumerate") <;> (wp_walk using it) <;> exact ⟨_, rfl, hyp⟩
    · wp_walk using it
      exact ⟨_, rfl, hyp⟩
theorem enumT_call {prog : Program} {w : World} {A : Around} {E : Value → Shared → Prop} {s : Shared} {t : Addr} {vals : Array Value}
    {Q : Value → Shared → Prop} (hT : s.heap.IsTuple t vals)
    (k : ∀ h', IsEnum h' (s.heap.objs.size + 1) s.heap.objs.size 0 .none → h'.IsTupleIter s.heap.objs.size t 0 →
      h'.objs.size = s.heap.objs.size + 2 → (∀ b o, s.heap.get? b = some o → h'.get? b = some o) →
      Q (.ref (s.heap.objs.size + 1)) { s with heap := h' }) :
    wpAny (model prog w) A (call (.type "enumerate") [.ref t]) Q E s := by
  refine callType_new F.called_enumerate (by decide) (F.typeCall_enumerate_1 _) (F.newCall_enumerate_1 _)
    (fun ob => F.args_object_init_2 ob _) F.entry_enumerate_new (enumT_new t vals) ⟨hT, ?_⟩
  generalize hq1 : s.heap.push ⟨.type "tuple_iterator", none, .fields #[.ref t, .int 0 0], #[]⟩ = q1
  have sz1 : q1.objs.size = s.heap.objs.size + 1 := by
    rw [← hq1]
    exact Heap.size_push ..
  have g1 : q1.get? s.heap.objs.size = some ⟨.type "tuple_iterator", none, .fields #[.ref t, .int 0 0], #[]⟩ := by
    rw [← hq1]
    exact Heap.get?_push_size _ rfl
  have k1 : ∀ b o, s.heap.get? b = some o → q1.get? b = some o := fun b o e => by
    rw [← hq1]
    exact Heap.get?_push_of_some _ e
  show _ ∧ _
  have he : IsEnum (q1.push ⟨.type "enumerate", none, .fields #[.none, .bool false, .ref s.heap.objs.size, rawInt 0, .none, .none], #[]⟩)
      (s.heap.objs.size + 1) s.heap.objs.size 0 .none := by
    have z := Heap.get?_push_size q1
      (o := ⟨.type "enumerate", none, .fields #[.none, .bool false, .ref s.heap.objs.size, rawInt 0, .none, .none], #[]⟩) rfl
    rw [sz1] at z
    exact z
  rw [sz1]
  refine ⟨⟨_, he, rfl⟩, k _ he ?_ ?_ ?_⟩
  · exact ⟨⟨.type "tuple_iterator", none, .fields #[.ref t, .int 0 0], #[]⟩, Heap.get?_push_of_some _ g1, rfl, rfl⟩
  · rw [Heap.size_push, sz1]
  · intro b o e
    exact Heap.get?_push_of_some _ (k1 b o e)
/-- the tuple at a, each item in a new pair with its place -/
def IteT (K : PySem.W.Frag) (a : Addr) : It where
  go := fun i H => ∃ (xs : List V) (x : V), SqT K H a xs ∧ xs[i]? = some x
  yld := fun i H v H' => ∃ p x, v = .ref p ∧ H p = none ∧ H' = upd H p (.tup [.int (i : Nat), x]) ∧ ∀ xs, SqT K H a xs → xs[i]? = some x
  stop := fun i H => ∃ xs : List V, SqT K H a xs ∧ xs.length ≤ i
theorem turn_enumT {P : Program} {w : World} {K : PySem.W.Frag} {elts : List Expr} {kk : Nat} {tpos : Pos} (a e it : Addr) :
    Turn P w K (.Tuple elts kk tpos) (IteT K a) [e, it] e
      (fun i h => (∃ old, IsEnum h e it ((i : Nat) : Int) old) ∧ h.IsTupleIter it a i ∧ e ≠ it ∧ a ≠ it ∧ a ≠ e) where
  mem := by simp
  obj := by
    intro i h st b hb
    obtain ⟨⟨old, he⟩, ⟨o, ho, _, hd⟩, _⟩ := st
    rcases (show b = e ∨ b = it by simpa using hb) with rfl | rfl
    · exact ⟨_, he, fun v q => nomatch q⟩
    · refine ⟨o, ho, fun v q => ?_⟩
      rw [hd] at q
      cases q
  keep := by
    intro i h h' st k
    obtain ⟨⟨old, he⟩, hi, hne⟩ := st
    exact ⟨⟨old, k e (by simp) _ he⟩, hi.at (fun o q => k it (by simp) o q), hne⟩
  item := by
    intro X eP ew eK hc i pins s σ H E I hf st hg
    subst eP ew eK
    obtain ⟨⟨old, he⟩, hit, hne, hai, hae⟩ := st
    obtain ⟨xs, x, hq, hx⟩ := hg
    obtain ⟨its, rv, p, _⟩ := I.tuple hq
    obtain ⟨u, hu, ru⟩ := rv.get hx
    have le : e < s.heap.objs.size := Heap.lt_size he
    have li : it < s.heap.objs.size := by
      obtain ⟨_, z, _⟩ := hit
      exact Heap.lt_size z
    have D := Draws.tuple (prog := X.prog) (w := X.w) (A := X.A.in1) (I.ok.hd hc) it a hai its.toArray
    refine wpAny_pyNext_enum_itemC D he ⟨hit, p⟩ (i := i) ?_ hne (by simp [hne, Ne.symm hae]) fun y h' tk hy ho hst hT hsz hk => ?_
    · have z := (List.getElem?_eq_some_iff.mp hu).1
      simpa using z
    have ey : y = u := by
      have z : its.toArray[i]? = some u := by simpa using hu
      rw [z] at hy
      exact (Option.some.inj hy).symm
    subst ey
    refine ⟨_, rfl, wpAny_letOwnedTupleGo_enum (s := { s with heap := h', toks := tk + 1 }) ho fun h2 he2 sb => ?_⟩
    have hT2 : h2.get? s.heap.objs.size = some ⟨.type "tuple", none, .seq #[.int i tk, y], #[]⟩ :=
      (sb.2 _ (Nat.ne_of_gt le)).trans hT
    have new : ObjOk X.prog X.w (upd H s.heap.objs.size (.tup [.int (i : Nat), x])) h2 s.heap.objs.size (.tup [.int (i : Nat), x]) :=
      ⟨by show 2 ≤ sizeLine; decide, [.int i tk, y], .cons ⟨_, rfl⟩ (.cons ru .nil), ⟨_, hT2, rfl, _, rfl⟩⟩
    have keepB : ∀ b ob, b ∉ [e, it] → s.heap.get? b = some ob → h2.get? b = some ob := fun b ob hb z => by
      have be : b ≠ e := fun q => hb (by simp [q])
      have bi : b ≠ it := fun q => hb (by simp [q])
      exact (sb.2 b be).trans (hk b ob be bi z)
    have I1 : Inv X pins σ (upd H s.heap.objs.size (.tup [.int (i : Nat), x])) { s with heap := h2, toks := tk + 1 } :=
      I.turnedNew (ch := [e, it]) (fun b ob hb z => keepB b ob hb z) hf (Nat.le_refl _) new
    refine ⟨.ref s.heap.objs.size, _, I1, rfl, ⟨_, x, rfl, I.hok.fresh (Nat.le_refl _), rfl, fun ys hy2 => ?_⟩, ⟨⟨y, ?_⟩, ?_, hne, hai, hae⟩, fun b hb => ?_⟩
    · rw [I.tuple_inj hy2 hq]
      exact hx
    · rw [show ((i + 1 : Nat) : Int) = (i : Int) + 1 by omega]
      exact he2
    · exact hst.1.at fun o z => (sb.2 it (Ne.symm hne)).trans z
    · have lb : b < s.heap.objs.size := by
        rcases (show b = e ∨ b = it by simpa using hb) with rfl | rfl
        · exact le
        · exact li
      rw [upd_ne (Nat.ne_of_lt lb)]
      exact (hf b hb).1
  done := by
    intro X eP ew eK hc i pins s σ H E I hf st hg
    subst eP ew eK
    obtain ⟨⟨old, he⟩, hit, hne, hai, hae⟩ := st
    obtain ⟨xs, hq, hx⟩ := hg
    obtain ⟨its, rv, p, _⟩ := I.tuple hq
    obtain ⟨f0, f1, f2, f3, f4, f5⟩ := hf it (by simp)
    have hl := rv.length
    have D : Draws X.prog X.w X.A.in1 it [it, a] i (fun _ _ => False) (fun j h => j = i ∧ h.IsTupleIter it a i ∧ h.IsTuple a its.toArray) :=
      { live := fun _ _ z => by
          obtain ⟨_, ⟨o, ho, _⟩, _⟩ := z
          exact ⟨o, ho⟩
        frame := fun _ _ _ z k =>
          ⟨z.1, z.2.1.at fun o q => k it (by simp) o q, z.2.2.at fun o q => k a (by simp) o q⟩
        item := fun j _ _ _ hj z _ => absurd z.1 (Nat.ne_of_lt hj)
        done := fun _ _ _ z k => wpAny_nextOf_tuple_end (I.ok.hd hc) z.2.1 z.2.2 (by simp; omega) k }
    refine wpAny_pyNext_enum_endD D he ⟨rfl, hit, p⟩ fun h' eb => ⟨rfl, ?_⟩
    exact I.turned (t' := s.toks) (fun b o hb q => eb b o hb q) f0 f1 f3 f4 f5
  self := by
    intro A i s Q E st k
    obtain ⟨⟨_, he⟩, _⟩ := st
    exact wpAny_pyIter_enum he k
def iEnumT (K : PySem.W.Frag) (ta : TA) : TI := fun σ H R =>
  ta σ H fun vs H1 => ∃ a xs, vs = [.ref a] ∧ SqT K H1 a xs ∧ R (IteT K a) H1
/-- for i, x in enumerate(t), t a tuple -/
theorem pi_enumT (K : PySem.W.Frag) {X : Cx} {e : Expr} {ta : TA} {p pos tpos : Pos} {elts : List Expr} {kk : Nat} (hg : Gl X "enumerate")
    (hm : X.mg "enumerate" = none) (ha : PA X [e] ta) (hK : X.K = K := by rfl) (hs : starEach [e] X.env = [(false, eval e X.env)] := by rfl) :
    PI X (.Tuple elts kk tpos) (.Call (.Name "enumerate" p) [e] [] pos) (iEnumT K ta) := by
  subst hK
  refine ⟨fun pins s σ H R I h => ?_⟩
  refine Call_ (ld_blt I hg hm boot_enumerate (PyProof.Rows.callWith_type1 (thn (ha.run pos pins s σ H _ I h) ?_) hs rfl))
  rintro us s1 ⟨vs, H1, I1, r1, a, xs, rfl, hq, q⟩
  cases r1 with
  | cons r rr =>
    cases rr
    cases r
    obtain ⟨its, rv, pT, _⟩ := I1.tuple hq
    have la : a < s1.heap.objs.size := by
      obtain ⟨o, ho, _⟩ := (show s1.heap.IsTuple a its.toArray from pT)
      exact Heap.lt_size ho
    refine enumT_call (show s1.heap.IsTuple a its.toArray from pT) fun h' he hit hsz hk => wpAny_pyIter_enum he ?_
    have I2 : Inv X pins σ H1 { s1 with heap := h' } := I1.kept (t' := s1.toks) hk
    refine ⟨s1.heap.objs.size + 1, [s1.heap.objs.size + 1, s1.heap.objs.size], _, _, H1, rfl, I2, turn_enumT a _ _, ?_, fun b hb => ?_, q⟩
    · exact ⟨⟨.none, he⟩, hit, Nat.succ_ne_self _, Nat.ne_of_lt la, Nat.ne_of_lt (Nat.lt_succ_of_lt la)⟩
    · have lb : s1.heap.objs.size ≤ b := by
        rcases (show b = s1.heap.objs.size + 1 ∨ b = s1.heap.objs.size by simpa using hb) with rfl | rfl
        · exact Nat.le_succ _
        · exact Nat.le_refl _
      exact I1.fpOk lb (I1.hok.fresh lb)
end
theorem lc_enumT {K : PySem.W.Frag} {a : Addr} {xs : List V} {g : TG} {tt : TT} {te : TE} {vs : List Nat} {σ : L2.St} {H1 : Hp} {D : Addr} {Qd : Hp → Prop}
    (Pv : Nat → Hp → Prop) (h0 : Pv 0 (upd H1 D (.lst []))) (hl : ∀ i H, i ≤ xs.length → Pv i H → SqT K H a xs)
    (hs : ∀ i x H p, xs[i]? = some x → Pv i H → H p = none →
      g (.ref p) (wipe σ vs) (upd H p (.tup [.int (i : Nat), x])) fun σ2 H2 => wipe σ2 vs = wipe σ vs ∧ tt σ2 H2 fun b H3 =>
        if b = true then te σ2 H3 fun y H4 => ∃ acc, H4 D = some (.lst acc) ∧ acc.length < sizeLine ∧ Pv (i + 1) (upd H4 D (.lst (acc ++ [y])))
        else Pv (i + 1) H3)
    (hd : ∀ H, Pv xs.length H → Qd H) :
    ∃ W : Nat → Nat → Hp → Prop, (∃ m, W 0 m (upd H1 D (.lst []))) ∧ ∀ i m H, W i m H →
      ((IteT K a).stop i H ∧ Qd H) ∨
      ((IteT K a).go i H ∧ ∃ Nx : Hp → Prop, (∀ H', Nx H' → ∃ m', m' < m ∧ W (i + 1) m' H') ∧
        ∀ x H', (IteT K a).yld i H x H' → g x (wipe σ vs) H' fun σ2 H2 => wipe σ2 vs = wipe σ vs ∧ tt σ2 H2 fun b H3 =>
          if b = true then te σ2 H3 fun y H4 => ∃ acc, H4 D = some (.lst acc) ∧ acc.length < sizeLine ∧ Nx (upd H4 D (.lst (acc ++ [y])))
          else Nx H3) := by
  refine ⟨fun i m H => m + i = xs.length ∧ Pv i H, ⟨xs.length, rfl, h0⟩, ?_⟩
  rintro i m H ⟨hm, p⟩
  have q := hl i H (by omega) p
  by_cases lt : i < xs.length
  · refine .inr ⟨⟨xs, xs[i], q, List.getElem?_eq_getElem lt⟩, Pv (i + 1), fun H' p' => ⟨m - 1, by omega, by omega, p'⟩, ?_⟩
    rintro x H' ⟨t, y, rfl, ht, rfl, hy⟩
    exact hs i y H t (hy xs q) p ht
  · have e : i = xs.length := by omega
    subst e
    exact .inl ⟨⟨xs, q, Nat.le_refl _⟩, hd H p⟩

/-! ### number_of -/
def spNumber (K : PySem.W.Frag) : Sp := fun vs H Q _ => ∃ (n : Nat) (a : Addr) (l : List Int), vs = [.int n, .ref a] ∧ SqT K H a (l.map V.int) ∧ n ≤ 60 ∧ Ris n 0 l ∧ ∀ H', Same H H' → Q (.int (num n l)) H'
theorem bs_sum (n : Int) (l : List Int) : ∀ (m : Nat), m ≤ l.length → bs n l = ((List.range m).map fun i => chs (n - l.getD i 0 - 1) ((l.length : Int) - (i : Int))).sum + bs n (l.drop m) := by
  intro m
  induction m with
  | zero => intro _; simp
  | succ m ih =>
    intro h
    rw [ih (by omega), range_map_succ, List.sum_append, List.sum_singleton, Int.add_assoc]
    congr 1
    have hd : l.drop m = l.getD m 0 :: l.drop (m + 1) := by
      rw [List.drop_eq_getElem_cons (by omega), List.getD_eq_getElem?_getD, List.getElem?_eq_getElem (by omega)]
      rfl
    rw [hd]
    show chs (n - l.getD m 0 - 1) (((l.drop (m + 1)).length : Int) + 1) + bs n (l.drop (m + 1)) = _
    rw [List.length_drop, show ((l.length - (m + 1) : Nat) : Int) + 1 = (l.length : Int) - (m : Int) by omega]
theorem ok_number_of {f : Addr} {fd : FuncData} (F : Fun K "number_of" "number_of" s_number_of f fd) (T : Txt K mg) : FnOk P w K mg base CX0 2 f fd ["hands", "lot"] (spNumber K) := by
  obtain ⟨fC, fdC, D_choose⟩ := T.d_choose
  have G_choose : FnOk P w K mg base CX0 1 fC fdC _ _ := ok_choose D_choose.F T
  refine F.ok sc_number_of (fun vs H Q E h => ?_) (fun cdv A outer s H vs Q E hr h => ?_)
  · obtain ⟨n, a, l, rfl, _⟩ := h
    rfl
  · obtain ⟨n, a, l, rfl, hS, hn, r, q⟩ := h
    have hl := r.len (by omega)
    refine ⟨_, (pss_cons (ps_set (i := 2) sc_number_of.nd rfl (by first | exact Or.inl rfl | exact Or.inr rfl) (pe_callB (k_len K) (by rfl) T.z_len (by decide +kernel) (pa_cons (pv 1) pa_nil)))
 (pss_cons (ps_set (i := 3) sc_number_of.nd rfl (by first | exact Or.inl rfl | exact Or.inr rfl) (pe_callB (k_sum K rfl) (by rfl) T.z_sum (by decide +kernel) (pa_cons (pe_lc (own := [("place", 4), ("hand", 5)]) (g := gTup K 2 (gCons (gName 4) (gCons (gName 5) gNil))) (tt := tYes) rfl sc_number_of.nd (pi_enumT K (by rfl) T.z_enumerate (pa_cons (pv 1) pa_nil)) (blkOk_by (own := [("place", 4), ("hand", 5)]) (N := ["hands", "lot", "size", "behind", "place", "hand"]) (sc := (defScope s_number_of)) (by decide +kernel)) (fun _ _ _ _ _ => k_pgT K rfl (pgs_cons (pg_name (i := 4) sc_number_of.nd rfl (by first | exact Or.inl rfl | exact Or.inr rfl)) (pgs_cons (pg_name (i := 5) sc_number_of.nd rfl (by first | exact Or.inl rfl | exact Or.inr rfl)) pgs_nil))) (fun _ _ _ _ _ => pts_nil) (fun _ _ _ _ _ => (pe_call G_choose (hr.mono (by decide)) (by rfl) D_choose.g D_choose.F.kp D_choose.b .nil pass0 (pa_cons (pe_op op_sub (pe_op op_sub (pv 0) (pv 5)) pe_int) (pa_cons (pe_op op_sub (pv 2) (pv 4)) pa_nil))))) pa_nil)))
 (pss_one (ps_ret (pe_op op_sub (pe_op op_sub (pe_call G_choose (hr.mono (by decide)) (by rfl) D_choose.g D_choose.F.kp D_choose.b .nil pass0 (pa_cons (pv 0) (pa_cons (pv 2) pa_nil))) pe_int) (pv 3)))))), ?_⟩
    refine ⟨_, rfl, a, _, rfl, .inr hS, ?_⟩
    rw [List.length_map]
    refine ⟨_, rfl, a, _, rfl, hS, fun D nD => lc_enumT (a := a) (xs := l.map V.int) (fun i H' => Same H H' ∧ H' D = some (.lst (((List.range i).map fun i => chs ((n : Int) - l.getD i 0 - 1) ((l.length : Int) - (i : Int))).map V.int))) ⟨same_upd nD, upd_same⟩ (fun i H' _ h => seqT h.1 hS) ?_ ?_⟩
    · rintro i x H' p hx ⟨sm, hD⟩ np
      obtain ⟨u, hu, rfl⟩ := map_int_get hx
      have hi : i < l.length := (List.getElem?_eq_some_iff.mp hu).1
      have hd : l.getD i 0 = u := by
        rw [List.getD_eq_getElem?_getD, hu]
        rfl
      have sp := same_upd (o := .tup [.int (i : Nat), .int u]) np
      refine ⟨p, _, rfl, .inl (.inl upd_same), rfl, _, _, rfl, _, _, rfl, rfl, rfl, lcT ?_⟩
      refine ⟨_, rfl, _, rfl, _, _, rfl, rfl, _, _, rfl, rfl, _, rfl, _, rfl, _, _, rfl, rfl, _, _, rfl, ?_, _, sp _ _ hD, ?_, ?_, ?_⟩
      · have z := r.at hu
        omega
      · rw [List.length_map, List.length_map, List.length_range]
        exact small1000 (by omega)
      · intro b o e
        rw [upd_ne (ne_of_none e nD)]
        exact sp _ _ (sm _ _ e)
      · rw [upd_same, range_map_succ, List.map_append, hd]
        rfl
    · rintro H' ⟨sm, hD⟩
      rw [List.length_map] at hD
      refine ⟨D, _, rfl, SqL.of hD, ?_⟩
      refine ⟨_, rfl, _, rfl, _, _, rfl, by omega, _, _, rfl, rfl, _, rfl, _, _, rfl, rfl, ?_⟩
      have e := bs_sum n l l.length (Nat.le_refl _)
      rw [List.drop_length] at e
      have e2 : bs (n : Int) [] = 0 := rfl
      rw [e2, Int.add_zero] at e
      rw [← e]
      show Q (.int (chs n l.length - 1 - bs n l)) H'
      rw [num_is hn r]
      exact q _ sm

/-! ### lot_at, of anything as its number -/
theorem ok_NoNumber_init {fI : Addr} {fd : FuncData} {C : Addr} (F : Fun K "__init__" "NoNumber.__init__" s_NoNumber fI fd) (T : OexB K C) (tk : PySem.W.takerIn K C "thing" = some none) : FnOk P w K mg base CX0 1 fI fd ["self", "thing"] (spIni "thing" C) := by
  refine F.ok sc_NoNumber (fun vs H Q E h => ?_) (fun cdv A outer s H vs Q E hr h => ?_)
  · obtain ⟨a, v, rfl, _⟩ := h
    rfl
  · obtain ⟨a, v, rfl, ha, q⟩ := h
    refine ⟨_, pss_one (ps_osB K (pv 0) (pv 1)), ?_⟩
    exact ⟨_, rfl, _, rfl, a, C, rfl, T, tk, ha, fun dx n ne => q dx n ne⟩
def spLotAt (K : PySem.W.Frag) (C : Addr) : Sp := fun vs H Q E => ∃ (n : Nat) (k : Int) (v : V), vs = [.int n, .int k, v] ∧ n ≤ 60 ∧ Kd K H v ∧
  ((∃ l, Ris n 0 l ∧ k = (l.length : Int) ∧ v = .int (num n l) ∧ ∀ p H', Same H H' → H p = none → H' p = some (.tup (l.map V.int)) → Q (.ref p) H') ∨
   (belowV (chs n k) v = false ∧ ∀ d, H d = none → E (.ref C) (some d) (upd H d (.xd [("thing", v)]))))
theorem ok_lot_at {f : Addr} {fd : FuncData} {C : Addr} (F : Fun K "lot_at" "lot_at" s_lot_at f fd) (T : Txt K mg) (E_NoNumber : ErrAt K mg "NoNumber" "thing" "NoNumber.__init__" s_NoNumber C) : FnOk P w K mg base (L2.CX P w) 3 f fd ["hands", "size", "number"] (spLotAt K C) := by
  obtain ⟨fC, fdC, D_choose⟩ := T.d_choose
  have G_choose : FnOk P w K mg base CX0 1 fC fdC _ _ := ok_choose D_choose.F T
  obtain ⟨fB, fdB, D_is_below⟩ := T.d_is_below
  have G_is_below : FnOk P w K mg base CX0 2 fB fdB _ _ := ok_is_below D_is_below.F T
  obtain ⟨fI, fdI, F_NoNumber, eI_NoNumber, eT_NoNumber, eB_NoNumber⟩ := E_NoNumber.ini
  have G_NoNumber_init : FnOk P w K mg base CX0 1 fI fdI _ _ := ok_NoNumber_init F_NoNumber E_NoNumber.O E_NoNumber.tk
  refine F.okX sc_lot_at (fun vs H Q E h => ?_) (fun cdv A outer s H vs Q E hr h => ?_)
  · obtain ⟨n, k, v, rfl, _⟩ := h
    rfl
  · obtain ⟨n, k, v, rfl, hn, kd, h⟩ := h
    refine ⟨_, (pss_cons (ps_if (pt_not (pt_val (pe_call G_is_below (hr.mono (by decide)) (by rfl) D_is_below.g D_is_below.F.kp D_is_below.b .nil pass0 (pa_cons (pe_call G_choose (hr.mono (by decide)) (by rfl) D_choose.g D_choose.F.kp D_choose.b .nil pass0 (pa_cons (pv 0) (pa_cons (pv 1) pa_nil))) (pa_cons (pv 2) pa_nil)))))
 (pss_one (ps_raise rfl (takes_of rfl rfl rfl rfl) (pmk_B E_NoNumber.O eI_NoNumber eT_NoNumber G_NoNumber_init (hr.mono (by decide)) eB_NoNumber pass0 (by rfl) E_NoNumber.g (pa_cons (pv 2) pa_nil))))
 pss_nil)
 (PSs.nox (pss_cons (ps_set (i := 3) sc_lot_at.nd rfl (by first | exact Or.inl rfl | exact Or.inr rfl) (pe_lst pa_nil))
 (pss_cons (ps_set (i := 4) sc_lot_at.nd rfl (by first | exact Or.inl rfl | exact Or.inr rfl) (pv 2))
 (pss_cons (ps_for PassesOwn.never rfl (pi_range1 (by rfl) T.z_range (pa_cons (pv 0) pa_nil)) (pg_name (i := 5) sc_lot_at.nd rfl (by first | exact Or.inl rfl | exact Or.inr rfl))
 (pss_cons (ps_set (i := 6) sc_lot_at.nd rfl (by first | exact Or.inl rfl | exact Or.inr rfl) (pe_call G_choose (hr.mono (by decide)) (by rfl) D_choose.g D_choose.F.kp D_choose.b .nil pass0 (pa_cons (pe_op op_sub (pe_op op_sub (pv 0) (pv 5)) pe_int) (pa_cons (pe_op op_sub (pe_op op_sub (pv 1) (pe_callB (k_len K) (by rfl) T.z_len (by decide +kernel) (pa_cons (pv 3) pa_nil))) pe_int) pa_nil))))
 (pss_one (ps_if (pt_cmpR op_lt (pv 4) (pv 6) (nomark _))
 (pss_one (ps_expr (pe_bm PySem.F.plainAttrs_list PySem.F.slot_list_append PySem.F.type_list_append mt_append (pv 3) (pa_cons (pv 5) pa_nil))))
 (pss_one (ps_aug (i := 4) sc_lot_at.nd rfl (by first | exact Or.inl rfl | exact Or.inr rfl) (pv 6) ip_sub))))))
 (pss_one (ps_ret (pe_callTy (k_tuple K) (by rfl) T.z_tuple (by decide +kernel) (pa_cons (pv 3) pa_nil))))))))), ?_⟩
    refine ⟨_, rfl, _, rfl, _, _, rfl, by omega, _, rfl, _, _, rfl, kd, _, rfl, ?_⟩
    rcases h with ⟨l, r, rfl, rfl, q⟩ | ⟨hb, q⟩
    rotate_left
    · rw [hb]
      refine iteT ?_
      refine mk_err ⟨_, rfl, v, rfl, fun d hd => q d hd⟩ ?_
      rintro R R' h ⟨x, h1, h2⟩
      exact ⟨x, h1, h _ _ h2⟩
    have hl := r.len (by omega)
    have hb : belowV (chs (n : Int) (l.length : Int)) (.int (num n l)) = true := by
      show (decide (0 ≤ num n l) && decide (num n l < chs (n : Int) (l.length : Int))) = true
      rw [decide_eq_true (num_nn hn), decide_eq_true (num_lt hn r)]
      rfl
    rw [hb]
    refine iteF ?_
    refine ⟨Nat.zero_le _, fun D nD => ?_⟩
    refine ⟨_, rfl, ?_⟩
    refine ⟨_, rfl, _, rfl, by omega, by omega, for_range (lo := 0) (fun i σ H' => ∃ pre suf v5 v6, l = pre ++ suf ∧ Ris n i suf ∧ H' = upd H D (.lst (pre.map V.int)) ∧ σ = [some (.int n), some (.int (l.length : Int)), some (.int (num n l)), some (.ref D), some (.int (rk (bts (n - i) i suf))), v5, v6]) ⟨[], l, none, none, rfl, r, rfl, rfl⟩ ?_ ?_⟩
    · rintro i σ H' hi ⟨pre, suf, v5, v6, el, rs, rfl, rfl⟩
      have hin : i < n := by omega
      have sD := same_upd (o := .lst (pre.map V.int)) nD
      have ell : l.length = pre.length + suf.length := by rw [el, List.length_append]
      obtain ⟨m, em⟩ : ∃ m, n - i = m + 1 := ⟨n - i - 1, by omega⟩
      have em2 : n - (i + 1) = m := by omega
      have en : (n : Int) = (i : Int) + 1 + (m : Int) := by omega
      rw [show (0 : Int) + (i : Int) = (i : Int) by omega]
      refine ⟨_, rfl, _, rfl, _, _, rfl, rfl, _, _, rfl, rfl, _, rfl, _, rfl, D, _, rfl, .inl (SqL.of upd_same), _, _, rfl, rfl, _, _, rfl, rfl, _, _, rfl, by omega, ?_⟩
      refine ⟨_, rfl, _, rfl, _, _, rfl, rfl, _, rfl, ?_⟩
      rw [em]
      by_cases hd : ∃ t, suf = (i : Int) :: t
      · obtain ⟨t, rfl⟩ := hd
        have rt : Ris ((i : Int) + 1 + (m : Int)) ((i : Int) + 1) t := en ▸ rs.2.2
        have c := bts_cnt m ((i : Int) + 1) t rt
        have lt := rk_lt (b := bts m ((i : Int) + 1) t) (by rw [bts_len]; omega)
        rw [c, bts_len] at lt
        have e1 : bts (m + 1) (i : Int) ((i : Int) :: t) = true :: bts m ((i : Int) + 1) t := by
          rw [bts_cons, if_pos rfl]
        rw [e1]
        have e2 : chs ((n : Int) - (i : Int) - 1) ((l.length : Int) - ((pre.map V.int).length : Int) - 1) = chs (m : Int) (t.length : Int) := by
          rw [ell, List.length_map, List.length_cons]
          congr 1 <;> omega
        rw [e2]
        refine ite2 (fun _ => ?_) (fun z => absurd (decide_eq_true lt) z)
        refine ⟨_, rfl, .inl ⟨rfl, _, SqL.of upd_same⟩, _, rfl, D, _, _, rfl, rfl, upd_same, ?_, ?_⟩
        · rw [List.length_map]
          exact small1000 (by omega)
        · refine ⟨pre ++ [(i : Int)], t, some (.int (i : Int)), some (.int (chs (m : Int) (t.length : Int))), ?_, ?_, ?_, ?_⟩
          · rw [el, List.append_assoc]
            rfl
          · exact rs.2.2
          · rw [upd_upd, List.map_append]
            rfl
          · rw [em2]
            rfl
      · have rt : Ris ((i : Int) + 1 + (m : Int)) ((i : Int) + 1) suf := by
          rw [← en]
          cases suf with
          | nil => trivial
          | cons x t => exact rs.up fun z => hd ⟨t, by rw [z]⟩
        have c := bts_cnt m ((i : Int) + 1) suf rt
        have nn := rk_nn (bts m ((i : Int) + 1) suf) (by rw [bts_len]; omega)
        rw [bts_skip m (i : Int) suf rt]
        have e2 : chs ((n : Int) - (i : Int) - 1) ((l.length : Int) - ((pre.map V.int).length : Int) - 1) = chs (m : Int) ((suf.length : Int) - 1) := by
          rw [ell, List.length_map]
          congr 1 <;> omega
        have e3 : rk (false :: bts m ((i : Int) + 1) suf) = chs (m : Int) ((suf.length : Int) - 1) + rk (bts m ((i : Int) + 1) suf) := by
          show chs ((bts m ((i : Int) + 1) suf).length : Int) ((cnt (bts m ((i : Int) + 1) suf) : Int) - 1) + rk (bts m ((i : Int) + 1) suf) = _
          rw [c, bts_len]
        rw [e2, e3]
        refine ite2 (fun z => absurd (of_decide_eq_true z) (by omega)) (fun _ => ?_)
        refine ⟨_, rfl, _, rfl, _, _, rfl, rfl, ?_⟩
        refine ⟨pre, suf, some (.int (i : Int)), some (.int (chs (m : Int) ((suf.length : Int) - 1))), el, ?_, rfl, ?_⟩
        · exact en ▸ rt
        · rw [em2]
          show _ = [some (V.int (n : Int)), some (V.int (l.length : Int)), some (V.int (num n l)), some (V.ref D), some (V.int (rk (bts m ((i : Int) + 1) suf))), some (V.int (i : Int)), some (V.int (chs (m : Int) ((suf.length : Int) - 1)))]
          have e4 : chs (m : Int) ((suf.length : Int) - 1) + rk (bts m ((i : Int) + 1) suf) - chs (m : Int) ((suf.length : Int) - 1) = rk (bts m ((i : Int) + 1) suf) := by omega
          show [some (V.int (n : Int)), some (V.int (l.length : Int)), some (V.int (num n l)), some (V.ref D), some (V.int (chs (m : Int) ((suf.length : Int) - 1) + rk (bts m ((i : Int) + 1) suf) - chs (m : Int) ((suf.length : Int) - 1))), some (V.int (i : Int)), some (V.int (chs (m : Int) ((suf.length : Int) - 1)))] = _
          rw [e4]
    · rintro σ H' ⟨pre, suf, v5, v6, el, rs, rfl, rfl⟩
      have e0 : suf = [] := by
        cases suf with
        | nil => rfl
        | cons x t =>
          have := rs.1
          have := rs.2.1
          omega
      subst e0
      rw [List.append_nil] at el
      subst el
      refine ⟨_, rfl, D, _, rfl, .inl ⟨SqL.of upd_same, fun p np => ?_⟩⟩
      have s1 := (same_upd (o := .lst (l.map V.int)) nD)
      exact q p _ (s1.trans (same_upd np)) (s1.free np) upd_same

/-! ### the law's draws -/
def spTake : Sp := fun vs H Q _ => ∃ (a : Addr) (n : Int) (b : Nat), vs = [.ref a, .int n] ∧ PotAt H a b ∧ 0 < n ∧ n < 2 ^ 64 ∧ b < 1000000 ∧
  ∀ v H', 0 ≤ v → v < n → PotAt H' a (b + 1) → SameB a H H' → Q (.int v) H'
theorem ok_take {f : Addr} {fd : FuncData} (F : Fun K "_law_take" "_law_take" s__law_take f fd) (T : Txt K mg) : FnOk P w K mg base CX0 1 f fd ["_law_pot_here", "_law_room"] spTake := by
  refine F.ok sc__law_take (fun vs H Q E h => ?_) (fun cdv A outer s H vs Q E hr h => ?_)
  · obtain ⟨a, n, b, rfl, _⟩ := h
    rfl
  · obtain ⟨a, n, b, rfl, ⟨g, s, c, h0, hg, hs, hs2, hc, hcb, hb⟩, hn, hn2, hb2, q⟩ := h
    have hL := SqL.of (K := K) h0
    refine ⟨_, (pss_cons (ps_if (pt_cmpR op_gt (pe_ix (k_ixL K) (pv 0) pe_int (fun _ _ => rfl)) pe_int (nomark _))
 (pss_cons (ps_set (i := 2) sc__law_take.nd rfl (by first | exact Or.inl rfl | exact Or.inr rfl) (pe_op op_mod (pe_ix (k_ixL K) (pv 0) pe_int (fun _ _ => rfl)) (pv 1)))
 (pss_cons (ps_asg (pe_op op_fdivW (pe_ix (k_ixL K) (pv 0) pe_int (fun _ _ => rfl)) (pv 1)) (pg_sub (pv 0) pe_int set_list))
 (pss_one (ps_ret (pv 2)))))
 pss_nil)
 (pss_cons (ps_asg (pe_op op_add (pe_ix (k_ixL K) (pv 0) pe_int (fun _ _ => rfl)) pe_int) (pg_sub (pv 0) pe_int set_list))
 (pss_cons (ps_set (i := 3) sc__law_take.nd rfl (by first | exact Or.inl rfl | exact Or.inr rfl) (pe_op op_add (pe_ix (k_ixL K) (pv 0) pe_int (fun _ _ => rfl)) (pe_op op_mulW pe_int (pe_ix (k_ixL K) (pv 0) pe_int (fun _ _ => rfl)))))
 (pss_cons (ps_set (i := 4) sc__law_take.nd rfl (by first | exact Or.inl rfl | exact Or.inr rfl) (pe_op op_add (pe_op op_add (pe_op op_mod (pe_ix (k_ixL K) (pv 0) pe_int (fun _ _ => rfl)) pe_int) (pe_op op_mulW pe_int (pe_ix (k_ixL K) (pv 0) pe_int (fun _ _ => rfl)))) pe_int))
 (pss_cons (ps_set (i := 5) sc__law_take.nd rfl (by first | exact Or.inl rfl | exact Or.inr rfl) (pe_op op_mod (pe_op op_mulW (pv 3) (pv 4)) pe_int))
 (pss_cons (ps_set (i := 6) sc__law_take.nd rfl (by first | exact Or.inl rfl | exact Or.inr rfl) (pe_op op_add (pe_op op_add (pe_op op_mod (pv 5) pe_int) (pe_op op_mulW pe_int (pe_ix (k_ixL K) (pv 0) pe_int (fun _ _ => rfl)))) pe_int))
 (pss_one (ps_ret (pe_op op_mod (pe_op op_fdivW (pe_op op_mod (pe_op op_mulW (pe_op op_add (pv 5) pe_int) (pv 6)) pe_int) pe_int) (pv 1)))))))))), ?_⟩
    refine ⟨_, rfl, a, _, 0, .int g, rfl, rfl, hL, atI_nat (j := 0) rfl, _, _, rfl, rfl, _, rfl, ite2 (fun e => ?_) (fun e => ?_)⟩
    · refine ⟨_, rfl, a, _, 0, .int g, rfl, rfl, hL, atI_nat (j := 0) rfl, _, rfl, _, _, rfl, rfl, hn, ?_⟩
      refine ⟨_, rfl, a, _, 0, .int g, rfl, rfl, hL, atI_nat (j := 0) rfl, _, rfl, _, _, rfl, rfl, wide_div (b := 64) hn (by omega) (by decide) (by decide), ?_⟩
      refine ⟨_, rfl, a, _, 0, 0, rfl, rfl, h0, rfl, ?_⟩
      refine ⟨_, rfl, q _ _ (Int.emod_nonneg _ (by omega)) (Int.emod_lt_of_pos _ hn) ?_ SameB.upd⟩
      exact ⟨g / n, s, c, upd_same, Int.ediv_nonneg hg (by omega), hs, hs2, hc, by omega, by omega⟩
    · refine ⟨_, rfl, a, _, 2, .int c, rfl, rfl, hL, atI_nat (j := 2) rfl, _, _, rfl, rfl, ?_⟩
      refine ⟨_, rfl, a, _, 2, 2, rfl, rfl, h0, rfl, ?_⟩
      have h1 : (upd H a (.lst [.int g, .int s, .int (c + 1)])) a = some (.lst [.int g, .int s, .int (c + 1)]) := upd_same
      have hM := SqL.of (K := K) h1
      refine ⟨_, rfl, a, _, 1, .int s, rfl, rfl, hM, atI_nat (j := 1) rfl, _, rfl, a, _, 2, .int (c + 1), rfl, rfl, hM, atI_nat (j := 2) rfl, _, _, rfl, rfl, wide_mul (a := 24) (b := 21) (by decide) (by omega) (by decide) (by decide) (by decide), _, _, rfl, rfl, ?_⟩
      refine ⟨_, rfl, a, _, 1, .int s, rfl, rfl, hM, atI_nat (j := 1) rfl, _, _, rfl, rfl, (by show (0 : Int) < 7919; decide), _, rfl, a, _, 2, .int (c + 1), rfl, rfl, hM, atI_nat (j := 2) rfl, _, _, rfl, rfl, wide_mul (a := 25) (b := 21) (by decide) (by omega) (by decide) (by decide) (by decide), _, _, rfl, rfl, _, _, rfl, rfl, ?_⟩
      refine ⟨_, rfl, _, rfl, _, _, rfl, rfl, wide_mul (a := 62) (b := 47) (by omega) (by omega) (by decide) (by decide) (by decide), _, _, rfl, rfl, (by show (0 : Int) < 2305843009213693951; decide), ?_⟩
      generalize hm : (s + 15485863 * (c + 1)) * (s % 7919 + 32452867 * (c + 1) + 17) % 2305843009213693951 = m
      have m0 : 0 ≤ m := by
        rw [← hm]
        exact Int.emod_nonneg _ (by decide)
      have m1 : m < 2305843009213693951 := by
        rw [← hm]
        exact Int.emod_lt_of_pos _ (by decide)
      refine ⟨_, rfl, _, _, rfl, rfl, (by show (0 : Int) < 1000003; decide), _, rfl, a, _, 2, .int (c + 1), rfl, rfl, hM, atI_nat (j := 2) rfl, _, _, rfl, rfl, wide_mul (a := 24) (b := 21) (by decide) (by omega) (by decide) (by decide) (by decide), _, _, rfl, rfl, _, _, rfl, rfl, ?_⟩
      refine ⟨_, rfl, _, _, rfl, rfl, _, rfl, _, _, rfl, rfl, wide_mul (a := 62) (b := 47) (by omega) (by omega) (by decide) (by decide) (by decide), _, _, rfl, rfl, (by show (0 : Int) < 2305843009213693907; decide), _, _, rfl, rfl, wide_div (b := 64) (by decide) (by decide) (by decide) (by decide), _, rfl, _, _, rfl, rfl, hn, ?_⟩
      refine q _ _ (Int.emod_nonneg _ (by omega)) (Int.emod_lt_of_pos _ hn) ?_ SameB.upd
      exact ⟨g, s, c + 1, h1, hg, hs, hs2, by omega, by omega, by omega⟩

/-! ### the pot made -/
theorem pw_pos : (0 : Int) < ((10 : Int) ^ (60 : Int).toNat) ^ (4 : Int).toNat := by decide +kernel
theorem pw_ok : CPowW ((10 : Int) ^ (60 : Int).toNat) 4 := by
  refine ⟨by decide, ?_⟩
  decide +kernel
def spPot (K : PySem.W.Frag) : Sp := fun vs H Q _ => ∃ (a : Addr) (j : Int) (ns : List Int), vs = [.ref a, .int j] ∧ SqL K H a (ns.map V.int) ∧ 0 ≤ j ∧ j ≤ 1000 ∧
  ∀ p H', H p = none → Same H H' → PotAt H' p 0 → Q (.ref p) H'
theorem pot_fin {H : Hp} {p : Addr} {g s : Int} (hg : 0 ≤ g) : PotAt (upd H p (.lst [.int g, .int (s % 2305843009213693921), .int 0])) p 0 :=
  ⟨g, _, 0, upd_same, hg, Int.emod_nonneg _ (by decide), Int.lt_of_lt_of_le (Int.emod_lt_of_pos _ (by decide)) (by decide), by decide, by decide, by decide⟩
theorem ok_pot {f : Addr} {fd : FuncData} (F : Fun K "_law_pot" "_law_pot" s__law_pot f fd) (T : Txt K mg) : FnOk P w K mg base CX0 1 f fd ["_law_script", "_law_k"] (spPot K) := by
  refine F.ok sc__law_pot (fun vs H Q E h => ?_) (fun cdv A outer s H vs Q E hr h => ?_)
  · obtain ⟨a, j, ns, rfl, _⟩ := h
    rfl
  · obtain ⟨a, j, ns, rfl, hS, hj, hj2, q⟩ := h
    refine ⟨_, (pss_cons (ps_set (i := 2) sc__law_pot.nd rfl (by first | exact Or.inl rfl | exact Or.inr rfl) (pe_ifExp (pt_cmpR op_lt (pv 1) (pe_callB (k_len K) (by rfl) T.z_len (by decide +kernel) (pa_cons (pv 0) pa_nil)) (nomark _)) (pe_ix (k_ixL K) (pv 0) (pv 1) (fun _ _ => rfl)) pe_int))
 (pss_cons (ps_set (i := 3) sc__law_pot.nd rfl (by first | exact Or.inl rfl | exact Or.inr rfl) (pe_ifExp (pt_cmpR op_ge (pe_callB call_abs (by rfl) T.z_abs (by decide +kernel) (pa_cons (pv 2) pa_nil)) (pe_op op_pow pe_int pe_int) (nomark _)) (pe_op op_mod (pe_callB call_abs (by rfl) T.z_abs (by decide +kernel) (pa_cons (pv 2) pa_nil)) (pe_op op_powW (pe_op op_pow pe_int pe_int) pe_int)) pe_int))
 (pss_one (ps_ret (pe_lst (pa_cons (pv 3) (pa_cons (pe_op op_mod (pe_op op_add (pe_op op_add (pe_op op_mulW (pe_op op_mod (pv 2) pe_int) pe_int) (pe_op op_mulW (pe_op op_mulW pe_int (pv 1)) (pv 1))) pe_int) pe_int) (pa_cons pe_int pa_nil)))))))), ?_⟩
    refine ⟨_, rfl, _, rfl, a, _, rfl, .inl hS, _, _, rfl, rfl, _, rfl, ?_⟩
    refine ite2 (fun e => ?_) (fun e => ?_)
    · have hl : j < ((ns.map V.int).length : Int) := of_decide_eq_true e
      rw [List.length_map] at hl
      obtain ⟨m, rfl⟩ : ∃ m : Nat, j = (m : Int) := ⟨j.toNat, by omega⟩
      have hm : m < ns.length := by omega
      have g1 : (ns.map V.int)[m]? = some (.int ns[m]) := by
        rw [List.getElem?_map, List.getElem?_eq_getElem hm]
        rfl
      refine ⟨_, rfl, _, rfl, a, _, (m : Int), .int ns[m], rfl, rfl, hS, atI_nat g1, ?_⟩
      generalize ns[m] = c
      refine ⟨_, rfl, _, rfl, _, _, rfl, rfl, ⟨by decide, by decide, by decide⟩, _, _, rfl, rfl, _, rfl, ite2 (fun e2 => ?_) (fun e2 => ?_)⟩
      · refine ⟨_, rfl, _, rfl, _, _, rfl, rfl, ⟨by decide, by decide, by decide⟩, _, _, rfl, rfl, pw_ok, _, _, rfl, rfl, pw_pos, ?_⟩
        refine ⟨_, rfl, _, rfl, _, _, rfl, rfl, (by show (0 : Int) < 2305843009213693951; decide), _, _, rfl, rfl, wide_mul (a := 64) (b := 21) (by omega) (by decide) (by decide) (by decide) (by decide), _, rfl, _, _, rfl, rfl, wide_mul (a := 21) (b := 21) (by decide) (by omega) (by decide) (by decide) (by decide), _, rfl, _, _, rfl, rfl, wide_mul (a := 64) (b := 21) (by omega) (by omega) (by decide) (by decide) (by decide), _, _, rfl, rfl, _, _, rfl, rfl, _, _, rfl, rfl, (by show (0 : Int) < 2305843009213693921; decide), (by show 3 ≤ sizeLine; decide), fun p hp => q p _ hp (same_upd hp) (pot_fin (Int.emod_nonneg _ (Int.ne_of_gt pw_pos)))⟩
      · refine ⟨_, rfl, _, rfl, _, _, rfl, rfl, (by show (0 : Int) < 2305843009213693951; decide), _, _, rfl, rfl, wide_mul (a := 64) (b := 21) (by omega) (by decide) (by decide) (by decide) (by decide), _, rfl, _, _, rfl, rfl, wide_mul (a := 21) (b := 21) (by decide) (by omega) (by decide) (by decide) (by decide), _, rfl, _, _, rfl, rfl, wide_mul (a := 64) (b := 21) (by omega) (by omega) (by decide) (by decide) (by decide), _, _, rfl, rfl, _, _, rfl, rfl, _, _, rfl, rfl, (by show (0 : Int) < 2305843009213693921; decide), (by show 3 ≤ sizeLine; decide), fun p hp => q p _ hp (same_upd hp) (pot_fin (Int.le_refl 0))⟩
    · refine ⟨_, rfl, _, rfl, _, _, rfl, rfl, ⟨by decide, by decide, by decide⟩, _, _, rfl, rfl, _, rfl, ite2 (fun e2 => ?_) (fun e2 => ?_)⟩
      · exact absurd e2 (by decide)
      · refine ⟨_, rfl, _, rfl, _, _, rfl, rfl, (by show (0 : Int) < 2305843009213693951; decide), _, _, rfl, rfl, wide_mul (a := 64) (b := 21) (by omega) (by decide) (by decide) (by decide) (by decide), _, rfl, _, _, rfl, rfl, wide_mul (a := 21) (b := 21) (by decide) (by omega) (by decide) (by decide) (by decide), _, rfl, _, _, rfl, rfl, wide_mul (a := 64) (b := 21) (by omega) (by omega) (by decide) (by decide) (by decide), _, _, rfl, rfl, _, _, rfl, rfl, _, _, rfl, rfl, (by show (0 : Int) < 2305843009213693921; decide), (by show 3 ≤ sizeLine; decide), fun p hp => q p _ hp (same_upd hp) (pot_fin (Int.le_refl 0))⟩

/-! ### one of some -/
def spPick (K : PySem.W.Frag) : Sp := fun vs H Q _ => ∃ (a s : Addr) (b : Nat) (xs : List V), vs = [.ref a, .ref s] ∧ PotAt H a b ∧ SqL K H s xs ∧ s ≠ a ∧ xs ≠ [] ∧ xs.length ≤ 1000 ∧ b < 1000000 ∧
  ∀ v H', v ∈ xs → PotAt H' a (b + 1) → SameB a H H' → Q v H'
theorem ok_pick {f : Addr} {fd : FuncData} (F : Fun K "_law_pick" "_law_pick" s__law_pick f fd) (T : Txt K mg) : FnOk P w K mg base CX0 2 f fd ["_law_pot_here", "_law_some"] (spPick K) := by
  obtain ⟨fT, fdT, D_take⟩ := T.d_take
  have G_take : FnOk P w K mg base CX0 1 fT fdT _ _ := ok_take D_take.F T
  refine F.ok sc__law_pick (fun vs H Q E h => ?_) (fun cdv A outer s H vs Q E hr h => ?_)
  · obtain ⟨a, s, b, xs, rfl, _⟩ := h
    rfl
  · obtain ⟨a, s, b, xs, rfl, hP, hS, hne, hx, hl, hb, q⟩ := h
    have h0 : 0 < xs.length := List.length_pos_iff.mpr hx
    refine ⟨_, (pss_one (ps_ret (pe_ix (k_ixL K) (pv 1) (pe_call G_take (hr.mono (by decide)) (by rfl) D_take.g D_take.F.kp D_take.b .nil pass0 (pa_cons (pv 0) (pa_cons (pe_callB (k_len K) (by rfl) T.z_len (by decide +kernel) (pa_cons (pv 1) pa_nil)) pa_nil))) (fun _ _ => rfl)))), ?_⟩
    refine ⟨_, rfl, _, rfl, _, rfl, s, _, rfl, .inl hS, a, (xs.length : Int), b, rfl, hP, by omega, by omega, hb, fun v H' v0 v1 P' S' => ?_⟩
    obtain ⟨m, rfl⟩ : ∃ m : Nat, v = (m : Int) := ⟨v.toNat, by omega⟩
    have hm : m < xs.length := by omega
    exact ⟨s, _, _, xs[m], rfl, rfl, S'.seq hne hS, atI_nat (List.getElem?_eq_getElem hm), q _ _ (List.getElem_mem hm) P' S'⟩

/-! ### a drawn lot -/
theorem erase_map {α β : Type} (f : α → β) : ∀ (l : List α) (m : Nat), (l.map f).eraseIdx m = (l.eraseIdx m).map f
  | [], _ => rfl
  | _ :: _, 0 => rfl
  | x :: l, m + 1 => congrArg (f x :: ·) (erase_map f l m)
theorem erase_perm {α : Type} : ∀ (l : List α) (m : Nat) (h : m < l.length), (l[m] :: l.eraseIdx m).Perm l
  | x :: l, 0, _ => List.Perm.refl _
  | x :: l, m + 1, h => by
    have hm : m < l.length := Nat.lt_of_succ_lt_succ h
    have ih := erase_perm l m hm
    show (l[m] :: x :: l.eraseIdx m).Perm (x :: l)
    exact (List.Perm.swap x l[m] _).trans (ih.cons x)
theorem ris_of {n : Int} : ∀ {l : List Int} {h : Int}, l.Pairwise (· ≤ ·) → l.Nodup → (∀ x ∈ l, h ≤ x ∧ x < n) → Ris n h l
  | [], _, _, _, _ => trivial
  | x :: t, h, p, d, m => by
    have hx := m x List.mem_cons_self
    refine ⟨hx.1, hx.2, ris_of (List.pairwise_cons.mp p).2 (List.nodup_cons.mp d).2 fun y hy => ?_⟩
    have h1 := (List.pairwise_cons.mp p).1 y hy
    have h2 : x ≠ y := fun e => (List.nodup_cons.mp d).1 (e ▸ hy)
    exact ⟨by omega, (m y (List.mem_cons_of_mem _ hy)).2⟩
theorem ris_mem {n : Int} : ∀ {l : List Int} {h : Int}, Ris n h l → ∀ x ∈ l, h ≤ x ∧ x < n
  | y :: t, h, r, x, hx => by
    rcases List.mem_cons.mp hx with rfl | hx
    · exact ⟨r.1, r.2.1⟩
    · have z := ris_mem r.2.2 x hx
      have := r.1
      exact ⟨by omega, z.2⟩
theorem ris_nodup {n : Int} : ∀ {l : List Int} {h : Int}, Ris n h l → l.Nodup
  | [], _, _ => List.nodup_nil
  | y :: t, h, r => List.nodup_cons.mpr ⟨fun hm => by have z := ris_mem r.2.2 y hm; omega, ris_nodup r.2.2⟩
def hs (n : Nat) : List Int := (List.range n).map fun (i : Nat) => (i : Int)
theorem rgV_hs (n : Nat) : rgV 0 (n : Int) = (hs n).map V.int := by
  unfold rgV hs
  rw [List.map_map, show ((n : Int) - 0).toNat = n by omega]
  apply List.map_congr_left
  intro i _
  show V.int (0 + (i : Int)) = V.int (i : Int)
  rw [Int.zero_add]
theorem hs_mem {n : Nat} {x : Int} : x ∈ hs n ↔ 0 ≤ x ∧ x < n := by
  unfold hs
  rw [List.mem_map]
  constructor
  · rintro ⟨i, hi, rfl⟩
    have := List.mem_range.mp hi
    omega
  · intro h
    exact ⟨x.toNat, List.mem_range.mpr (by omega), by omega⟩
theorem hs_nodup (n : Nat) : (hs n).Nodup := by
  unfold hs
  refine List.Pairwise.map _ ?_ List.nodup_range
  intro a b h e
  exact h (by omega)
theorem hs_len (n : Nat) : (hs n).length = n := by
  unfold hs
  rw [List.length_map, List.length_range]
def spSomeLot : Sp := fun vs H Q _ => ∃ (a : Addr) (n k b : Nat), vs = [.ref a, .int n, .int k] ∧ PotAt H a b ∧ k ≤ n ∧ n ≤ 60 ∧ b + 100 ≤ 1000000 ∧
  ∀ p H' l, PotAt H' a (b + k) → SameB a H H' → H p = none → H' p = some (.tup (l.map V.int)) → Ris n 0 l → l.length = k → Q (.ref p) H'
theorem ok_some_lot {f : Addr} {fd : FuncData} (F : Fun K "_law_some_lot" "_law_some_lot" s__law_some_lot f fd) (T : Txt K mg) : FnOk P w K mg base CX0 2 f fd ["_law_pot_here", "_law_many", "_law_room"] spSomeLot := by
  obtain ⟨fT, fdT, D_take⟩ := T.d_take
  have G_take : FnOk P w K mg base CX0 1 fT fdT _ _ := ok_take D_take.F T
  refine F.ok sc__law_some_lot (fun vs H Q E h => ?_) (fun cdv A outer s H vs Q E hr h => ?_)
  · obtain ⟨a, n, k, b, rfl, _⟩ := h
    rfl
  · obtain ⟨a, n, k, b, rfl, hP, hk, hn, hb, q⟩ := h
    refine ⟨_, (pss_cons (ps_par (by rfl) sc__law_some_lot.nd (i := 3) (j := 4) rfl rfl (by decide) rfl rfl (pa_cons (pe_listRg rfl (by rfl) T.z_list (prg_1 (by rfl) T.z_range (pv 1))) (pa_cons (pe_lst pa_nil) pa_nil)) (by rfl))
 (pss_cons (ps_for PassesOwn.never rfl (pi_range1 (by rfl) T.z_range (pa_cons (pv 2) pa_nil)) (pg_name (i := 5) sc__law_some_lot.nd rfl (by first | exact Or.inl rfl | exact Or.inr rfl))
 (pss_one (ps_expr (pe_bm PySem.F.plainAttrs_list PySem.F.slot_list_append PySem.F.type_list_append mt_append (pv 4) (pa_cons (pe_bm PySem.F.plainAttrs_list PySem.F.slot_list_pop PySem.F.type_list_pop mt_popAt (pv 3) (pa_cons (pe_call G_take (hr.mono (by decide)) (by rfl) D_take.g D_take.F.kp D_take.b .nil pass0 (pa_cons (pv 0) (pa_cons (pe_callB (k_len K) (by rfl) T.z_len (by decide +kernel) (pa_cons (pv 3) pa_nil)) pa_nil))) pa_nil)) pa_nil)))))
 (pss_one (ps_ret (pe_callTy (k_tuple K) (by rfl) T.z_tuple (by decide +kernel) (pa_cons (pe_callB (k_sorted K) (by rfl) T.z_sorted (by decide +kernel) (pa_cons (pv 4) pa_nil)) pa_nil)))))), ?_⟩
    refine ⟨_, rfl, _, rfl, RgOk.of_le (by omega) (by omega) (by omega) (by omega), fun L nL => ⟨Nat.zero_le _, fun D nD => ⟨_, _, rfl, ?_⟩⟩⟩
    rw [rgV_hs] at nD ⊢
    have s1 := same_upd (o := .lst ((hs n).map V.int)) nL
    have s2 := same_upd (o := .lst []) nD
    have nD0 : H D = none := s1.free nD
    have hDL : D ≠ L := fun e => by
      rw [e, upd_same] at nD
      cases nD
    have aL : L ≠ a := fun e => (hP.ne nL) e.symm
    have aD : D ≠ a := fun e => (hP.ne nD0) e.symm
    refine ⟨_, rfl, _, rfl, by omega, by omega, for_range (lo := 0) (fun i σ H' => ∃ left found v5, σ = [some (.ref a), some (.int n), some (.int k), some (.ref L), some (.ref D), v5] ∧ SameB a H H' ∧ PotAt H' a (b + i) ∧ H' L = some (.lst (left.map V.int)) ∧ H' D = some (.lst (found.map V.int)) ∧ (left ++ found).Perm (hs n) ∧ found.length = i)
      ⟨hs n, [], none, rfl, sameb (s1.trans s2), hP.same (s1.trans s2), s2 _ _ upd_same, upd_same, by rw [List.append_nil], rfl⟩ ?_ ?_⟩
    · rintro i σ H1 hi ⟨left, found, v5, rfl, sm, P1, hL, hD, pm, fl⟩
      have hlen : left.length + found.length = n := by
        have z := pm.length_eq
        rw [List.length_append, hs_len] at z
        exact z
      refine ⟨_, rfl, .inl ⟨rfl, _, SqL.of hD⟩, _, rfl, .inl ⟨rfl, _, SqL.of hL⟩, _, rfl, _, rfl, L, _, rfl, .inl (SqL.of hL), a, _, b + i, rfl, P1, ?_, ?_, by omega, fun v H2 v0 v1 P2 S2 => ?_⟩
      · rw [List.length_map]
        omega
      · rw [List.length_map]
        omega
      rw [List.length_map] at v1
      obtain ⟨m, rfl⟩ : ∃ m : Nat, v = (m : Int) := ⟨v.toNat, by omega⟩
      have hm : m < left.length := by omega
      have hL2 := S2 _ _ aL hL
      have hD2 := S2 _ _ aD hD
      have ix : seqIndex? (m : Int) (left.map V.int).length = some m := by
        unfold seqIndex?
        rw [List.length_map]
        simp only [show ¬ ((m : Int) < 0) by omega, if_false]
        rw [if_pos (by simp; omega)]
        simp
      have gx : (left.map V.int)[m]? = some (.int left[m]) := by
        rw [List.getElem?_map, List.getElem?_eq_getElem hm]
        rfl
      refine ⟨L, _, _, m, _, rfl, rfl, hL2, by omega, by omega, ix, gx, ?_⟩
      refine ⟨D, _, _, rfl, rfl, Eq.trans (upd_ne hDL) hD2, ?_, ?_⟩
      · rw [List.length_map]
        exact small1000 (by omega)
      refine ⟨left.eraseIdx m, found ++ [left[m]], some (.int (0 + (i : Int))), rfl, fun x o ne e => ?_, ?_, ?_, ?_, ?_, ?_⟩
      · rw [upd_ne (ne_of_none e nD0), upd_ne (ne_of_none e nL)]
        exact S2 _ _ ne (sm _ _ ne e)
      · obtain ⟨g, s, c, z1, z2⟩ := P2
        exact ⟨g, s, c, by rw [upd_ne aD.symm, upd_ne aL.symm]; exact z1, z2⟩
      · rw [upd_ne hDL.symm, upd_same, erase_map]
      · rw [upd_same, List.map_append]
        rfl
      · refine List.Perm.trans ?_ pm
        rw [← List.append_assoc]
        have e1 : (left[m] :: left.eraseIdx m).Perm left := erase_perm left m hm
        refine List.Perm.trans List.perm_append_comm ?_
        exact List.Perm.append_right found e1
      · rw [List.length_append, fl]
        rfl
    · rintro σ H1 ⟨left, found, v5, rfl, sm, P1, hL, hD, pm, fl⟩
      refine ⟨_, rfl, D, found, rfl, SqL.of hD, fun ns p perm rising np => ?_⟩
      refine ⟨p, _, rfl, .inl ⟨SqL.of upd_same, fun t nt => ?_⟩⟩
      have s3 := same_upd (o := .lst (ns.map V.int)) np
      have s4 := same_upd (o := .tup (ns.map V.int)) nt
      have nd : (left ++ found).Nodup := pm.nodup_iff.mpr (hs_nodup n)
      have nf : found.Nodup := (List.nodup_append.mp nd).2.1
      have fk : found.length = k := by omega
      have nt1 : H1 t = none := s3.free nt
      have nt0 : H t = none := by
        cases ht : H t with
        | none => rfl
        | some o =>
          have ne : t ≠ a := fun e => by
            rw [e] at nt1
            obtain ⟨o', z⟩ := P1.some
            rw [z] at nt1
            cases nt1
          rw [sm _ _ ne ht] at nt1
          cases nt1
      refine q t _ ns ?_ (sm.trans (sameb (s3.trans s4))) nt0 upd_same ?_ ?_
      · have z := P1.same (s3.trans s4)
        rw [show (k : Int).toNat = k by omega] at z
        exact z
      · refine ris_of rising (perm.nodup_iff.mpr nf) fun x hx => ?_
        have m1 : x ∈ hs n := pm.mem_iff.mp (List.mem_append_right _ (perm.mem_iff.mp hx))
        exact hs_mem.mp m1
      · rw [perm.length_eq]
        exact fk

/-! ### things of any kind, apart from the pot -/
/-- the heap without the objects at M -/
def Hm (M : List Addr) (H : Hp) : Hp := fun b => if b ∈ M then none else H b
theorem hm_ne {M : List Addr} {b : Addr} {H : Hp} (h : b ∉ M) : Hm M H b = H b := if_neg h
theorem hm_some {M : List Addr} {b : Addr} {H : Hp} {o : HO} (h : Hm M H b = some o) : b ∉ M ∧ H b = some o := by
  unfold Hm at h
  split at h
  · cases h
  · rename_i n
    exact ⟨n, h⟩
theorem hm_same (M : List Addr) (H : Hp) : Same (Hm M H) H := fun _ _ h => (hm_some h).2
theorem SameB.hm {a : Addr} {M : List Addr} {H H' : Hp} (m : a ∈ M) (e : SameB a H H') : Same (Hm M H) (Hm M H') := fun b o h => by
  obtain ⟨n, z⟩ := hm_some h
  rw [hm_ne n]
  exact e b o (fun q => n (q ▸ m)) z
theorem same_hm {H H' : Hp} {M : List Addr} (e : Same H H') : Same (Hm M H) (Hm M H') := fun b o h => by
  obtain ⟨n, z⟩ := hm_some h
  rw [hm_ne n]
  exact e b o z
/-- all of M stands -/
def Live (M : List Addr) (H : Hp) : Prop := ∀ x ∈ M, H x ≠ none
theorem live {H H' : Hp} {M : List Addr} (e : Same H H') (h : Live M H) : Live M H' := fun x hx z => h x hx (e.free z)
theorem liveB {H H' : Hp} {a : Addr} {M : List Addr} (e : SameB a H H') (ha : H' a ≠ none) (h : Live M H) : Live M H' := fun x hx z => by
  by_cases q : x = a
  · exact ha (q ▸ z)
  · cases y : H x with
    | none => exact h x hx y
    | some o =>
      rw [e x o q y] at z
      cases z
theorem Live.new {H : Hp} {M : List Addr} {p : Addr} (h : Live M H) (np : H p = none) : p ∉ M := fun hm => h p hm np
mutual
theorem Dp.stays {K : PySem.W.Frag} {H H' : Hp} (e : Same H H') : ∀ {v : V} {d : PyData}, Dp K H v d → Dp K H' v d
  | _, _, .non => .non
  | _, _, .bl b => .bl b
  | _, _, .int i => .int i
  | _, _, .str x => .str x
  | _, _, .lst s r => .lst (e.seq s) (DpAll.stays e r)
  | _, _, .tup s r => .tup (seqT e s) (DpAll.stays e r)
theorem DpAll.stays {K : PySem.W.Frag} {H H' : Hp} (e : Same H H') : ∀ {vs : List V} {ds : List PyData}, DpAll K H vs ds → DpAll K H' vs ds
  | _, _, .nil => .nil
  | _, _, .cons h r => .cons (Dp.stays e h) (DpAll.stays e r)
end
theorem Shows.stays {K : PySem.W.Frag} {H H' : Hp} (e : Same H H') {v : V} {d : PyData} (h : Shows K H v d) : Shows K H' v d := by
  rcases h with ⟨h1, h2⟩ | ⟨a, h1, h2, h3⟩
  · exact .inl ⟨Dp.stays e h1, h2⟩
  · exact .inr ⟨a, h1, e _ _ h2, h3⟩
/-! the lengths of texts -/
theorem textFrom_le : ∀ (ts : List Str) (k : Nat) (acc : Str), (textFrom k acc ts).length ≤ acc.length + (ts.map fun t => t.length + 2).sum
  | [], k, acc => by
    show acc.length ≤ acc.length + 0
    omega
  | t :: ts, k, acc => by
    have ih := textFrom_le ts (k + 1) (acc ++ (if k > 0 then ", " else "" : String) ++ t)
    have e : (acc ++ Str.ofString (if k > 0 then ", " else "" : String) ++ t).length ≤ acc.length + 2 + t.length := by
      rw [Str.length_append, Str.length_append]
      have : (Str.ofString (if k > 0 then ", " else "" : String)).length ≤ 2 := by
        split <;> decide +kernel
      omega
    have ih2 : (textFrom k acc (t :: ts)).length ≤ (acc ++ Str.ofString (if k > 0 then ", " else "" : String) ++ t).length + (ts.map fun t => t.length + 2).sum := ih
    rw [List.map_cons, List.sum_cons]
    omega
theorem sum_le_mul : ∀ (ts : List Str) (m : Nat), (∀ t ∈ ts, t.length ≤ m) → (ts.map fun t => t.length + 2).sum ≤ ts.length * (m + 2)
  | [], _, _ => Nat.zero_le _
  | t :: ts, m, h => by
    have ih := sum_le_mul ts m fun t ht => h t (List.mem_cons_of_mem _ ht)
    have h1 := h t List.mem_cons_self
    rw [List.map_cons, List.sum_cons, List.length_cons, Nat.succ_mul]
    omega
theorem listText_le {ts : List Str} {m : Nat} (h : ∀ t ∈ ts, t.length ≤ m) : (listText ts).length ≤ 2 + ts.length * (m + 2) := by
  have h1 := textFrom_le ts 0 "["
  have h2 := sum_le_mul ts m h
  have e : (listText ts).length = (textFrom 0 "[" ts).length + 1 := by
    unfold listText
    rw [Str.length_append]
    rfl
  have e1 : (Str.ofString "[").length = 1 := by decide +kernel
  have h1' : (textFrom 0 (Str.ofString "[") ts).length ≤ (Str.ofString "[").length + (ts.map fun t => t.length + 2).sum := h1
  rw [e1] at h1'
  have e' : (listText ts).length = (textFrom 0 (Str.ofString "[") ts).length + 1 := e
  omega
theorem tupleText_le {ts : List Str} {m : Nat} (h : ∀ t ∈ ts, t.length ≤ m) : (tupleText ts).length ≤ 4 + ts.length * (m + 2) := by
  have h1 := listText_le h
  have e : (listText ts).length = 1 + (Str.join ", " ts).length + 1 := by
    rw [listText_eq_join, Str.length_append, Str.length_append]
    rfl
  have e2 : (tupleText ts).length ≤ 1 + (Str.join ", " ts).length + 2 := by
    unfold tupleText
    rw [Str.length_append, Str.length_append]
    have : (Str.ofString (if ts.length == 1 then ",)" else ")" : String)).length ≤ 2 := by
      split <;> decide +kernel
    have e1 : (Str.ofString "(").length = 1 := by decide +kernel
    show (Str.ofString "(").length + _ + (Str.ofString (if ts.length == 1 then ",)" else ")" : String)).length ≤ _
    omega
  omega
/-! small data, rows of small data -/
structure Small (d : PyData) (n m : Nat) : Prop where
  sh : d.showable = true
  lay : d.canLay0 = true
  dep : d.depth ≤ m
  len : d.shown.length ≤ n
theorem Small.le {d : PyData} {n m n' m' : Nat} (h : Small d n m) (a : n ≤ n') (b : m ≤ m') : Small d n' m' := ⟨h.sh, h.lay, Nat.le_trans h.dep b, Nat.le_trans h.len a⟩
theorem Small.shaped {d : PyData} {n m : Nat} (h : Small d n m) (hm : m ≤ 64) : SeqAt.shaped d = true := by
  show (d.canLay0 && decide (d.depth ≤ 64)) = true
  rw [Bool.and_eq_true]
  exact ⟨h.lay, decide_eq_true (Nat.le_trans h.dep hm)⟩
theorem small_int {i : Int} (h : i.natAbs < 10 ^ 40) : Small (.int i) 60 1 := by
  refine ⟨?_, rfl, by simp [PyData.depth], ?_⟩
  · show decide (i.natAbs.log2 < 1920) = true
    refine decide_eq_true ?_
    by_cases h0 : i.natAbs = 0
    · rw [h0]
      decide
    · rw [Nat.log2_lt h0]
      exact Nat.lt_of_lt_of_le h (by decide +kernel)
  · have z := int_text_length_le10 (a := i) (k := 40) (by decide) h
    show (Str.ofString (toString i)).length ≤ 60
    have e : (Str.ofString (toString i)).length = (toString i).length := PySem.ofString_length _
    omega
theorem small_bl (b : Bool) : Small (.bool b) 60 1 := by cases b <;> exact ⟨rfl, rfl, by simp [PyData.depth], by decide +kernel⟩
theorem small_non : Small .none 60 1 := ⟨rfl, rfl, by simp [PyData.depth], by decide +kernel⟩
theorem showAll_of : ∀ (ds : List PyData), (∀ d ∈ ds, d.showable = true) → PyData.showableAll ds = true
  | [], _ => rfl
  | d :: ds, h => by
    show (d.showable && PyData.showableAll ds) = true
    rw [h d List.mem_cons_self, showAll_of ds fun x hx => h x (List.mem_cons_of_mem _ hx)]
    rfl
theorem layAll_of : ∀ (ds : List PyData), (∀ d ∈ ds, d.canLay0 = true) → PyData.canLayAll0 ds = true
  | [], _ => by simp [PyData.canLayAll0]
  | d :: ds, h => by
    have h1 := h d List.mem_cons_self
    have h2 := layAll_of ds fun x hx => h x (List.mem_cons_of_mem _ hx)
    simp only [PyData.canLayAll0, h1, h2, Bool.and_self]
theorem depAll_of {m : Nat} : ∀ (ds : List PyData), (∀ d ∈ ds, d.depth ≤ m) → PyData.depthAll ds ≤ m
  | [], _ => by simp [PyData.depthAll]
  | d :: ds, h => by
    have h1 := h d List.mem_cons_self
    have h2 := depAll_of ds fun x hx => h x (List.mem_cons_of_mem _ hx)
    simp only [PyData.depthAll]
    omega
theorem shownAll_mem {n : Nat} : ∀ (ds : List PyData), (∀ d ∈ ds, d.shown.length ≤ n) → ∀ t ∈ PyData.shownAll ds, t.length ≤ n
  | d :: ds, h, t, ht => by
    have ht' : t ∈ d.shown :: PyData.shownAll ds := ht
    rcases List.mem_cons.mp ht' with rfl | ht2
    · exact h d List.mem_cons_self
    · exact shownAll_mem ds (fun x hx => h x (List.mem_cons_of_mem _ hx)) t ht2
theorem shownAll_len : ∀ ds : List PyData, (PyData.shownAll ds).length = ds.length
  | [] => rfl
  | d :: ds => congrArg (· + 1) (shownAll_len ds)
theorem small_tuple {ds : List PyData} {n m : Nat} (h : ∀ d ∈ ds, Small d n m) : Small (.tuple ds) (4 + ds.length * (n + 2)) (m + 1) := by
  refine ⟨showAll_of ds fun d hd => (h d hd).sh, ?_, ?_, ?_⟩
  · simp only [PyData.canLay0]
    exact layAll_of ds fun d hd => (h d hd).lay
  · have := depAll_of ds fun d hd => (h d hd).dep
    simp only [PyData.depth]
    omega
  · have z := tupleText_le (shownAll_mem ds fun d hd => (h d hd).len)
    rw [shownAll_len] at z
    exact z
theorem small_list {ds : List PyData} {n m : Nat} (h : ∀ d ∈ ds, Small d n m) : Small (.list ds) (4 + ds.length * (n + 2)) (m + 1) := by
  refine ⟨showAll_of ds fun d hd => (h d hd).sh, ?_, ?_, ?_⟩
  · simp only [PyData.canLay0]
    exact layAll_of ds fun d hd => (h d hd).lay
  · have := depAll_of ds fun d hd => (h d hd).dep
    simp only [PyData.depth]
    omega
  · have z := listText_le (shownAll_mem ds fun d hd => (h d hd).len)
    rw [shownAll_len] at z
    show (listText (PyData.shownAll ds)).length ≤ _
    omega
/-- an item of a row -/
def Itm (K : PySem.W.Frag) (H : Hp) (v : V) : Prop := ∃ d, Dp K H v d ∧ Small d 100 3
theorem Itm.stays {K : PySem.W.Frag} {H H' : Hp} (e : Same H H') {v : V} (h : Itm K H v) : Itm K H' v := by
  obtain ⟨d, h1, h2⟩ := h
  exact ⟨d, Dp.stays e h1, h2⟩
theorem itm_int {K : PySem.W.Frag} {H : Hp} {i : Int} (h : i.natAbs < 10 ^ 40) : Itm K H (.int i) := ⟨_, .int i, (small_int h).le (by decide) (by decide)⟩
theorem itms {K : PySem.W.Frag} {H : Hp} : ∀ (xs : List V), (∀ x ∈ xs, Itm K H x) → ∃ ds, DpAll K H xs ds ∧ ds.length = xs.length ∧ ∀ d ∈ ds, Small d 100 3
  | [], _ => ⟨[], .nil, rfl, fun _ h => by cases h⟩
  | x :: xs, h => by
    obtain ⟨d, d1, d2⟩ := h x List.mem_cons_self
    obtain ⟨ds, e1, e2, e3⟩ := itms xs fun y hy => h y (List.mem_cons_of_mem _ hy)
    refine ⟨d :: ds, .cons d1 e1, congrArg (· + 1) e2, fun y hy => ?_⟩
    rcases List.mem_cons.mp hy with rfl | hy
    · exact d2
    · exact e3 y hy
theorem shows_small {K : PySem.W.Frag} {H : Hp} {v : V} {d : PyData} {n m : Nat} (h : Dp K H v d) (s : Small d n m) (hn : n ≤ 100000) (hm : m ≤ 60) : Shows K H v d :=
  .inl ⟨h, s.sh, s.shaped (by omega), Nat.le_trans s.len (Nat.le_trans hn (by decide))⟩
theorem shows_row {K : PySem.W.Frag} {H : Hp} {p : Addr} {xs : List V} (hT : SqT K H p xs) (h : ∀ x ∈ xs, Itm K H x) (hl : xs.length ≤ 200) : ∃ d, Shows K H (.ref p) d := by
  obtain ⟨ds, e1, e2, e3⟩ := itms xs h
  refine ⟨.tuple ds, shows_small (.tup hT e1) (small_tuple e3) ?_ (by decide)⟩
  rw [e2]
  have : xs.length * 102 ≤ 200 * 102 := Nat.mul_le_mul_right _ hl
  omega
theorem shows_rowL {K : PySem.W.Frag} {H : Hp} {p : Addr} {xs : List V} (hT : SqL K H p xs) (h : ∀ x ∈ xs, Itm K H x) (hl : xs.length ≤ 200) : ∃ d, Shows K H (.ref p) d := by
  obtain ⟨ds, e1, e2, e3⟩ := itms xs h
  refine ⟨.list ds, shows_small (.lst hT e1) (small_list e3) ?_ (by decide)⟩
  rw [e2]
  have : xs.length * 102 ≤ 200 * 102 := Nat.mul_le_mul_right _ hl
  omega
/-! tuples put together, whichever object it is -/
theorem catU {K : PySem.W.Frag} {H : Hp} {a : List Addr} {p q : Addr} {xs ys : List V} {Q : VK} (ha : Live a H) (h1 : SqT K (Hm a H) p xs) (h2 : SqT K (Hm a H) q ys) (hl : xs.length + ys.length ≤ 1000)
    (h : ∀ r H', Same H H' → SqT K (Hm a H') r (xs ++ ys) → Q (.ref r) H') : rCatA K (.ref p) (.ref q) H Q := by
  refine ⟨p, q, xs, ys, rfl, rfl, seqT (hm_same a H) h1, seqT (hm_same a H) h2, Nat.le_trans hl (by decide), fun e => ?_, fun _ e => ?_, fun _ _ r nr => ?_⟩
  · subst e
    exact h q H (Same.refl _) h2
  · subst e
    refine h p H (Same.refl _) ?_
    rw [List.append_nil]
    exact h1
  · refine h r _ (same_upd nr) (SqT.of ?_)
    rw [hm_ne (ha.new nr), upd_same]
theorem cut_whole {xs : List V} {lo hi : Option Int} (h : HT.sIx xs.length 0 lo = 0 ∧ HT.sIx xs.length xs.length hi = xs.length) : cutV xs lo hi = xs := by
  unfold cutV
  rw [h.1, h.2]
  exact List.take_length
theorem cutU {K : PySem.W.Frag} {H : Hp} {a : List Addr} {p : Addr} {xs : List V} {lo hi : Option Int} {Q : VK} (ha : Live a H) (h1 : SqT K (Hm a H) p xs)
    (h : ∀ r H', Same H H' → SqT K (Hm a H') r (cutV xs lo hi) → Q (.ref r) H') : rSlA K (.ref p) lo hi H Q := by
  refine ⟨p, xs, rfl, seqT (hm_same a H) h1, fun e => ?_, fun _ r nr => ?_⟩
  · refine h p H (Same.refl _) ?_
    rw [cut_whole e]
    exact h1
  · refine h r _ (same_upd nr) (SqT.of ?_)
    rw [hm_ne (ha.new nr), upd_same]
theorem cut_mem {xs : List V} {lo hi : Option Int} {x : V} (h : x ∈ cutV xs lo hi) : x ∈ xs := by
  unfold cutV at h
  exact List.mem_of_mem_drop (List.mem_of_mem_take h)
theorem all_cons {α : Type} {Pr : α → Prop} {x : α} {xs : List α} (h : Pr x) (t : ∀ y ∈ xs, Pr y) : ∀ y ∈ x :: xs, Pr y := fun y hy => by
  rcases List.mem_cons.mp hy with rfl | hy
  · exact h
  · exact t y hy
theorem all_nil {α : Type} {Pr : α → Prop} : ∀ y ∈ ([] : List α), Pr y := fun _ h => by cases h
theorem all_app {α : Type} {Pr : α → Prop} {xs ys : List α} (h : ∀ y ∈ xs, Pr y) (t : ∀ y ∈ ys, Pr y) : ∀ y ∈ xs ++ ys, Pr y := fun y hy => by
  rcases List.mem_append.mp hy with hy | hy
  · exact h y hy
  · exact t y hy
theorem new_row {K : PySem.W.Frag} {H : Hp} {a : List Addr} {p : Addr} {xs : List V} (ha : Live a H) (np : H p = none) : SqT K (Hm a (upd H p (.tup xs))) p xs := by
  refine SqT.of ?_
  rw [hm_ne (ha.new np), upd_same]
theorem new_rowL {K : PySem.W.Frag} {H : Hp} {a : List Addr} {p : Addr} {xs : List V} (ha : Live a H) (np : H p = none) : SqL K (Hm a (upd H p (.lst xs))) p xs := by
  refine SqL.of ?_
  rw [hm_ne (ha.new np), upd_same]
theorem PotAt.live {H : Hp} {a : Addr} {n : Nat} (h : PotAt H a n) : H a ≠ none := fun z => by
  obtain ⟨o, e⟩ := h.some
  rw [e] at z
  cases z
theorem itm_bl {K : PySem.W.Frag} {H : Hp} (b : Bool) : Itm K H (.bl b) := ⟨_, .bl b, (small_bl b).le (by decide) (by decide)⟩
theorem itm_non {K : PySem.W.Frag} {H : Hp} : Itm K H .non := ⟨_, .non, small_non.le (by decide) (by decide)⟩
theorem itm_str {K : PySem.W.Frag} {H : Hp} {x : Str} (c : (PyData.str x).canLay0 = true) (h : (reprText x).length ≤ 60) : Itm K H (.str x) := ⟨_, .str x, ⟨rfl, c, by simp [PyData.depth], Nat.le_trans h (by decide)⟩⟩
theorem itm_tup1 {K : PySem.W.Frag} {H : Hp} {p : Addr} {i : Int} (h : SqT K H p [.int i]) (hi : i.natAbs < 10 ^ 30) : Itm K H (.ref p) :=
  ⟨.tuple [.int i], .tup h (.cons (.int i) .nil), (small_tuple (n := 60) (m := 1) (all_cons (small_int (Nat.lt_of_lt_of_le hi (by decide +kernel))) all_nil)).le (by show 4 + 1 * (60 + 2) ≤ 100; decide) (by decide)⟩
theorem itm_lst1 {K : PySem.W.Frag} {H : Hp} {p : Addr} {i : Int} (h : SqL K H p [.int i]) (hi : i.natAbs < 10 ^ 30) : Itm K H (.ref p) :=
  ⟨.list [.int i], .lst h (.cons (.int i) .nil), (small_list (n := 60) (m := 1) (all_cons (small_int (Nat.lt_of_lt_of_le hi (by decide +kernel))) all_nil)).le (by show 4 + 1 * (60 + 2) ≤ 100; decide) (by decide)⟩
theorem itm_ints {K : PySem.W.Frag} {H : Hp} {l : List Int} (h : ∀ x ∈ l, x.natAbs < 10 ^ 30) : ∀ x ∈ l.map V.int, Itm K H x := fun x hx => by
  obtain ⟨i, hi, rfl⟩ := List.mem_map.mp hx
  exact itm_int (Nat.lt_of_lt_of_le (h i hi) (by decide +kernel))
theorem shows_itm {K : PySem.W.Frag} {H : Hp} {v : V} (h : Itm K H v) : ∃ d, Shows K H v d := by
  obtain ⟨d, h1, h2⟩ := h
  exact ⟨d, shows_small h1 h2 (by decide) (by decide)⟩
theorem Ex.stays {K : PySem.W.Frag} {H H' : Hp} (e : Same H H') {v : V} (h : ∃ d, Shows K H v d) : ∃ d, Shows K H' v d := by
  obtain ⟨d, h⟩ := h
  exact ⟨d, h.stays e⟩

/-! ### the next lot; each number has its lot -/
theorem cnt_app : ∀ c b : List Bool, cnt (c ++ b) = cnt c + cnt b
  | [], b => by
    show cnt b = 0 + cnt b
    omega
  | true :: c, b => by
    show cnt (c ++ b) + 1 = cnt c + 1 + cnt b
    rw [cnt_app c b]
    omega
  | false :: c, b => cnt_app c b
theorem rk_app : ∀ (c b b' : List Bool), b.length = b'.length → cnt b = cnt b' → rk (c ++ b) - rk (c ++ b') = rk b - rk b'
  | [], _, _, _, _ => rfl
  | true :: c, b, b', h1, h2 => rk_app c b b' h1 h2
  | false :: c, b, b', h1, h2 => by
    have ih := rk_app c b b' h1 h2
    show chs ((c ++ b).length : Int) ((cnt (c ++ b) : Int) - 1) + rk (c ++ b) - (chs ((c ++ b').length : Int) ((cnt (c ++ b') : Int) - 1) + rk (c ++ b')) = _
    rw [List.length_append, List.length_append, cnt_app, cnt_app, h1, h2]
    omega
theorem bts_none : ∀ (m : Nat) (h : Int), bts m h [] = List.replicate m false
  | 0, _ => rfl
  | m + 1, h => by
    show false :: bts m (h + 1) [] = _
    rw [bts_none m (h + 1)]
    rfl
theorem bts_app : ∀ (a : Nat) (h : Int) (pre suf : List Int) (m : Nat), Ris (h + a) h pre → Ris (h + a + m) (h + a) suf → bts (a + m) h (pre ++ suf) = bts a h pre ++ bts m (h + a) suf
  | 0, h, [], suf, m, _, _ => by
    rw [Nat.zero_add]
    show bts m h suf = bts m (h + 0) suf
    rw [Int.add_zero]
  | 0, h, x :: t, suf, m, r, _ => by
    have := r.1
    have := r.2.1
    omega
  | a + 1, h, [], suf, m, _, q => by
    have e1 : h + ((a + 1 : Nat) : Int) = h + 1 + (a : Int) := by omega
    rw [e1] at q
    have ih := bts_app a (h + 1) [] suf m trivial q
    rw [List.nil_append] at ih
    have e2 : bts (a + 1 + m) h ([] ++ suf) = false :: bts (a + m) (h + 1) suf := by
      rw [show a + 1 + m = (a + m) + 1 by omega, List.nil_append]
      cases suf with
      | nil => rfl
      | cons y s =>
        rw [bts_cons, if_neg]
        have := q.1
        omega
    rw [e2, ih, e1]
    rfl
  | a + 1, h, x :: t, suf, m, r, q => by
    have e1 : h + ((a + 1 : Nat) : Int) = h + 1 + (a : Int) := by omega
    rw [e1] at q r
    rw [e1, show a + 1 + m = (a + m) + 1 by omega, List.cons_append, bts_cons, bts_cons]
    by_cases e : x = h
    · rw [if_pos e, if_pos e]
      subst e
      rw [bts_app a (x + 1) t suf m r.2.2 q]
      rfl
    · rw [if_neg e, if_neg e]
      have ih := bts_app a (h + 1) (x :: t) suf m (r.up e) q
      rw [List.cons_append] at ih
      rw [ih]
      rfl
/-- k hands behind one another from h -/
def run : Int → Nat → List Int
  | _, 0 => []
  | h, k + 1 => h :: run (h + 1) k
theorem run_len : ∀ (h : Int) (k : Nat), (run h k).length = k
  | _, 0 => rfl
  | h, k + 1 => congrArg (· + 1) (run_len (h + 1) k)
theorem run_map : ∀ (h : Int) (k : Nat), run h k = (List.range k).map fun (j : Nat) => h + (j : Int)
  | _, 0 => rfl
  | h, k + 1 => by
    show h :: run (h + 1) k = _
    rw [run_map (h + 1) k, List.range_succ_eq_map, List.map_cons, List.map_map]
    congr 1
    · omega
    · apply List.map_congr_left
      intro j _
      show h + 1 + (j : Int) = h + ((j + 1 : Nat) : Int)
      omega
theorem run_ris : ∀ (k : Nat) (h n : Int), h + k ≤ n → Ris n h (run h k)
  | 0, _, _, _ => trivial
  | k + 1, h, n, e => ⟨Int.le_refl _, by omega, run_ris k (h + 1) n (by omega)⟩
theorem bts_run : ∀ (k : Nat) (h : Int), bts k h (run h k) = List.replicate k true
  | 0, _ => rfl
  | k + 1, h => by
    show bts (k + 1) h (h :: run (h + 1) k) = _
    rw [bts_cons, if_pos rfl, bts_run k (h + 1)]
    rfl
theorem cnt_f : ∀ g : Nat, cnt (List.replicate g false) = 0
  | 0 => rfl
  | g + 1 => cnt_f g
theorem cnt_t : ∀ g : Nat, cnt (List.replicate g true) = g
  | 0 => rfl
  | g + 1 => congrArg (· + 1) (cnt_t g)
theorem rk_f : ∀ g : Nat, rk (List.replicate g false) = 0
  | 0 => rfl
  | g + 1 => by
    show chs ((List.replicate g false).length : Int) ((cnt (List.replicate g false) : Int) - 1) + rk (List.replicate g false) = 0
    rw [cnt_f, rk_f g, chs_neg (by omega)]
    rfl
theorem rk_low : ∀ k g : Nat, rk (List.replicate k true ++ List.replicate g false) = 0
  | 0, g => rk_f g
  | k + 1, g => rk_low k g
theorem bh_t : ∀ k : Nat, bh (List.replicate k true) = 0
  | 0 => rfl
  | k + 1 => by
    show chs ((List.replicate k true).length : Int) ((cnt (List.replicate k true) : Int) + 1) + bh (List.replicate k true) = 0
    rw [cnt_t, List.length_replicate, bh_t k, chs_big (by omega)]
    rfl
theorem bh_top : ∀ g k : Nat, bh (List.replicate g false ++ List.replicate k true) = 0
  | 0, k => bh_t k
  | g + 1, k => bh_top g k
theorem ris_pre {n x : Int} {t : List Int} : ∀ {pre : List Int} {h : Int}, Ris n h (pre ++ x :: t) → Ris x h pre
  | [], _, _ => trivial
  | y :: p, h, r => by
    have r' : h ≤ y ∧ y < n ∧ Ris n (y + 1) (p ++ x :: t) := r
    have lt : y < x := by
      have := ris_mem r'.2.2 x (by simp)
      omega
    exact ⟨r'.1, lt, ris_pre r'.2.2⟩
theorem ris_suf {n x : Int} {t : List Int} : ∀ {pre : List Int} {h : Int}, Ris n h (pre ++ x :: t) → h ≤ x ∧ Ris n x (x :: t)
  | [], h, r => ⟨r.1, Int.le_refl _, r.2⟩
  | y :: p, h, r => by
    have r' : h ≤ y ∧ y < n ∧ Ris n (y + 1) (p ++ x :: t) := r
    have z := ris_suf r'.2.2
    exact ⟨by omega, z.2⟩
theorem ris_cat {n a : Int} {suf : List Int} : ∀ {pre : List Int} {h : Int}, h ≤ a → a ≤ n → Ris a h pre → Ris n a suf → Ris n h (pre ++ suf)
  | [], h, e, _, _, r => r.le e
  | y :: p, h, _, e2, r, q => ⟨r.1, by have := r.2.1; omega, ris_cat (by have := r.2.1; omega) e2 r.2.2 q⟩
theorem next_num {n : Nat} {pre : List Int} {x : Int} {k : Nat} (hn : n ≤ 60) (r : Ris n 0 (pre ++ x :: run ((n : Int) - k) k)) (lt : x < (n : Int) - 1 - k) :
    Ris n 0 (pre ++ run (x + 1) (k + 1)) ∧ num n (pre ++ run (x + 1) (k + 1)) = num n (pre ++ x :: run ((n : Int) - k) k) + 1 := by
  obtain ⟨h0, hs⟩ := ris_suf r
  have hp := ris_pre r
  obtain ⟨X, rfl⟩ : ∃ X : Nat, x = (X : Int) := ⟨x.toNat, by omega⟩
  obtain ⟨g, hg⟩ : ∃ g : Nat, n = X + (g + 1 + k + 1) := ⟨n - X - k - 2, by omega⟩
  have r1 : Ris ((X : Int) + (g + 1 + k + 1 : Nat)) (X : Int) ((X : Int) :: run ((n : Int) - k) k) := by
    have e : (X : Int) + (g + 1 + k + 1 : Nat) = (n : Int) := by omega
    rw [e]
    exact hs
  have r2 : Ris ((X : Int) + (g + 1 + k + 1 : Nat)) (X : Int) (run ((X : Int) + 1) (k + 1)) := (run_ris (k + 1) ((X : Int) + 1) _ (by omega)).le (by omega)
  have r3 : Ris ((X : Int) + 1 + ((k + 1 : Nat) : Int)) ((X : Int) + 1) (run ((X : Int) + 1) (k + 1)) := run_ris (k + 1) _ _ (by omega)
  refine ⟨?_, ?_⟩
  · refine ris_cat h0 (by omega) hp ?_
    have e : (X : Int) + (g + 1 + k + 1 : Nat) = (n : Int) := by omega
    rw [← e]
    exact r2
  have b1 : bts (g + 1 + k + 1) (X : Int) ((X : Int) :: run ((n : Int) - k) k) = true :: (List.replicate (g + 1) false ++ List.replicate k true) := by
    rw [bts_cons, if_pos rfl]
    have z := bts_app (g + 1) ((X : Int) + 1) [] (run ((n : Int) - k) k) k trivial (by
      have e : (X : Int) + 1 + ((g + 1 : Nat) : Int) = (n : Int) - k := by omega
      rw [e]
      exact run_ris k _ _ (by omega))
    rw [List.nil_append] at z
    rw [z, bts_none]
    have e : (X : Int) + 1 + ((g + 1 : Nat) : Int) = (n : Int) - k := by omega
    rw [e, bts_run]
  have b2 : bts (g + 1 + k + 1) (X : Int) (run ((X : Int) + 1) (k + 1)) = false :: (List.replicate (k + 1) true ++ List.replicate g false) := by
    have z := bts_skip (g + 1 + k) (X : Int) (run ((X : Int) + 1) (k + 1)) (run_ris (k + 1) _ _ (by omega))
    rw [z]
    have y := bts_app (k + 1) ((X : Int) + 1) (run ((X : Int) + 1) (k + 1)) [] g r3 trivial
    rw [List.append_nil, bts_run, bts_none] at y
    rw [show g + 1 + k = k + 1 + g by omega, y]
  have e0 : (0 : Int) + (X : Int) = (X : Int) := Int.zero_add _
  have hp' : Ris ((0 : Int) + (X : Nat)) 0 pre := by
    rw [e0]
    exact hp
  have s1 := bts_app X 0 pre ((X : Int) :: run ((n : Int) - k) k) (g + 1 + k + 1) hp' (by rw [e0]; exact r1)
  have s2 := bts_app X 0 pre (run ((X : Int) + 1) (k + 1)) (g + 1 + k + 1) hp' (by rw [e0]; exact r2)
  rw [e0, b1, ← hg] at s1
  rw [e0, b2, ← hg] at s2
  have d := rk_app (bts X 0 pre) (false :: (List.replicate (k + 1) true ++ List.replicate g false)) (true :: (List.replicate (g + 1) false ++ List.replicate k true))
    (by simp only [List.length_cons, List.length_append, List.length_replicate]; omega)
    (by
      show cnt (List.replicate (k + 1) true ++ List.replicate g false) = cnt (List.replicate (g + 1) false ++ List.replicate k true) + 1
      rw [cnt_app, cnt_app, cnt_t, cnt_f, cnt_f, cnt_t]
      omega)
  have k1 : rk (true :: (List.replicate (g + 1) false ++ List.replicate k true)) = chs ((g + 1 + k : Nat) : Int) (k : Int) - 1 := by
    have z := rk_bh (List.replicate (g + 1) false ++ List.replicate k true) (by simp only [List.length_append, List.length_replicate]; omega)
    rw [bh_top, List.length_append, List.length_replicate, List.length_replicate, cnt_app, cnt_f, cnt_t, Nat.zero_add] at z
    show rk (List.replicate (g + 1) false ++ List.replicate k true) = _
    omega
  have k2 : rk (false :: (List.replicate (k + 1) true ++ List.replicate g false)) = chs ((g + 1 + k : Nat) : Int) (k : Int) := by
    show chs ((List.replicate (k + 1) true ++ List.replicate g false).length : Int) ((cnt (List.replicate (k + 1) true ++ List.replicate g false) : Int) - 1) + rk (List.replicate (k + 1) true ++ List.replicate g false) = _
    rw [rk_low, List.length_append, List.length_replicate, List.length_replicate, cnt_app, cnt_f, cnt_t, Int.add_zero]
    congr 1 <;> omega
  unfold num
  rw [s1, s2]
  omega
theorem last_num {n k : Nat} (hn : n ≤ 60) (hk : k ≤ n) : num n (run ((n : Int) - k) k) = chs (n : Int) (k : Int) - 1 := by
  obtain ⟨g, hg⟩ : ∃ g, n = g + k := ⟨n - k, by omega⟩
  have e0 : (0 : Int) + (g : Int) = (n : Int) - k := by omega
  have z := bts_app g 0 [] (run ((n : Int) - k) k) k trivial (by
    rw [e0]
    exact run_ris k _ _ (by omega))
  rw [List.nil_append, bts_none, e0, bts_run, ← hg] at z
  have y := rk_bh (List.replicate g false ++ List.replicate k true) (by simp only [List.length_append, List.length_replicate]; omega)
  rw [bh_top, List.length_append, List.length_replicate, List.length_replicate, cnt_app, cnt_f, cnt_t, Nat.zero_add, ← hg] at y
  unfold num
  rw [z]
  omega
theorem unrank : ∀ (m k : Nat) (r : Int), m ≤ 60 → 0 ≤ r → r < chs (m : Int) (k : Int) → ∃ b : List Bool, b.length = m ∧ cnt b = k ∧ rk b = r
  | 0, 0, r, _, h0, h1 => by
    have e : chs ((0 : Nat) : Int) ((0 : Nat) : Int) = 1 := chs_zero 0
    rw [e] at h1
    exact ⟨[], rfl, rfl, by show (0 : Int) = r; omega⟩
  | 0, k + 1, r, _, h0, h1 => by
    rw [chs_big (by omega)] at h1
    omega
  | m + 1, k, r, hm, h0, h1 => by
    have p := pas (m := m) (j := k) (by omega)
    have e : (((m + 1 : Nat) : Int)) = (m : Int) + 1 := by omega
    rw [e, p] at h1
    by_cases c : r < chs (m : Int) ((k : Int) - 1)
    · cases k with
      | zero =>
        rw [chs_neg (by omega)] at c
        omega
      | succ k =>
        rw [show (((k + 1 : Nat) : Int)) - 1 = (k : Int) by omega] at c
        obtain ⟨b, q1, q2, q3⟩ := unrank m k r (by omega) h0 c
        exact ⟨true :: b, congrArg (· + 1) q1, congrArg (· + 1) q2, q3⟩
    · obtain ⟨b, q1, q2, q3⟩ := unrank m k (r - chs (m : Int) ((k : Int) - 1)) (by omega) (by omega) (by omega)
      refine ⟨false :: b, congrArg (· + 1) q1, q2, ?_⟩
      show chs (b.length : Int) ((cnt b : Int) - 1) + rk b = r
      rw [q1, q2, q3]
      omega
def ofb : Int → List Bool → List Int
  | _, [] => []
  | h, true :: b => h :: ofb (h + 1) b
  | h, false :: b => ofb (h + 1) b
theorem ofb_ris : ∀ (b : List Bool) (h : Int), Ris (h + b.length) h (ofb h b)
  | [], _ => trivial
  | true :: b, h => by
    have z := ofb_ris b (h + 1)
    rw [show h + 1 + (b.length : Int) = h + ((true :: b).length : Nat) by rw [List.length_cons]; omega] at z
    refine ⟨Int.le_refl _, ?_, z⟩
    rw [List.length_cons]
    omega
  | false :: b, h => by
    have z := ofb_ris b (h + 1)
    rw [show h + 1 + (b.length : Int) = h + ((false :: b).length : Nat) by rw [List.length_cons]; omega] at z
    exact z.le (by omega)
theorem ofb_len : ∀ (b : List Bool) (h : Int), (ofb h b).length = cnt b
  | [], _ => rfl
  | true :: b, h => congrArg (· + 1) (ofb_len b (h + 1))
  | false :: b, h => ofb_len b (h + 1)
theorem bts_ofb : ∀ (b : List Bool) (h : Int), bts b.length h (ofb h b) = b
  | [], _ => rfl
  | true :: b, h => by
    show bts (b.length + 1) h (h :: ofb (h + 1) b) = _
    rw [bts_cons, if_pos rfl, bts_ofb b (h + 1)]
  | false :: b, h => by
    show bts (b.length + 1) h (ofb (h + 1) b) = _
    rw [bts_skip b.length h _ (ofb_ris b (h + 1)), bts_ofb b (h + 1)]
theorem num_surj {n k : Nat} {r : Int} (hn : n ≤ 60) (h0 : 0 ≤ r) (h1 : r < chs (n : Int) (k : Int)) : ∃ l, Ris n 0 l ∧ l.length = k ∧ num n l = r := by
  obtain ⟨b, q1, q2, q3⟩ := unrank n k r hn h0 h1
  have z := ofb_ris b 0
  rw [q1, Int.zero_add] at z
  refine ⟨ofb 0 b, z, (ofb_len b 0).trans q2, ?_⟩
  unfold num
  rw [← q1, bts_ofb, q3]
theorem chs_pos_all : ((List.range 61).all fun m => (List.range (m + 1)).all fun j => decide (0 < chs (m : Int) (j : Int) ∧ chs (m : Int) (j : Int) < 2 ^ 60)) = true := by decide +kernel
theorem chs_pos {n k : Nat} (hn : n ≤ 60) (hk : k ≤ n) : 0 < chs (n : Int) (k : Int) ∧ chs (n : Int) (k : Int) < 2 ^ 60 :=
  of_decide_eq_true (List.all_eq_true.mp (List.all_eq_true.mp chs_pos_all n (List.mem_range.mpr (by omega))) k (List.mem_range.mpr (by omega)))
/-- a step of the count of the lots ahead -/
theorem rk_step {m : Nat} {h x : Int} {t : List Int} (r : Ris (h + 1 + m) (h + 1) (x :: t)) : rk (bts (m + 1) h (x :: t)) = chs (m : Int) (t.length : Int) + rk (bts m (h + 1) (x :: t)) := by
  rw [bts_skip m h (x :: t) r]
  show chs ((bts m (h + 1) (x :: t)).length : Int) ((cnt (bts m (h + 1) (x :: t)) : Int) - 1) + _ = _
  rw [bts_len, bts_cnt m (h + 1) (x :: t) r, List.length_cons]
  congr 2
  omega
theorem rk_hit (m : Nat) (h : Int) (t : List Int) : rk (bts (m + 1) h (h :: t)) = rk (bts m (h + 1) t) := by
  rw [bts_cons, if_pos rfl]
  rfl

/-! ### tuples put together and cut, whichever object it is; enumerate of a tuple in a for -/
theorem same_refl (H : Hp) : Same H H := fun _ _ h => h
theorem cat_any {K : PySem.W.Frag} {H : Hp} {a b : Addr} {xs ys : List V} {Q : VK} (ha : SqT K H a xs) (hb : SqT K H b ys) (hl : xs.length + ys.length ≤ sizeLine)
    (q : ∀ p H', Same H H' → SqT K H' p (xs ++ ys) → (p = a ∨ p = b ∨ H p = none) → Q (.ref p) H') : rCatA K (.ref a) (.ref b) H Q := by
  refine ⟨a, b, xs, ys, rfl, rfl, ha, hb, hl, fun e => ?_, fun _ e => ?_, fun _ _ p np => ?_⟩
  · subst e
    exact q b H (same_refl H) hb (.inr (.inl rfl))
  · subst e
    rw [List.append_nil] at q
    exact q a H (same_refl H) ha (.inl rfl)
  · exact q p _ (same_upd np) (SqT.of upd_same) (.inr (.inr np))
theorem cutA_whole {xs : List V} {lo hi : Option Int} (h : HT.sIx xs.length 0 lo = 0 ∧ HT.sIx xs.length xs.length hi = xs.length) : cutV xs lo hi = xs := by
  unfold cutV
  rw [h.1, h.2]
  exact List.take_length
theorem cut_any {K : PySem.W.Frag} {H : Hp} {p : Addr} {xs : List V} {lo hi : Option Int} {Q : VK} (h1 : SqT K H p xs)
    (h : ∀ r H', Same H H' → SqT K H' r (cutV xs lo hi) → Q (.ref r) H') : rSlA K (.ref p) lo hi H Q := by
  refine ⟨p, xs, rfl, h1, fun e => ?_, fun _ r nr => ?_⟩
  · refine h p H (same_refl _) ?_
    rw [cutA_whole e]
    exact h1
  · exact h r _ (same_upd nr) (SqT.of upd_same)
theorem cut_to (xs : List V) (k : Nat) : cutV xs none (some (k : Int)) = xs.take k := by
  unfold cutV
  rw [HT.sIx_none, HT.sIx_nat, List.drop_zero, Nat.sub_zero]
  by_cases h : k ≤ xs.length
  · rw [Nat.min_eq_left h]
  · rw [Nat.min_eq_right (by omega), List.take_of_length_le (Nat.le_refl _), List.take_of_length_le (by omega)]
theorem for_enumT {K : PySem.W.Frag} {a : Addr} {xs : List V} {g : TG} {tb : TS} {D : Ends} {σ : L2.St} {H : Hp} (Pv : Nat → L2.St → Hp → Prop) (h0 : Pv 0 σ H) (hl : ∀ i σ H, i ≤ xs.length → Pv i σ H → SqT K H a xs)
    (hs : ∀ i x σ H p, xs[i]? = some x → Pv i σ H → H p = none → g (.ref p) σ (upd H p (.tup [.int (i : Nat), x])) fun σ2 H2 => tb { D with nx := Pv (i + 1), ct := Pv (i + 1), bk := D.nx } σ2 H2) (hd : ∀ σ H, Pv xs.length σ H → D.nx σ H) :
    ∃ W : Nat → Nat → L2.St → Hp → Prop, (∃ m, W 0 m σ H) ∧ ∀ i m σ H, W i m σ H →
      ((IteT K a).stop i H ∧ D.nx σ H) ∨ ((IteT K a).go i H ∧ ∃ N : L2.St → Hp → Prop, (∀ σ' H', N σ' H' → ∃ m', m' < m ∧ W (i + 1) m' σ' H') ∧ ∀ x H', (IteT K a).yld i H x H' → g x σ H' fun σ2 H2 => tb { D with nx := N, ct := N, bk := D.nx } σ2 H2) := by
  refine ⟨fun i m σ H => m + i = xs.length ∧ Pv i σ H, ⟨xs.length, rfl, h0⟩, ?_⟩
  rintro i m σ H ⟨hm, p⟩
  have q := hl i σ H (by omega) p
  by_cases lt : i < xs.length
  · refine .inr ⟨⟨xs, xs[i], q, List.getElem?_eq_getElem lt⟩, Pv (i + 1), fun σ' H' p' => ⟨m - 1, by omega, by omega, p'⟩, ?_⟩
    rintro x H' ⟨t, y, rfl, ht, rfl, hy⟩
    exact hs i y σ H t (hy xs q) p ht
  · have e : i = xs.length := by omega
    subst e
    exact .inl ⟨⟨xs, q, Nat.le_refl _⟩, hd σ H p⟩

/-! ### the law's own rows -/
def p4 (i : Nat) : List Int := (List.range 61).map fun (k : Nat) => chs (i : Int) (k : Int)
theorem p4_len (i : Nat) : (p4 i).length = 61 := by
  unfold p4
  rw [List.length_map, List.length_range]
theorem p4_get {i k : Nat} (h : k < 61) : (p4 i)[k]? = some (chs (i : Int) (k : Int)) := by
  unfold p4
  rw [List.getElem?_map, List.getElem?_range h]
  rfl
theorem p4_getD {i k : Nat} (h : k < 61) : (p4 i).getD k 0 = chs (i : Int) (k : Int) := by
  rw [List.getD_eq_getElem?_getD, p4_get h]
  rfl
theorem p4_zero : ([1] ++ List.replicate 60 (0 : Int)) = p4 0 := by decide +kernel
theorem p4_succ {i : Nat} (h : i < 60) : [1] ++ (List.range 60).map (fun (k : Nat) => (p4 i).getD k 0 + (p4 i).getD (k + 1) 0) = p4 (i + 1) := by
  apply List.ext_getElem?
  intro j
  cases j with
  | zero =>
    rw [p4_get (by decide)]
    show some 1 = some (chs (((i + 1 : Nat)) : Int) ((0 : Nat) : Int))
    rw [show chs (((i + 1 : Nat)) : Int) ((0 : Nat) : Int) = 1 from chs_zero (i + 1)]
  | succ j =>
    show ((List.range 60).map (fun (k : Nat) => (p4 i).getD k 0 + (p4 i).getD (k + 1) 0))[j]? = (p4 (i + 1))[j + 1]?
    by_cases hj : j < 60
    · rw [List.getElem?_map, List.getElem?_range hj, p4_get (by omega)]
      show some ((p4 i).getD j 0 + (p4 i).getD (j + 1) 0) = _
      rw [p4_getD (by omega), p4_getD (by omega)]
      have z := pas (m := i) (j := j + 1) h
      rw [show (((i + 1 : Nat) : Int)) = (i : Int) + 1 by omega, z]
      congr 3
      omega
    · rw [List.getElem?_eq_none (by rw [List.length_map, List.length_range]; omega), List.getElem?_eq_none (by rw [p4_len]; omega)]
def RowsAt (H0 H : Hp) (p : Addr) (n : Nat) : Prop := H0 p = none ∧ ∃ rs : List Addr, H p = some (.lst (rs.map V.ref)) ∧ rs.length = n ∧ ∀ i q, rs[i]? = some q → q ≠ p ∧ H0 q = none ∧ H q = some (.lst ((p4 i).map V.int))
def spRows : Sp := fun vs H Q _ => vs = [] ∧ ∀ p H', Same H H' → RowsAt H H' p 61 → Q (.ref p) H'
theorem ok_rows {f : Addr} {fd : FuncData} (F : Fun K "_law_rows" "_law_rows" s__law_rows f fd) (T : Txt K mg) : FnOk P w K mg base CX0 1 f fd [] spRows := by
  refine F.ok sc__law_rows (fun vs H Q E h => ?_) (fun cdv A outer s H vs Q E hr h => ?_)
  · obtain ⟨rfl, _⟩ := h
    rfl
  · obtain ⟨rfl, q⟩ := h
    refine ⟨_, (pss_cons (ps_set (i := 0) sc__law_rows.nd rfl (by first | exact Or.inl rfl | exact Or.inr rfl) (pe_lst (pa_cons (pe_op op_cat (pe_lst (pa_cons pe_int pa_nil)) (pe_op op_rep (pe_lst (pa_cons pe_int pa_nil)) pe_int)) pa_nil)))
 (pss_cons (ps_while PassesOwn.never (pt_cmpR op_lt (pe_callB (k_len K) (by rfl) T.z_len (by decide +kernel) (pa_cons (pv 0) pa_nil)) pe_int (nomark _))
 (pss_cons (ps_set (i := 1) sc__law_rows.nd rfl (by first | exact Or.inl rfl | exact Or.inr rfl) (pe_ix (k_ixL K) (pv 0) (pe_un un_neg pe_int) (fun _ _ => rfl)))
 (pss_one (ps_expr (pe_bm PySem.F.plainAttrs_list PySem.F.slot_list_append PySem.F.type_list_append mt_append (pv 0) (pa_cons (pe_op op_cat (pe_lst (pa_cons pe_int pa_nil)) (pe_lc (own := [("_law_k", 2)]) (g := gName 2) (tt := tYes) rfl sc__law_rows.nd (pi_range1 (by rfl) T.z_range (pa_cons pe_int pa_nil)) (blkOk_by (own := [("_law_k", 2)]) (N := ["_law_rows_here", "_law_last", "_law_k"]) (sc := (defScope s__law_rows)) (by decide +kernel)) (fun _ _ _ _ _ => pg_name (i := 2) sc__law_rows.nd rfl (by first | exact Or.inl rfl | exact Or.inr rfl)) (fun _ _ _ _ _ => pts_nil) (fun _ _ _ _ _ => (pe_op op_add (pe_ix (k_ixL K) (pv 1) (pv 2) (fun _ _ => rfl)) (pe_ix (k_ixL K) (pv 1) (pe_op op_add (pv 2) pe_int) (fun _ _ => rfl)))))) pa_nil))))))
 (pss_one (ps_ret (pv 0))))), ?_⟩
    refine ⟨by show 1 ≤ sizeLine; decide, fun a1 na1 => ⟨by show 1 ≤ sizeLine; decide, fun a2 na2 => ?_⟩⟩
    have s1 := same_upd (o := .lst [.int 1]) na1
    have s2 := same_upd (o := .lst [.int 0]) na2
    refine ⟨a2, 60, _, rfl, rfl, upd_same, by decide, by decide, by show 1 * 60 ≤ sizeLine; decide, fun a3 na3 => ?_⟩
    have s3 := same_upd (o := .lst (List.replicate (60 : Int).toNat [V.int 0]).flatten) na3
    refine ⟨a1, a3, _, _, rfl, rfl, (s2.trans s3) _ _ upd_same, upd_same, ?_, fun a4 na4 => ?_⟩
    · rw [flat_rep, List.length_map, List.length_replicate]
      show 1 + 60 ≤ sizeLine
      decide
    have er : ([V.int 1] ++ (List.replicate (60 : Int).toNat [V.int 0]).flatten) = (p4 0).map V.int := by
      rw [flat_rep, ← p4_zero, List.map_append]
      rfl
    rw [er]
    have s4 := same_upd (o := .lst ((p4 0).map V.int)) na4
    refine ⟨by show 1 ≤ sizeLine; decide, fun p np => ?_⟩
    have s5 := same_upd (o := .lst [.ref a4]) np
    have S := s1.trans (s2.trans (s3.trans (s4.trans s5)))
    have ha4 := s5 _ _ (upd_same (a := a4) (o := .lst ((p4 0).map V.int)) (H := upd (upd (upd H a1 (.lst [.int 1])) a2 (.lst [.int 0])) a3 (.lst (List.replicate (60 : Int).toNat [V.int 0]).flatten)))
    have n4 : H a4 = none := s1.free (s2.free (s3.free na4))
    have np0 : H p = none := s1.free (s2.free (s3.free (s4.free np)))
    have hp := upd_same (a := p) (o := .lst [.ref a4]) (H := upd (upd (upd (upd H a1 (.lst [.int 1])) a2 (.lst [.int 0])) a3 (.lst (List.replicate (60 : Int).toNat [V.int 0]).flatten)) a4 (.lst ((p4 0).map V.int)))
    have d4 : a4 ≠ p := ne_of_none upd_same np
    generalize upd (upd (upd (upd (upd H a1 (.lst [.int 1])) a2 (.lst [.int 0])) a3 (.lst (List.replicate (60 : Int).toNat [V.int 0]).flatten)) a4 (.lst ((p4 0).map V.int))) p (.lst [.ref a4]) = H0 at S ha4 hp
    clear s1 s2 s3 s4 s5 na1 na2 na3 na4 np er
    refine ⟨fun m σ H' => ∃ (n : Nat) (y1 y2 : Option V), σ = [some (.ref p), y1, y2] ∧ Same H H' ∧ RowsAt H H' p n ∧ 1 ≤ n ∧ n + m = 61, ⟨60, 1, none, none, rfl, S, ⟨np0, [a4], hp, rfl, ?_⟩, by decide, by decide⟩, ?_⟩
    · intro i q hq
      match i, hq with
      | 0, hq =>
        cases hq
        exact ⟨d4, n4, ha4⟩
    · clear hp ha4 S
      rintro m σ H1 ⟨n, y1, y2, rfl, sm, ⟨_, rs, hp, hn, hrs⟩, n1, hm⟩
      have hlen : (rs.map V.ref).length = n := by
        rw [List.length_map]
        exact hn
      refine ⟨_, rfl, p, _, rfl, .inl (SqL.of hp), _, _, rfl, rfl, _, rfl, ite2 (fun e => ?_) (fun e => ?_)⟩
      · have hlt : n < 61 := by
          have z : ((rs.map V.ref).length : Int) < 61 := of_decide_eq_true e
          rw [hlen] at z
          omega
        refine ⟨fun σ' H' => ∃ (y1 y2 : Option V), σ' = [some (.ref p), y1, y2] ∧ Same H H' ∧ RowsAt H H' p (n + 1), fun σ' H' ⟨z1, z2, e1, e2, e3⟩ => ⟨m - 1, by omega, n + 1, z1, z2, e1, e2, e3, by omega, by omega⟩, ?_⟩
        obtain ⟨i, rfl⟩ : ∃ i, n = i + 1 := ⟨n - 1, by omega⟩
        obtain ⟨q0, hq0⟩ : ∃ q0, rs[i]? = some q0 := ⟨rs[i], List.getElem?_eq_getElem (by omega)⟩
        obtain ⟨qp, qn, hq⟩ := hrs _ _ hq0
        have hlast : atI (rs.map V.ref) (-1) = some (.ref q0) := by
          apply atI_neg1
          rw [hlen, Nat.add_sub_cancel, List.getElem?_map, hq0]
          rfl
        refine ⟨_, rfl, 1, rfl, p, _, -1, _, rfl, rfl, SqL.of hp, hlast, ?_⟩
        refine ⟨_, rfl, .inl ⟨rfl, _, SqL.of hp⟩, ?_⟩
        refine ⟨by show 1 ≤ sizeLine; decide, fun a na => ?_⟩
        have sa := same_upd (o := .lst [.int 1]) na
        have hqa := sa _ _ hq
        refine ⟨60, rfl, by decide, by decide, fun D nD => lc_range (lo := 0) (fun j H' => H' = upd (upd H1 a (.lst [.int 1])) D (.lst (((List.range j).map (fun (k : Nat) => (p4 i).getD k 0 + (p4 i).getD (k + 1) 0)).map V.int))) rfl ?_ ?_⟩
        · rintro j H' hj rfl
          have hj2 : j < 60 := hj
          have sD := same_upd (o := .lst (((List.range j).map (fun (k : Nat) => (p4 i).getD k 0 + (p4 i).getD (k + 1) 0)).map V.int)) nD
          have hqD := sD _ _ hqa
          have pl := p4_len i
          have g1 : ((p4 i).map V.int)[j]? = some (.int ((p4 i).getD j 0)) := row_get (by omega)
          have g2 : ((p4 i).map V.int)[j + 1]? = some (.int ((p4 i).getD (j + 1) 0)) := row_get (by omega)
          rw [show (0 : Int) + (j : Int) = (j : Int) by omega]
          refine ⟨rfl, lcT ?_⟩
          refine ⟨_, rfl, _, rfl, q0, _, _, _, rfl, rfl, SqL.of hqD, atI_nat g1, _, rfl, _, rfl, _, _, rfl, rfl, q0, _, ((j + 1 : Nat) : Int), _, rfl, rfl, SqL.of hqD, atI_nat g2, _, _, rfl, rfl, _, upd_same, ?_, ?_⟩
          · rw [List.length_map, List.length_map, List.length_range]
            exact small1000 (by omega)
          · rw [upd_upd, range_map_succ, List.map_append]
            rfl
        · rintro H' rfl
          have sD := same_upd (o := .lst (((List.range (60 : Int).toNat).map (fun (k : Nat) => (p4 i).getD k 0 + (p4 i).getD (k + 1) 0)).map V.int)) nD
          refine ⟨a, D, _, _, rfl, rfl, sD _ _ upd_same, upd_same, ?_, fun b nb => ?_⟩
          · rw [List.length_map, List.length_map, List.length_range]
            show 1 + 60 ≤ sizeLine
            decide
          have en : ([V.int 1] ++ ((List.range (60 : Int).toNat).map (fun (k : Nat) => (p4 i).getD k 0 + (p4 i).getD (k + 1) 0)).map V.int) = (p4 (i + 1)).map V.int := by
            rw [← p4_succ (i := i) (by omega), List.map_append]
            rfl
          rw [en]
          have sb := same_upd (o := .lst ((p4 (i + 1)).map V.int)) nb
          have S := sa.trans (sD.trans sb)
          have hb := upd_same (a := b) (o := .lst ((p4 (i + 1)).map V.int)) (H := upd (upd H1 a (.lst [.int 1])) D (.lst (((List.range (60 : Int).toNat).map (fun (k : Nat) => (p4 i).getD k 0 + (p4 i).getD (k + 1) 0)).map V.int)))
          have nb1 : H1 b = none := sa.free (sD.free nb)
          generalize upd (upd (upd H1 a (.lst [.int 1])) D (.lst (((List.range (60 : Int).toNat).map (fun (k : Nat) => (p4 i).getD k 0 + (p4 i).getD (k + 1) 0)).map V.int))) b (.lst ((p4 (i + 1)).map V.int)) = H2 at S hb
          have bp : b ≠ p := fun e => by
            rw [e, hp] at nb1
            cases nb1
          refine ⟨p, _, _, rfl, rfl, S _ _ hp, ?_, ?_⟩
          · rw [hlen]
            exact small1000 (by omega)
          refine ⟨_, _, rfl, fun x o e => ?_, np0, rs ++ [b], ?_, ?_, ?_⟩
          · rw [upd_ne (ne_of_none e np0)]
            exact S _ _ (sm _ _ e)
          · rw [upd_same, List.map_append]
            rfl
          · rw [List.length_append, hn]
            rfl
          · intro j q hz
            by_cases hj : j < rs.length
            · rw [List.getElem?_append_left hj] at hz
              obtain ⟨h1, h2, h3⟩ := hrs _ _ hz
              refine ⟨h1, h2, ?_⟩
              rw [upd_ne h1]
              exact S _ _ h3
            · have ej : j = i + 1 := by
                have z := (List.getElem?_eq_some_iff.mp hz).1
                rw [List.length_append] at z
                have z2 : j < rs.length + 1 := z
                omega
              subst ej
              rw [List.getElem?_append_right (by omega), hn, Nat.sub_self] at hz
              have eq : b = q := Option.some.inj hz
              subst eq
              refine ⟨bp, sm.free nb1, ?_⟩
              rw [upd_ne bp]
              exact hb
      · have h61 : n = 61 := by
          have z : ¬ ((rs.map V.ref).length : Int) < 61 := fun z => e (decide_eq_true z)
          rw [hlen] at z
          omega
        subst h61
        exact ⟨_, rfl, q _ _ sm ⟨np0, rs, hp, hn, hrs⟩⟩

/-! ### how many lots are ahead, by the law's own count -/
def RowsOk (H : Hp) (p : Addr) : Prop := ∃ rs : List Addr, H p = some (.lst (rs.map V.ref)) ∧ rs.length = 61 ∧ ∀ i q, rs[i]? = some q → H q = some (.lst ((p4 i).map V.int))
theorem RowsOk.same {H H' : Hp} {p : Addr} (h : RowsOk H p) (e : Same H H') : RowsOk H' p := by
  obtain ⟨rs, h1, h2, h3⟩ := h
  exact ⟨rs, e _ _ h1, h2, fun i q hq => e _ _ (h3 i q hq)⟩
theorem RowsOk.at {H : Hp} {p : Addr} (h : RowsOk H p) {m : Nat} (hm : m ≤ 60) : ∃ xs q, H p = some (.lst xs) ∧ xs[m]? = some (.ref q) ∧ H q = some (.lst ((p4 m).map V.int)) := by
  obtain ⟨rs, h1, h2, h3⟩ := h
  have e : rs[m]? = some rs[m] := List.getElem?_eq_getElem (by omega)
  refine ⟨_, rs[m], h1, ?_, h3 m _ e⟩
  rw [List.getElem?_map, e]
  rfl
theorem p4_at {m k : Nat} (hk : k ≤ 60) : ((p4 m).map V.int)[k]? = some (.int (chs (m : Int) (k : Int))) := by
  rw [List.getElem?_map, p4_get (by omega)]
  rfl
def spAhead (K : PySem.W.Frag) : Sp := fun vs H Q _ => ∃ (p t : Addr) (n : Nat) (l : List Int), vs = [.ref p, .int n, .ref t] ∧ RowsOk H p ∧ SqT K H t (l.map V.int) ∧ n ≤ 60 ∧ Ris n 0 l ∧ ∀ H', Same H H' → Q (.int (num n l)) H'
theorem ok_ahead {f : Addr} {fd : FuncData} (F : Fun K "_law_ahead" "_law_ahead" s__law_ahead f fd) (T : Txt K mg) : FnOk P w K mg base CX0 1 f fd ["_law_rows_here", "_law_many", "_law_row"] (spAhead K) := by
  refine F.ok sc__law_ahead (fun vs H Q E h => ?_) (fun cdv A outer s H vs Q E hr h => ?_)
  · obtain ⟨p, t, n, l, rfl, _⟩ := h
    rfl
  · obtain ⟨p, t, n, l, rfl, hR, hT, hn, r, q⟩ := h
    have ll := r.len (by omega)
    refine ⟨_, (pss_cons (ps_set (i := 3) sc__law_ahead.nd rfl (by first | exact Or.inl rfl | exact Or.inr rfl) pe_int)
 (pss_cons (ps_for PassesOwn.never rfl (pi_enumT K (by rfl) T.z_enumerate (pa_cons (pv 2) pa_nil)) (pg_tup rfl (pgs_cons (pg_name (i := 4) sc__law_ahead.nd rfl (by first | exact Or.inl rfl | exact Or.inr rfl)) (pgs_cons (pg_name (i := 5) sc__law_ahead.nd rfl (by first | exact Or.inl rfl | exact Or.inr rfl)) pgs_nil)))
 (pss_cons (ps_set (i := 6) sc__law_ahead.nd rfl (by first | exact Or.inl rfl | exact Or.inr rfl) (pe_ifExp (pt_cmpR op_gt (pv 4) pe_int (nomark _)) (pe_op op_add (pe_ix (k_ixT K) (pv 2) (pe_op op_sub (pv 4) pe_int) (fun _ _ => rfl)) pe_int) pe_int))
 (pss_one (ps_for PassesOwn.never rfl (pi_range2 (by rfl) T.z_range (pa_cons (pv 6) (pa_cons (pv 5) pa_nil))) (pg_name (i := 7) sc__law_ahead.nd rfl (by first | exact Or.inl rfl | exact Or.inr rfl))
 (pss_one (ps_set (i := 3) sc__law_ahead.nd rfl (by first | exact Or.inl rfl | exact Or.inr rfl) (pe_op op_add (pv 3) (pe_ix (k_ixL K) (pe_ix (k_ixL K) (pv 0) (pe_op op_sub (pe_op op_sub (pv 1) (pv 7)) pe_int) (fun _ _ => rfl)) (pe_op op_sub (pe_op op_sub (pe_callB (k_len K) (by rfl) T.z_len (by decide +kernel) (pa_cons (pv 2) pa_nil)) (pv 4)) pe_int) (fun _ _ => rfl)))))))))
 (pss_one (ps_ret (pv 3))))), ?_⟩
    refine ⟨_, rfl, t, _, rfl, hT, for_enumT (K := K) (a := t) (xs := l.map V.int) (fun i σ H' => ∃ (fd : Int) (lw : Nat) (v4 v5 v6 v7 : Option V), σ = [some (.ref p), some (.int n), some (.ref t), some (.int fd), v4, v5, v6, v7] ∧ Same H H' ∧ lw ≤ n ∧ (i = 0 → lw = 0) ∧ (∀ j, i = j + 1 → l[j]? = some ((lw : Int) - 1)) ∧ Ris n lw (l.drop i) ∧ fd + rk (bts (n - lw) (lw : Int) (l.drop i)) = num n l)
      ⟨0, 0, none, none, none, none, rfl, same_refl _, Nat.zero_le _, fun _ => rfl, fun j e => by omega, r, by rw [List.drop_zero]; exact Int.zero_add _⟩ ?_ ?_ ?_⟩
    · rintro i σ H' _ ⟨_, _, _, _, _, _, _, sm, _⟩
      exact seqT sm hT
    · rintro i x σ H1 pp hx ⟨fd, lw, v4, v5, v6, v7, rfl, sm, lwn, l0, l1, rs, inv⟩ npp
      obtain ⟨x, hx2, rfl⟩ := map_int_get hx
      have hi := (List.getElem?_eq_some_iff.mp hx2).1
      have ed : l.drop i = x :: l.drop (i + 1) := by
        rw [List.drop_eq_getElem_cons hi]
        congr 1
        rw [List.getElem?_eq_getElem hi] at hx2
        exact Option.some.inj hx2
      rw [ed] at rs inv
      have dl : (l.drop (i + 1)).length = l.length - i - 1 := by
        rw [List.length_drop]
        omega
      generalize l.drop (i + 1) = tl at rs inv dl ed
      have x0 := rs.1
      have xn := rs.2.1
      have spp := same_upd (o := .tup [.int (i : Nat), .int x]) npp
      refine ⟨pp, _, rfl, .inl (.inl upd_same), rfl, _, _, rfl, _, _, rfl, rfl, ?_⟩
      have sm := sm.trans spp
      generalize upd H1 pp (.tup [.int (i : Nat), .int x]) = H2 at sm
      refine ⟨_, rfl, _, _, rfl, rfl, _, rfl, ite2 (fun e => ?_) (fun e => ?_)⟩
      · have e' : (0 : Int) < ((i : Nat) : Int) := of_decide_eq_true e
        obtain ⟨j0, hj0⟩ : ∃ j0, i = j0 + 1 := ⟨i - 1, by omega⟩
        have gl := l1 j0 hj0
        refine ⟨_, rfl, _, rfl, _, _, rfl, rfl, t, _, _, .int ((lw : Int) - 1), rfl, rfl, seqT sm hT, ?_, _, _, rfl, rfl, ?_⟩
        · rw [show ((i : Nat) : Int) - 1 = (j0 : Int) by omega]
          refine atI_nat ?_
          rw [List.getElem?_map, gl]
          rfl
        show gName 6 (V.int ((lw : Int) - 1 + 1)) _ _ _
        rw [show (lw : Int) - 1 + 1 = (lw : Int) by omega]
        refine ⟨_, rfl, _, rfl, _, _, rfl, ⟨by omega, by omega, by omega, by omega⟩, for_range (lo := (lw : Int)) (fun j σ H' => ∃ (f2 : Int) (v7 : Option V), σ = [some (.ref p), some (.int n), some (.ref t), some (.int f2), some (.int (i : Nat)), some (.int x), some (.int (lw : Int)), v7] ∧ H' = H2 ∧ f2 + rk (bts (n - (lw + j)) (((lw + j : Nat)) : Int) (x :: tl)) = num n l)
          ⟨fd, v7, rfl, rfl, by rw [Nat.add_zero]; exact inv⟩ ?_ ?_⟩
        · rintro j σ H3 hj ⟨f2, v7, rfl, rfl, inv2⟩
          have hj2 : (lw : Int) + (j : Int) < x := by omega
          obtain ⟨m, hm⟩ : ∃ m, n - (lw + j) = m + 1 := ⟨n - (lw + j) - 1, by omega⟩
          rw [show (lw : Int) + (j : Int) = ((lw + j : Nat) : Int) by omega]
          obtain ⟨xs, q0, g1, g2, g3⟩ := (hR.same sm).at (m := m) (by omega)
          have rr : Ris (((lw + j : Nat) : Int) + 1 + (m : Int)) (((lw + j : Nat) : Int) + 1) (x :: tl) := by
            rw [show ((lw + j : Nat) : Int) + 1 + (m : Int) = (n : Int) by omega]
            exact ⟨by omega, xn, rs.2.2⟩
          have st := rk_step rr
          rw [hm, st] at inv2
          have g4 := p4_at (m := m) (k := tl.length) (by omega)
          refine ⟨_, rfl, _, rfl, _, rfl, _, rfl, _, _, rfl, rfl, _, _, rfl, rfl, p, _, _, _, rfl, rfl, SqL.of g1, ?_, _, rfl, t, _, rfl, .inr (seqT sm hT), _, rfl, _, _, rfl, rfl, _, _, rfl, rfl, q0, _, _, .int (chs (m : Int) (tl.length : Int)), rfl, rfl, SqL.of g3, ?_, _, _, rfl, rfl, ?_⟩
          · rw [show (n : Int) - ((lw + j : Nat) : Int) - 1 = (m : Int) by omega]
            exact atI_nat g2
          · rw [List.length_map, show (l.length : Int) - ((i : Nat) : Int) - 1 = (tl.length : Int) by omega]
            exact atI_nat g4
          refine ⟨f2 + chs (m : Int) (tl.length : Int), _, rfl, rfl, ?_⟩
          rw [show n - (lw + (j + 1)) = m by omega, show ((lw + (j + 1) : Nat) : Int) = ((lw + j : Nat) : Int) + 1 by omega]
          omega
        · rintro σ H3 ⟨f2, v7, rfl, rfl, inv2⟩
          obtain ⟨X, hX⟩ : ∃ X : Nat, x = (X : Int) := ⟨x.toNat, by omega⟩
          obtain ⟨m, hm⟩ : ∃ m, n - X = m + 1 := ⟨n - X - 1, by omega⟩
          rw [show lw + (x - (lw : Int)).toNat = X by omega, hm, ← hX, rk_hit] at inv2
          refine ⟨f2, X + 1, _, _, _, _, rfl, sm, by omega, fun e => by omega, fun j' e => ?_, ?_, ?_⟩
          · obtain rfl : i = j' := by omega
            rw [hx2, show ((X + 1 : Nat) : Int) - 1 = x by omega]
          · rw [show ((X + 1 : Nat) : Int) = x + 1 by omega]
            exact rs.2.2
          · rw [show n - (X + 1) = m by omega, show ((X + 1 : Nat) : Int) = x + 1 by omega]
            exact inv2
      · have e' : ¬ (0 : Int) < ((i : Nat) : Int) := fun z => e (decide_eq_true z)
        have i0 : i = 0 := by omega
        have lw0 := l0 i0
        show gName 6 (V.int 0) _ _ _
        rw [show (0 : Int) = (lw : Int) by omega]
        refine ⟨_, rfl, _, rfl, _, _, rfl, ⟨by omega, by omega, by omega, by omega⟩, for_range (lo := (lw : Int)) (fun j σ H' => ∃ (f2 : Int) (v7 : Option V), σ = [some (.ref p), some (.int n), some (.ref t), some (.int f2), some (.int (i : Nat)), some (.int x), some (.int (lw : Int)), v7] ∧ H' = H2 ∧ f2 + rk (bts (n - (lw + j)) (((lw + j : Nat)) : Int) (x :: tl)) = num n l)
          ⟨fd, v7, rfl, rfl, by rw [Nat.add_zero]; exact inv⟩ ?_ ?_⟩
        · rintro j σ H3 hj ⟨f2, v7, rfl, rfl, inv2⟩
          have hj2 : (lw : Int) + (j : Int) < x := by omega
          obtain ⟨m, hm⟩ : ∃ m, n - (lw + j) = m + 1 := ⟨n - (lw + j) - 1, by omega⟩
          rw [show (lw : Int) + (j : Int) = ((lw + j : Nat) : Int) by omega]
          obtain ⟨xs, q0, g1, g2, g3⟩ := (hR.same sm).at (m := m) (by omega)
          have rr : Ris (((lw + j : Nat) : Int) + 1 + (m : Int)) (((lw + j : Nat) : Int) + 1) (x :: tl) := by
            rw [show ((lw + j : Nat) : Int) + 1 + (m : Int) = (n : Int) by omega]
            exact ⟨by omega, xn, rs.2.2⟩
          have st := rk_step rr
          rw [hm, st] at inv2
          have g4 := p4_at (m := m) (k := tl.length) (by omega)
          refine ⟨_, rfl, _, rfl, _, rfl, _, rfl, _, _, rfl, rfl, _, _, rfl, rfl, p, _, _, _, rfl, rfl, SqL.of g1, ?_, _, rfl, t, _, rfl, .inr (seqT sm hT), _, rfl, _, _, rfl, rfl, _, _, rfl, rfl, q0, _, _, .int (chs (m : Int) (tl.length : Int)), rfl, rfl, SqL.of g3, ?_, _, _, rfl, rfl, ?_⟩
          · rw [show (n : Int) - ((lw + j : Nat) : Int) - 1 = (m : Int) by omega]
            exact atI_nat g2
          · rw [List.length_map, show (l.length : Int) - ((i : Nat) : Int) - 1 = (tl.length : Int) by omega]
            exact atI_nat g4
          refine ⟨f2 + chs (m : Int) (tl.length : Int), _, rfl, rfl, ?_⟩
          rw [show n - (lw + (j + 1)) = m by omega, show ((lw + (j + 1) : Nat) : Int) = ((lw + j : Nat) : Int) + 1 by omega]
          omega
        · rintro σ H3 ⟨f2, v7, rfl, rfl, inv2⟩
          obtain ⟨X, hX⟩ : ∃ X : Nat, x = (X : Int) := ⟨x.toNat, by omega⟩
          obtain ⟨m, hm⟩ : ∃ m, n - X = m + 1 := ⟨n - X - 1, by omega⟩
          rw [show lw + (x - (lw : Int)).toNat = X by omega, hm, ← hX, rk_hit] at inv2
          refine ⟨f2, X + 1, _, _, _, _, rfl, sm, by omega, fun e => by omega, fun j' e => ?_, ?_, ?_⟩
          · obtain rfl : i = j' := by omega
            rw [hx2, show ((X + 1 : Nat) : Int) - 1 = x by omega]
          · rw [show ((X + 1 : Nat) : Int) = x + 1 by omega]
            exact rs.2.2
          · rw [show n - (X + 1) = m by omega, show ((X + 1 : Nat) : Int) = x + 1 by omega]
            exact inv2
    · rintro σ H1 ⟨fd, lw, v4, v5, v6, v7, rfl, sm, lwn, l0, l1, rs, inv⟩
      rw [List.length_map, List.drop_length, bts_none, rk_f, Int.add_zero] at inv
      subst inv
      exact ⟨_, rfl, q _ sm⟩

/-! ### the next lot, by the law's own step -/
def spNext (K : PySem.W.Frag) : Sp := fun vs H Q _ => ∃ (t : Addr) (n : Nat) (l : List Int), vs = [.int n, .ref t] ∧ SqT K H t (l.map V.int) ∧ n ≤ 60 ∧ Ris n 0 l ∧
  (∀ p H' l', Same H H' → SqT K H' p (l'.map V.int) → Ris n 0 l' → l'.length = l.length → num n l' = num n l + 1 → Q (.ref p) H') ∧
  (∀ H', Same H H' → num n l = chs (n : Int) (l.length : Int) - 1 → Q .non H')
theorem ok_next {f : Addr} {fd : FuncData} (F : Fun K "_law_next" "_law_next" s__law_next f fd) (T : Txt K mg) : FnOk P w K mg base CX0 1 f fd ["_law_many", "_law_row"] (spNext K) := by
  refine F.ok sc__law_next (fun vs H Q E h => ?_) (fun cdv A outer s H vs Q E hr h => ?_)
  · obtain ⟨t, n, l, rfl, _⟩ := h
    rfl
  · obtain ⟨t, n, l, rfl, hT, hn, r, q1, q2⟩ := h
    have ll := r.len (by omega)
    refine ⟨_, (pss_cons (ps_for PassesOwn.never rfl (pi_range3 (by rfl) T.z_range (pa_cons (pe_op op_sub (pe_callB (k_len K) (by rfl) T.z_len (by decide +kernel) (pa_cons (pv 1) pa_nil)) pe_int) (pa_cons (pe_un un_neg pe_int) (pa_cons (pe_un un_neg pe_int) pa_nil)))) (pg_name (i := 2) sc__law_next.nd rfl (by first | exact Or.inl rfl | exact Or.inr rfl))
 (pss_one (ps_if (pt_cmpR op_lt (pe_ix (k_ixT K) (pv 1) (pv 2) (fun _ _ => rfl)) (pe_op op_add (pe_op op_sub (pv 0) (pe_callB (k_len K) (by rfl) T.z_len (by decide +kernel) (pa_cons (pv 1) pa_nil))) (pv 2)) (nomark _))
 (pss_one (ps_ret (pe_op (k_catA K) (pe_slice (k_slT K) (pv 1) po_none (po_some (pv 2))) (pe_callTy (k_tuple K) (by rfl) T.z_tuple (by decide +kernel) (pa_cons (pe_lc (own := [("_law_k", 3)]) (g := gName 3) (tt := tYes) rfl sc__law_next.nd (pi_range1 (by rfl) T.z_range (pa_cons (pe_op op_sub (pe_callB (k_len K) (by rfl) T.z_len (by decide +kernel) (pa_cons (pv 1) pa_nil)) (pv 2)) pa_nil)) (blkOk_by (own := [("_law_k", 3)]) (N := ["_law_many", "_law_row", "_law_at", "_law_k"]) (sc := (defScope s__law_next)) (by decide +kernel)) (fun _ _ _ _ _ => pg_name (i := 3) sc__law_next.nd rfl (by first | exact Or.inl rfl | exact Or.inr rfl)) (fun _ _ _ _ _ => pts_nil) (fun _ _ _ _ _ => (pe_op op_add (pe_op op_add (pe_ix (k_ixT K) (pv 1) (pv 2) (fun _ _ => rfl)) pe_int) (pv 3)))) pa_nil)))))
 pss_nil)))
 (pss_one (ps_ret pe_non))), ?_⟩
    refine ⟨_, rfl, t, _, rfl, .inr hT, ?_⟩
    rw [List.length_map]
    refine ⟨_, _, rfl, rfl, _, rfl, _, rfl, _, _, _, _, rfl, RgC.neg (by omega) (by omega) (by decide) (by decide), for_rangeC (fun i σ H' => ∃ v2 v3, σ = [some (.int n), some (.ref t), v2, v3] ∧ H' = H ∧ l.drop (l.length - i) = run ((n : Int) - i) i)
      ⟨none, none, rfl, rfl, by rw [Nat.sub_zero, List.drop_length]; rfl⟩ ?_ ?_⟩
    · rintro i σ H' hi ⟨v2, v3, rfl, rfl, dr⟩
      have hi2 : i < l.length := by omega
      obtain ⟨a, ha⟩ : ∃ a, l.length = a + i + 1 := ⟨l.length - i - 1, by omega⟩
      have hal : a < l.length := by omega
      rw [show l.length - i = a + 1 by omega] at dr
      obtain ⟨x, hx⟩ : ∃ x, l[a]? = some x := ⟨l[a], List.getElem?_eq_getElem hal⟩
      have el : l = l.take a ++ x :: run ((n : Int) - i) i := by
        rw [← dr]
        have e1 : l.drop a = x :: l.drop (a + 1) := by
          rw [List.drop_eq_getElem_cons hal]
          congr 1
          rw [List.getElem?_eq_getElem hal] at hx
          exact Option.some.inj hx
        rw [← e1, List.take_append_drop]
      have gx : (l.map V.int)[a]? = some (.int x) := by
        rw [List.getElem?_map, hx]
        rfl
      rw [show (l.length : Int) - 1 + (i : Int) * (-1) = (a : Int) by omega]
      refine ⟨_, rfl, _, rfl, t, _, _, .int x, rfl, rfl, hT, atI_nat gx, _, rfl, _, rfl, t, _, rfl, .inr hT, _, _, rfl, rfl, _, rfl, _, _, rfl, rfl, _, _, rfl, rfl, _, rfl, ?_⟩
      rw [List.length_map]
      refine ite2 (fun e => ?_) (fun e => ?_)
      · have lt : x < (n : Int) - (l.length : Int) + (a : Int) := of_decide_eq_true e
        have rr := r
        rw [el] at rr
        obtain ⟨n1, n2⟩ := next_num hn rr (by omega)
        rw [← el] at n2
        refine ⟨_, rfl, _, rfl, _, rfl, cut_any hT fun r1 H1 s1 hr1 => ?_⟩
        rw [cut_to, ← List.map_take] at hr1
        have hT1 := seqT s1 hT
        refine ⟨_, rfl, t, _, rfl, .inr hT1, ?_⟩
        rw [List.length_map]
        refine ⟨_, rfl, _, _, rfl, rfl, _, rfl, by omega, by omega, fun D nD => lc_range (lo := 0) (fun j H' => H' = upd H1 D (.lst (((List.range j).map (fun (k : Nat) => x + 1 + (k : Int))).map V.int))) rfl ?_ ?_⟩
        · rintro j H' hj rfl
          have sD := same_upd (o := .lst (((List.range j).map (fun (k : Nat) => x + 1 + (k : Int))).map V.int)) nD
          rw [show (0 : Int) + (j : Int) = (j : Int) by omega]
          refine ⟨rfl, lcT ?_⟩
          refine ⟨_, rfl, _, rfl, t, _, _, .int x, rfl, rfl, seqT sD hT1, atI_nat gx, _, _, rfl, rfl, _, rfl, _, _, rfl, rfl, _, upd_same, ?_, ?_⟩
          · rw [List.length_map, List.length_map, List.length_range]
            exact small1000 (by omega)
          · rw [upd_upd, range_map_succ, List.map_append]
            rfl
        · rintro H' rfl
          rw [show ((l.length : Int) - (a : Int)).toNat = i + 1 by omega, ← run_map]
          have sD := same_upd (o := .lst ((run (x + 1) (i + 1)).map V.int)) nD
          refine ⟨D, _, rfl, .inl ⟨SqL.of upd_same, fun u nu => ?_⟩⟩
          have su := same_upd (o := .tup ((run (x + 1) (i + 1)).map V.int)) nu
          refine cat_any (seqT (sD.trans su) hr1) (SqT.of upd_same) ?_ fun w H3 s3 hw _ => ?_
          · rw [List.length_map, List.length_map, run_len, List.length_take]
            exact Nat.le_of_lt (small1000 (by omega))
          rw [← List.map_append] at hw
          refine q1 w H3 _ (s1.trans (sD.trans (su.trans s3))) hw n1 ?_ n2
          rw [List.length_append, run_len, List.length_take]
          omega
      · have ge : ¬ x < (n : Int) - (l.length : Int) + (a : Int) := fun z => e (decide_eq_true z)
        have rr := r
        rw [el] at rr
        obtain ⟨h0, hs⟩ := ris_suf rr
        have lx : x < (n : Int) - i := by
          cases i with
          | zero =>
            have := hs.2.1
            omega
          | succ i =>
            have := hs.2.2.1
            omega
        refine ⟨_, _, rfl, rfl, ?_⟩
        have e1 : l.drop (l.length - (i + 1)) = x :: l.drop (a + 1) := by
          rw [show l.length - (i + 1) = a by omega, List.drop_eq_getElem_cons hal]
          congr 1
          rw [List.getElem?_eq_getElem hal] at hx
          exact Option.some.inj hx
        rw [e1, dr]
        show _ = ((n : Int) - ((i + 1 : Nat) : Int)) :: run ((n : Int) - ((i + 1 : Nat) : Int) + 1) i
        rw [show (n : Int) - ((i + 1 : Nat) : Int) + 1 = (n : Int) - i by omega, show x = (n : Int) - ((i + 1 : Nat) : Int) by omega]
    · rintro σ H' ⟨v2, v3, rfl, rfl, dr⟩
      rw [show ((l.length : Int) - 1 - -1).toNat = l.length by omega, Nat.sub_self, List.drop_zero] at dr
      refine q2 _ (same_refl _) ?_
      have z := last_num (k := l.length) hn (by omega)
      rw [← dr] at z
      exact z

def kg_number_of (_ : List Value) : List Value → List Value
  | [a0, a1] => [a1, a0]
  | _ => []
def kv_number_of (_ : List V) : List V → List V
  | [a0, a1] => [a1, a0]
  | _ => []
theorem kb_number_of {K : PySem.W.Frag} {f : Addr} {fd : FuncData} (F : Fun K "number_of" "number_of" s_number_of f fd) : KBinds K fd ["hands", "lot"] ["lot", "hands"] (fun us ws => match us with | [] => kg_number_of us ws | _ => []) (fun us ws => match us with | [] => kv_number_of us ws | _ => []) := by
  obtain ⟨oc, od, kV, doc, pm, an, cdv, ct, osl, rfl, lk, hcd⟩ := F.ex
  refine ⟨fun s us ws _ hl => ?_, fun r z => ?_⟩
  · match us, ws, hl with
    | [], [a0, a1], _ => exact .of_eq rfl
  · cases r with
    | cons _ _ => exact .nil
    | nil =>
      cases z with
      | nil => exact .nil
      | cons r0 z =>
        cases z with
        | nil => exact .nil
        | cons r1 z =>
          cases z with
          | nil => exact (.cons r1 (.cons r0 .nil))
          | cons _ _ => exact .nil

def kg_lot_at (_ : List Value) : List Value → List Value
  | [a0, a1, a2] => [a2, a1, a0]
  | _ => []
def kv_lot_at (_ : List V) : List V → List V
  | [a0, a1, a2] => [a2, a1, a0]
  | _ => []
theorem kb_lot_at {K : PySem.W.Frag} {f : Addr} {fd : FuncData} (F : Fun K "lot_at" "lot_at" s_lot_at f fd) : KBinds K fd ["hands", "size", "number"] ["number", "size", "hands"] (fun us ws => match us with | [] => kg_lot_at us ws | _ => []) (fun us ws => match us with | [] => kv_lot_at us ws | _ => []) := by
  obtain ⟨oc, od, kV, doc, pm, an, cdv, ct, osl, rfl, lk, hcd⟩ := F.ex
  refine ⟨fun s us ws _ hl => ?_, fun r z => ?_⟩
  · match us, ws, hl with
    | [], [a0, a1, a2], _ => exact .of_eq rfl
  · cases r with
    | cons _ _ => exact .nil
    | nil =>
      cases z with
      | nil => exact .nil
      | cons r0 z =>
        cases z with
        | nil => exact .nil
        | cons r1 z =>
          cases z with
          | nil => exact .nil
          | cons r2 z =>
            cases z with
            | nil => exact (.cons r2 (.cons r1 (.cons r0 .nil)))
            | cons _ _ => exact .nil

/-! ### a lot and its number, both ways, and the next one -/
def spLotRight (K : PySem.W.Frag) : Sp := fun vs H Q _ => ∃ (p t : Addr) (n : Nat) (l : List Int), vs = [.ref p, .int n, .ref t] ∧ RowsOk H p ∧ SqT K H t (l.map V.int) ∧ n ≤ 60 ∧ Ris n 0 l ∧ ∀ H', Same H H' → Q (.bl true) H'
theorem ok_lot_right {f : Addr} {fd : FuncData} (F : Fun K "_law_lot_right" "_law_lot_right" s__law_lot_right f fd) (T : Txt K mg) : FnOk P w K mg base CX0 4 f fd ["_law_rows_here", "_law_many", "_law_row"] (spLotRight K) := by
  obtain ⟨A0, B0, C, F_NotSo, F_Gone, E_NoNumber, sub1, sub2, sub3⟩ := T.errs
  obtain ⟨fA, fdA, D_lot_at⟩ := T.d_lot_at
  have G_lot_at : FnOk P w K mg base (L2.CX P w) 3 fA fdA _ _ := ok_lot_at D_lot_at.F T E_NoNumber
  obtain ⟨fN, fdN, D_number_of⟩ := T.d_number_of
  have G_number_of : FnOk P w K mg base CX0 2 fN fdN _ _ := ok_number_of D_number_of.F T
  obtain ⟨fH, fdH, D_ahead⟩ := T.d_ahead
  have G_ahead : FnOk P w K mg base CX0 1 fH fdH _ _ := ok_ahead D_ahead.F T
  obtain ⟨fX, fdX, D_next⟩ := T.d_next
  have G_next : FnOk P w K mg base CX0 1 fX fdX _ _ := ok_next D_next.F T
  refine F.ok sc__law_lot_right (fun vs H Q E h => ?_) (fun cdv A outer s H vs Q E hr h => ?_)
  · obtain ⟨p, t, n, l, rfl, _⟩ := h
    rfl
  · obtain ⟨p, t, n, l, rfl, hR, hT, hn, r, q⟩ := h
    have ll := r.len (by omega)
    have lm : ((l.map V.int).length : Int) = (l.length : Int) := by rw [List.length_map]
    refine ⟨_, (pss_cons (ps_par (by rfl) sc__law_lot_right.nd (i := 3) (j := 4) rfl rfl (by decide) rfl rfl (pa_cons (pe_call G_ahead (hr.mono (by decide)) (by rfl) D_ahead.g D_ahead.F.kp D_ahead.b .nil pass0 (pa_cons (pv 0) (pa_cons (pv 1) (pa_cons (pv 2) pa_nil)))) (pa_cons (pe_call G_next (hr.mono (by decide)) (by rfl) D_next.g D_next.F.kp D_next.b .nil pass0 (pa_cons (pv 1) (pa_cons (pv 2) pa_nil))) pa_nil)) (by rfl))
 (pss_cons (ps_if (PW.pt (pw_or (pt_cmpR op_ne (pe_call G_number_of (hr.mono (by decide)) (by rfl) D_number_of.g D_number_of.F.kp D_number_of.b .nil pass0 (pa_cons (pv 1) (pa_cons (pv 2) pa_nil))) (pv 3) (nomark _)) (pw_or1 (pt_cmpR op_ne (pe_callK0 G_number_of (hr.mono (by decide)) (by rfl) D_number_of.g D_number_of.F.kp (kb_number_of D_number_of.F) pass0 (pk_cons (pv 2) (pk_cons (pv 1) pk_nil))) (pv 3) (nomark _)))))
 (pss_one (ps_ret pe_bl))
 pss_nil)
 (pss_cons (ps_if (PW.pt (pw_or (pt_cmpR (k_neD K hr.units) (pe_call G_lot_at (hr.mono (by decide)) (by rfl) D_lot_at.g D_lot_at.F.kp D_lot_at.b .nil passL (pa_cons (pv 1) (pa_cons (pe_callB (k_len K) (by rfl) T.z_len (by decide +kernel) (pa_cons (pv 2) pa_nil)) (pa_cons (pv 3) pa_nil)))) (pv 2) (nomark _)) (pw_or1 (pt_cmpR (k_neD K hr.units) (pe_callK0 G_lot_at (hr.mono (by decide)) (by rfl) D_lot_at.g D_lot_at.F.kp (kb_lot_at D_lot_at.F) passL (pk_cons (pv 3) (pk_cons (pe_callB (k_len K) (by rfl) T.z_len (by decide +kernel) (pa_cons (pv 2) pa_nil)) (pk_cons (pv 1) pk_nil)))) (pv 2) (nomark _)))))
 (pss_one (ps_ret pe_bl))
 pss_nil)
 (pss_cons (ps_if (pt_cmpR op_isN (pv 4) pe_non (nomark _))
 (pss_one (ps_ret (pe_cmpR op_eq (pv 3) (pe_op op_sub (pe_ix (k_ixL K) (pe_ix (k_ixL K) (pv 0) (pv 1) (fun _ _ => rfl)) (pe_callB (k_len K) (by rfl) T.z_len (by decide +kernel) (pa_cons (pv 2) pa_nil)) (fun _ _ => rfl)) pe_int) (nomark _))))
 pss_nil)
 (pss_one (ps_ret (pe_and (pe_cmpR op_eq (pe_call G_number_of (hr.mono (by decide)) (by rfl) D_number_of.g D_number_of.F.kp D_number_of.b .nil pass0 (pa_cons (pv 1) (pa_cons (pv 4) pa_nil))) (pe_op op_add (pv 3) pe_int) (nomark _)) (pe_one (pe_cmpR (k_eqD K hr.units) (pe_call G_lot_at (hr.mono (by decide)) (by rfl) D_lot_at.g D_lot_at.F.kp D_lot_at.b .nil passL (pa_cons (pv 1) (pa_cons (pe_callB (k_len K) (by rfl) T.z_len (by decide +kernel) (pa_cons (pv 2) pa_nil)) (pa_cons (pe_op op_add (pv 3) pe_int) pa_nil)))) (pv 4) (nomark _)))))))))), ?_⟩
    refine ⟨_, rfl, _, rfl, _, rfl, p, t, n, l, rfl, hR, hT, hn, r, fun H1 s1 => ⟨_, rfl, _, rfl, t, n, l, rfl, seqT s1 hT, hn, r, fun pl H2 l' s2 hl' r' len' num' => ⟨_, _, rfl, ?_⟩, fun H2 s2 last => ⟨_, _, rfl, ?_⟩⟩⟩
    · -- there is a next one
      have S2 := s1.trans s2
      have T2 := seqT S2 hT
      refine ⟨_, rfl, _, rfl, n, t, l, rfl, T2, hn, r, fun H3 s3 => ⟨_, rfl, rfl, _, rfl, ?_⟩⟩
      rw [decide_eq_true rfl]
      refine iteF ?_
      refine ⟨_, rfl, _, rfl, n, t, l, rfl, seqT s3 T2, hn, r, fun H4 s4 => ⟨_, rfl, rfl, _, rfl, ?_⟩⟩
      rw [decide_eq_true rfl]
      refine iteF ?_
      have T4 := seqT (s3.trans s4) T2
      refine ⟨_, rfl, _, rfl, t, _, rfl, .inr T4, _, rfl, n, _, _, rfl, hn, kd_int _, .inl ⟨l, r, lm, rfl, fun p5 H5 s5 n5 h5 => ⟨_, rfl, .tuple (intsD l), .tuple (intsD l), .tup (SqT.of h5) (dp_ints _), .tup (seqT s5 T4) (dp_ints _), intsT_shaped _, intsT_shaped _, _, rfl, ?_⟩⟩⟩
      rw [eqvT_ints, decide_eq_true rfl]
      refine iteF ?_
      have T5 := seqT s5 T4
      refine ⟨_, rfl, _, rfl, t, _, rfl, .inr T5, _, rfl, n, _, _, rfl, hn, kd_int _, .inl ⟨l, r, lm, rfl, fun p6 H6 s6 n6 h6 => ⟨_, rfl, .tuple (intsD l), .tuple (intsD l), .tup (SqT.of h6) (dp_ints _), .tup (seqT s6 T5) (dp_ints _), intsT_shaped _, intsT_shaped _, _, rfl, ?_⟩⟩⟩
      rw [eqvT_ints, decide_eq_true rfl]
      refine iteF ?_
      have T6 := seqT s6 T5
      have s26 := s3.trans (s4.trans (s5.trans s6))
      have S6 := S2.trans s26
      refine ⟨_, rfl, rfl, _, rfl, ?_⟩
      rw [decide_eq_false (by intro z; cases z)]
      refine iteF ?_
      have L6 := seqT s26 hl'
      refine ⟨_, rfl, _, rfl, n, pl, l', rfl, L6, hn, r', fun H7 s7 => ⟨_, rfl, _, _, rfl, rfl, rfl, _, rfl, ?_⟩⟩
      rw [num', decide_eq_true rfl]
      refine iteT ?_
      have T7 := seqT s7 T6
      refine ⟨_, rfl, _, rfl, t, _, rfl, .inr T7, _, rfl, _, _, rfl, rfl, n, _, _, rfl, hn, kd_int _, .inl ⟨l', r', by rw [lm, len'], by rw [num'], fun p8 H8 s8 n8 h8 => ⟨_, rfl, .tuple (intsD l'), .tuple (intsD l'), .tup (SqT.of h8) (dp_ints _), .tup (seqT (s7.trans s8) L6) (dp_ints _), intsT_shaped _, intsT_shaped _, ?_⟩⟩⟩
      rw [eqvT_ints, decide_eq_true rfl]
      exact q _ (S6.trans (s7.trans s8))
    · -- it is the last one
      have S2 := s1.trans s2
      have T2 := seqT S2 hT
      refine ⟨_, rfl, _, rfl, n, t, l, rfl, T2, hn, r, fun H3 s3 => ⟨_, rfl, rfl, _, rfl, ?_⟩⟩
      rw [decide_eq_true rfl]
      refine iteF ?_
      refine ⟨_, rfl, _, rfl, n, t, l, rfl, seqT s3 T2, hn, r, fun H4 s4 => ⟨_, rfl, rfl, _, rfl, ?_⟩⟩
      rw [decide_eq_true rfl]
      refine iteF ?_
      have T4 := seqT (s3.trans s4) T2
      refine ⟨_, rfl, _, rfl, t, _, rfl, .inr T4, _, rfl, n, _, _, rfl, hn, kd_int _, .inl ⟨l, r, lm, rfl, fun p5 H5 s5 n5 h5 => ⟨_, rfl, .tuple (intsD l), .tuple (intsD l), .tup (SqT.of h5) (dp_ints _), .tup (seqT s5 T4) (dp_ints _), intsT_shaped _, intsT_shaped _, _, rfl, ?_⟩⟩⟩
      rw [eqvT_ints, decide_eq_true rfl]
      refine iteF ?_
      have T5 := seqT s5 T4
      refine ⟨_, rfl, _, rfl, t, _, rfl, .inr T5, _, rfl, n, _, _, rfl, hn, kd_int _, .inl ⟨l, r, lm, rfl, fun p6 H6 s6 n6 h6 => ⟨_, rfl, .tuple (intsD l), .tuple (intsD l), .tup (SqT.of h6) (dp_ints _), .tup (seqT s6 T5) (dp_ints _), intsT_shaped _, intsT_shaped _, _, rfl, ?_⟩⟩⟩
      rw [eqvT_ints, decide_eq_true rfl]
      refine iteF ?_
      have T6 := seqT s6 T5
      have s26 := s3.trans (s4.trans (s5.trans s6))
      have S6 := S2.trans s26
      refine ⟨_, rfl, rfl, _, rfl, ?_⟩
      rw [decide_eq_true rfl]
      refine iteT ?_
      obtain ⟨xs, q0, g1, g2, g3⟩ := (hR.same S6).at (m := n) hn
      have g4 := p4_at (m := n) (k := l.length) (by omega)
      refine ⟨_, rfl, _, rfl, _, rfl, p, _, _, _, rfl, rfl, SqL.of g1, atI_nat g2, _, rfl, t, _, rfl, .inr T6, q0, _, _, .int (chs (n : Int) (l.length : Int)), rfl, rfl, SqL.of g3, ?_, _, _, rfl, rfl, rfl, ?_⟩
      · rw [lm]
        exact atI_nat g4
      have z := q _ S6
      rw [← (decide_eq_true (congrArg V.int last) : decide (V.int (num n l) = V.int (chs (n : Int) (l.length : Int) - 1)) = true)] at z
      exact z

/-! ### what is no number is refused -/
def spRefused (K : PySem.W.Frag) : Sp := fun vs H Q _ => ∃ (n : Nat) (k : Int) (v : V) (dt : PyData), vs = [.int n, .int k, v] ∧ n ≤ 60 ∧ Kd K H v ∧ belowV (chs n k) v = false ∧ Shows K H v dt ∧ ∀ H', Same H H' → Q (.bl true) H'
theorem ok_refused {f : Addr} {fd : FuncData} (F : Fun K "_law_refused" "_law_refused" s__law_refused f fd) (T : Txt K mg) : FnG P w K mg base CX0 4 f fd ["_law_many", "_law_wide", "_law_odd"] (spRefused K) := by
  obtain ⟨A0, B0, C, F_NotSo, F_Gone, E_NoNumber, sub1, sub2, sub3⟩ := T.errs
  obtain ⟨fA, fdA, D_lot_at⟩ := T.d_lot_at
  have G_lot_at : FnOk P w K mg base (L2.CX P w) 3 fA fdA _ _ := ok_lot_at D_lot_at.F T E_NoNumber
  refine FnG.by0 F sc__law_refused (fun vs H Q E h => ?_) (fun cdv A outer s H vs Q E hr gd h => ?_)
  · obtain ⟨n, k, v, dt, rfl, _⟩ := h
    rfl
  · obtain ⟨n, k, v, dt, rfl, hn, kd, hb, sh, q⟩ := h
    have hu := room70 hr
    refine ⟨_, (pss_cons (ps_set (i := 3) sc__law_refused.nd rfl (by first | exact Or.inl rfl | exact Or.inr rfl) pe_non)
 (pss_cons (ps_tryKeep (i := 4) (j := 3) K rfl rfl rfl rfl sc__law_refused.nd rfl rfl rfl rfl ⟨rfl, by decide, .inl F_NotSo.g⟩ ⟨rfl, by decide, .inl F_Gone.g⟩ (fun W pn xe tk _ => (pss_one (ps_expr (pe_callS G_lot_at (hr.mono (by decide)) (by rfl) D_lot_at.g D_lot_at.F.kp D_lot_at.b (fun σ => passAt tk σ) (pa_cons (pv 0) (pa_cons (pv 1) (pa_cons (pv 2) pa_nil))))))))
 (pss_one (ps_ret (pe_and (pe_callB (k_isX K) (by rfl) T.z_isinstance (by decide +kernel) (pa_cons (pv 3) (pa_cons (pe_glob rfl E_NoNumber.g (v := .ref C) rfl) pa_nil))) (pe_and (pe_callB (k_isX K) (by rfl) T.z_isinstance (by decide +kernel) (pa_cons (pv 3) (pa_cons (pe_bltn (v := .ty "LookupError") (by rfl) T.z_LookupError (by decide +kernel) rfl) pa_nil))) (pe_one (pe_cmpR op_eq (pe_callB (k_repr K gd hu) (by rfl) T.z_repr (by decide +kernel) (pa_cons (pe_xv K (pv 3)) pa_nil)) (pe_callB (k_repr K gd hu) (by rfl) T.z_repr (by decide +kernel) (pa_cons (pv 2) pa_nil)) (nomark _))))))))), ?_⟩
    refine ⟨_, rfl, _, rfl, _, rfl, n, k, v, rfl, hn, kd, .inr ⟨hb, fun d nd => ⟨exm_two F_NotSo F_Gone sub1 sub2, fun a na => ?_⟩⟩⟩
    have s1 := same_upd (o := .xd [("thing", v)]) nd
    have s2 := same_upd (o := exv a (.ref C) (some d)) na
    have S := s1.trans s2
    have hx := upd_same (H := upd H d (.xd [("thing", v)])) (a := a) (o := exv a (.ref C) (some d))
    have hd := s2 _ _ (upd_same (H := H) (a := d) (o := .xd [("thing", v)]))
    generalize upd (upd H d (.xd [("thing", v)])) a (exv a (.ref C) (some d)) = H1 at S hx hd
    have sh1 := sh.stays S
    refine ⟨_, rfl, a, C, some d, .ref C, .ref C, true, rfl, hx, E_NoNumber.V, fun dd e => by cases e; exact ⟨_, hd⟩, fun u r => r, kit_self, _, rfl, ?_⟩
    refine iteT ?_
    refine ⟨_, rfl, a, C, some d, .ty "LookupError", .type "LookupError", true, rfl, hx, E_NoNumber.V, fun dd e => by cases e; exact ⟨_, hd⟩, fun u r => r, kit_base sub3 (by decide +kernel), _, rfl, ?_⟩
    refine iteT ?_
    refine ⟨_, rfl, a, C, d, _, v, rfl, hx, E_NoNumber.V, E_NoNumber.no, hd, rfl, v, dt, rfl, sh1, _, rfl, v, dt, rfl, sh1, rfl, ?_⟩
    have z := q _ S
    have e : decide (V.str dt.shown = V.str dt.shown) = true := decide_eq_true rfl
    rw [← e] at z
    exact z

/-! ### one pot's turn -/
/-- the rows, apart from the pot -/
def RowsBy (a : Addr) (H : Hp) (p : Addr) : Prop := p ≠ a ∧ ∃ rs : List Addr, H p = some (.lst (rs.map V.ref)) ∧ rs.length = 61 ∧ ∀ i q, rs[i]? = some q → q ≠ a ∧ H q = some (.lst ((p4 i).map V.int))
theorem RowsBy.ok {a p : Addr} {H : Hp} (h : RowsBy a H p) : RowsOk H p := by
  obtain ⟨_, rs, h1, h2, h3⟩ := h
  exact ⟨rs, h1, h2, fun i q hq => (h3 i q hq).2⟩
theorem RowsBy.sameB {a p : Addr} {H H' : Hp} (h : RowsBy a H p) (e : SameB a H H') : RowsBy a H' p := by
  obtain ⟨h0, rs, h1, h2, h3⟩ := h
  exact ⟨h0, rs, e _ _ h0 h1, h2, fun i q hq => ⟨(h3 i q hq).1, e _ _ (h3 i q hq).1 (h3 i q hq).2⟩⟩
theorem RowsAt.by {a p : Addr} {H H' : Hp} {b : Nat} (h : RowsAt H H' p 61) (hP : PotAt H a b) : RowsBy a H' p := by
  obtain ⟨h0, rs, h1, h2, h3⟩ := h
  exact ⟨fun e => hP.ne h0 e.symm, rs, h1, h2, fun i q hq => ⟨fun e => hP.ne (h3 i q hq).2.1 e.symm, (h3 i q hq).2.2⟩⟩
/-- lots at these places, apart from the pot -/
def LotsBy (n k : Nat) (a : Addr) (H : Hp) (ts : List (Addr × List Int)) : Prop := ∀ x ∈ ts, x.1 ≠ a ∧ H x.1 = some (.tup (x.2.map V.int)) ∧ Ris n 0 x.2 ∧ x.2.length = k
theorem LotsBy.same {n k : Nat} {a : Addr} {H H' : Hp} {ts : List (Addr × List Int)} (h : LotsBy n k a H ts) (e : Same H H') : LotsBy n k a H' ts := fun x hx => by
  obtain ⟨h1, h2, h3⟩ := h x hx
  exact ⟨h1, e _ _ h2, h3⟩
theorem rgV_run (h : Int) (k : Nat) : rgV h (h + k) = (run h k).map V.int := by
  rw [run_map]
  unfold rgV
  rw [List.map_map, show (h + (k : Int) - h).toNat = k by omega]
  rfl
theorem freeB {a b : Addr} {H H' : Hp} (e : SameB a H H') (n : b ≠ a) (h : H' b = none) : H b = none := by
  cases q : H b with
  | none => rfl
  | some o =>
    rw [e b o n q] at h
    cases h
/-- no number there -/
structure Odd (K : PySem.W.Frag) (tot : Int) (H : Hp) (v : V) : Prop where
  kd : Kd K H v
  no : belowV tot v = false
  sh : ∃ d, Shows K H v d
def spRight : Sp := fun vs H Q _ => ∃ (a : Addr), vs = [.ref a] ∧ PotAt H a 0 ∧ ∀ H', SameB a H H' → Q (.bl true) H'
theorem ok_right {f : Addr} {fd : FuncData} (F : Fun K "_law_right" "_law_right" s__law_right f fd) (T : Txt K mg) : FnG P w K mg base CX0 5 f fd ["_law_pot_here"] spRight := by
  obtain ⟨A0, B0, C, F_NotSo, F_Gone, E_NoNumber, sub1, sub2, sub3⟩ := T.errs
  obtain ⟨fA, fdA, D_lot_at⟩ := T.d_lot_at
  have G_lot_at : FnOk P w K mg base (L2.CX P w) 3 fA fdA _ _ := ok_lot_at D_lot_at.F T E_NoNumber
  obtain ⟨fN, fdN, D_number_of⟩ := T.d_number_of
  have G_number_of : FnOk P w K mg base CX0 2 fN fdN _ _ := ok_number_of D_number_of.F T
  obtain ⟨fC, fdC, D_choose⟩ := T.d_choose
  have G_choose : FnOk P w K mg base CX0 1 fC fdC _ _ := ok_choose D_choose.F T
  obtain ⟨fT, fdT, D_take⟩ := T.d_take
  have G_take : FnOk P w K mg base CX0 1 fT fdT _ _ := ok_take D_take.F T
  obtain ⟨fP, fdP, D_pick⟩ := T.d_pick
  have G_pick : FnOk P w K mg base CX0 2 fP fdP _ _ := ok_pick D_pick.F T
  obtain ⟨fS, fdS, D_some_lot⟩ := T.d_some_lot
  have G_some_lot : FnOk P w K mg base CX0 2 fS fdS _ _ := ok_some_lot D_some_lot.F T
  obtain ⟨fR, fdR, D_rows⟩ := T.d_rows
  have G_rows : FnOk P w K mg base CX0 1 fR fdR _ _ := ok_rows D_rows.F T
  obtain ⟨fL, fdL, D_lot_right⟩ := T.d_lot_right
  have G_lot_right : FnOk P w K mg base CX0 4 fL fdL _ _ := ok_lot_right D_lot_right.F T
  obtain ⟨fD, fdD, D_refused⟩ := T.d_refused
  have G_refused : FnG P w K mg base CX0 4 fD fdD _ _ := ok_refused D_refused.F T
  refine FnG.by0 F sc__law_right (fun vs H Q E h => ?_) (fun cdv A outer s H vs Q E hr gd h => ?_)
  · obtain ⟨a, rfl, _⟩ := h
    rfl
  · obtain ⟨a, rfl, hP, q⟩ := h
    refine ⟨_, (pss_cons (ps_set (i := 1) sc__law_right.nd rfl (by first | exact Or.inl rfl | exact Or.inr rfl) (pe_call0 G_rows (hr.mono (by decide)) (by rfl) D_rows.g D_rows.F.kp D_rows.b .nil pass0))
 (pss_cons (ps_for PassesOwn.never rfl (pi_range1 (by rfl) T.z_range (pa_cons pe_int pa_nil)) (pg_name (i := 2) sc__law_right.nd rfl (by first | exact Or.inl rfl | exact Or.inr rfl))
 (pss_cons (ps_set (i := 3) sc__law_right.nd rfl (by first | exact Or.inl rfl | exact Or.inr rfl) (pe_op op_add pe_int (pe_call G_pick (hr.mono (by decide)) (by rfl) D_pick.g D_pick.F.kp D_pick.b .nil pass0 (pa_cons (pv 0) (pa_cons (pe_lst (pa_cons pe_int (pa_cons (pe_call G_take (hr.mono (by decide)) (by rfl) D_take.g D_take.F.kp D_take.b .nil pass0 (pa_cons (pv 0) (pa_cons pe_int pa_nil))) (pa_cons (pe_call G_take (hr.mono (by decide)) (by rfl) D_take.g D_take.F.kp D_take.b .nil pass0 (pa_cons (pv 0) (pa_cons pe_int pa_nil))) pa_nil)))) pa_nil)))))
 (pss_cons (ps_set (i := 4) sc__law_right.nd rfl (by first | exact Or.inl rfl | exact Or.inr rfl) (pe_call G_pick (hr.mono (by decide)) (by rfl) D_pick.g D_pick.F.kp D_pick.b .nil pass0 (pa_cons (pv 0) (pa_cons (pe_lst (pa_cons (pe_call G_take (hr.mono (by decide)) (by rfl) D_take.g D_take.F.kp D_take.b .nil pass0 (pa_cons (pv 0) (pa_cons (pe_op op_add (pv 3) pe_int) pa_nil))) (pa_cons (pe_op op_fdivW (pv 3) pe_int) (pa_cons pe_int (pa_cons pe_int (pa_cons (pv 3) pa_nil)))))) pa_nil))))
 (pss_cons (ps_set (i := 5) sc__law_right.nd rfl (by first | exact Or.inl rfl | exact Or.inr rfl) (pe_ix (k_ixL K) (pe_ix (k_ixL K) (pv 1) (pv 3) (fun _ _ => rfl)) (pv 4) (fun _ _ => rfl)))
 (pss_cons (ps_if (pt_cmpR op_ne (pe_call G_choose (hr.mono (by decide)) (by rfl) D_choose.g D_choose.F.kp D_choose.b .nil pass0 (pa_cons (pv 3) (pa_cons (pv 4) pa_nil))) (pv 5) (nomark _))
 (pss_one (ps_ret pe_bl))
 pss_nil)
 (pss_cons (ps_set (i := 6) sc__law_right.nd rfl (by first | exact Or.inl rfl | exact Or.inr rfl) (pe_call G_take (hr.mono (by decide)) (by rfl) D_take.g D_take.F.kp D_take.b .nil pass0 (pa_cons (pv 0) (pa_cons (pv 5) pa_nil))))
 (pss_cons (ps_set (i := 7) sc__law_right.nd rfl (by first | exact Or.inl rfl | exact Or.inr rfl) (pe_lst (pa_cons (pe_call G_some_lot (hr.mono (by decide)) (by rfl) D_some_lot.g D_some_lot.F.kp D_some_lot.b .nil pass0 (pa_cons (pv 0) (pa_cons (pv 3) (pa_cons (pv 4) pa_nil)))) (pa_cons (pe_tupRg rfl (by rfl) T.z_tuple (prg_1 (by rfl) T.z_range (pv 4))) (pa_cons (pe_tupRg rfl (by rfl) T.z_tuple (prg_2 (by rfl) T.z_range (pe_op op_sub (pv 3) (pv 4)) (pv 3))) pa_nil)))))
 (pss_cons (ps_expr (pe_bm PySem.F.plainAttrs_list PySem.F.slot_list_append PySem.F.type_list_append mt_append (pv 7) (pa_cons (pe_call G_lot_at (hr.mono (by decide)) (by rfl) D_lot_at.g D_lot_at.F.kp D_lot_at.b .nil passL (pa_cons (pv 3) (pa_cons (pv 4) (pa_cons (pv 6) pa_nil)))) pa_nil)))
 (pss_cons (ps_if (PW.pt (pw_or (pt_cmpR op_ne (pe_call G_number_of (hr.mono (by decide)) (by rfl) D_number_of.g D_number_of.F.kp D_number_of.b .nil pass0 (pa_cons (pv 3) (pa_cons (pe_ix (k_ixL K) (pv 7) (pe_un un_neg pe_int) (fun _ _ => rfl)) pa_nil))) (pv 6) (nomark _)) (pw_or1 (pt_not (pt_val (pe_callB (k_all K rfl) (by rfl) T.z_all (by decide +kernel) (pa_cons (pe_lc (own := [("_law_row", 8)]) (g := gName 8) (tt := tYes) rfl sc__law_right.nd (k_piL K (pv 7)) (blkOk_by (own := [("_law_row", 8)]) (N := ["_law_pot_here", "_law_rows_here", "_law_turn", "_law_many", "_law_wide", "_law_total", "_law_place", "_law_some", "_law_row", "_law_odd"]) (sc := (defScope s__law_right)) (by decide +kernel)) (fun _ _ _ _ _ => pg_name (i := 8) sc__law_right.nd rfl (by first | exact Or.inl rfl | exact Or.inr rfl)) (fun _ _ _ _ _ => pts_nil) (fun _ _ _ _ _ => (pe_call G_lot_right (hr.mono (by decide)) (by rfl) D_lot_right.g D_lot_right.F.kp D_lot_right.b .nil pass0 (pa_cons (pv 1) (pa_cons (pv 3) (pa_cons (pv 8) pa_nil)))))) pa_nil)))))))
 (pss_one (ps_ret pe_bl))
 pss_nil)
 (pss_cons (ps_set (i := 9) sc__law_right.nd rfl (by first | exact Or.inl rfl | exact Or.inr rfl) (pe_call G_pick (hr.mono (by decide)) (by rfl) D_pick.g D_pick.F.kp D_pick.b .nil pass0 (pa_cons (pv 0) (pa_cons (pe_lst (pa_cons (pv 5) (pa_cons (pe_op op_add (pv 5) pe_int) (pa_cons (pe_un un_neg pe_int) (pa_cons pe_non (pa_cons pe_bl (pa_cons pe_str (pa_cons (pe_tup (pa_cons pe_int pa_nil)) (pa_cons (pe_lst (pa_cons pe_int pa_nil)) (pa_cons pe_dnewK (pa_cons (pe_op op_pow pe_int pe_int) (pa_cons pe_bl pa_nil)))))))))))) pa_nil))))
 (pss_one (ps_if (pt_not (pt_val (pg_call G_refused (hr.mono (by decide)) gd (by rfl) D_refused.g D_refused.F.kp D_refused.b pass0 (pa_cons (pv 3) (pa_cons (pv 4) (pa_cons (pv 9) pa_nil))))))
 (pss_one (ps_ret pe_bl))
 pss_nil))))))))))))
 (pss_one (ps_ret pe_bl)))), ?_⟩
    refine ⟨rfl, fun pr H1 s1 hR0 => ?_⟩
    have hR := hR0.by hP
    have P1 := hP.same s1
    have S1 : SameB a H H1 := sameb s1
    clear hR0
    refine ⟨_, rfl, by decide, by decide, for_range (lo := 0) (fun i σ H' => ∃ v2 v3 v4 v5 v6 v7 v8 v9, σ = [some (.ref a), some (.ref pr), v2, v3, v4, v5, v6, v7, v8, v9] ∧ SameB a H H' ∧ PotAt H' a (100 * i) ∧ RowsBy a H' pr)
      ⟨none, none, none, none, none, none, none, none, rfl, S1, P1, hR⟩ ?_ ?_⟩
    · clear P1 S1 hR s1
      rintro i σ H1 hi ⟨v2, v3, v4, v5, v6, v7, v8, v9, rfl, Sm, P1, hR⟩
      have hi10 : i < 10 := hi
      -- many
      refine ⟨_, rfl, _, rfl, a, 60, _, rfl, P1, by decide, by decide, by omega, fun x H2 x0 x1 P2 S2 => ⟨_, rfl, a, 60, _, rfl, P2, by decide, by decide, by omega, fun y H3 y0 y1 P3 S3 => ⟨by show 3 ≤ sizeLine; decide, fun L nL => ?_⟩⟩⟩
      have sL := same_upd (o := .lst [.int 59, .int x, .int y]) nL
      refine ⟨a, L, _, _, rfl, P3.same sL, SqL.of upd_same, fun e => (P3.ne nL) e.symm, by simp, by show 3 ≤ 1000; decide, by omega, fun v H4 hv P4 S4 => ?_⟩
      obtain ⟨m, rfl, m0, m1⟩ : ∃ m : Int, v = .int m ∧ 0 ≤ m ∧ m < 60 := by
        rcases List.mem_cons.mp hv with rfl | hv
        · exact ⟨59, rfl, by decide, by decide⟩
        rcases List.mem_cons.mp hv with rfl | hv
        · exact ⟨x, rfl, x0, x1⟩
        rcases List.mem_cons.mp hv with rfl | hv
        · exact ⟨y, rfl, y0, y1⟩
        · cases hv
      have S4a := S2.trans (S3.trans ((sameb sL).trans S4))
      have Sm4 := Sm.trans S4a
      have hR4 := hR.sameB S4a
      refine ⟨_, _, rfl, rfl, ?_⟩
      obtain ⟨n, hn⟩ : ∃ n : Nat, 1 + m = (n : Int) := ⟨(1 + m).toNat, by omega⟩
      have hn1 : 1 ≤ n := by omega
      have hn60 : n ≤ 60 := by omega
      show gName 3 (V.int (1 + m)) _ _ _
      rw [hn]
      clear hv S4a S4 S3 S2 P2 P3 sL nL x0 x1 y0 y1 m0 m1 hn Sm P1 hR
      -- wide
      refine ⟨_, rfl, _, rfl, _, rfl, _, _, rfl, rfl, a, (n : Int) + 1, _, rfl, P4, by omega, by omega, by omega, fun x H5 x0 x1 P5 S5 => ?_⟩
      refine ⟨_, rfl, _, _, rfl, rfl, wide_div (b := 64) (by decide) (by decide) (by decide) (by decide), _, rfl, by show 5 ≤ sizeLine; decide, fun L nL => ?_⟩
      have sL := same_upd (o := .lst [.int x, .int ((n : Int) / 2), .int 0, .int 1, .int n]) nL
      refine ⟨a, L, _, _, rfl, P5.same sL, SqL.of upd_same, fun e => (P5.ne nL) e.symm, by simp, by show 5 ≤ 1000; decide, by omega, fun v H6 hv P6 S6 => ?_⟩
      obtain ⟨k, rfl, hk⟩ : ∃ k : Nat, v = .int k ∧ k ≤ n := by
        rcases List.mem_cons.mp hv with rfl | hv
        · exact ⟨x.toNat, by rw [Int.toNat_of_nonneg x0], by omega⟩
        rcases List.mem_cons.mp hv with rfl | hv
        · exact ⟨((n : Int) / 2).toNat, by rw [Int.toNat_of_nonneg (by omega)], by omega⟩
        rcases List.mem_cons.mp hv with rfl | hv
        · exact ⟨0, rfl, by omega⟩
        rcases List.mem_cons.mp hv with rfl | hv
        · exact ⟨1, rfl, by omega⟩
        rcases List.mem_cons.mp hv with rfl | hv
        · exact ⟨n, rfl, by omega⟩
        · cases hv
      have S6a := S5.trans ((sameb sL).trans S6)
      have Sm6 := Sm4.trans S6a
      have hR6 := hR4.sameB S6a
      clear hv S6a S6 S5 P5 sL nL x0 x1 P4 Sm4 hR4
      -- total
      obtain ⟨xs, q0, g1, g2, g3⟩ := hR6.ok.at (m := n) hn60
      have g4 := p4_at (m := n) (k := k) (by omega)
      obtain ⟨tp, tb⟩ := chs_pos hn60 hk
      refine ⟨_, rfl, _, rfl, pr, _, _, _, rfl, rfl, SqL.of g1, atI_nat g2, _, rfl, q0, _, _, _, rfl, rfl, SqL.of g3, atI_nat g4, ?_⟩
      refine ⟨_, rfl, _, rfl, _, _, rfl, by omega, _, rfl, rfl, _, rfl, ?_⟩
      rw [decide_eq_true rfl]
      refine iteF ?_
      generalize htot : chs (n : Int) (k : Int) = tot at tp tb
      -- place
      refine ⟨_, rfl, _, rfl, a, tot, _, rfl, P6, tp, by omega, by omega, fun pl H7 pl0 pl1 P7 S7 => ?_⟩
      obtain ⟨lp, rp, lenp, nump⟩ := num_surj (n := n) (k := k) hn60 pl0 (by rw [htot]; exact pl1)
      -- some
      refine ⟨_, rfl, _, rfl, _, rfl, a, n, k, _, rfl, P7, hk, hn60, by omega, fun t0 H8 l0 P8 S8 n0 h0 r0 len0 => ?_⟩
      have e1 : rgV 0 (k : Int) = (run 0 k).map V.int := by
        have z := rgV_run 0 k
        rw [Int.zero_add] at z
        exact z
      have e2 : rgV ((n : Int) - k) (n : Int) = (run ((n : Int) - k) k).map V.int := by
        have z := rgV_run ((n : Int) - k) k
        rw [show (n : Int) - k + k = (n : Int) by omega] at z
        exact z
      refine ⟨_, rfl, _, rfl, RgOk.of_le (by omega) (by omega) (by omega) (by omega), fun t1 n1 => ?_⟩
      rw [e1]
      have s1 := same_upd (o := .tup ((run 0 k).map V.int)) n1
      refine ⟨_, rfl, _, rfl, _, _, rfl, rfl, _, rfl, _, _, rfl, rfl, RgOk.of_le (by omega) (by omega) (by omega) (by omega), fun t2 n2 => ?_⟩
      rw [e2]
      have s2 := same_upd (o := .tup ((run ((n : Int) - k) k).map V.int)) n2
      refine ⟨by show 3 ≤ sizeLine; decide, fun M nM => ?_⟩
      have s3 := same_upd (o := .lst [.ref t0, .ref t1, .ref t2]) nM
      have P8a := P8.same (s1.trans (s2.trans s3))
      have aM : M ≠ a := fun e => ((P8.same (s1.trans s2)).ne nM) e.symm
      have k0 := (s1.trans (s2.trans s3)) _ _ h0
      have k1 := (s2.trans s3) _ _ (upd_same (H := H8) (a := t1) (o := .tup ((run 0 k).map V.int)))
      have k2 := s3 _ _ (upd_same (H := upd H8 t1 (.tup ((run 0 k).map V.int))) (a := t2) (o := .tup ((run ((n : Int) - k) k).map V.int)))
      have kM := upd_same (H := upd (upd H8 t1 (.tup ((run 0 k).map V.int))) t2 (.tup ((run ((n : Int) - k) k).map V.int))) (a := M) (o := .lst [.ref t0, .ref t1, .ref t2])
      have hR8 := hR6.sameB (S7.trans (S8.trans (sameb (s1.trans (s2.trans s3)))))
      have Sm8 := Sm6.trans (S7.trans (S8.trans (sameb (s1.trans (s2.trans s3)))))
      have nM0 : H M = none := freeB (Sm6.trans (S7.trans S8)) aM ((s1.trans s2).free nM)
      generalize upd (upd (upd H8 t1 (.tup ((run 0 k).map V.int))) t2 (.tup ((run ((n : Int) - k) k).map V.int))) M (.lst [.ref t0, .ref t1, .ref t2]) = H9 at P8a k0 k1 k2 kM hR8 Sm8
      clear s1 s2 s3 n1 n2 nM P8 S8 h0 hR6 Sm6 S7 P7 P6 g1 g2 g3 g4 n0 e1 e2
      -- lot_at
      refine ⟨_, rfl, .inl ⟨rfl, _, SqL.of kM⟩, _, rfl, _, rfl, _, rfl, n, k, .int pl, rfl, hn60, kd_int _, .inl ⟨lp, rp, by rw [lenp], by rw [nump], fun t3 H10 s10 n10 h10 => ?_⟩⟩
      have t3M : t3 ≠ M := fun e => by
        rw [e, kM] at n10
        cases n10
      refine ⟨M, _, _, rfl, rfl, s10 _ _ kM, by show 3 < sizeLine; decide, ?_⟩
      have lst : ∀ {t : Addr} {xs : List V} {H' : Hp}, H' t = some (.tup xs) → H' M = some (.lst [.ref t0, .ref t1, .ref t2]) → upd H' M (.lst ([.ref t0, .ref t1, .ref t2] ++ [.ref t3])) t = some (.tup xs) := fun {t xs H'} h1 h2 => by
        rw [upd_ne (ne_of h1 h2 (by intro z; cases z))]
        exact h1
      have M10 := s10 _ _ kM
      have sM : SameB M H10 (upd H10 M (.lst ([.ref t0, .ref t1, .ref t2] ++ [.ref t3]))) := SameB.upd
      have k0 := lst (s10 _ _ k0) M10
      have k1 := lst (s10 _ _ k1) M10
      have k2 := lst (s10 _ _ k2) M10
      have k3 := lst h10 M10
      have kM := upd_same (H := H10) (a := M) (o := .lst ([.ref t0, .ref t1, .ref t2] ++ [.ref t3]))
      have P10 : PotAt (upd H10 M (.lst ([.ref t0, .ref t1, .ref t2] ++ [.ref t3]))) a (100 * i + 7 + k) := ((P8a.same s10).sameB sM (Ne.symm aM)).mono (by omega) (by omega)
      have hR10 : RowsBy a (upd H10 M (.lst ([.ref t0, .ref t1, .ref t2] ++ [.ref t3]))) pr := by
        obtain ⟨r1, rs, r2, r3, r4⟩ := hR8.sameB (sameb s10)
        have ok2 : ∀ x, H10 x = some (.lst [.ref t0, .ref t1, .ref t2]) → rs.length = 3 ∨ x ≠ pr := fun x hx => by
          by_cases e : x = pr
          · left
            rw [e, r2] at hx
            have z := congrArg List.length (HO.lst.inj (Option.some.inj hx))
            rw [List.length_map] at z
            exact z
          · exact .inr e
        have Mp : pr ≠ M := by
          rcases ok2 M M10 with z | z
          · omega
          · exact Ne.symm z
        refine ⟨r1, rs, (upd_ne Mp).trans r2, r3, fun j u hu => ?_⟩
        obtain ⟨q1, q2⟩ := r4 j u hu
        refine ⟨q1, ?_⟩
        have uM : u ≠ M := fun e => by
          rw [e, M10] at q2
          have z := congrArg List.length (HO.lst.inj (Option.some.inj q2))
          rw [List.length_map, p4_len] at z
          cases z
        rw [upd_ne uM]
        exact q2
      have Sm10 : SameB a H (upd H10 M (.lst ([.ref t0, .ref t1, .ref t2] ++ [.ref t3]))) := by
        intro b o ne e
        rw [upd_ne (ne_of_none e nM0)]
        exact s10 _ _ (Sm8 b o ne e)
      generalize upd H10 M (.lst ([.ref t0, .ref t1, .ref t2] ++ [.ref t3])) = H11 at k0 k1 k2 k3 kM P10 hR10 Sm10
      clear s10 n10 h10 hR8 Sm8 P8a M10 lst
      -- number_of
      refine ⟨_, rfl, _, rfl, 1, rfl, M, _, -1, .ref t3, rfl, rfl, SqL.of kM, atI_neg1 rfl, n, t3, lp, rfl, SqT.of k3, hn60, rp, fun H12 s12 => ⟨_, rfl, rfl, _, rfl, ?_⟩⟩
      rw [nump, decide_eq_true rfl]
      refine iteF ?_
      -- each of the four
      refine ⟨_, rfl, M, rfl, ⟨_, SqL.of (s12 _ _ kM)⟩, fun D nD => lc_list (K := K) (a := M) (xs := [.ref t0, .ref t1, .ref t2] ++ [.ref t3]) (fun j H' => Same H12 H' ∧ H' D = some (.lst ((List.replicate j true).map V.bl))) ⟨same_upd nD, upd_same⟩ ?_ ?_ ?_⟩
      · rintro j H' _ ⟨s', _⟩
        exact SqL.of (s' _ _ (s12 _ _ kM))
      · rintro j x H' hx ⟨s', hD⟩
        have hj : j < 4 := (List.getElem?_eq_some_iff.mp hx).1
        obtain ⟨t, lt, rfl, ht, rt⟩ : ∃ t lt, x = .ref t ∧ H11 t = some (.tup (lt.map V.int)) ∧ Ris n 0 lt := by
          match j, hj, hx with
          | 0, _, hx => exact ⟨t0, l0, (Option.some.inj hx).symm, k0, r0⟩
          | 1, _, hx => exact ⟨t1, run 0 k, (Option.some.inj hx).symm, k1, run_ris k 0 n (by omega)⟩
          | 2, _, hx => exact ⟨t2, run ((n : Int) - k) k, (Option.some.inj hx).symm, k2, (run_ris k ((n : Int) - k) n (by omega)).le (by omega)⟩
          | 3, _, hx => exact ⟨t3, lp, (Option.some.inj hx).symm, k3, rp⟩
        have S' := s12.trans s'
        refine ⟨rfl, lcT ?_⟩
        refine ⟨_, rfl, _, rfl, _, rfl, pr, t, n, lt, rfl, hR10.ok.same S', SqT.of (S' _ _ ht), hn60, rt, fun H13 s13 => ?_⟩
        refine ⟨_, s13 _ _ hD, ?_, fun y o e => ?_, ?_⟩
        · rw [List.length_map, List.length_replicate]
          exact small1000 (by omega)
        · rw [upd_ne (ne_of_none e nD)]
          exact s13 _ _ (s' _ _ e)
        · rw [upd_same, List.replicate_succ', List.map_append]
          rfl
      · rintro H13 ⟨s13, hD⟩
        refine ⟨D, _, rfl, SqL.of hD, _, rfl, ?_⟩
        have e4 : ∀ m, ((List.replicate m true).all id) = true := fun m => by simp
        rw [e4]
        refine iteF ?_
        have S13 := s12.trans s13
        have P13 := P10.same S13
        have hR13 := hR10.sameB (sameb S13)
        have Sm13 := Sm10.trans (sameb S13)
        clear k0 k1 k2 k3 kM P10 hR10 Sm10 s12 s13 S13 hD nD
        -- what is no number
        refine ⟨_, rfl, _, rfl, _, rfl, _, _, rfl, rfl, 1, rfl, by show 1 ≤ sizeLine; decide, fun u nu => ⟨by show 1 ≤ sizeLine; decide, fun w nw => fun z nz => ?_⟩⟩
        refine ⟨_, _, rfl, rfl, ⟨by decide, by decide, by decide⟩, by show 11 ≤ sizeLine; decide, fun L nL => ?_⟩
        have s1 := same_upd (o := .tup [.int 0]) nu
        have s2 := same_upd (o := .lst [.int 0]) nw
        have s3 := same_upd (o := .dK []) nz
        have s4 := same_upd (o := .lst [.int tot, .int (tot + 1), .int (-1), .non, .bl true, .str "0", .ref u, .ref w, .ref z, .int (10 ^ (30 : Int).toNat), .bl false]) nL
        have S4 := s1.trans (s2.trans (s3.trans s4))
        have P17 := P13.same S4
        have ku := (s2.trans (s3.trans s4)) _ _ (upd_same (H := H13) (a := u) (o := .tup [.int 0]))
        have kw := (s3.trans s4) _ _ (upd_same (H := upd H13 u (.tup [.int 0])) (a := w) (o := .lst [.int 0]))
        have kz := s4 _ _ (upd_same (H := upd (upd H13 u (.tup [.int 0])) w (.lst [.int 0])) (a := z) (o := .dK []))
        have ua : u ≠ a := fun e => (P13.ne nu) e.symm
        have wa : w ≠ a := fun e => ((P13.same s1).ne nw) e.symm
        have za : z ≠ a := fun e => ((P13.same (s1.trans s2)).ne nz) e.symm
        have La : L ≠ a := fun e => ((P13.same (s1.trans (s2.trans s3))).ne nL) e.symm
        have kL := upd_same (H := upd (upd (upd H13 u (.tup [.int 0])) w (.lst [.int 0])) z (.dK [])) (a := L) (o := .lst [.int tot, .int (tot + 1), .int (-1), .non, .bl true, .str "0", .ref u, .ref w, .ref z, .int (10 ^ (30 : Int).toNat), .bl false])
        have hR17 := hR13.sameB (sameb S4)
        have Sm17 := Sm13.trans (sameb S4)
        generalize upd (upd (upd (upd H13 u (.tup [.int 0])) w (.lst [.int 0])) z (.dK [])) L (.lst [.int tot, .int (tot + 1), .int (-1), .non, .bl true, .str "0", .ref u, .ref w, .ref z, .int (10 ^ (30 : Int).toNat), .bl false]) = H17 at P17 ku kw kz kL hR17 Sm17
        refine ⟨a, L, _, _, rfl, P17, SqL.of kL, La, by simp, by show 11 ≤ 1000; decide, by omega, fun v H18 hv P18 S18 => ?_⟩
        have hR18 := hR17.sameB S18
        have Sm18 := Sm17.trans S18
        have nb : ∀ i : Int, (¬ 0 ≤ i ∨ ¬ i < tot) → belowV tot (.int i) = false := fun i h => by
          show (decide (0 ≤ i) && decide (i < tot)) = false
          rcases h with h | h
          · rw [decide_eq_false h]
            rfl
          · rw [decide_eq_false h, Bool.and_false]
        have big : tot < 10 ^ 30 := by
          have : (2 : Int) ^ 60 < 10 ^ 30 := by decide
          omega
        have od : Odd K tot H18 v := by
          refine (all_cons (Pr := Odd K tot H18) ⟨kd_int _, nb _ (.inr (by omega)), shows_itm (itm_int ?_)⟩ (all_cons ⟨kd_int _, nb _ (.inr (by omega)), shows_itm (itm_int ?_)⟩ (all_cons ⟨kd_int _, nb _ (.inl (by decide)), shows_itm (itm_int (by decide))⟩
            (all_cons ⟨kd_non, rfl, shows_itm itm_non⟩ (all_cons ⟨kd_bl _, rfl, shows_itm (itm_bl _)⟩ (all_cons ⟨kd_str _, rfl, shows_itm (itm_str (by decide +kernel) (by decide +kernel))⟩
            (all_cons ⟨kd_tup (S18 _ _ ua ku), rfl, shows_row (SqT.of (S18 _ _ ua ku)) (all_cons (itm_int (by decide)) all_nil) (by decide)⟩ (all_cons ⟨kd_lst (S18 _ _ wa kw), rfl, shows_rowL (SqL.of (S18 _ _ wa kw)) (all_cons (itm_int (by decide)) all_nil) (by decide)⟩
            (all_cons ⟨kd_dK (S18 _ _ za kz), rfl, .dict [], .inr ⟨z, rfl, S18 _ _ za kz, rfl⟩⟩ (all_cons ⟨kd_int _, nb _ (.inr ?_), shows_itm (itm_int (by decide +kernel))⟩ (all_cons ⟨kd_bl _, rfl, shows_itm (itm_bl _)⟩ all_nil))))))))))) v hv
          · omega
          · omega
          · show ¬ (10 : Int) ^ 30 < tot
            omega
        obtain ⟨dt, sh⟩ := od.sh
        refine ⟨_, rfl, _, rfl, _, rfl, n, k, v, dt, rfl, hn60, od.kd, by rw [htot]; exact od.no, sh, fun H19 s19 => ⟨_, rfl, ?_⟩⟩
        refine iteF ?_
        exact ⟨_, _, _, _, _, _, _, _, rfl, Sm18.trans (sameb s19), (P18.same s19).mono (by omega) (by omega), hR18.sameB (sameb s19)⟩
    · rintro σ H1 ⟨v2, v3, v4, v5, v6, v7, v8, v9, rfl, Sm, P1, hR⟩
      exact q _ Sm

/-! ### the law -/
def spLaw (K : PySem.W.Frag) : Sp := fun vs H Q _ => ∃ (a : Addr) (ns : List Int), vs = [.ref a] ∧ SqL K H a (ns.map V.int) ∧ ns.length ≤ 63 ∧ ∀ H', Q (.bl true) H'
theorem ok_law {f : Addr} {fd : FuncData} (F : Fun K "law" "law" s_law f fd) (T : Txt K mg) : FnG P w K mg base CX0 6 f fd ["_law_script"] (spLaw K) := by
  obtain ⟨fP, fdP, D_pot⟩ := T.d_pot
  have G_pot : FnOk P w K mg base CX0 1 fP fdP _ _ := ok_pot D_pot.F T
  obtain ⟨fR, fdR, D_right⟩ := T.d_right
  have G_right : FnG P w K mg base CX0 5 fR fdR _ _ := ok_right D_right.F T
  refine FnG.by0 F sc_law (fun vs H Q E h => ?_) (fun cdv A outer s H vs Q E hr gd h => ?_)
  · obtain ⟨a, ns, rfl, _⟩ := h
    rfl
  · obtain ⟨a, ns, rfl, hS, hlen, q⟩ := h
    refine ⟨_, (pss_one (ps_ret (pe_callB (k_all K rfl) (by rfl) T.z_all (by decide +kernel) (pa_cons (pe_lc (own := [("_law_k", 1)]) (g := gName 1) (tt := tYes) rfl sc_law.nd (pi_range1 (by rfl) T.z_range (pa_cons (pe_callB (call_max2 rfl) (by rfl) T.z_max (by decide +kernel) (pa_cons pe_int (pa_cons (pe_callB (call_min2 rfl) (by rfl) T.z_min (by decide +kernel) (pa_cons (pe_callB (k_len K) (by rfl) T.z_len (by decide +kernel) (pa_cons (pv 0) pa_nil)) (pa_cons pe_int pa_nil))) pa_nil))) pa_nil)) (blkOk_by (own := [("_law_k", 1)]) (N := ["_law_script", "_law_k"]) (sc := (defScope s_law)) (by decide +kernel)) (fun _ _ _ _ _ => pg_name (i := 1) sc_law.nd rfl (by first | exact Or.inl rfl | exact Or.inr rfl)) (fun _ _ _ _ _ => pts_nil) (fun _ _ _ _ _ => (pg_call G_right (hr.mono (by decide)) gd (by rfl) D_right.g D_right.F.kp D_right.b pass0 (pa_cons (pe_call G_pot (hr.mono (by decide)) (by rfl) D_pot.g D_pot.F.kp D_pot.b .nil pass0 (pa_cons (pv 0) (pa_cons (pv 1) pa_nil))) pa_nil)))) pa_nil)))), ?_⟩
    refine ⟨_, rfl, a, _, rfl, .inl hS, _, _, rfl, _, _, rfl, _, rfl, ?_, ?_, fun D nD => lc_range (lo := 0) (fun i H' => Same H H' ∧ H' D = some (.lst ((List.replicate i true).map V.bl))) ⟨same_upd nD, upd_same⟩ ?_ ?_⟩
    · repeat' split
      all_goals omega
    · repeat' split
      all_goals omega
    · rintro i H' hi ⟨sm, hD⟩
      have hi3 : i < 4 := by
        revert hi
        repeat' split
        all_goals omega
      refine ⟨rfl, lcT ?_⟩
      refine ⟨_, rfl, _, rfl, a, _, ns, rfl, sm.seq hS, by omega, by omega, fun p H2 np s2 P2 => ?_⟩
      refine ⟨p, rfl, P2, fun H3 s3 => ?_⟩
      have Dp' : D ≠ p := ne_of_none hD np
      have hD3 := s3 _ _ Dp' (s2 _ _ hD)
      refine ⟨_, hD3, ?_, fun x o e => ?_, ?_⟩
      · rw [List.length_map, List.length_replicate]
        exact small1000 (by omega)
      · rw [upd_ne (ne_of_none e nD)]
        exact s3 _ _ (ne_of_none (sm _ _ e) np) (s2 _ _ (sm _ _ e))
      · rw [upd_same, List.replicate_succ', List.map_append]
        rfl
    · rintro H' ⟨sm, hD⟩
      refine ⟨D, _, rfl, SqL.of hD, ?_⟩
      have e : ∀ n, ((List.replicate n true).all id) = true := fun n => by simp
      rw [e]
      exact q _

end
theorem all_mk {l : PySem.W.OpenLaw} {w : World} {K : PySem.W.Frag} {h : Heap} {mg : Str → Option Value} {fa f0 f1 f2 f3 f4 f5 f6 f7 f8 f9 f10 f11 f12 f13 f14 f15 : Addr} (X : K.In h) (G : h.Ns mainGlobals mg) (hfa : mg "law" = some (.ref fa))
    {od0 an0 : Option Addr} {sl0 : Array (Option Value)} {oc0 kV0 dc0 pm0 cd0 ct0 : Value}
    (a0 : PySem.W.nsIn K mainGlobals "is_whole" = some (some (.ref f0))) (l0 : K.lookup f0 = some ⟨oc0, od0, .func (PySem.W.fnOf "is_whole" "is_whole" (defArgs s_is_whole) (defBody s_is_whole) (defScope s_is_whole) .none kV0 dc0 pm0 an0 cd0 ct0), sl0⟩) (c0 : PySem.W.codeIn K cd0 "is_whole" = true) (k0 : PySem.W.keepIn K (.ref f0) = true)
    {od1 an1 : Option Addr} {sl1 : Array (Option Value)} {oc1 kV1 dc1 pm1 cd1 ct1 : Value}
    (a1 : PySem.W.nsIn K mainGlobals "is_below" = some (some (.ref f1))) (l1 : K.lookup f1 = some ⟨oc1, od1, .func (PySem.W.fnOf "is_below" "is_below" (defArgs s_is_below) (defBody s_is_below) (defScope s_is_below) .none kV1 dc1 pm1 an1 cd1 ct1), sl1⟩) (c1 : PySem.W.codeIn K cd1 "is_below" = true) (k1 : PySem.W.keepIn K (.ref f1) = true)
    {od2 an2 : Option Addr} {sl2 : Array (Option Value)} {oc2 kV2 dc2 pm2 cd2 ct2 : Value}
    (a2 : PySem.W.nsIn K mainGlobals "choose" = some (some (.ref f2))) (l2 : K.lookup f2 = some ⟨oc2, od2, .func (PySem.W.fnOf "choose" "choose" (defArgs s_choose) (defBody s_choose) (defScope s_choose) .none kV2 dc2 pm2 an2 cd2 ct2), sl2⟩) (c2 : PySem.W.codeIn K cd2 "choose" = true) (k2 : PySem.W.keepIn K (.ref f2) = true)
    {od3 an3 : Option Addr} {sl3 : Array (Option Value)} {oc3 kV3 dc3 pm3 cd3 ct3 : Value}
    (a3 : PySem.W.nsIn K mainGlobals "lot_at" = some (some (.ref f3))) (l3 : K.lookup f3 = some ⟨oc3, od3, .func (PySem.W.fnOf "lot_at" "lot_at" (defArgs s_lot_at) (defBody s_lot_at) (defScope s_lot_at) .none kV3 dc3 pm3 an3 cd3 ct3), sl3⟩) (c3 : PySem.W.codeIn K cd3 "lot_at" = true) (k3 : PySem.W.keepIn K (.ref f3) = true)
    {od4 an4 : Option Addr} {sl4 : Array (Option Value)} {oc4 kV4 dc4 pm4 cd4 ct4 : Value}
    (a4 : PySem.W.nsIn K mainGlobals "number_of" = some (some (.ref f4))) (l4 : K.lookup f4 = some ⟨oc4, od4, .func (PySem.W.fnOf "number_of" "number_of" (defArgs s_number_of) (defBody s_number_of) (defScope s_number_of) .none kV4 dc4 pm4 an4 cd4 ct4), sl4⟩) (c4 : PySem.W.codeIn K cd4 "number_of" = true) (k4 : PySem.W.keepIn K (.ref f4) = true)
    {od5 an5 : Option Addr} {sl5 : Array (Option Value)} {oc5 kV5 dc5 pm5 cd5 ct5 : Value}
    (a5 : PySem.W.nsIn K mainGlobals "_law_pot" = some (some (.ref f5))) (l5 : K.lookup f5 = some ⟨oc5, od5, .func (PySem.W.fnOf "_law_pot" "_law_pot" (defArgs s__law_pot) (defBody s__law_pot) (defScope s__law_pot) .none kV5 dc5 pm5 an5 cd5 ct5), sl5⟩) (c5 : PySem.W.codeIn K cd5 "_law_pot" = true) (k5 : PySem.W.keepIn K (.ref f5) = true)
    {od6 an6 : Option Addr} {sl6 : Array (Option Value)} {oc6 kV6 dc6 pm6 cd6 ct6 : Value}
    (a6 : PySem.W.nsIn K mainGlobals "_law_take" = some (some (.ref f6))) (l6 : K.lookup f6 = some ⟨oc6, od6, .func (PySem.W.fnOf "_law_take" "_law_take" (defArgs s__law_take) (defBody s__law_take) (defScope s__law_take) .none kV6 dc6 pm6 an6 cd6 ct6), sl6⟩) (c6 : PySem.W.codeIn K cd6 "_law_take" = true) (k6 : PySem.W.keepIn K (.ref f6) = true)
    {od7 an7 : Option Addr} {sl7 : Array (Option Value)} {oc7 kV7 dc7 pm7 cd7 ct7 : Value}
    (a7 : PySem.W.nsIn K mainGlobals "_law_pick" = some (some (.ref f7))) (l7 : K.lookup f7 = some ⟨oc7, od7, .func (PySem.W.fnOf "_law_pick" "_law_pick" (defArgs s__law_pick) (defBody s__law_pick) (defScope s__law_pick) .none kV7 dc7 pm7 an7 cd7 ct7), sl7⟩) (c7 : PySem.W.codeIn K cd7 "_law_pick" = true) (k7 : PySem.W.keepIn K (.ref f7) = true)
    {od8 an8 : Option Addr} {sl8 : Array (Option Value)} {oc8 kV8 dc8 pm8 cd8 ct8 : Value}
    (a8 : PySem.W.nsIn K mainGlobals "_law_some_lot" = some (some (.ref f8))) (l8 : K.lookup f8 = some ⟨oc8, od8, .func (PySem.W.fnOf "_law_some_lot" "_law_some_lot" (defArgs s__law_some_lot) (defBody s__law_some_lot) (defScope s__law_some_lot) .none kV8 dc8 pm8 an8 cd8 ct8), sl8⟩) (c8 : PySem.W.codeIn K cd8 "_law_some_lot" = true) (k8 : PySem.W.keepIn K (.ref f8) = true)
    {od9 an9 : Option Addr} {sl9 : Array (Option Value)} {oc9 kV9 dc9 pm9 cd9 ct9 : Value}
    (a9 : PySem.W.nsIn K mainGlobals "_law_rows" = some (some (.ref f9))) (l9 : K.lookup f9 = some ⟨oc9, od9, .func (PySem.W.fnOf "_law_rows" "_law_rows" (defArgs s__law_rows) (defBody s__law_rows) (defScope s__law_rows) .none kV9 dc9 pm9 an9 cd9 ct9), sl9⟩) (c9 : PySem.W.codeIn K cd9 "_law_rows" = true) (k9 : PySem.W.keepIn K (.ref f9) = true)
    {od10 an10 : Option Addr} {sl10 : Array (Option Value)} {oc10 kV10 dc10 pm10 cd10 ct10 : Value}
    (a10 : PySem.W.nsIn K mainGlobals "_law_ahead" = some (some (.ref f10))) (l10 : K.lookup f10 = some ⟨oc10, od10, .func (PySem.W.fnOf "_law_ahead" "_law_ahead" (defArgs s__law_ahead) (defBody s__law_ahead) (defScope s__law_ahead) .none kV10 dc10 pm10 an10 cd10 ct10), sl10⟩) (c10 : PySem.W.codeIn K cd10 "_law_ahead" = true) (k10 : PySem.W.keepIn K (.ref f10) = true)
    {od11 an11 : Option Addr} {sl11 : Array (Option Value)} {oc11 kV11 dc11 pm11 cd11 ct11 : Value}
    (a11 : PySem.W.nsIn K mainGlobals "_law_next" = some (some (.ref f11))) (l11 : K.lookup f11 = some ⟨oc11, od11, .func (PySem.W.fnOf "_law_next" "_law_next" (defArgs s__law_next) (defBody s__law_next) (defScope s__law_next) .none kV11 dc11 pm11 an11 cd11 ct11), sl11⟩) (c11 : PySem.W.codeIn K cd11 "_law_next" = true) (k11 : PySem.W.keepIn K (.ref f11) = true)
    {od12 an12 : Option Addr} {sl12 : Array (Option Value)} {oc12 kV12 dc12 pm12 cd12 ct12 : Value}
    (a12 : PySem.W.nsIn K mainGlobals "_law_refused" = some (some (.ref f12))) (l12 : K.lookup f12 = some ⟨oc12, od12, .func (PySem.W.fnOf "_law_refused" "_law_refused" (defArgs s__law_refused) (defBody s__law_refused) (defScope s__law_refused) .none kV12 dc12 pm12 an12 cd12 ct12), sl12⟩) (c12 : PySem.W.codeIn K cd12 "_law_refused" = true) (k12 : PySem.W.keepIn K (.ref f12) = true)
    {od13 an13 : Option Addr} {sl13 : Array (Option Value)} {oc13 kV13 dc13 pm13 cd13 ct13 : Value}
    (a13 : PySem.W.nsIn K mainGlobals "_law_lot_right" = some (some (.ref f13))) (l13 : K.lookup f13 = some ⟨oc13, od13, .func (PySem.W.fnOf "_law_lot_right" "_law_lot_right" (defArgs s__law_lot_right) (defBody s__law_lot_right) (defScope s__law_lot_right) .none kV13 dc13 pm13 an13 cd13 ct13), sl13⟩) (c13 : PySem.W.codeIn K cd13 "_law_lot_right" = true) (k13 : PySem.W.keepIn K (.ref f13) = true)
    {od14 an14 : Option Addr} {sl14 : Array (Option Value)} {oc14 kV14 dc14 pm14 cd14 ct14 : Value}
    (a14 : PySem.W.nsIn K mainGlobals "_law_right" = some (some (.ref f14))) (l14 : K.lookup f14 = some ⟨oc14, od14, .func (PySem.W.fnOf "_law_right" "_law_right" (defArgs s__law_right) (defBody s__law_right) (defScope s__law_right) .none kV14 dc14 pm14 an14 cd14 ct14), sl14⟩) (c14 : PySem.W.codeIn K cd14 "_law_right" = true) (k14 : PySem.W.keepIn K (.ref f14) = true)
    {od15 an15 : Option Addr} {sl15 : Array (Option Value)} {oc15 kV15 dc15 pm15 cd15 ct15 : Value}
    (a15 : PySem.W.nsIn K mainGlobals "law" = some (some (.ref f15))) (l15 : K.lookup f15 = some ⟨oc15, od15, .func (PySem.W.fnOf "law" "law" (defArgs s_law) (defBody s_law) (defScope s_law) .none kV15 dc15 pm15 an15 cd15 ct15), sl15⟩) (c15 : PySem.W.codeIn K cd15 "law" = true) (k15 : PySem.W.keepIn K (.ref f15) = true)
    {C_NotSo : Addr} (fa_NotSo : PySem.W.nsIn K mainGlobals "NotSo" = some (some (.ref C_NotSo))) (fb_NotSo : PySem.W.subIn K (.ref C_NotSo) (.type "BaseException") = some true) (fc_NotSo : PySem.W.hasDictIn K C_NotSo = true) (fd_NotSo : PySem.W.typeIn K (.ref C_NotSo) = some (.type "type"))
    {C_Gone : Addr} (fa_Gone : PySem.W.nsIn K mainGlobals "Gone" = some (some (.ref C_Gone))) (fb_Gone : PySem.W.subIn K (.ref C_Gone) (.type "BaseException") = some true) (fc_Gone : PySem.W.hasDictIn K C_Gone = true) (fd_Gone : PySem.W.typeIn K (.ref C_Gone) = some (.type "type"))
    {C_NoNumber fI_NoNumber : Addr} {od_NoNumber an_NoNumber : Option Addr} {sl_NoNumber : Array (Option Value)} {oc_NoNumber kV_NoNumber dc_NoNumber pm_NoNumber cd_NoNumber ct_NoNumber : Value}
    (ea_NoNumber : PySem.W.nsIn K mainGlobals "NoNumber" = some (some (.ref C_NoNumber))) (eb_NoNumber : PySem.W.excInitIn K C_NoNumber [.type "LookupError", .type "Exception", .type "BaseException", .type "object"] "LookupError.__new__" = true) (ec_NoNumber : PySem.W.excOver K C_NoNumber [.type "LookupError", .type "Exception", .type "BaseException", .type "object"] = true)
    (ed_NoNumber : PySem.W.hasDictIn K C_NoNumber = true) (ee_NoNumber : PySem.W.findIn K (.ref C_NoNumber) "__setattr__" = some (some (.builtin "object.__setattr__"))) (ef_NoNumber : PySem.W.subIn K (.ref C_NoNumber) (.type "BaseException") = some true)
    (eg_NoNumber : PySem.W.typeIn K (.ref C_NoNumber) = some (.type "type")) (eh_NoNumber : PySem.W.keepIn K (.ref C_NoNumber) = true) (ei_NoNumber : PySem.W.findIn K (.ref C_NoNumber) "__getattribute__" = some (some (.builtin "BaseException.__getattribute__")))
    (ej_NoNumber : PySem.W.findIn K (.ref C_NoNumber) "__getattr__" = some none) (ek_NoNumber : PySem.W.findIn K (.ref C_NoNumber) "__class__" = some (some (.builtin "object.__class__")))
    (el_NoNumber : PySem.W.specialIn K (.builtin "object.__class__") "__get__" = some (some (.builtin "getset_descriptor.__get__"))) (em_NoNumber : PySem.W.takesIn K (.builtin "object.__class__") = some true) (en_NoNumber : PySem.W.mroIn K C_NoNumber (.type "object") = some true)
    (eo_NoNumber : PySem.W.findIn K (.ref C_NoNumber) "thing" = some none) (ep_NoNumber : PySem.W.takerIn K C_NoNumber "thing" = some none) (eq_NoNumber : PySem.W.findIn K (.ref C_NoNumber) "__init__" = some (some (.ref fI_NoNumber))) (er_NoNumber : PySem.W.typeIn K (.ref fI_NoNumber) = some (.type "function"))
    (es_NoNumber : K.lookup fI_NoNumber = some ⟨oc_NoNumber, od_NoNumber, .func (PySem.W.fnOf "__init__" "NoNumber.__init__" (defArgs s_NoNumber) (defBody s_NoNumber) (defScope s_NoNumber) .none kV_NoNumber dc_NoNumber pm_NoNumber an_NoNumber cd_NoNumber ct_NoNumber), sl_NoNumber⟩) (et_NoNumber : PySem.W.codeIn K cd_NoNumber "NoNumber.__init__" = true) (eu_NoNumber : PySem.W.keepIn K (.ref fI_NoNumber) = true)
    (ev_NoNumber_NotSo : PySem.W.subIn K (.ref C_NoNumber) (.ref C_NotSo) = some false)
    (ev_NoNumber_Gone : PySem.W.subIn K (.ref C_NoNumber) (.ref C_Gone) = some true)
    (ew_NoNumber_LookupError : PySem.W.subIn K (.ref C_NoNumber) (.type "LookupError") = some true)
    (z_LookupError : PySem.W.nsIn K mainGlobals "LookupError" = some none)
    (z_ValueError : PySem.W.nsIn K mainGlobals "ValueError" = some none)
    (z_abs : PySem.W.nsIn K mainGlobals "abs" = some none)
    (z_all : PySem.W.nsIn K mainGlobals "all" = some none)
    (z_bool : PySem.W.nsIn K mainGlobals "bool" = some none)
    (z_enumerate : PySem.W.nsIn K mainGlobals "enumerate" = some none)
    (z_int : PySem.W.nsIn K mainGlobals "int" = some none)
    (z_isinstance : PySem.W.nsIn K mainGlobals "isinstance" = some none)
    (z_len : PySem.W.nsIn K mainGlobals "len" = some none)
    (z_list : PySem.W.nsIn K mainGlobals "list" = some none)
    (z_max : PySem.W.nsIn K mainGlobals "max" = some none)
    (z_min : PySem.W.nsIn K mainGlobals "min" = some none)
    (z_range : PySem.W.nsIn K mainGlobals "range" = some none)
    (z_repr : PySem.W.nsIn K mainGlobals "repr" = some none)
    (z_sorted : PySem.W.nsIn K mainGlobals "sorted" = some none)
    (z_sum : PySem.W.nsIn K mainGlobals "sum" = some none)
    (z_tuple : PySem.W.nsIn K mainGlobals "tuple" = some none) :
    ∃ fd : FuncData, (∀ (s : Shared) (v : Value), BindsTo s fd ⟨[v], []⟩ [("_law_script", v)]) ∧ ∀ base : Heap, K.In base → base.Ns mainGlobals mg → FnG l.prog w K mg base CX0 6 fa fd ["_law_script"] (spLaw K) := by
  have e := hfa.symm.trans (PySem.W.mg_of X G a15)
  cases e
  have T : Txt K mg := ⟨⟨_, _, ⟨fun_mk (st := s_is_whole) l0 c0 k0, PySem.W.mg_of X G a0, (fun_mk (st := s_is_whole) l0 c0 k0).binds (ps := ["thing"]) fun _ _ _ _ _ _ us hl => match us, hl with | [_], _ => rfl⟩⟩, ⟨_, _, ⟨fun_mk (st := s_is_below) l1 c1 k1, PySem.W.mg_of X G a1, (fun_mk (st := s_is_below) l1 c1 k1).binds (ps := ["bound", "thing"]) fun _ _ _ _ _ _ us hl => match us, hl with | [_, _], _ => rfl⟩⟩, ⟨_, _, ⟨fun_mk (st := s_choose) l2 c2 k2, PySem.W.mg_of X G a2, (fun_mk (st := s_choose) l2 c2 k2).binds (ps := ["n", "k"]) fun _ _ _ _ _ _ us hl => match us, hl with | [_, _], _ => rfl⟩⟩, ⟨_, _, ⟨fun_mk (st := s_lot_at) l3 c3 k3, PySem.W.mg_of X G a3, (fun_mk (st := s_lot_at) l3 c3 k3).binds (ps := ["hands", "size", "number"]) fun _ _ _ _ _ _ us hl => match us, hl with | [_, _, _], _ => rfl⟩⟩, ⟨_, _, ⟨fun_mk (st := s_number_of) l4 c4 k4, PySem.W.mg_of X G a4, (fun_mk (st := s_number_of) l4 c4 k4).binds (ps := ["hands", "lot"]) fun _ _ _ _ _ _ us hl => match us, hl with | [_, _], _ => rfl⟩⟩, ⟨_, _, ⟨fun_mk (st := s__law_pot) l5 c5 k5, PySem.W.mg_of X G a5, (fun_mk (st := s__law_pot) l5 c5 k5).binds (ps := ["_law_script", "_law_k"]) fun _ _ _ _ _ _ us hl => match us, hl with | [_, _], _ => rfl⟩⟩, ⟨_, _, ⟨fun_mk (st := s__law_take) l6 c6 k6, PySem.W.mg_of X G a6, (fun_mk (st := s__law_take) l6 c6 k6).binds (ps := ["_law_pot_here", "_law_room"]) fun _ _ _ _ _ _ us hl => match us, hl with | [_, _], _ => rfl⟩⟩, ⟨_, _, ⟨fun_mk (st := s__law_pick) l7 c7 k7, PySem.W.mg_of X G a7, (fun_mk (st := s__law_pick) l7 c7 k7).binds (ps := ["_law_pot_here", "_law_some"]) fun _ _ _ _ _ _ us hl => match us, hl with | [_, _], _ => rfl⟩⟩, ⟨_, _, ⟨fun_mk (st := s__law_some_lot) l8 c8 k8, PySem.W.mg_of X G a8, (fun_mk (st := s__law_some_lot) l8 c8 k8).binds (ps := ["_law_pot_here", "_law_many", "_law_room"]) fun _ _ _ _ _ _ us hl => match us, hl with | [_, _, _], _ => rfl⟩⟩, ⟨_, _, ⟨fun_mk (st := s__law_rows) l9 c9 k9, PySem.W.mg_of X G a9, (fun_mk (st := s__law_rows) l9 c9 k9).binds (ps := []) fun _ _ _ _ _ _ us hl => match us, hl with | [], _ => rfl⟩⟩, ⟨_, _, ⟨fun_mk (st := s__law_ahead) l10 c10 k10, PySem.W.mg_of X G a10, (fun_mk (st := s__law_ahead) l10 c10 k10).binds (ps := ["_law_rows_here", "_law_many", "_law_row"]) fun _ _ _ _ _ _ us hl => match us, hl with | [_, _, _], _ => rfl⟩⟩, ⟨_, _, ⟨fun_mk (st := s__law_next) l11 c11 k11, PySem.W.mg_of X G a11, (fun_mk (st := s__law_next) l11 c11 k11).binds (ps := ["_law_many", "_law_row"]) fun _ _ _ _ _ _ us hl => match us, hl with | [_, _], _ => rfl⟩⟩, ⟨_, _, ⟨fun_mk (st := s__law_refused) l12 c12 k12, PySem.W.mg_of X G a12, (fun_mk (st := s__law_refused) l12 c12 k12).binds (ps := ["_law_many", "_law_wide", "_law_odd"]) fun _ _ _ _ _ _ us hl => match us, hl with | [_, _, _], _ => rfl⟩⟩, ⟨_, _, ⟨fun_mk (st := s__law_lot_right) l13 c13 k13, PySem.W.mg_of X G a13, (fun_mk (st := s__law_lot_right) l13 c13 k13).binds (ps := ["_law_rows_here", "_law_many", "_law_row"]) fun _ _ _ _ _ _ us hl => match us, hl with | [_, _, _], _ => rfl⟩⟩, ⟨_, _, ⟨fun_mk (st := s__law_right) l14 c14 k14, PySem.W.mg_of X G a14, (fun_mk (st := s__law_right) l14 c14 k14).binds (ps := ["_law_pot_here"]) fun _ _ _ _ _ _ us hl => match us, hl with | [_], _ => rfl⟩⟩, ⟨C_NotSo, C_Gone, C_NoNumber, ⟨PySem.W.mg_of X G fa_NotSo, fb_NotSo, fc_NotSo, fd_NotSo⟩, ⟨PySem.W.mg_of X G fa_Gone, fb_Gone, fc_Gone, fd_Gone⟩, ⟨PySem.W.mg_of X G ea_NoNumber, ⟨⟨"LookupError", "LookupError.__new__", "LookupError.__init__", [.type "LookupError", .type "Exception", .type "BaseException", .type "object"], PySem.F.excBase_LookupError, PySem.F.store_LookupError, eb_NoNumber, ec_NoNumber⟩, ed_NoNumber, ee_NoNumber, ef_NoNumber, eg_NoNumber, eh_NoNumber⟩, ⟨ei_NoNumber, ej_NoNumber, ef_NoNumber, ed_NoNumber, ek_NoNumber, el_NoNumber, em_NoNumber, en_NoNumber⟩, eo_NoNumber, ep_NoNumber, fI_NoNumber, _, (fun_mk (st := s_NoNumber) es_NoNumber et_NoNumber eu_NoNumber), eq_NoNumber, er_NoNumber, (fun_mk (st := s_NoNumber) es_NoNumber et_NoNumber eu_NoNumber).binds (ps := ["self", "thing"]) fun _ _ _ _ _ _ us hl => match us, hl with | [_, _], _ => rfl⟩, ev_NoNumber_NotSo, ev_NoNumber_Gone, ew_NoNumber_LookupError⟩, PySem.W.mg_none_of X G z_LookupError, PySem.W.mg_none_of X G z_ValueError, PySem.W.mg_none_of X G z_abs, PySem.W.mg_none_of X G z_all, PySem.W.mg_none_of X G z_bool, PySem.W.mg_none_of X G z_enumerate, PySem.W.mg_none_of X G z_int, PySem.W.mg_none_of X G z_isinstance, PySem.W.mg_none_of X G z_len, PySem.W.mg_none_of X G z_list, PySem.W.mg_none_of X G z_max, PySem.W.mg_none_of X G z_min, PySem.W.mg_none_of X G z_range, PySem.W.mg_none_of X G z_repr, PySem.W.mg_none_of X G z_sorted, PySem.W.mg_none_of X G z_sum, PySem.W.mg_none_of X G z_tuple⟩
  exact ⟨PySem.W.fnOf "law" "law" (defArgs s_law) (defBody s_law) (defScope s_law) .none kV15 dc15 pm15 an15 cd15 ct15, fun s v => .of_eq rfl, fun base _ _ => ok_law (fun_mk (st := s_law) l15 c15 k15) T⟩
end My
open PySem PySem.W PyProof.Rows
set_option maxRecDepth 100000 in
set_option maxHeartbeats 0 in
theorem PySem.Challenge.cw_lackcry_k04_lots_by_number_to_sixty_holds : PySem.Challenge.rw_lackcry_k04_lots_by_number_to_sixty.Holds := by
  w_on; o_law; k_head; (case hw => w_witness2)
  k_fill
  refine My.walkG (l := PySem.Challenge.rw_lackcry_k04_lots_by_number_to_sixty) (n := 63) (k := 6) (x := "_law_script") (sp := fun w => My.spLaw _) rfl (by decide) rfl ⟨rfl, by decide, by decide⟩ (fun w h Y => PySem.W.kIn_of Y) ?F (fun _ _ a ns hl hS => ⟨a, ns, rfl, hS, hl, fun _ => rfl⟩)
  case F =>
    intro w mg fa h KX G hmg
    refine' My.all_mk KX G hmg ?a0 ?l0 ?c0 ?k0 ?a1 ?l1 ?c1 ?k1 ?a2 ?l2 ?c2 ?k2 ?a3 ?l3 ?c3 ?k3 ?a4 ?l4 ?c4 ?k4 ?a5 ?l5 ?c5 ?k5 ?a6 ?l6 ?c6 ?k6 ?a7 ?l7 ?c7 ?k7 ?a8 ?l8 ?c8 ?k8 ?a9 ?l9 ?c9 ?k9 ?a10 ?l10 ?c10 ?k10 ?a11 ?l11 ?c11 ?k11 ?a12 ?l12 ?c12 ?k12 ?a13 ?l13 ?c13 ?k13 ?a14 ?l14 ?c14 ?k14 ?a15 ?l15 ?c15 ?k15 ?fa_NotSo ?fb_NotSo ?fc_NotSo ?fd_NotSo ?fa_Gone ?fb_Gone ?fc_Gone ?fd_Gone ?ea_NoNumber ?eb_NoNumber ?ec_NoNumber ?ed_NoNumber ?ee_NoNumber ?ef_NoNumber ?eg_NoNumber ?eh_NoNumber ?ei_NoNumber ?ej_NoNumber ?ek_NoNumber ?el_NoNumber ?em_NoNumber ?en_NoNumber ?eo_NoNumber ?ep_NoNumber ?eq_NoNumber ?er_NoNumber ?es_NoNumber ?et_NoNumber ?eu_NoNumber ?ev_NoNumber_NotSo ?ev_NoNumber_Gone ?ew_NoNumber_LookupError ?z_LookupError ?z_ValueError ?z_abs ?z_all ?z_bool ?z_enumerate ?z_int ?z_isinstance ?z_len ?z_list ?z_max ?z_min ?z_range ?z_repr ?z_sorted ?z_sum ?z_tuple
    (case a0 => k_is); (case l0 => k_is); (case c0 => k_is); (case k0 => k_is); (case a1 => k_is); (case l1 => k_is); (case c1 => k_is); (case k1 => k_is); (case a2 => k_is); (case l2 => k_is); (case c2 => k_is); (case k2 => k_is); (case a3 => k_is); (case l3 => k_is); (case c3 => k_is); (case k3 => k_is); (case a4 => k_is); (case l4 => k_is); (case c4 => k_is); (case k4 => k_is); (case a5 => k_is); (case l5 => k_is); (case c5 => k_is); (case k5 => k_is); (case a6 => k_is); (case l6 => k_is); (case c6 => k_is); (case k6 => k_is); (case a7 => k_is); (case l7 => k_is); (case c7 => k_is); (case k7 => k_is); (case a8 => k_is); (case l8 => k_is); (case c8 => k_is); (case k8 => k_is); (case a9 => k_is); (case l9 => k_is); (case c9 => k_is); (case k9 => k_is); (case a10 => k_is); (case l10 => k_is); (case c10 => k_is); (case k10 => k_is); (case a11 => k_is); (case l11 => k_is); (case c11 => k_is); (case k11 => k_is); (case a12 => k_is); (case l12 => k_is); (case c12 => k_is); (case k12 => k_is); (case a13 => k_is); (case l13 => k_is); (case c13 => k_is); (case k13 => k_is); (case a14 => k_is); (case l14 => k_is); (case c14 => k_is); (case k14 => k_is); (case a15 => k_is); (case l15 => k_is); (case c15 => k_is); (case k15 => k_is); (case fa_NotSo => k_is); (case fb_NotSo => k_is); (case fc_NotSo => k_is); (case fd_NotSo => k_is); (case fa_Gone => k_is); (case fb_Gone => k_is); (case fc_Gone => k_is); (case fd_Gone => k_is); (case ea_NoNumber => k_is); (case eb_NoNumber => kx_is); (case ec_NoNumber => kx_is); (case ed_NoNumber => k_is); (case ee_NoNumber => k_is); (case ef_NoNumber => k_is); (case eg_NoNumber => k_is); (case eh_NoNumber => k_is); (case ei_NoNumber => k_is); (case ej_NoNumber => k_is); (case ek_NoNumber => k_is); (case el_NoNumber => k_is); (case em_NoNumber => k_is); (case en_NoNumber => k_is); (case eo_NoNumber => k_is); (case ep_NoNumber => k_is); (case eq_NoNumber => k_is); (case er_NoNumber => k_is); (case es_NoNumber => k_is); (case et_NoNumber => k_is); (case eu_NoNumber => k_is); (case ev_NoNumber_NotSo => k_is); (case ev_NoNumber_Gone => k_is); (case ew_NoNumber_LookupError => k_is); (case z_LookupError => k_is); (case z_ValueError => k_is); (case z_abs => k_is); (case z_all => k_is); (case z_bool => k_is); (case z_enumerate => k_is); (case z_int => k_is); (case z_isinstance => k_is); (case z_len => k_is); (case z_list => k_is); (case z_max => k_is); (case z_min => k_is); (case z_range => k_is); (case z_repr => k_is); (case z_sorted => k_is); (case z_sum => k_is); (case z_tuple => k_is)
