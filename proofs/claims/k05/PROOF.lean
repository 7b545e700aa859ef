import PyProof.Rows.All
import Wide.All
import OpenK.AllK
import Wide.FinOn
import HandS.ForMost
import HandS.Wide
import HandS.IsInst
import HandS.SortInts
import HandS.TupAny
import HandS.Conv
import HandS.Zip
import KE.GoesEnum
import PySem.Challenge.RW_lackcry_k05_whole_numbers_rise_as_lots_d
set_option Elab.async false
set_option linter.all false
set_option maxRecDepth 100000
set_option maxHeartbeats 4000000
namespace My
open PySem PySem.Spec PyProof.Rows L2
/-! ### a def of the top, as callers use it -/
structure DefAt (K : PySem.W.Frag) (mg : Str → Option Value) (x : Str) (st : Stmt) (ps : List Str) (f : Addr) (fd : FuncData) : Prop where
  F : Fun K x x st f fd
  g : mg x = some (.ref f)
  b : Binds K fd ps []
section
variable {X : Cx} {CX : CXT} {k : Nat} {f : Addr} {fd : FuncData} {ps ks : List Str} {sp : Sp} {E : XK} {x : Str} {p pos : Pos} {kws : List Keyword} {tk : TA} {g : List Value → List Value → List Value} {gV : List V → List V → List V}
/-- f(k = v, ..), nothing by position -/
theorem pe_callK0 (F : FnOk X.prog X.w X.K X.mg X.base CX k f fd ps sp) (hr : Room k X.A) (hg : Gl X x) (hm : X.mg x = some (.ref f)) (hk : PySem.W.keepIn X.K (.ref f) = true) (hb : KBinds X.K fd ps ks g gV) (hx : Passes CX X E)
    (hkw : PK X kws tk) (hall : (backToKw pos (keywordEach kws X.env)).all (·.1.isSome) = true := by rfl) (hks : (backToKw pos (keywordEach kws X.env)).filterMap (·.1) = ks := by rfl)
    (hdb : (x == ("__debug__" : Str)) = false := by decide)
    (hpl : ((backTo pos (starEach [] X.env)).any (·.1) || (backToKw pos (keywordEach kws X.env)).any (·.1.isNone)) = false := by rfl) :
    PE X (.Call (.Name x p) [] kws pos) (tCallK sp gV E tNil tk) := by
  refine ⟨fun pins s σ H Q I h => ?_⟩
  refine wpAny_Call_Name_kw (ld_glob I hg hm ?_ hdb)
  refine PySem.W.callWith_KW0 (h₀ := X.base) I.ok.mod.kin hk hall (thn (hkw.run pos pins s σ H _ I h) fun ws s2 ⟨zs, H2, I2, rz, q2⟩ => ⟨I2.kIn, ?_⟩) hpl
  rw [hks]
  exact run_fnk (us := []) (vs := []) F hr hb hx I2 .nil rz q2
/-- a power of a great base -/
def CPowW (i j : Int) : Prop := 0 ≤ j ∧ (Builtin.Int.intBits i : Int) * j ≤ 2 ^ 27
theorem op_powW : OpR X (binaryOp .Pow) (rI CPowW fun i j => .int (i ^ j.toNat)) := opI fun _ _ _ _ _ _ _ hc q => pow_int hc.1 hc.2 q
end
/-! ### the rules that read K, with K named (within a comprehension the reading may not lean on the block) -/
section
variable {X : Cx} (K : PySem.W.Frag)
theorem k_ixL (h : X.K = K := by rfl) : IxR X (rIxL K) := h ▸ ix_list
theorem k_ixT (h : X.K = K := by rfl) : IxR X (rIxT K) := h ▸ ix_tup
def rLenS (K : PySem.W.Frag) : List V → Hp → VK → Prop := fun xs H Q => ∃ p ys, xs = [.ref p] ∧ (SqL K H p ys ∨ SqT K H p ys) ∧ Q (.int ys.length) H
theorem k_len (h : X.K = K := by rfl) : CallR X (.builtin "len") (rLenS K) := h ▸ call_len_seq
theorem k_in (h : X.K = K := by rfl) : OpR X (compareOp .In) (rIn K false) := h ▸ op_in_seq
theorem k_notIn (h : X.K = K := by rfl) : OpR X (compareOp .NotIn) (rIn K true) := h ▸ op_notIn_seq
theorem k_eqD (hu : X.A.units + 64 < cLine) (h : X.K = K := by rfl) : OpR X (compareOp .Eq) (rEqD K) := h ▸ op_eqD hu
theorem k_neD (hu : X.A.units + 64 < cLine) (h : X.K = K := by rfl) : OpR X (compareOp .NotEq) (rNeD K) := h ▸ op_neD hu
theorem k_catA (h : X.K = K := by rfl) : OpR X (binaryOp .Add) (rCatA K) := h ▸ op_catA
theorem k_sum (hc : X.calm = true) (h : X.K = K := by rfl) : CallR X (.builtin "sum") (rSum K) := h ▸ cr_sum hc
theorem k_all (hc : X.calm = true) (h : X.K = K := by rfl) : CallR X (.builtin "all") (rAll K) := h ▸ cr_all hc
theorem k_any (hc : X.calm = true) (h : X.K = K := by rfl) : CallR X (.builtin "any") (rAny K) := h ▸ cr_any hc
theorem k_sorted (h : X.K = K := by rfl) : CallR X (.builtin "sorted") (rSortedI K) := h ▸ cr_sortedI
def rTupOf (K : PySem.W.Frag) : List V → Hp → VK → Prop := fun xs H Q => ∃ p ys, xs = [.ref p] ∧ ((SqL K H p ys ∧ ∀ l, H l = none → Q (.ref l) (upd H l (.tup ys))) ∨ (SqT K H p ys ∧ Q (.ref p) H))
theorem k_tuple (h : X.K = K := by rfl) : CallR X (.type "tuple") (rTupOf K) := h ▸ call_tuple_of
def rLstOf (K : PySem.W.Frag) : List V → Hp → VK → Prop := fun xs H Q => ∃ p ys, xs = [.ref p] ∧ (SqL K H p ys ∨ SqT K H p ys) ∧ ∀ l, H l = none → Q (.ref l) (upd H l (.lst ys))
theorem k_list (h : X.K = K := by rfl) : CallR X (.type "list") (rLstOf K) := h ▸ call_list_of
theorem k_slL (h : X.K = K := by rfl) : SlR X (rSlL K) := h ▸ sl_list
theorem k_slT (h : X.K = K := by rfl) : SlR X (rSlA K) := h ▸ sl_tupA
theorem k_isi (h : X.K = K := by rfl) : CallR X (.builtin "isinstance") (rIsi K) := h ▸ call_isi
theorem k_pgT {es : List Expr} {k n : Nat} {t : TGs} {pos : Pos} (hc : X.calm = true) (h : PGs X es t) (hK : X.K = K := by rfl) (hn : (assignEach es X.env).length = n := by rfl) (hst : (assignEach es X.env).findIdx? (·.1) = none := by rfl) : PG X (.Tuple es k pos) (gTup K n t) := hK ▸ pg_tup hc h hn hst
theorem k_ltT (hu : X.A.units < cLine) (h : X.K = K := by rfl) : OpR X (compareOp .Lt) (rLtT K) := h ▸ op_ltT hu
end
/-! ### heaps -/
theorem same_upd {H : Hp} {p : Addr} {o : HO} (h : H p = none) : Same H (upd H p o) := fun b x e => by
  rw [upd_ne (ne_of_none e h)]
  exact e
/-- all that was tracked but at a is as it was -/
def SameB (a : Addr) (H H' : Hp) : Prop := ∀ b o, b ≠ a → H b = some o → H' b = some o
theorem SameB.refl (a : Addr) (H : Hp) : SameB a H H := fun _ _ _ h => h
theorem SameB.trans {a : Addr} {H H1 H2 : Hp} (x : SameB a H H1) (y : SameB a H1 H2) : SameB a H H2 := fun b o n h => y b o n (x b o n h)
theorem SameB.upd {a : Addr} {H : Hp} {o : HO} : SameB a H (L2.upd H a o) := fun b _ n h => by
  rw [upd_ne n]
  exact h
theorem sameb {a : Addr} {H H' : Hp} (e : Same H H') : SameB a H H' := fun b o _ h => e b o h
theorem SameB.seq {K : PySem.W.Frag} {a l : Addr} {H H' : Hp} {xs : List V} (e : SameB a H H') (n : l ≠ a) (h : SqL K H l xs) : SqL K H' l xs := by
  rcases h with (h | ⟨o, h⟩) | h
  · exact .inl (.inl (e _ _ n h))
  · exact .inl (.inr ⟨o, e _ _ n h⟩)
  · exact .inr h
/-! ### the law's pot: three ints in a list -/
def PotAt (H : Hp) (a : Addr) (b : Nat) : Prop := ∃ g s c : Int, H a = some (.lst [.int g, .int s, .int c]) ∧ 0 ≤ g ∧ 0 ≤ s ∧ s < 2 ^ 61 ∧ 0 ≤ c ∧ c ≤ b ∧ b ≤ 1000000
theorem PotAt.same {H H' : Hp} {a : Addr} {b : Nat} (h : PotAt H a b) (e : Same H H') : PotAt H' a b := by
  obtain ⟨g, s, c, h1, h2⟩ := h
  exact ⟨g, s, c, e _ _ h1, h2⟩
theorem PotAt.ne {H : Hp} {a b : Addr} {n : Nat} (h : PotAt H a n) (q : H b = none) : a ≠ b := by
  obtain ⟨_, _, _, h1, _⟩ := h
  exact ne_of_none h1 q
/-! ### rows of ints as data -/
def intsD (ns : List Int) : List PyData := ns.map PyData.int
theorem dp_ints {K : PySem.W.Frag} {H : Hp} : ∀ ns : List Int, DpAll K H (ns.map V.int) (intsD ns)
  | [] => .nil
  | n :: ns => .cons (.int n) (dp_ints ns)
theorem ints_lay : ∀ ns : List Int, PyData.canLayAll0 (intsD ns) = true
  | [] => by simp [intsD, PyData.canLayAll0]
  | n :: ns => by
    have h := ints_lay ns
    simp only [intsD, List.map_cons, PyData.canLayAll0, PyData.canLay0] at h ⊢
    simpa using h
theorem ints_depth : ∀ ns : List Int, PyData.depthAll (intsD ns) ≤ 2
  | [] => by simp [intsD, PyData.depthAll]
  | n :: ns => by
    have h := ints_depth ns
    simp only [intsD, List.map_cons, PyData.depthAll, PyData.depth] at h ⊢
    omega
theorem ints_shaped (ns : List Int) : SeqAt.shaped (.list (intsD ns)) = true := by
  have h1 := ints_depth ns
  have h2 : PyData.depth (.list (intsD ns)) ≤ 64 := by
    simp only [PyData.depth]
    omega
  show (PyData.canLay0 (.list (intsD ns)) && decide (PyData.depth (.list (intsD ns)) ≤ 64)) = true
  rw [Bool.and_eq_true]
  exact ⟨by simp only [PyData.canLay0]; exact ints_lay ns, decide_eq_true h2⟩
theorem intsT_shaped (ns : List Int) : SeqAt.shaped (.tuple (intsD ns)) = true := by
  have h1 := ints_depth ns
  have h2 : PyData.depth (.tuple (intsD ns)) ≤ 64 := by
    simp only [PyData.depth]
    omega
  show (PyData.canLay0 (.tuple (intsD ns)) && decide (PyData.depth (.tuple (intsD ns)) ≤ 64)) = true
  rw [Bool.and_eq_true]
  exact ⟨by simp only [PyData.canLay0]; exact ints_lay ns, decide_eq_true h2⟩
theorem eqv_self {d : PyData} (h : SeqAt.shaped d = true) : PyData.eqv d d = true := SeqAt.eqv_refl d (SeqAt.canLay_of_shaped h)
theorem atI_neg1 {α : Type} {xs : List α} {v : α} (h : xs[xs.length - 1]? = some v) : atI xs (-1) = some v := by
  have hl : 0 < xs.length := by
    cases xs with
    | nil => simp at h
    | cons _ _ => simp
  unfold atI ixN
  rw [if_neg (by decide), if_pos (by omega)]
  show xs[(-1 + (xs.length : Int)).toNat]? = some v
  rw [show (-1 + (xs.length : Int)).toNat = xs.length - 1 by omega]
  exact h
theorem map_int_get {ns : List Int} {i : Nat} {y : V} (h : (ns.map V.int)[i]? = some y) : ∃ u, ns[i]? = some u ∧ y = .int u := by
  rw [List.getElem?_map] at h
  cases e : ns[i]? with
  | none =>
    rw [e] at h
    cases h
  | some u =>
    rw [e] at h
    exact ⟨u, rfl, (Option.some.inj h).symm⟩
theorem range_map_succ {α : Type} (f : Nat → α) (i : Nat) : (List.range (i + 1)).map f = (List.range i).map f ++ [f i] := by
  rw [List.range_succ, List.map_append]
  rfl
theorem lcT {A B : Hp → Prop} {σ : L2.St} {H : Hp} (h : A H) : tYes σ H (fun b H3 => if b = true then A H3 else B H3) := by
  show (if (true = true) then A H else B H)
  rw [if_pos rfl]
  exact h
theorem row_get {l : List Int} {i : Nat} (h : i < l.length) : (l.map V.int)[i]? = some (.int (l.getD i 0)) := by
  rw [List.getElem?_map, List.getElem?_eq_getElem h, List.getD_eq_getElem?_getD, List.getElem?_eq_getElem h]
  rfl
theorem flat_rep (n : Nat) : (List.replicate n [V.int 0]).flatten = (List.replicate n (0 : Int)).map V.int := by
  induction n with
  | zero => rfl
  | succ n ih =>
    rw [List.replicate_succ, List.flatten_cons, ih, List.replicate_succ, List.map_cons]
    rfl
theorem seqT {K : PySem.W.Frag} {H H' : Hp} {a : Addr} {xs : List V} (e : Same H H') (h : SqT K H a xs) : SqT K H' a xs := by
  rcases h with (h | ⟨o, h⟩) | h
  · exact .inl (.inl (e _ _ h))
  · exact .inl (.inr ⟨o, e _ _ h⟩)
  · exact .inr h
theorem SameB.seqT {K : PySem.W.Frag} {a l : Addr} {H H' : Hp} {xs : List V} (e : SameB a H H') (n : l ≠ a) (h : SqT K H l xs) : SqT K H' l xs := by
  rcases h with (h | ⟨o, h⟩) | h
  · exact .inl (.inl (e _ _ n h))
  · exact .inl (.inr ⟨o, e _ _ n h⟩)
  · exact .inr h
/-- a comprehension over enumerate of a tuple is told by IteT: see enumT -/
theorem lc_noif {A B : Hp → Prop} {b : Bool} {H : Hp} (hb : b = true) (h : A H) : if b = true then A H else B H := by
  rw [if_pos hb]
  exact h
theorem PotAt.mono {H : Hp} {a : Addr} {b b' : Nat} (h : PotAt H a b) (l : b ≤ b') (m : b' ≤ 1000000) : PotAt H a b' := by
  obtain ⟨g, s, c, h1, h2, h3, h4, h5, h6, h7⟩ := h
  exact ⟨g, s, c, h1, h2, h3, h4, h5, by omega, m⟩
theorem PotAt.some {H : Hp} {a : Addr} {n : Nat} (h : PotAt H a n) : ∃ o, H a = some o := by
  obtain ⟨_, _, _, h1, _⟩ := h
  exact ⟨_, h1⟩
theorem PotAt.sameB {H H' : Hp} {a b : Addr} {n : Nat} (h : PotAt H a n) (e : SameB b H H') (ne : a ≠ b) : PotAt H' a n := by
  obtain ⟨g, s, c, h1, h2⟩ := h
  exact ⟨g, s, c, e _ _ ne h1, h2⟩
theorem eqv_ints : ∀ l m : List Int, PyData.eqvAll (intsD l) (intsD m) = decide (l = m)
  | [], [] => rfl
  | [], y :: m => rfl
  | x :: l, [] => rfl
  | x :: l, y :: m => by
    show (PyData.eqv (.int x) (.int y) && PyData.eqvAll (intsD l) (intsD m)) = decide (x :: l = y :: m)
    rw [eqv_ints l m]
    show ((x == y) && decide (l = m)) = decide (x :: l = y :: m)
    by_cases h : x = y
    · subst h
      by_cases h2 : l = m
      · subst h2
        simp
      · simp [h2]
    · simp [h]
theorem eqvL_ints (l m : List Int) : PyData.eqv (.list (intsD l)) (.list (intsD m)) = decide (l = m) := eqv_ints l m
theorem eqvT_ints (l m : List Int) : PyData.eqv (.tuple (intsD l)) (.tuple (intsD m)) = decide (l = m) := eqv_ints l m
theorem flat_ints (l : List Int) : (l.map V.int).all flatV = true := by
  rw [List.all_map]
  exact List.all_eq_true.mpr fun _ _ => rfl
theorem inV_ints (x : Int) : ∀ l : List Int, inV (.int x) (l.map V.int) = l.contains x
  | [] => rfl
  | y :: l => by
    have ih := inV_ints x l
    have e1 : inV (.int x) ((y :: l).map V.int) = (eqV (.int y) (.int x) || inV (.int x) (l.map V.int)) := rfl
    rw [e1, ih, List.contains_cons]
    congr 1
    show (y == x) = (x == y)
    exact BEq.comm
def topS (i : Nat) : Stmt := PySem.Challenge.pw_lackcry_k05_whole_numbers_rise_as_lots_d.main.body.getD i (.Pass ⟨0, 0, 0, 0⟩)
abbrev s_is_whole : Stmt := topS 4
theorem sc_is_whole : FnScope ["thing"] ["thing"] (defScope s_is_whole) := ⟨rfl, rfl, rfl, by decide +kernel, rfl, by decide +kernel, by decide +kernel⟩
abbrev s_is_below : Stmt := topS 5
theorem sc_is_below : FnScope ["bound", "thing"] ["bound", "thing"] (defScope s_is_below) := ⟨rfl, rfl, rfl, by decide +kernel, rfl, by decide +kernel, by decide +kernel⟩
abbrev s_choose : Stmt := topS 7
theorem sc_choose : FnScope ["n", "k", "many", "step"] ["n", "k"] (defScope s_choose) := ⟨rfl, rfl, rfl, by decide +kernel, rfl, by decide +kernel, by decide +kernel⟩
abbrev s_lot_at : Stmt := topS 8
theorem sc_lot_at : FnScope ["hands", "size", "number", "lot", "ahead", "hand", "many"] ["hands", "size", "number"] (defScope s_lot_at) := ⟨rfl, rfl, rfl, by decide +kernel, rfl, by decide +kernel, by decide +kernel⟩
abbrev s_number_of : Stmt := topS 9
theorem sc_number_of : FnScope ["hands", "lot", "size", "behind", "place", "hand"] ["hands", "lot"] (defScope s_number_of) := ⟨rfl, rfl, rfl, by decide +kernel, rfl, by decide +kernel, by decide +kernel⟩
abbrev s__law_pot : Stmt := topS 11
theorem sc__law_pot : FnScope ["_law_script", "_law_k", "_law_cell", "_law_great"] ["_law_script", "_law_k"] (defScope s__law_pot) := ⟨rfl, rfl, rfl, by decide +kernel, rfl, by decide +kernel, by decide +kernel⟩
abbrev s__law_take : Stmt := topS 12
theorem sc__law_take : FnScope ["_law_pot_here", "_law_size", "_law_digit", "_law_low", "_law_high", "_law_mixed", "_law_last"] ["_law_pot_here", "_law_size"] (defScope s__law_take) := ⟨rfl, rfl, rfl, by decide +kernel, rfl, by decide +kernel, by decide +kernel⟩
abbrev s__law_pick : Stmt := topS 13
theorem sc__law_pick : FnScope ["_law_pot_here", "_law_some"] ["_law_pot_here", "_law_some"] (defScope s__law_pick) := ⟨rfl, rfl, rfl, by decide +kernel, rfl, by decide +kernel, by decide +kernel⟩
abbrev s__law_some_lot : Stmt := topS 14
theorem sc__law_some_lot : FnScope ["_law_pot_here", "_law_many", "_law_size", "_law_left", "_law_found", "_law_turn"] ["_law_pot_here", "_law_many", "_law_size"] (defScope s__law_some_lot) := ⟨rfl, rfl, rfl, by decide +kernel, rfl, by decide +kernel, by decide +kernel⟩
abbrev s__law_near : Stmt := topS 15
theorem sc__law_near : FnScope ["_law_pot_here", "_law_many", "_law_lot", "_law_free", "_law_one", "_law_out", "_law_more"] ["_law_pot_here", "_law_many", "_law_lot"] (defScope s__law_near) := ⟨rfl, rfl, rfl, by decide +kernel, rfl, by decide +kernel, by decide +kernel⟩
abbrev s__law_right : Stmt := topS 16
theorem sc__law_right : FnScope ["_law_pot_here", "_law_many", "_law_wide", "_law_some", "_law_turn", "_law_lot", "_law_told", "_law_total", "_law_one", "_law_place", "_law_second", "_law_spot", "_law_rest", "_law_hand"] ["_law_pot_here"] (defScope s__law_right) := ⟨rfl, rfl, rfl, by decide +kernel, rfl, by decide +kernel, by decide +kernel⟩
abbrev s_law : Stmt := topS 17
theorem sc_law : FnScope ["_law_script", "_law_k"] ["_law_script"] (defScope s_law) := ⟨rfl, rfl, rfl, by decide +kernel, rfl, by decide +kernel, by decide +kernel⟩
structure Txt (K : PySem.W.Frag) (mg : Str → Option Value) : Prop where
  d_is_whole : ∃ f fd, DefAt K mg "is_whole" s_is_whole ["thing"] f fd
  d_is_below : ∃ f fd, DefAt K mg "is_below" s_is_below ["bound", "thing"] f fd
  d_choose : ∃ f fd, DefAt K mg "choose" s_choose ["n", "k"] f fd
  d_lot_at : ∃ f fd, DefAt K mg "lot_at" s_lot_at ["hands", "size", "number"] f fd
  d_number_of : ∃ f fd, DefAt K mg "number_of" s_number_of ["hands", "lot"] f fd
  d_pot : ∃ f fd, DefAt K mg "_law_pot" s__law_pot ["_law_script", "_law_k"] f fd
  d_take : ∃ f fd, DefAt K mg "_law_take" s__law_take ["_law_pot_here", "_law_size"] f fd
  d_pick : ∃ f fd, DefAt K mg "_law_pick" s__law_pick ["_law_pot_here", "_law_some"] f fd
  d_some_lot : ∃ f fd, DefAt K mg "_law_some_lot" s__law_some_lot ["_law_pot_here", "_law_many", "_law_size"] f fd
  d_near : ∃ f fd, DefAt K mg "_law_near" s__law_near ["_law_pot_here", "_law_many", "_law_lot"] f fd
  d_right : ∃ f fd, DefAt K mg "_law_right" s__law_right ["_law_pot_here"] f fd
  z_abs : mg "abs" = none
  z_all : mg "all" = none
  z_bool : mg "bool" = none
  z_enumerate : mg "enumerate" = none
  z_int : mg "int" = none
  z_isinstance : mg "isinstance" = none
  z_len : mg "len" = none
  z_list : mg "list" = none
  z_max : mg "max" = none
  z_min : mg "min" = none
  z_range : mg "range" = none
  z_sorted : mg "sorted" = none
  z_sum : mg "sum" = none
  z_tuple : mg "tuple" = none
  z_zip : mg "zip" = none
section
variable {P : Program} {w : World} {K : PySem.W.Frag} {mg : Str → Option Value} {base : Heap}
/-! ### enumerate of a tuple: the rule that the layer lacks -/
section
set_option maxHeartbeats 4000000
theorem enumT_new (t : Addr) (vals : Array Value) :
    Meets (Builtin.«enumerate.__new__» ⟨[.type "enumerate", .ref t], []⟩)
      (fun _ R s => s.heap.IsTuple t vals ∧
        R (.ok (.ret (.ref (s.heap.push ⟨.type "tuple_iterator", none, .fields #[.ref t, .int 0 0], #[]⟩).objs.size)))
          { s with heap := ((s.heap.push ⟨.type "tuple_iterator", none, .fields #[.ref t, .int 0 0], #[]⟩).push ⟨.type "enumerate", none, .fields #[.none, .bool false, .ref s.heap.objs.size, rawInt 0, .none, .none], #[]⟩) }) :=
  .of_wp fun prog w A R s hyp => by
    obtain ⟨hp, g, d, tk, os⟩ := s
    obtain ⟨hT, hyp⟩ := hyp
    have below := sub_enumerate
    have B := begins_tuple t vals
    have it : ∀ {A' : Around} {E' : Value → Shared → Prop} {Q' : Value → Shared → Prop},
        Q' (.ref hp.objs.size) ⟨hp.push ⟨.type "tuple_iterator", none, .fields #[.ref t, .int 0 0], #[]⟩, g, d, tk, os⟩ →
        wpAny (model prog w) A' (pyIter (.ref t)) Q' E' ⟨hp, g, d, tk, os⟩ :=
      fun z => B.iter prog w _ _ ⟨hp, g, d, tk, os⟩ _ hT z
    wp_walk using it
    refine wpAny_stack_any fun st => ?_
    refine wpAny_pure ?_
    split
    · rename_i c _ _ _ _ _
      cases (c == Value.type "enumerate") <;> (wp_walk using it) <;> exact ⟨_, rfl, hyp⟩
    · wp_walk using it
      exact ⟨_, rfl, hyp⟩
theorem enumT_call {prog : Program} {w : World} {A : Around} {E : Value → Shared → Prop} {s : Shared} {t : Addr} {vals : Array Value}
    {Q : Value → Shared → Prop} (hT : s.heap.IsTuple t vals)
    (k : ∀ h', IsEnum h' (s.heap.objs.size + 1) s.heap.objs.size 0 .none → h'.IsTupleIter s.heap.objs.size t 0 →
      h'.objs.size = s.heap.objs.size + 2 → (∀ b o, s.heap.get? b = some o → h'.get? b = some o) →
      Q (.ref (s.heap.objs.size + 1)) { s with heap := h' }) :
    wpAny (model prog w) A (call (.type "enumerate") [.ref t]) Q E s := by
  refine callType_new F.called_enumerate (by decide) (F.typeCall_enumerate_1 _) (F.newCall_enumerate_1 _)
    (fun ob => F.args_object_init_2 ob _) F.entry_enumerate_new (enumT_new t vals) ⟨hT, ?_⟩
  generalize hq1 : s.heap.push ⟨.type "tuple_iterator", none, .fields #[.ref t, .int 0 0], #[]⟩ = q1
  have sz1 : q1.objs.size = s.heap.objs.size + 1 := by
    rw [← hq1]
    exact Heap.size_push ..
  have g1 : q1.get? s.heap.objs.size = some ⟨.type "tuple_iterator", none, .fields #[.ref t, .int 0 0], #[]⟩ := by
    rw [← hq1]
    exact Heap.get?_push_size _ rfl
  have k1 : ∀ b o, s.heap.get? b = some o → q1.get? b = some o := fun b o e => by
    rw [← hq1]
    exact Heap.get?_push_of_some _ e
  show _ ∧ _
  have he : IsEnum (q1.push ⟨.type "enumerate", none, .fields #[.none, .bool false, .ref s.heap.objs.size, rawInt 0, .none, .none], #[]⟩)
      (s.heap.objs.size + 1) s.heap.objs.size 0 .none := by
    have z := Heap.get?_push_size q1
      (o := ⟨.type "enumerate", none, .fields #[.none, .bool false, .ref s.heap.objs.size, rawInt 0, .none, .none], #[]⟩) rfl
    rw [sz1] at z
    exact z
  rw [sz1]
  refine ⟨⟨_, he, rfl⟩, k _ he ?_ ?_ ?_⟩
  · exact ⟨⟨.type "tuple_iterator", none, .fields #[.ref t, .int 0 0], #[]⟩, Heap.get?_push_of_some _ g1, rfl, rfl⟩
  · rw [Heap.size_push, sz1]
  · intro b o e
    exact Heap.get?_push_of_some _ (k1 b o e)
/-- the tuple at a, each item in a new pair with its place -/
def IteT (K : PySem.W.Frag) (a : Addr) : It where
  go := fun i H => ∃ (xs : List V) (x : V), SqT K H a xs ∧ xs[i]? = some x
  yld := fun i H v H' => ∃ p x, v = .ref p ∧ H p = none ∧ H' = upd H p (.tup [.int (i : Nat), x]) ∧ ∀ xs, SqT K H a xs → xs[i]? = some x
  stop := fun i H => ∃ xs : List V, SqT K H a xs ∧ xs.length ≤ i
theorem turn_enumT {P : Program} {w : World} {K : PySem.W.Frag} {elts : List Expr} {kk : Nat} {tpos : Pos} (a e it : Addr) :
    Turn P w K (.Tuple elts kk tpos) (IteT K a) [e, it] e
      (fun i h => (∃ old, IsEnum h e it ((i : Nat) : Int) old) ∧ h.IsTupleIter it a i ∧ e ≠ it ∧ a ≠ it ∧ a ≠ e) where
  mem := by simp
  obj := by
    intro i h st b hb
    obtain ⟨⟨old, he⟩, ⟨o, ho, _, hd⟩, _⟩ := st
    rcases (show b = e ∨ b = it by simpa using hb) with rfl | rfl
    · exact ⟨_, he, fun v q => nomatch q⟩
    · refine ⟨o, ho, fun v q => ?_⟩
      rw [hd] at q
      cases q
  keep := by
    intro i h h' st k
    obtain ⟨⟨old, he⟩, hi, hne⟩ := st
    exact ⟨⟨old, k e (by simp) _ he⟩, hi.at (fun o q => k it (by simp) o q), hne⟩
  item := by
    intro X eP ew eK hc i pins s σ H E I hf st hg
    subst eP ew eK
    obtain ⟨⟨old, he⟩, hit, hne, hai, hae⟩ := st
    obtain ⟨xs, x, hq, hx⟩ := hg
    obtain ⟨its, rv, p, _⟩ := I.tuple hq
    obtain ⟨u, hu, ru⟩ := rv.get hx
    have le : e < s.heap.objs.size := Heap.lt_size he
    have li : it < s.heap.objs.size := by
      obtain ⟨_, z, _⟩ := hit
      exact Heap.lt_size z
    have D := Draws.tuple (prog := X.prog) (w := X.w) (A := X.A.in1) (I.ok.hd hc) it a hai its.toArray
    refine wpAny_pyNext_enum_itemC D he ⟨hit, p⟩ (i := i) ?_ hne (by simp [hne, Ne.symm hae]) fun y h' tk hy ho hst hT hsz hk => ?_
    · have z := (List.getElem?_eq_some_iff.mp hu).1
      simpa using z
    have ey : y = u := by
      have z : its.toArray[i]? = some u := by simpa using hu
      rw [z] at hy
      exact (Option.some.inj hy).symm
    subst ey
    refine ⟨_, rfl, wpAny_letOwnedTupleGo_enum (s := { s with heap := h', toks := tk + 1 }) ho fun h2 he2 sb => ?_⟩
    have hT2 : h2.get? s.heap.objs.size = some ⟨.type "tuple", none, .seq #[.int i tk, y], #[]⟩ :=
      (sb.2 _ (Nat.ne_of_gt le)).trans hT
    have new : ObjOk X.prog X.w (upd H s.heap.objs.size (.tup [.int (i : Nat), x])) h2 s.heap.objs.size (.tup [.int (i : Nat), x]) :=
      ⟨by show 2 ≤ sizeLine; decide, [.int i tk, y], .cons ⟨_, rfl⟩ (.cons ru .nil), ⟨_, hT2, rfl, _, rfl⟩⟩
    have keepB : ∀ b ob, b ∉ [e, it] → s.heap.get? b = some ob → h2.get? b = some ob := fun b ob hb z => by
      have be : b ≠ e := fun q => hb (by simp [q])
      have bi : b ≠ it := fun q => hb (by simp [q])
      exact (sb.2 b be).trans (hk b ob be bi z)
    have I1 : Inv X pins σ (upd H s.heap.objs.size (.tup [.int (i : Nat), x])) { s with heap := h2, toks := tk + 1 } :=
      I.turnedNew (ch := [e, it]) (fun b ob hb z => keepB b ob hb z) hf (Nat.le_refl _) new
    refine ⟨.ref s.heap.objs.size, _, I1, rfl, ⟨_, x, rfl, I.hok.fresh (Nat.le_refl _), rfl, fun ys hy2 => ?_⟩, ⟨⟨y, ?_⟩, ?_, hne, hai, hae⟩, fun b hb => ?_⟩
    · rw [I.tuple_inj hy2 hq]
      exact hx
    · rw [show ((i + 1 : Nat) : Int) = (i : Int) + 1 by omega]
      exact he2
    · exact hst.1.at fun o z => (sb.2 it (Ne.symm hne)).trans z
    · have lb : b < s.heap.objs.size := by
        rcases (show b = e ∨ b = it by simpa using hb) with rfl | rfl
        · exact le
        · exact li
      rw [upd_ne (Nat.ne_of_lt lb)]
      exact (hf b hb).1
  done := by
    intro X eP ew eK hc i pins s σ H E I hf st hg
    subst eP ew eK
    obtain ⟨⟨old, he⟩, hit, hne, hai, hae⟩ := st
    obtain ⟨xs, hq, hx⟩ := hg
    obtain ⟨its, rv, p, _⟩ := I.tuple hq
    obtain ⟨f0, f1, f2, f3, f4, f5⟩ := hf it (by simp)
    have hl := rv.length
    have D : Draws X.prog X.w X.A.in1 it [it, a] i (fun _ _ => False) (fun j h => j = i ∧ h.IsTupleIter it a i ∧ h.IsTuple a its.toArray) :=
      { live := fun _ _ z => by
          obtain ⟨_, ⟨o, ho, _⟩, _⟩ := z
          exact ⟨o, ho⟩
        frame := fun _ _ _ z k =>
          ⟨z.1, z.2.1.at fun o q => k it (by simp) o q, z.2.2.at fun o q => k a (by simp) o q⟩
        item := fun j _ _ _ hj z _ => absurd z.1 (Nat.ne_of_lt hj)
        done := fun _ _ _ z k => wpAny_nextOf_tuple_end (I.ok.hd hc) z.2.1 z.2.2 (by simp; omega) k }
    refine wpAny_pyNext_enum_endD D he ⟨rfl, hit, p⟩ fun h' eb => ⟨rfl, ?_⟩
    exact I.turned (t' := s.toks) (fun b o hb q => eb b o hb q) f0 f1 f3 f4 f5
  self := by
    intro A i s Q E st k
    obtain ⟨⟨_, he⟩, _⟩ := st
    exact wpAny_pyIter_enum he k
def iEnumT (K : PySem.W.Frag) (ta : TA) : TI := fun σ H R =>
  ta σ H fun vs H1 => ∃ a xs, vs = [.ref a] ∧ SqT K H1 a xs ∧ R (IteT K a) H1
/-- for i, x in enumerate(t), t a tuple -/
theorem pi_enumT (K : PySem.W.Frag) {X : Cx} {e : Expr} {ta : TA} {p pos tpos : Pos} {elts : List Expr} {kk : Nat} (hg : Gl X "enumerate")
    (hm : X.mg "enumerate" = none) (ha : PA X [e] ta) (hK : X.K = K := by rfl) (hs : starEach [e] X.env = [(false, eval e X.env)] := by rfl) :
    PI X (.Tuple elts kk tpos) (.Call (.Name "enumerate" p) [e] [] pos) (iEnumT K ta) := by
  subst hK
  refine ⟨fun pins s σ H R I h => ?_⟩
  refine Call_ (ld_blt I hg hm boot_enumerate (PyProof.Rows.callWith_type1 (thn (ha.run pos pins s σ H _ I h) ?_) hs rfl))
  rintro us s1 ⟨vs, H1, I1, r1, a, xs, rfl, hq, q⟩
  cases r1 with
  | cons r rr =>
    cases rr
    cases r
    obtain ⟨its, rv, pT, _⟩ := I1.tuple hq
    have la : a < s1.heap.objs.size := by
      obtain ⟨o, ho, _⟩ := (show s1.heap.IsTuple a its.toArray from pT)
      exact Heap.lt_size ho
    refine enumT_call (show s1.heap.IsTuple a its.toArray from pT) fun h' he hit hsz hk => wpAny_pyIter_enum he ?_
    have I2 : Inv X pins σ H1 { s1 with heap := h' } := I1.kept (t' := s1.toks) hk
    refine ⟨s1.heap.objs.size + 1, [s1.heap.objs.size + 1, s1.heap.objs.size], _, _, H1, rfl, I2, turn_enumT a _ _, ?_, fun b hb => ?_, q⟩
    · exact ⟨⟨.none, he⟩, hit, Nat.succ_ne_self _, Nat.ne_of_lt la, Nat.ne_of_lt (Nat.lt_succ_of_lt la)⟩
    · have lb : s1.heap.objs.size ≤ b := by
        rcases (show b = s1.heap.objs.size + 1 ∨ b = s1.heap.objs.size by simpa using hb) with rfl | rfl
        · exact Nat.le_succ _
        · exact Nat.le_refl _
      exact I1.fpOk lb (I1.hok.fresh lb)
end
theorem lc_enumT {K : PySem.W.Frag} {a : Addr} {xs : List V} {g : TG} {tt : TT} {te : TE} {vs : List Nat} {σ : L2.St} {H1 : Hp} {D : Addr} {Qd : Hp → Prop}
    (Pv : Nat → Hp → Prop) (h0 : Pv 0 (upd H1 D (.lst []))) (hl : ∀ i H, i ≤ xs.length → Pv i H → SqT K H a xs)
    (hs : ∀ i x H p, xs[i]? = some x → Pv i H → H p = none →
      g (.ref p) (wipe σ vs) (upd H p (.tup [.int (i : Nat), x])) fun σ2 H2 => wipe σ2 vs = wipe σ vs ∧ tt σ2 H2 fun b H3 =>
        if b = true then te σ2 H3 fun y H4 => ∃ acc, H4 D = some (.lst acc) ∧ acc.length < sizeLine ∧ Pv (i + 1) (upd H4 D (.lst (acc ++ [y])))
        else Pv (i + 1) H3)
    (hd : ∀ H, Pv xs.length H → Qd H) :
    ∃ W : Nat → Nat → Hp → Prop, (∃ m, W 0 m (upd H1 D (.lst []))) ∧ ∀ i m H, W i m H →
      ((IteT K a).stop i H ∧ Qd H) ∨
      ((IteT K a).go i H ∧ ∃ Nx : Hp → Prop, (∀ H', Nx H' → ∃ m', m' < m ∧ W (i + 1) m' H') ∧
        ∀ x H', (IteT K a).yld i H x H' → g x (wipe σ vs) H' fun σ2 H2 => wipe σ2 vs = wipe σ vs ∧ tt σ2 H2 fun b H3 =>
          if b = true then te σ2 H3 fun y H4 => ∃ acc, H4 D = some (.lst acc) ∧ acc.length < sizeLine ∧ Nx (upd H4 D (.lst (acc ++ [y])))
          else Nx H3) := by
  refine ⟨fun i m H => m + i = xs.length ∧ Pv i H, ⟨xs.length, rfl, h0⟩, ?_⟩
  rintro i m H ⟨hm, p⟩
  have q := hl i H (by omega) p
  by_cases lt : i < xs.length
  · refine .inr ⟨⟨xs, xs[i], q, List.getElem?_eq_getElem lt⟩, Pv (i + 1), fun H' p' => ⟨m - 1, by omega, by omega, p'⟩, ?_⟩
    rintro x H' ⟨t, y, rfl, ht, rfl, hy⟩
    exact hs i y H t (hy xs q) p ht
  · have e : i = xs.length := by omega
    subst e
    exact .inl ⟨⟨xs, q, Nat.le_refl _⟩, hd H p⟩

/-! ### choose -/
def chF (n : Int) : Nat → Int
  | 0 => 1
  | i + 1 => chF n i * (n - i) / ((i : Int) + 1)
def chs (n k : Int) : Int := if k < 0 then 0 else if k > n then 0 else chF n (if n - k < k then n - k else k).toNat
def spChoose : Sp := fun vs H Q _ => ∃ n k : Int, vs = [.int n, .int k] ∧ n ≤ 1000 ∧ Q (.int (chs n k)) H
theorem ok_choose {f : Addr} {fd : FuncData} (F : Fun K "choose" "choose" s_choose f fd) (T : Txt K mg) : FnOk P w K mg base CX0 1 f fd ["n", "k"] spChoose := by
  refine F.ok sc_choose (fun vs H Q E h => ?_) (fun cdv A outer s H vs Q E hr h => ?_)
  · obtain ⟨n, k, rfl, _⟩ := h
    rfl
  · obtain ⟨n, k, rfl, hn, q⟩ := h
    refine ⟨_, (pss_cons (ps_if (PW.pt (pw_or (pt_cmpR op_lt (pv 1) pe_int (nomark _)) (pw_or1 (pt_cmpR op_gt (pv 1) (pv 0) (nomark _)))))
 (pss_one (ps_ret pe_int))
 pss_nil)
 (pss_cons (ps_set (i := 2) sc_choose.nd rfl (by first | exact Or.inl rfl | exact Or.inr rfl) pe_int)
 (pss_cons (ps_for PassesOwn.never rfl (pi_range1 (by rfl) T.z_range (pa_cons (pe_callB (call_min2 rfl) (by rfl) T.z_min (by decide +kernel) (pa_cons (pv 1) (pa_cons (pe_op op_sub (pv 0) (pv 1)) pa_nil))) pa_nil)) (pg_name (i := 3) sc_choose.nd rfl (by first | exact Or.inl rfl | exact Or.inr rfl))
 (pss_one (ps_set (i := 2) sc_choose.nd rfl (by first | exact Or.inl rfl | exact Or.inr rfl) (pe_op op_fdiv (pe_op op_mul (pv 2) (pe_op op_sub (pv 0) (pv 3))) (pe_op op_add (pv 3) pe_int)))))
 (pss_one (ps_ret (pv 2)))))), ?_⟩
    refine ⟨_, rfl, _, _, rfl, rfl, _, rfl, ite2 (fun e => ?_) (fun e => ?_)⟩
    · have e0 : k < 0 := of_decide_eq_true e
      refine iteT ?_
      have z : chs n k = 0 := by
        unfold chs
        rw [if_pos e0]
      rw [z] at q
      exact q
    · have e0 : ¬ k < 0 := fun z => e (decide_eq_true z)
      refine ⟨_, rfl, _, rfl, _, _, rfl, rfl, _, rfl, ite2 (fun e2 => ?_) (fun e2 => ?_)⟩
      · have e1 : k > n := of_decide_eq_true e2
        have z : chs n k = 0 := by
          unfold chs
          rw [if_neg e0, if_pos e1]
        rw [z] at q
        exact q
      · have e1 : ¬ k > n := fun z => e2 (decide_eq_true z)
        have z : chs n k = chF n (if n - k < k then n - k else k).toNat := by
          unfold chs
          rw [if_neg e0, if_neg e1]
        rw [z] at q
        refine ⟨_, rfl, _, rfl, _, rfl, _, _, rfl, rfl, _, _, rfl, _, rfl, ?_, ?_, for_range (lo := 0) (fun i σ H' => ∃ v, σ = [some (.int n), some (.int k), some (.int (chF n i)), v] ∧ H' = H) ⟨none, rfl, rfl⟩ ?_ ?_⟩
        · split <;> omega
        · split <;> omega
        · rintro i σ H' hi ⟨v, rfl, rfl⟩
          have hin : (i : Int) < n := by
            split at hi <;> omega
          refine ⟨_, rfl, _, rfl, _, rfl, _, _, rfl, rfl, _, _, rfl, rfl, .inr ⟨?_, ?_⟩, _, rfl, _, _, rfl, rfl, _, _, rfl, rfl, ⟨?_, ?_⟩, some (.int (0 + (i : Int))), ?_, rfl⟩
          · omega
          · omega
          · omega
          · omega
          · show _ = [some (V.int n), some (V.int k), some (V.int (chF n i * (n - (i : Int)) / ((i : Int) + 1))), some (V.int (0 + (i : Int)))]
            rw [Int.zero_add]
            rfl
        · rintro σ H' ⟨v, rfl, rfl⟩
          exact ⟨_, rfl, q⟩

/-! ### lots as rows of signs in and out, and their numbers -/
theorem pas_all : ((List.range 60).all fun m => (List.range 63).all fun j => decide (chs ((m : Int) + 1) (j : Int) = chs (m : Int) ((j : Int) - 1) + chs (m : Int) (j : Int))) = true := by decide +kernel
theorem chs_big {n k : Int} (h : n < k) : chs n k = 0 := by
  unfold chs
  by_cases h0 : k < 0
  · rw [if_pos h0]
  · rw [if_neg h0, if_pos h]
theorem chs_in {n k : Int} (h0 : 0 ≤ k) (h1 : k ≤ n) : chs n k = chF n (if n - k < k then n - k else k).toNat := by
  unfold chs
  rw [if_neg (show ¬ k < 0 by omega), if_neg (show ¬ k > n by omega)]
theorem chs_neg {n k : Int} (h : k < 0) : chs n k = 0 := by
  unfold chs
  rw [if_pos h]
theorem pas {m j : Nat} (hm : m < 60) : chs ((m : Int) + 1) (j : Int) = chs (m : Int) ((j : Int) - 1) + chs (m : Int) (j : Int) := by
  by_cases hj : j < 63
  · exact of_decide_eq_true (List.all_eq_true.mp (List.all_eq_true.mp pas_all m (List.mem_range.mpr hm)) j (List.mem_range.mpr hj))
  · rw [chs_big (by omega), chs_big (by omega), chs_big (by omega)]
    rfl
theorem chs_zero (n : Nat) : chs (n : Int) 0 = 1 := by
  unfold chs
  rw [if_neg (by decide), if_neg (by omega)]
  split
  · rename_i h
    omega
  · rfl
theorem chs_sym {n k : Int} (h0 : 0 ≤ k) (h1 : k ≤ n) : chs n (n - k) = chs n k := by
  rw [chs_in h0 h1, chs_in (show 0 ≤ n - k by omega) (show n - k ≤ n by omega)]
  congr 2
  split <;> split <;> omega
theorem chs_nn_all : ((List.range 61).all fun m => (List.range 62).all fun j => decide (0 ≤ chs (m : Int) (j : Int))) = true := by decide +kernel
theorem chs_nn {m : Nat} (hm : m ≤ 60) (k : Int) : 0 ≤ chs (m : Int) k := by
  by_cases h0 : k < 0
  · rw [chs_neg h0]
    exact Int.le_refl 0
  · by_cases h1 : k < 62
    · obtain ⟨j, rfl⟩ : ∃ j : Nat, k = (j : Int) := ⟨k.toNat, by omega⟩
      exact of_decide_eq_true (List.all_eq_true.mp (List.all_eq_true.mp chs_nn_all m (List.mem_range.mpr (by omega))) j (List.mem_range.mpr (by omega)))
    · rw [chs_big (by omega)]
      exact Int.le_refl 0
def cnt : List Bool → Nat
  | [] => 0
  | true :: b => cnt b + 1
  | false :: b => cnt b
def rk : List Bool → Int
  | [] => 0
  | true :: b => rk b
  | false :: b => chs (b.length : Int) ((cnt b : Int) - 1) + rk b
def bh : List Bool → Int
  | [] => 0
  | true :: b => chs (b.length : Int) ((cnt b : Int) + 1) + bh b
  | false :: b => bh b
def nots (b : List Bool) : List Bool := b.map (!·)
theorem cnt_le : ∀ b : List Bool, cnt b ≤ b.length
  | [] => Nat.le_refl _
  | true :: b => Nat.succ_le_succ (cnt_le b)
  | false :: b => Nat.le_succ_of_le (cnt_le b)
theorem cnt_nots : ∀ b : List Bool, cnt (nots b) + cnt b = b.length
  | [] => rfl
  | true :: b => by
    have h := cnt_nots b
    show cnt (nots b) + (cnt b + 1) = b.length + 1
    omega
  | false :: b => by
    have h := cnt_nots b
    show cnt (nots b) + 1 + cnt b = b.length + 1
    omega
theorem rk_bh : ∀ b : List Bool, b.length ≤ 60 → rk b + bh b + 1 = chs (b.length : Int) (cnt b : Int)
  | [], _ => by decide +kernel
  | true :: b, h => by
    have hl : b.length < 60 := h
    have ih := rk_bh b (by omega)
    have p := pas (m := b.length) (j := cnt b + 1) hl
    show rk b + (chs (b.length : Int) ((cnt b : Int) + 1) + bh b) + 1 = chs ((b.length + 1 : Nat) : Int) ((cnt b + 1 : Nat) : Int)
    rw [show ((b.length + 1 : Nat) : Int) = (b.length : Int) + 1 by omega, p, show ((cnt b + 1 : Nat) : Int) - 1 = (cnt b : Int) by omega, show ((cnt b + 1 : Nat) : Int) = (cnt b : Int) + 1 by omega, ← ih]
    omega
  | false :: b, h => by
    have hl : b.length < 60 := h
    have ih := rk_bh b (by omega)
    have p := pas (m := b.length) (j := cnt b) hl
    show chs (b.length : Int) ((cnt b : Int) - 1) + rk b + bh b + 1 = chs ((b.length + 1 : Nat) : Int) (cnt b : Int)
    rw [show ((b.length + 1 : Nat) : Int) = (b.length : Int) + 1 by omega, p, ← ih]
    omega
theorem rk_nn : ∀ b : List Bool, b.length ≤ 60 → 0 ≤ rk b
  | [], _ => Int.le_refl 0
  | true :: b, h => rk_nn b (by have z : b.length + 1 ≤ 60 := h; omega)
  | false :: b, h => by
    have z : b.length + 1 ≤ 60 := h
    exact Int.add_nonneg (chs_nn (by omega) _) (rk_nn b (by omega))
theorem bh_nn : ∀ b : List Bool, b.length ≤ 60 → 0 ≤ bh b
  | [], _ => Int.le_refl 0
  | false :: b, h => bh_nn b (by have z : b.length + 1 ≤ 60 := h; omega)
  | true :: b, h => by
    have z : b.length + 1 ≤ 60 := h
    exact Int.add_nonneg (chs_nn (by omega) _) (bh_nn b (by omega))
theorem rk_lt {b : List Bool} (h : b.length ≤ 60) : rk b < chs (b.length : Int) (cnt b : Int) := by
  have e := rk_bh b h
  have n := bh_nn b h
  omega
theorem rk_nots : ∀ b : List Bool, b.length ≤ 60 → rk (nots b) = bh b
  | [], _ => rfl
  | true :: b, h => by
    have z : b.length + 1 ≤ 60 := h
    have ih := rk_nots b (by omega)
    have c := cnt_nots b
    show chs ((nots b).length : Int) ((cnt (nots b) : Int) - 1) + rk (nots b) = chs (b.length : Int) ((cnt b : Int) + 1) + bh b
    rw [ih, show (nots b).length = b.length from List.length_map _]
    by_cases hc : cnt b = b.length
    · rw [chs_neg (by omega), chs_big (by omega)]
    · have s := chs_sym (n := (b.length : Int)) (k := (cnt b : Int) + 1) (by omega) (by have := cnt_le b; omega)
      rw [← s, show (b.length : Int) - ((cnt b : Int) + 1) = (cnt (nots b) : Int) - 1 by omega]
  | false :: b, h => by
    have z : b.length + 1 ≤ 60 := h
    exact rk_nots b (by omega)
/-! rising rows of hands -/
def Ris (n : Int) : Int → List Int → Prop
  | _, [] => True
  | h, x :: t => h ≤ x ∧ x < n ∧ Ris n (x + 1) t
theorem Ris.le {n : Int} : ∀ {l : List Int} {h h' : Int}, Ris n h l → h' ≤ h → Ris n h' l
  | [], _, _, _, _ => trivial
  | _ :: _, _, _, r, e => ⟨Int.le_trans e r.1, r.2⟩
def bts : Nat → Int → List Int → List Bool
  | 0, _, _ => []
  | m + 1, h, [] => false :: bts m (h + 1) []
  | m + 1, h, x :: t => if x = h then true :: bts m (h + 1) t else false :: bts m (h + 1) (x :: t)
theorem bts_cons (m : Nat) (h x : Int) (t : List Int) : bts (m + 1) h (x :: t) = if x = h then true :: bts m (h + 1) t else false :: bts m (h + 1) (x :: t) := rfl
theorem bts_len : ∀ (m : Nat) (h : Int) (l : List Int), (bts m h l).length = m
  | 0, _, _ => rfl
  | m + 1, h, [] => congrArg (· + 1) (bts_len m (h + 1) [])
  | m + 1, h, x :: t => by
    unfold bts
    split
    · exact congrArg (· + 1) (bts_len m (h + 1) t)
    · exact congrArg (· + 1) (bts_len m (h + 1) (x :: t))
theorem Ris.up {n h x : Int} {t : List Int} (r : Ris n h (x :: t)) (e : ¬ x = h) : Ris n (h + 1) (x :: t) := ⟨by have := r.1; omega, r.2⟩
theorem bts_cnt : ∀ (m : Nat) (h : Int) (l : List Int), Ris (h + m) h l → cnt (bts m h l) = l.length
  | 0, h, [], _ => rfl
  | 0, h, x :: t, r => by
    have := r.1
    have := r.2.1
    omega
  | m + 1, h, [], _ => bts_cnt m (h + 1) [] trivial
  | m + 1, h, x :: t, r => by
    have e1 : h + ((m + 1 : Nat) : Int) = h + 1 + (m : Int) := by omega
    rw [e1] at r
    unfold bts
    split
    · rename_i e
      subst e
      exact congrArg (· + 1) (bts_cnt m (x + 1) t r.2.2)
    · rename_i e
      exact bts_cnt m (h + 1) (x :: t) (r.up e)
/-- what number_of takes off -/
def bs (n : Int) : List Int → Int
  | [] => 0
  | x :: t => chs (n - x - 1) ((t.length : Int) + 1) + bs n t
theorem bs_bh : ∀ (m : Nat) (h : Int) (l : List Int), Ris (h + m) h l → bs (h + m) l = bh (bts m h l)
  | 0, h, [], _ => rfl
  | 0, h, x :: t, r => by
    have := r.1
    have := r.2.1
    omega
  | m + 1, h, [], _ => by
    have ih := bs_bh m (h + 1) [] trivial
    exact ih
  | m + 1, h, x :: t, r => by
    have e1 : h + ((m + 1 : Nat) : Int) = h + 1 + (m : Int) := by omega
    rw [e1] at r ⊢
    unfold bts
    split
    · rename_i e
      subst e
      have ih := bs_bh m (x + 1) t r.2.2
      have c := bts_cnt m (x + 1) t r.2.2
      show chs (x + 1 + (m : Int) - x - 1) ((t.length : Int) + 1) + bs (x + 1 + m) t = chs ((bts m (x + 1) t).length : Int) ((cnt (bts m (x + 1) t) : Int) + 1) + bh (bts m (x + 1) t)
      rw [ih, c, bts_len, show x + 1 + (m : Int) - x - 1 = (m : Int) by omega]
    · rename_i e
      exact bs_bh m (h + 1) (x :: t) (r.up e)
/-- the number of a lot of n hands -/
def num (n : Nat) (l : List Int) : Int := rk (bts n 0 l)
theorem num_is {n : Nat} {l : List Int} (hn : n ≤ 60) (r : Ris n 0 l) : chs n l.length - 1 - bs n l = num n l := by
  have r0 : Ris ((0 : Int) + n) 0 l := by
    rw [Int.zero_add]
    exact r
  have e := rk_bh (bts n 0 l) (by rw [bts_len]; exact hn)
  rw [bts_len, bts_cnt n 0 l r0, ← bs_bh n 0 l r0, Int.zero_add] at e
  unfold num
  omega
theorem num_nn {n : Nat} {l : List Int} (hn : n ≤ 60) : 0 ≤ num n l := rk_nn _ (by rw [bts_len]; exact hn)
theorem num_lt {n : Nat} {l : List Int} (hn : n ≤ 60) (r : Ris n 0 l) : num n l < chs n l.length := by
  have r0 : Ris ((0 : Int) + n) 0 l := by
    rw [Int.zero_add]
    exact r
  have e := rk_lt (b := bts n 0 l) (by rw [bts_len]; exact hn)
  rw [bts_len, bts_cnt n 0 l r0] at e
  exact e
/-- of two lots of a size the lesser tuple has the lesser number -/
theorem rk_lex : ∀ (m : Nat) (h : Int) (l k : List Int), m ≤ 60 → l.length = k.length → Ris (h + m) h l → Ris (h + m) h k → HT.lexLt l k = decide (rk (bts m h l) < rk (bts m h k)) ∧ (rk (bts m h l) = rk (bts m h k) → l = k)
  | 0, h, [], [], _, _, _, _ => ⟨rfl, fun _ => rfl⟩
  | 0, h, [], y :: u, _, e, _, _ => by cases e
  | 0, h, x :: t, k, _, _, r, _ => by
    have := r.1
    have := r.2.1
    omega
  | m + 1, h, [], [], _, _, _, _ => ⟨by rw [decide_eq_false (Int.lt_irrefl _)]; rfl, fun _ => rfl⟩
  | m + 1, h, [], y :: u, _, e, _, _ => by cases e
  | m + 1, h, x :: t, [], _, e, _, _ => by cases e
  | m + 1, h, x :: t, y :: u, hm, e, r, q => by
    have e1 : h + ((m + 1 : Nat) : Int) = h + 1 + (m : Int) := by omega
    rw [e1] at r q
    have el : t.length = u.length := Nat.succ.inj e
    by_cases hx : x = h
    · by_cases hy : y = h
      · subst hx
        subst hy
        have ih := rk_lex m (y + 1) t u (by omega) el r.2.2 q.2.2
        unfold bts
        rw [if_pos rfl, if_pos rfl, HT.lexLt_cons, if_pos rfl]
        refine ⟨ih.1, fun z => ?_⟩
        rw [ih.2 z]
      · subst hx
        have c1 := bts_cnt m (x + 1) t r.2.2
        have c2 := bts_cnt m (x + 1) (y :: u) (q.up hy)
        have l1 := rk_lt (b := bts m (x + 1) t) (by rw [bts_len]; omega)
        have n2 := rk_nn (bts m (x + 1) (y :: u)) (by rw [bts_len]; omega)
        have lt : rk (bts (m + 1) x (x :: t)) < rk (bts (m + 1) x (y :: u)) := by
          unfold bts
          rw [if_pos rfl, if_neg hy]
          show rk (bts m (x + 1) t) < chs ((bts m (x + 1) (y :: u)).length : Int) ((cnt (bts m (x + 1) (y :: u)) : Int) - 1) + rk (bts m (x + 1) (y :: u))
          rw [c2, bts_len]
          rw [c1, bts_len] at l1
          rw [show (((y :: u).length : Nat) : Int) - 1 = (t.length : Int) by rw [List.length_cons, ← el]; omega]
          omega
        refine ⟨?_, fun z => absurd z (by omega)⟩
        rw [decide_eq_true lt, HT.lexLt_cons, if_neg (fun z => hy z.symm)]
        exact decide_eq_true (by have := q.1; omega)
    · by_cases hy : y = h
      · subst hy
        have c1 := bts_cnt m (y + 1) u q.2.2
        have c2 := bts_cnt m (y + 1) (x :: t) (r.up hx)
        have l1 := rk_lt (b := bts m (y + 1) u) (by rw [bts_len]; omega)
        have n2 := rk_nn (bts m (y + 1) (x :: t)) (by rw [bts_len]; omega)
        have lt : rk (bts (m + 1) y (y :: u)) < rk (bts (m + 1) y (x :: t)) := by
          unfold bts
          rw [if_pos rfl, if_neg hx]
          show rk (bts m (y + 1) u) < chs ((bts m (y + 1) (x :: t)).length : Int) ((cnt (bts m (y + 1) (x :: t)) : Int) - 1) + rk (bts m (y + 1) (x :: t))
          rw [c2, bts_len]
          rw [c1, bts_len] at l1
          rw [show (((x :: t).length : Nat) : Int) - 1 = (u.length : Int) by rw [List.length_cons, el]; omega]
          omega
        refine ⟨?_, fun z => absurd z (by omega)⟩
        rw [decide_eq_false (by omega), HT.lexLt_cons, if_neg hx]
        exact decide_eq_false (by have := r.1; omega)
      · have ih := rk_lex m (h + 1) (x :: t) (y :: u) (by omega) e (r.up hx) (q.up hy)
        have c1 := bts_cnt m (h + 1) (x :: t) (r.up hx)
        have c2 := bts_cnt m (h + 1) (y :: u) (q.up hy)
        have e3 : ∀ a b : Int, decide (chs ((bts m (h + 1) (x :: t)).length : Int) ((cnt (bts m (h + 1) (x :: t)) : Int) - 1) + a < chs ((bts m (h + 1) (y :: u)).length : Int) ((cnt (bts m (h + 1) (y :: u)) : Int) - 1) + b) = decide (a < b) := fun a b => by
          rw [c1, c2, bts_len, bts_len, e]
          exact decide_eq_decide.mpr ⟨by omega, by omega⟩
        unfold bts
        rw [if_neg hx, if_neg hy]
        refine ⟨ih.1.trans (e3 _ _).symm, fun z => ih.2 ?_⟩
        have z2 : chs ((bts m (h + 1) (x :: t)).length : Int) ((cnt (bts m (h + 1) (x :: t)) : Int) - 1) + rk (bts m (h + 1) (x :: t)) = chs ((bts m (h + 1) (y :: u)).length : Int) ((cnt (bts m (h + 1) (y :: u)) : Int) - 1) + rk (bts m (h + 1) (y :: u)) := z
        rw [c1, c2, bts_len, bts_len, e] at z2
        omega
theorem num_lex {n : Nat} {l k : List Int} (hn : n ≤ 60) (e : l.length = k.length) (r : Ris n 0 l) (q : Ris n 0 k) : HT.lexLt l k = decide (num n l < num n k) := by
  have z : (0 : Int) + n = n := Int.zero_add _
  exact (rk_lex n 0 l k hn e (z.symm ▸ r) (z.symm ▸ q)).1
theorem num_inj {n : Nat} {l k : List Int} (hn : n ≤ 60) (e : l.length = k.length) (r : Ris n 0 l) (q : Ris n 0 k) (h : num n l = num n k) : l = k := by
  have z : (0 : Int) + n = n := Int.zero_add _
  exact (rk_lex n 0 l k hn e (z.symm ▸ r) (z.symm ▸ q)).2 h
/-- the hands left out -/
def rst : Nat → Int → List Int → List Int
  | 0, _, _ => []
  | m + 1, h, [] => h :: rst m (h + 1) []
  | m + 1, h, x :: t => if x = h then rst m (h + 1) t else h :: rst m (h + 1) (x :: t)
theorem rst_ris : ∀ (m : Nat) (h : Int) (l : List Int), Ris (h + m) h (rst m h l)
  | 0, _, _ => trivial
  | m + 1, h, [] => by
    have ih := rst_ris m (h + 1) []
    rw [show h + ((m + 1 : Nat) : Int) = h + 1 + (m : Int) by omega]
    exact ⟨Int.le_refl _, by omega, ih⟩
  | m + 1, h, x :: t => by
    rw [show h + ((m + 1 : Nat) : Int) = h + 1 + (m : Int) by omega]
    unfold rst
    split
    · exact (rst_ris m (h + 1) t).le (by omega)
    · exact ⟨Int.le_refl _, by omega, rst_ris m (h + 1) (x :: t)⟩
theorem bts_skip (m : Nat) (h : Int) (l : List Int) (r : Ris (h + 1 + m) (h + 1) l) : bts (m + 1) h l = false :: bts m (h + 1) l := by
  cases l with
  | nil => rfl
  | cons y u =>
    rw [bts_cons, if_neg (by have := r.1; omega)]
theorem bts_rst : ∀ (m : Nat) (h : Int) (l : List Int), bts m h (rst m h l) = nots (bts m h l)
  | 0, _, _ => rfl
  | m + 1, h, [] => by
    have ih := bts_rst m (h + 1) []
    unfold rst
    show (if h = h then true :: bts m (h + 1) (rst m (h + 1) []) else _) = true :: nots (bts m (h + 1) [])
    rw [if_pos rfl, ih]
  | m + 1, h, x :: t => by
    unfold rst
    by_cases e : x = h
    · rw [if_pos e, bts_skip m h _ (rst_ris m (h + 1) t), bts_rst m (h + 1) t]
      rw [show bts (m + 1) h (x :: t) = true :: bts m (h + 1) t from by rw [bts_cons, if_pos e]]
      rfl
    · rw [if_neg e, show bts (m + 1) h (x :: t) = false :: bts m (h + 1) (x :: t) from by rw [bts_cons, if_neg e]]
      show (if h = h then true :: bts m (h + 1) (rst m (h + 1) (x :: t)) else _) = true :: nots (bts m (h + 1) (x :: t))
      rw [if_pos rfl, bts_rst m (h + 1) (x :: t)]
theorem num_rst {n : Nat} {l : List Int} (hn : n ≤ 60) (r : Ris n 0 l) : num n (rst n 0 l) = chs n l.length - 1 - num n l := by
  have r0 : Ris ((0 : Int) + n) 0 l := by
    rw [Int.zero_add]
    exact r
  have e := rk_bh (bts n 0 l) (by rw [bts_len]; exact hn)
  rw [bts_len, bts_cnt n 0 l r0] at e
  unfold num
  rw [bts_rst, rk_nots _ (by rw [bts_len]; exact hn)]
  omega
theorem rst_len {n : Nat} {l : List Int} (r : Ris n 0 l) : (rst n 0 l).length + l.length = n := by
  have r0 : Ris ((0 : Int) + n) 0 l := by
    rw [Int.zero_add]
    exact r
  have c := cnt_nots (bts n 0 l)
  rw [← bts_rst, bts_cnt n 0 _ (rst_ris n 0 l), bts_cnt n 0 l r0, bts_len] at c
  exact c
/-- a rising row of hands, gone through hand by hand: those that aren't in it -/
theorem rst_filter : ∀ (m : Nat) (h : Int) (l : List Int), Ris (h + m) h l → rst m h l = ((List.range m).map fun (i : Nat) => h + (i : Int)).filter fun x => !l.contains x
  | 0, _, _, _ => rfl
  | m + 1, h, l, r => by
    have hshift : ((List.range (m + 1)).map fun (i : Nat) => h + (i : Int)) = h :: ((List.range m).map fun (i : Nat) => h + 1 + (i : Int)) := by
      rw [List.range_succ_eq_map, List.map_cons, List.map_map]
      congr 1
      · omega
      · apply List.map_congr_left
        intro i _
        show h + ((i + 1 : Nat) : Int) = h + 1 + (i : Int)
        omega
    rw [hshift]
    have e1 : h + ((m + 1 : Nat) : Int) = h + 1 + (m : Int) := by omega
    rw [e1] at r
    cases l with
    | nil =>
      have ih := rst_filter m (h + 1) [] trivial
      rw [List.filter_cons, if_pos (show (!([] : List Int).contains h) = true from rfl), ← ih]
      rfl
    | cons x t =>
      unfold rst
      by_cases e : x = h
      · subst e
        have ih := rst_filter m (x + 1) t r.2.2
        rw [if_pos rfl, List.filter_cons, if_neg (by simp), ih]
        apply List.filter_congr
        intro y hy
        obtain ⟨i, _, rfl⟩ := List.mem_map.mp hy
        have ne : ¬ (x + 1 + (i : Int) = x) := by omega
        simp [ne]
      · have ih := rst_filter m (h + 1) (x :: t) (r.up e)
        have nin : (x :: t).contains h = false := by
          have : ∀ (k : List Int) (b : Int), Ris (h + 1 + m) b k → h < b → k.contains h = false := by
            intro k
            induction k with
            | nil => intros; rfl
            | cons z u ih2 =>
              intro b rz hb
              rw [List.contains_cons, ih2 (z + 1) rz.2.2 (by have := rz.1; omega)]
              have : ¬ h = z := by have := rz.1; omega
              simp [this]
          exact this _ _ (r.up e) (by omega)
        rw [if_neg e, List.filter_cons, if_pos (by rw [nin]; rfl), ih]

/-! ### the law's draws -/
def spTake : Sp := fun vs H Q _ => ∃ (a : Addr) (n : Int) (b : Nat), vs = [.ref a, .int n] ∧ PotAt H a b ∧ 0 < n ∧ n < 2 ^ 64 ∧ b < 1000000 ∧
  ∀ v H', 0 ≤ v → v < n → PotAt H' a (b + 1) → SameB a H H' → Q (.int v) H'
theorem ok_take {f : Addr} {fd : FuncData} (F : Fun K "_law_take" "_law_take" s__law_take f fd) (T : Txt K mg) : FnOk P w K mg base CX0 1 f fd ["_law_pot_here", "_law_size"] spTake := by
  refine F.ok sc__law_take (fun vs H Q E h => ?_) (fun cdv A outer s H vs Q E hr h => ?_)
  · obtain ⟨a, n, b, rfl, _⟩ := h
    rfl
  · obtain ⟨a, n, b, rfl, ⟨g, s, c, h0, hg, hs, hs2, hc, hcb, hb⟩, hn, hn2, hb2, q⟩ := h
    have hL := SqL.of (K := K) h0
    refine ⟨_, (pss_cons (ps_if (pt_cmpR op_gt (pe_ix (k_ixL K) (pv 0) pe_int (fun _ _ => rfl)) pe_int (nomark _))
 (pss_cons (ps_set (i := 2) sc__law_take.nd rfl (by first | exact Or.inl rfl | exact Or.inr rfl) (pe_op op_mod (pe_ix (k_ixL K) (pv 0) pe_int (fun _ _ => rfl)) (pv 1)))
 (pss_cons (ps_asg (pe_op op_fdivW (pe_ix (k_ixL K) (pv 0) pe_int (fun _ _ => rfl)) (pv 1)) (pg_sub (pv 0) pe_int set_list))
 (pss_one (ps_ret (pv 2)))))
 pss_nil)
 (pss_cons (ps_asg (pe_op op_add (pe_ix (k_ixL K) (pv 0) pe_int (fun _ _ => rfl)) pe_int) (pg_sub (pv 0) pe_int set_list))
 (pss_cons (ps_set (i := 3) sc__law_take.nd rfl (by first | exact Or.inl rfl | exact Or.inr rfl) (pe_op op_add (pe_ix (k_ixL K) (pv 0) pe_int (fun _ _ => rfl)) (pe_op op_mulW pe_int (pe_ix (k_ixL K) (pv 0) pe_int (fun _ _ => rfl)))))
 (pss_cons (ps_set (i := 4) sc__law_take.nd rfl (by first | exact Or.inl rfl | exact Or.inr rfl) (pe_op op_add (pe_op op_add (pe_op op_mod (pe_ix (k_ixL K) (pv 0) pe_int (fun _ _ => rfl)) pe_int) (pe_op op_mulW pe_int (pe_ix (k_ixL K) (pv 0) pe_int (fun _ _ => rfl)))) pe_int))
 (pss_cons (ps_set (i := 5) sc__law_take.nd rfl (by first | exact Or.inl rfl | exact Or.inr rfl) (pe_op op_mod (pe_op op_mulW (pv 3) (pv 4)) pe_int))
 (pss_cons (ps_set (i := 6) sc__law_take.nd rfl (by first | exact Or.inl rfl | exact Or.inr rfl) (pe_op op_add (pe_op op_add (pe_op op_mod (pv 5) pe_int) (pe_op op_mulW pe_int (pe_ix (k_ixL K) (pv 0) pe_int (fun _ _ => rfl)))) pe_int))
 (pss_one (ps_ret (pe_op op_mod (pe_op op_fdivW (pe_op op_mod (pe_op op_mulW (pe_op op_add (pv 5) pe_int) (pv 6)) pe_int) pe_int) (pv 1)))))))))), ?_⟩
    refine ⟨_, rfl, a, _, 0, .int g, rfl, rfl, hL, atI_nat (j := 0) rfl, _, _, rfl, rfl, _, rfl, ite2 (fun e => ?_) (fun e => ?_)⟩
    · refine ⟨_, rfl, a, _, 0, .int g, rfl, rfl, hL, atI_nat (j := 0) rfl, _, rfl, _, _, rfl, rfl, hn, ?_⟩
      refine ⟨_, rfl, a, _, 0, .int g, rfl, rfl, hL, atI_nat (j := 0) rfl, _, rfl, _, _, rfl, rfl, wide_div (b := 64) hn (by omega) (by decide) (by decide), ?_⟩
      refine ⟨_, rfl, a, _, 0, 0, rfl, rfl, h0, rfl, ?_⟩
      refine ⟨_, rfl, q _ _ (Int.emod_nonneg _ (by omega)) (Int.emod_lt_of_pos _ hn) ?_ SameB.upd⟩
      exact ⟨g / n, s, c, upd_same, Int.ediv_nonneg hg (by omega), hs, hs2, hc, by omega, by omega⟩
    · refine ⟨_, rfl, a, _, 2, .int c, rfl, rfl, hL, atI_nat (j := 2) rfl, _, _, rfl, rfl, ?_⟩
      refine ⟨_, rfl, a, _, 2, 2, rfl, rfl, h0, rfl, ?_⟩
      have h1 : (upd H a (.lst [.int g, .int s, .int (c + 1)])) a = some (.lst [.int g, .int s, .int (c + 1)]) := upd_same
      have hM := SqL.of (K := K) h1
      refine ⟨_, rfl, a, _, 1, .int s, rfl, rfl, hM, atI_nat (j := 1) rfl, _, rfl, a, _, 2, .int (c + 1), rfl, rfl, hM, atI_nat (j := 2) rfl, _, _, rfl, rfl, wide_mul (a := 24) (b := 21) (by decide) (by omega) (by decide) (by decide) (by decide), _, _, rfl, rfl, ?_⟩
      refine ⟨_, rfl, a, _, 1, .int s, rfl, rfl, hM, atI_nat (j := 1) rfl, _, _, rfl, rfl, (by show (0 : Int) < 7919; decide), _, rfl, a, _, 2, .int (c + 1), rfl, rfl, hM, atI_nat (j := 2) rfl, _, _, rfl, rfl, wide_mul (a := 25) (b := 21) (by decide) (by omega) (by decide) (by decide) (by decide), _, _, rfl, rfl, _, _, rfl, rfl, ?_⟩
      refine ⟨_, rfl, _, rfl, _, _, rfl, rfl, wide_mul (a := 62) (b := 47) (by omega) (by omega) (by decide) (by decide) (by decide), _, _, rfl, rfl, (by show (0 : Int) < 2305843009213693951; decide), ?_⟩
      generalize hm : (s + 15485863 * (c + 1)) * (s % 7919 + 32452867 * (c + 1) + 17) % 2305843009213693951 = m
      have m0 : 0 ≤ m := by
        rw [← hm]
        exact Int.emod_nonneg _ (by decide)
      have m1 : m < 2305843009213693951 := by
        rw [← hm]
        exact Int.emod_lt_of_pos _ (by decide)
      refine ⟨_, rfl, _, _, rfl, rfl, (by show (0 : Int) < 1000003; decide), _, rfl, a, _, 2, .int (c + 1), rfl, rfl, hM, atI_nat (j := 2) rfl, _, _, rfl, rfl, wide_mul (a := 24) (b := 21) (by decide) (by omega) (by decide) (by decide) (by decide), _, _, rfl, rfl, _, _, rfl, rfl, ?_⟩
      refine ⟨_, rfl, _, _, rfl, rfl, _, rfl, _, _, rfl, rfl, wide_mul (a := 62) (b := 47) (by omega) (by omega) (by decide) (by decide) (by decide), _, _, rfl, rfl, (by show (0 : Int) < 2305843009213693907; decide), _, _, rfl, rfl, wide_div (b := 64) (by decide) (by decide) (by decide) (by decide), _, rfl, _, _, rfl, rfl, hn, ?_⟩
      refine q _ _ (Int.emod_nonneg _ (by omega)) (Int.emod_lt_of_pos _ hn) ?_ SameB.upd
      exact ⟨g, s, c + 1, h1, hg, hs, hs2, by omega, by omega, by omega⟩

/-! ### the pot made -/
theorem pw_pos : (0 : Int) < ((10 : Int) ^ (60 : Int).toNat) ^ (4 : Int).toNat := by decide +kernel
theorem pw_ok : CPowW ((10 : Int) ^ (60 : Int).toNat) 4 := by
  refine ⟨by decide, ?_⟩
  decide +kernel
def spPot (K : PySem.W.Frag) : Sp := fun vs H Q _ => ∃ (a : Addr) (j : Int) (ns : List Int), vs = [.ref a, .int j] ∧ SqL K H a (ns.map V.int) ∧ 0 ≤ j ∧ j ≤ 1000 ∧
  ∀ p H', H p = none → Same H H' → PotAt H' p 0 → Q (.ref p) H'
theorem pot_fin {H : Hp} {p : Addr} {g s : Int} (hg : 0 ≤ g) : PotAt (upd H p (.lst [.int g, .int (s % 2305843009213693921), .int 0])) p 0 :=
  ⟨g, _, 0, upd_same, hg, Int.emod_nonneg _ (by decide), Int.lt_of_lt_of_le (Int.emod_lt_of_pos _ (by decide)) (by decide), by decide, by decide, by decide⟩
theorem ok_pot {f : Addr} {fd : FuncData} (F : Fun K "_law_pot" "_law_pot" s__law_pot f fd) (T : Txt K mg) : FnOk P w K mg base CX0 1 f fd ["_law_script", "_law_k"] (spPot K) := by
  refine F.ok sc__law_pot (fun vs H Q E h => ?_) (fun cdv A outer s H vs Q E hr h => ?_)
  · obtain ⟨a, j, ns, rfl, _⟩ := h
    rfl
  · obtain ⟨a, j, ns, rfl, hS, hj, hj2, q⟩ := h
    refine ⟨_, (pss_cons (ps_set (i := 2) sc__law_pot.nd rfl (by first | exact Or.inl rfl | exact Or.inr rfl) (pe_ifExp (pt_cmpR op_lt (pv 1) (pe_callB (k_len K) (by rfl) T.z_len (by decide +kernel) (pa_cons (pv 0) pa_nil)) (nomark _)) (pe_ix (k_ixL K) (pv 0) (pv 1) (fun _ _ => rfl)) pe_int))
 (pss_cons (ps_set (i := 3) sc__law_pot.nd rfl (by first | exact Or.inl rfl | exact Or.inr rfl) (pe_ifExp (pt_cmpR op_ge (pe_callB call_abs (by rfl) T.z_abs (by decide +kernel) (pa_cons (pv 2) pa_nil)) (pe_op op_pow pe_int pe_int) (nomark _)) (pe_op op_mod (pe_callB call_abs (by rfl) T.z_abs (by decide +kernel) (pa_cons (pv 2) pa_nil)) (pe_op op_powW (pe_op op_pow pe_int pe_int) pe_int)) pe_int))
 (pss_one (ps_ret (pe_lst (pa_cons (pv 3) (pa_cons (pe_op op_mod (pe_op op_add (pe_op op_add (pe_op op_mulW (pe_op op_mod (pv 2) pe_int) pe_int) (pe_op op_mulW (pe_op op_mulW pe_int (pv 1)) (pv 1))) pe_int) pe_int) (pa_cons pe_int pa_nil)))))))), ?_⟩
    refine ⟨_, rfl, _, rfl, a, _, rfl, .inl hS, _, _, rfl, rfl, _, rfl, ?_⟩
    refine ite2 (fun e => ?_) (fun e => ?_)
    · have hl : j < ((ns.map V.int).length : Int) := of_decide_eq_true e
      rw [List.length_map] at hl
      obtain ⟨m, rfl⟩ : ∃ m : Nat, j = (m : Int) := ⟨j.toNat, by omega⟩
      have hm : m < ns.length := by omega
      have g1 : (ns.map V.int)[m]? = some (.int ns[m]) := by
        rw [List.getElem?_map, List.getElem?_eq_getElem hm]
        rfl
      refine ⟨_, rfl, _, rfl, a, _, (m : Int), .int ns[m], rfl, rfl, hS, atI_nat g1, ?_⟩
      generalize ns[m] = c
      refine ⟨_, rfl, _, rfl, _, _, rfl, rfl, ⟨by decide, by decide, by decide⟩, _, _, rfl, rfl, _, rfl, ite2 (fun e2 => ?_) (fun e2 => ?_)⟩
      · refine ⟨_, rfl, _, rfl, _, _, rfl, rfl, ⟨by decide, by decide, by decide⟩, _, _, rfl, rfl, pw_ok, _, _, rfl, rfl, pw_pos, ?_⟩
        refine ⟨_, rfl, _, rfl, _, _, rfl, rfl, (by show (0 : Int) < 2305843009213693951; decide), _, _, rfl, rfl, wide_mul (a := 64) (b := 21) (by omega) (by decide) (by decide) (by decide) (by decide), _, rfl, _, _, rfl, rfl, wide_mul (a := 21) (b := 21) (by decide) (by omega) (by decide) (by decide) (by decide), _, rfl, _, _, rfl, rfl, wide_mul (a := 64) (b := 21) (by omega) (by omega) (by decide) (by decide) (by decide), _, _, rfl, rfl, _, _, rfl, rfl, _, _, rfl, rfl, (by show (0 : Int) < 2305843009213693921; decide), (by show 3 ≤ sizeLine; decide), fun p hp => q p _ hp (same_upd hp) (pot_fin (Int.emod_nonneg _ (Int.ne_of_gt pw_pos)))⟩
      · refine ⟨_, rfl, _, rfl, _, _, rfl, rfl, (by show (0 : Int) < 2305843009213693951; decide), _, _, rfl, rfl, wide_mul (a := 64) (b := 21) (by omega) (by decide) (by decide) (by decide) (by decide), _, rfl, _, _, rfl, rfl, wide_mul (a := 21) (b := 21) (by decide) (by omega) (by decide) (by decide) (by decide), _, rfl, _, _, rfl, rfl, wide_mul (a := 64) (b := 21) (by omega) (by omega) (by decide) (by decide) (by decide), _, _, rfl, rfl, _, _, rfl, rfl, _, _, rfl, rfl, (by show (0 : Int) < 2305843009213693921; decide), (by show 3 ≤ sizeLine; decide), fun p hp => q p _ hp (same_upd hp) (pot_fin (Int.le_refl 0))⟩
    · refine ⟨_, rfl, _, rfl, _, _, rfl, rfl, ⟨by decide, by decide, by decide⟩, _, _, rfl, rfl, _, rfl, ite2 (fun e2 => ?_) (fun e2 => ?_)⟩
      · exact absurd e2 (by decide)
      · refine ⟨_, rfl, _, rfl, _, _, rfl, rfl, (by show (0 : Int) < 2305843009213693951; decide), _, _, rfl, rfl, wide_mul (a := 64) (b := 21) (by omega) (by decide) (by decide) (by decide) (by decide), _, rfl, _, _, rfl, rfl, wide_mul (a := 21) (b := 21) (by decide) (by omega) (by decide) (by decide) (by decide), _, rfl, _, _, rfl, rfl, wide_mul (a := 64) (b := 21) (by omega) (by omega) (by decide) (by decide) (by decide), _, _, rfl, rfl, _, _, rfl, rfl, _, _, rfl, rfl, (by show (0 : Int) < 2305843009213693921; decide), (by show 3 ≤ sizeLine; decide), fun p hp => q p _ hp (same_upd hp) (pot_fin (Int.le_refl 0))⟩

/-! ### is_whole, is_below -/
def wholeV : V → Bool
  | .int _ => true
  | _ => false
def boolV : V → Bool
  | .bl _ => true
  | _ => false
def belowV (b : Int) : V → Bool
  | .int i => decide (0 ≤ i) && decide (i < b)
  | _ => false
/-- its kind is known, and whether it is an int, a bool -/
def Kd (K : PySem.W.Frag) (H : Hp) (v : V) : Prop := ∃ n : String, TyX K H v (.type n) ∧ kitB n "int" = some (wholeV v || boolV v) ∧ kitB n "bool" = some (boolV v)
theorem kd_int {K : PySem.W.Frag} {H : Hp} (i : Int) : Kd K H (.int i) := ⟨"int", .base (.int i), by show kitB "int" "int" = some true; decide +kernel, by show kitB "int" "bool" = some false; decide +kernel⟩
theorem kd_bl {K : PySem.W.Frag} {H : Hp} (b : Bool) : Kd K H (.bl b) := ⟨"bool", .base (.bl b), by show kitB "bool" "int" = some true; decide +kernel, by show kitB "bool" "bool" = some true; decide +kernel⟩
theorem kd_non {K : PySem.W.Frag} {H : Hp} : Kd K H .non := ⟨"NoneType", .base .non, by decide +kernel, by decide +kernel⟩
theorem kd_str {K : PySem.W.Frag} {H : Hp} (x : Str) : Kd K H (.str x) := ⟨"str", .base (.str x), by show kitB "str" "int" = some false; decide +kernel, by show kitB "str" "bool" = some false; decide +kernel⟩
theorem kd_lst {K : PySem.W.Frag} {H : Hp} {a : Addr} {xs : List V} (e : H a = some (.lst xs)) : Kd K H (.ref a) := ⟨"list", .base (.lst e), by show kitB "list" "int" = some false; decide +kernel, by show kitB "list" "bool" = some false; decide +kernel⟩
theorem kd_tup {K : PySem.W.Frag} {H : Hp} {a : Addr} {xs : List V} (e : H a = some (.tup xs)) : Kd K H (.ref a) := ⟨"tuple", .base (.tup e), by show kitB "tuple" "int" = some false; decide +kernel, by show kitB "tuple" "bool" = some false; decide +kernel⟩
theorem kd_dK {K : PySem.W.Frag} {H : Hp} {a : Addr} {xs : List (Key × V)} (e : H a = some (.dK xs)) : Kd K H (.ref a) := ⟨"dict", .base (.dK e), by show kitB "dict" "int" = some false; decide +kernel, by show kitB "dict" "bool" = some false; decide +kernel⟩
def spWhole (K : PySem.W.Frag) : Sp := fun vs H Q _ => ∃ v, vs = [v] ∧ Kd K H v ∧ Q (.bl (wholeV v)) H
theorem ok_is_whole {f : Addr} {fd : FuncData} (F : Fun K "is_whole" "is_whole" s_is_whole f fd) (T : Txt K mg) : FnOk P w K mg base CX0 1 f fd ["thing"] (spWhole K) := by
  refine F.ok sc_is_whole (fun vs H Q E h => ?_) (fun cdv A outer s H vs Q E hr h => ?_)
  · obtain ⟨v, rfl, _⟩ := h
    rfl
  · obtain ⟨v, rfl, ⟨n, ty, k1, k2⟩, q⟩ := h
    refine ⟨_, (pss_one (ps_ret (pe_and (pe_callB (k_isi K) (by rfl) T.z_isinstance (by decide +kernel) (pa_cons (pv 0) (pa_cons (pe_bltn (v := .ty "int") (by rfl) T.z_int (by decide +kernel) rfl) pa_nil))) (pe_one (pe_not (pe_callB (k_isi K) (by rfl) T.z_isinstance (by decide +kernel) (pa_cons (pv 0) (pa_cons (pe_bltn (v := .ty "bool") (by rfl) T.z_bool (by decide +kernel) rfl) pa_nil)))))))), ?_⟩
    refine ⟨_, rfl, _, _, _, _, _, rfl, .ty _, ty, kit_ty k1, _, rfl, ?_⟩
    cases hw : wholeV v || boolV v with
    | false =>
      refine iteF ?_
      have : wholeV v = false := by
        cases h1 : wholeV v with
        | false => rfl
        | true =>
          rw [h1] at hw
          cases hw
      rw [this] at q
      exact q
    | true =>
      refine iteT ?_
      refine ⟨_, rfl, _, _, _, _, _, rfl, .ty _, ty, kit_ty k2, _, rfl, ?_⟩
      have : wholeV v = !boolV v := by
        cases v <;> first | rfl | cases hw
      rw [← this]
      exact q
def spBelow (K : PySem.W.Frag) : Sp := fun vs H Q _ => ∃ b v, vs = [.int b, v] ∧ Kd K H v ∧ Q (.bl (belowV b v)) H
theorem ok_is_below {f : Addr} {fd : FuncData} (F : Fun K "is_below" "is_below" s_is_below f fd) (T : Txt K mg) : FnOk P w K mg base CX0 2 f fd ["bound", "thing"] (spBelow K) := by
  obtain ⟨fW, fdW, D_is_whole⟩ := T.d_is_whole
  have G_is_whole : FnOk P w K mg base CX0 1 fW fdW _ _ := ok_is_whole D_is_whole.F T
  refine F.ok sc_is_below (fun vs H Q E h => ?_) (fun cdv A outer s H vs Q E hr h => ?_)
  · obtain ⟨b, v, rfl, _⟩ := h
    rfl
  · obtain ⟨b, v, rfl, kd, q⟩ := h
    refine ⟨_, (pss_one (ps_ret (pe_and (pe_call G_is_whole (hr.mono (by decide)) (by rfl) D_is_whole.g D_is_whole.F.kp D_is_whole.b .nil pass0 (pa_cons (pv 1) pa_nil)) (pe_one (pe_chain op_le op_lt pe_int (pv 1) (pv 0)))))), ?_⟩
    refine ⟨_, rfl, v, rfl, kd, _, rfl, ?_⟩
    cases v with
    | int i =>
      refine iteT ?_
      refine ⟨_, rfl, _, _, rfl, rfl, _, rfl, ite2 (fun e => ?_) (fun e => ?_)⟩
      · refine ⟨_, rfl, _, _, rfl, rfl, ?_⟩
        have e1 : belowV b (.int i) = decide (i < b) := by
          show (decide (0 ≤ i) && decide (i < b)) = decide (i < b)
          rw [e]
          rfl
        rw [e1] at q
        exact q
      · have e1 : belowV b (.int i) = false := by
          show (decide (0 ≤ i) && decide (i < b)) = false
          rw [show decide (0 ≤ i) = false from Bool.eq_false_iff.mpr e]
          rfl
        rw [e1] at q
        exact q
    | _ => exact iteF q

/-! ### number_of -/
def spNumber (K : PySem.W.Frag) : Sp := fun vs H Q _ => ∃ (n : Nat) (a : Addr) (l : List Int), vs = [.int n, .ref a] ∧ SqT K H a (l.map V.int) ∧ n ≤ 60 ∧ Ris n 0 l ∧ ∀ H', Same H H' → Q (.int (num n l)) H'
theorem Ris.at {n : Int} : ∀ {l : List Int} {h : Int} {i : Nat} {x : Int}, Ris n h l → l[i]? = some x → h ≤ x ∧ x < n
  | y :: t, h, 0, x, r, e => by
    cases e
    exact ⟨r.1, r.2.1⟩
  | y :: t, h, i + 1, x, r, e => by
    have z := Ris.at (i := i) r.2.2 e
    have := r.1
    exact ⟨by omega, z.2⟩
theorem Ris.len {n : Int} : ∀ {l : List Int} {h : Int}, Ris n h l → h ≤ n → (l.length : Int) ≤ n - h
  | [], h, _, e => by
    show (0 : Int) ≤ n - h
    omega
  | x :: t, h, r, _ => by
    have z := Ris.len r.2.2 (by have := r.2.1; omega)
    have := r.1
    show ((t.length + 1 : Nat) : Int) ≤ n - h
    omega
theorem bs_sum (n : Int) (l : List Int) : ∀ (m : Nat), m ≤ l.length → bs n l = ((List.range m).map fun i => chs (n - l.getD i 0 - 1) ((l.length : Int) - (i : Int))).sum + bs n (l.drop m) := by
  intro m
  induction m with
  | zero => intro _; simp
  | succ m ih =>
    intro h
    rw [ih (by omega), range_map_succ, List.sum_append, List.sum_singleton, Int.add_assoc]
    congr 1
    have hd : l.drop m = l.getD m 0 :: l.drop (m + 1) := by
      rw [List.drop_eq_getElem_cons (by omega), List.getD_eq_getElem?_getD, List.getElem?_eq_getElem (by omega)]
      rfl
    rw [hd]
    show chs (n - l.getD m 0 - 1) (((l.drop (m + 1)).length : Int) + 1) + bs n (l.drop (m + 1)) = _
    rw [List.length_drop, show ((l.length - (m + 1) : Nat) : Int) + 1 = (l.length : Int) - (m : Int) by omega]
theorem ok_number_of {f : Addr} {fd : FuncData} (F : Fun K "number_of" "number_of" s_number_of f fd) (T : Txt K mg) : FnOk P w K mg base CX0 2 f fd ["hands", "lot"] (spNumber K) := by
  obtain ⟨fC, fdC, D_choose⟩ := T.d_choose
  have G_choose : FnOk P w K mg base CX0 1 fC fdC _ _ := ok_choose D_choose.F T
  refine F.ok sc_number_of (fun vs H Q E h => ?_) (fun cdv A outer s H vs Q E hr h => ?_)
  · obtain ⟨n, a, l, rfl, _⟩ := h
    rfl
  · obtain ⟨n, a, l, rfl, hS, hn, r, q⟩ := h
    have hl := r.len (by omega)
    refine ⟨_, (pss_cons (ps_set (i := 2) sc_number_of.nd rfl (by first | exact Or.inl rfl | exact Or.inr rfl) (pe_callB (k_len K) (by rfl) T.z_len (by decide +kernel) (pa_cons (pv 1) pa_nil)))
 (pss_cons (ps_set (i := 3) sc_number_of.nd rfl (by first | exact Or.inl rfl | exact Or.inr rfl) (pe_callB (k_sum K rfl) (by rfl) T.z_sum (by decide +kernel) (pa_cons (pe_lc (own := [("place", 4), ("hand", 5)]) (g := gTup K 2 (gCons (gName 4) (gCons (gName 5) gNil))) (tt := tYes) rfl sc_number_of.nd (pi_enumT K (by rfl) T.z_enumerate (pa_cons (pv 1) pa_nil)) (blkOk_by (own := [("place", 4), ("hand", 5)]) (N := ["hands", "lot", "size", "behind", "place", "hand"]) (sc := defScope s_number_of) (by decide +kernel)) (fun _ _ _ _ _ => k_pgT K rfl (pgs_cons (pg_name (i := 4) sc_number_of.nd rfl (by first | exact Or.inl rfl | exact Or.inr rfl)) (pgs_cons (pg_name (i := 5) sc_number_of.nd rfl (by first | exact Or.inl rfl | exact Or.inr rfl)) pgs_nil))) (fun _ _ _ _ _ => pts_nil) (fun _ _ _ _ _ => (pe_call G_choose (hr.mono (by decide)) (by rfl) D_choose.g D_choose.F.kp D_choose.b .nil pass0 (pa_cons (pe_op op_sub (pe_op op_sub (pv 0) (pv 5)) pe_int) (pa_cons (pe_op op_sub (pv 2) (pv 4)) pa_nil))))) pa_nil)))
 (pss_one (ps_ret (pe_op op_sub (pe_op op_sub (pe_call G_choose (hr.mono (by decide)) (by rfl) D_choose.g D_choose.F.kp D_choose.b .nil pass0 (pa_cons (pv 0) (pa_cons (pv 2) pa_nil))) pe_int) (pv 3)))))), ?_⟩
    refine ⟨_, rfl, a, _, rfl, .inr hS, ?_⟩
    rw [List.length_map]
    refine ⟨_, rfl, a, _, rfl, hS, fun D nD => lc_enumT (a := a) (xs := l.map V.int) (fun i H' => Same H H' ∧ H' D = some (.lst (((List.range i).map fun i => chs ((n : Int) - l.getD i 0 - 1) ((l.length : Int) - (i : Int))).map V.int))) ⟨same_upd nD, upd_same⟩ (fun i H' _ h => seqT h.1 hS) ?_ ?_⟩
    · rintro i x H' p hx ⟨sm, hD⟩ np
      obtain ⟨u, hu, rfl⟩ := map_int_get hx
      have hi : i < l.length := (List.getElem?_eq_some_iff.mp hu).1
      have hd : l.getD i 0 = u := by
        rw [List.getD_eq_getElem?_getD, hu]
        rfl
      have sp := same_upd (o := .tup [.int (i : Nat), .int u]) np
      refine ⟨p, _, rfl, .inl (.inl upd_same), rfl, _, _, rfl, _, _, rfl, rfl, rfl, lcT ?_⟩
      refine ⟨_, rfl, _, rfl, _, _, rfl, rfl, _, _, rfl, rfl, _, rfl, _, rfl, _, _, rfl, rfl, _, _, rfl, ?_, _, sp _ _ hD, ?_, ?_, ?_⟩
      · have z := r.at hu
        omega
      · rw [List.length_map, List.length_map, List.length_range]
        exact small1000 (by omega)
      · intro b o e
        rw [upd_ne (ne_of_none e nD)]
        exact sp _ _ (sm _ _ e)
      · rw [upd_same, range_map_succ, List.map_append, hd]
        rfl
    · rintro H' ⟨sm, hD⟩
      rw [List.length_map] at hD
      refine ⟨D, _, rfl, SqL.of hD, ?_⟩
      refine ⟨_, rfl, _, rfl, _, _, rfl, by omega, _, _, rfl, rfl, _, rfl, _, _, rfl, rfl, ?_⟩
      have e := bs_sum n l l.length (Nat.le_refl _)
      rw [List.drop_length] at e
      have e2 : bs (n : Int) [] = 0 := rfl
      rw [e2, Int.add_zero] at e
      rw [← e]
      show Q (.int (chs n l.length - 1 - bs n l)) H'
      rw [num_is hn r]
      exact q _ sm

/-! ### lot_at, of a number that there is -/
def spLotAt (K : PySem.W.Frag) : Sp := fun vs H Q _ => ∃ (n : Nat) (l : List Int), vs = [.int n, .int (l.length : Int), .int (num n l)] ∧ n ≤ 60 ∧ Ris n 0 l ∧ ∀ p H', Same H H' → H p = none → H' p = some (.tup (l.map V.int)) → Q (.ref p) H'
theorem ok_lot_at {f : Addr} {fd : FuncData} (F : Fun K "lot_at" "lot_at" s_lot_at f fd) (T : Txt K mg) : FnOk P w K mg base CX0 3 f fd ["hands", "size", "number"] (spLotAt K) := by
  obtain ⟨fC, fdC, D_choose⟩ := T.d_choose
  have G_choose : FnOk P w K mg base CX0 1 fC fdC _ _ := ok_choose D_choose.F T
  obtain ⟨fB, fdB, D_is_below⟩ := T.d_is_below
  have G_is_below : FnOk P w K mg base CX0 2 fB fdB _ _ := ok_is_below D_is_below.F T
  refine F.ok sc_lot_at (fun vs H Q E h => ?_) (fun cdv A outer s H vs Q E hr h => ?_)
  · obtain ⟨n, l, rfl, _⟩ := h
    rfl
  · obtain ⟨n, l, rfl, hn, r, q⟩ := h
    have hl := r.len (by omega)
    refine ⟨_, (pss_cons (ps_if (pt_not (pt_val (pe_call G_is_below (hr.mono (by decide)) (by rfl) D_is_below.g D_is_below.F.kp D_is_below.b .nil pass0 (pa_cons (pe_call G_choose (hr.mono (by decide)) (by rfl) D_choose.g D_choose.F.kp D_choose.b .nil pass0 (pa_cons (pv 0) (pa_cons (pv 1) pa_nil))) (pa_cons (pv 2) pa_nil)))))
 (pss_one ps_never)
 pss_nil)
 (pss_cons (ps_set (i := 3) sc_lot_at.nd rfl (by first | exact Or.inl rfl | exact Or.inr rfl) (pe_lst pa_nil))
 (pss_cons (ps_set (i := 4) sc_lot_at.nd rfl (by first | exact Or.inl rfl | exact Or.inr rfl) (pv 2))
 (pss_cons (ps_for PassesOwn.never rfl (pi_range1 (by rfl) T.z_range (pa_cons (pv 0) pa_nil)) (pg_name (i := 5) sc_lot_at.nd rfl (by first | exact Or.inl rfl | exact Or.inr rfl))
 (pss_cons (ps_set (i := 6) sc_lot_at.nd rfl (by first | exact Or.inl rfl | exact Or.inr rfl) (pe_call G_choose (hr.mono (by decide)) (by rfl) D_choose.g D_choose.F.kp D_choose.b .nil pass0 (pa_cons (pe_op op_sub (pe_op op_sub (pv 0) (pv 5)) pe_int) (pa_cons (pe_op op_sub (pe_op op_sub (pv 1) (pe_callB (k_len K) (by rfl) T.z_len (by decide +kernel) (pa_cons (pv 3) pa_nil))) pe_int) pa_nil))))
 (pss_one (ps_if (pt_cmpR op_lt (pv 4) (pv 6) (nomark _))
 (pss_one (ps_expr (pe_bm PySem.F.plainAttrs_list PySem.F.slot_list_append PySem.F.type_list_append mt_append (pv 3) (pa_cons (pv 5) pa_nil))))
 (pss_one (ps_aug (i := 4) sc_lot_at.nd rfl (by first | exact Or.inl rfl | exact Or.inr rfl) (pv 6) ip_sub))))))
 (pss_one (ps_ret (pe_callTy (k_tuple K) (by rfl) T.z_tuple (by decide +kernel) (pa_cons (pv 3) pa_nil)))))))), ?_⟩
    refine ⟨_, rfl, _, rfl, _, _, rfl, by omega, _, rfl, _, _, rfl, kd_int _, _, rfl, ?_⟩
    have hb : belowV (chs (n : Int) (l.length : Int)) (.int (num n l)) = true := by
      show (decide (0 ≤ num n l) && decide (num n l < chs (n : Int) (l.length : Int))) = true
      rw [decide_eq_true (num_nn hn), decide_eq_true (num_lt hn r)]
      rfl
    rw [hb]
    refine iteF ?_
    refine ⟨Nat.zero_le _, fun D nD => ?_⟩
    refine ⟨_, rfl, ?_⟩
    refine ⟨_, rfl, _, rfl, by omega, by omega, for_range (lo := 0) (fun i σ H' => ∃ pre suf v5 v6, l = pre ++ suf ∧ Ris n i suf ∧ H' = upd H D (.lst (pre.map V.int)) ∧ σ = [some (.int n), some (.int (l.length : Int)), some (.int (num n l)), some (.ref D), some (.int (rk (bts (n - i) i suf))), v5, v6]) ⟨[], l, none, none, rfl, r, rfl, rfl⟩ ?_ ?_⟩
    · rintro i σ H' hi ⟨pre, suf, v5, v6, el, rs, rfl, rfl⟩
      have hin : i < n := by omega
      have sD := same_upd (o := .lst (pre.map V.int)) nD
      have ell : l.length = pre.length + suf.length := by rw [el, List.length_append]
      obtain ⟨m, em⟩ : ∃ m, n - i = m + 1 := ⟨n - i - 1, by omega⟩
      have em2 : n - (i + 1) = m := by omega
      have en : (n : Int) = (i : Int) + 1 + (m : Int) := by omega
      rw [show (0 : Int) + (i : Int) = (i : Int) by omega]
      refine ⟨_, rfl, _, rfl, _, _, rfl, rfl, _, _, rfl, rfl, _, rfl, _, rfl, D, _, rfl, .inl (SqL.of upd_same), _, _, rfl, rfl, _, _, rfl, rfl, _, _, rfl, by omega, ?_⟩
      refine ⟨_, rfl, _, rfl, _, _, rfl, rfl, _, rfl, ?_⟩
      rw [em]
      by_cases hd : ∃ t, suf = (i : Int) :: t
      · obtain ⟨t, rfl⟩ := hd
        have rt : Ris ((i : Int) + 1 + (m : Int)) ((i : Int) + 1) t := en ▸ rs.2.2
        have c := bts_cnt m ((i : Int) + 1) t rt
        have lt := rk_lt (b := bts m ((i : Int) + 1) t) (by rw [bts_len]; omega)
        rw [c, bts_len] at lt
        have e1 : bts (m + 1) (i : Int) ((i : Int) :: t) = true :: bts m ((i : Int) + 1) t := by
          rw [bts_cons, if_pos rfl]
        rw [e1]
        have e2 : chs ((n : Int) - (i : Int) - 1) ((l.length : Int) - ((pre.map V.int).length : Int) - 1) = chs (m : Int) (t.length : Int) := by
          rw [ell, List.length_map, List.length_cons]
          congr 1 <;> omega
        rw [e2]
        refine ite2 (fun _ => ?_) (fun z => absurd (decide_eq_true lt) z)
        refine ⟨_, rfl, .inl ⟨rfl, _, SqL.of upd_same⟩, _, rfl, D, _, _, rfl, rfl, upd_same, ?_, ?_⟩
        · rw [List.length_map]
          exact small1000 (by omega)
        · refine ⟨pre ++ [(i : Int)], t, some (.int (i : Int)), some (.int (chs (m : Int) (t.length : Int))), ?_, ?_, ?_, ?_⟩
          · rw [el, List.append_assoc]
            rfl
          · exact rs.2.2
          · rw [upd_upd, List.map_append]
            rfl
          · rw [em2]
            rfl
      · have rt : Ris ((i : Int) + 1 + (m : Int)) ((i : Int) + 1) suf := by
          rw [← en]
          cases suf with
          | nil => trivial
          | cons x t => exact rs.up fun z => hd ⟨t, by rw [z]⟩
        have c := bts_cnt m ((i : Int) + 1) suf rt
        have nn := rk_nn (bts m ((i : Int) + 1) suf) (by rw [bts_len]; omega)
        rw [bts_skip m (i : Int) suf rt]
        have e2 : chs ((n : Int) - (i : Int) - 1) ((l.length : Int) - ((pre.map V.int).length : Int) - 1) = chs (m : Int) ((suf.length : Int) - 1) := by
          rw [ell, List.length_map]
          congr 1 <;> omega
        have e3 : rk (false :: bts m ((i : Int) + 1) suf) = chs (m : Int) ((suf.length : Int) - 1) + rk (bts m ((i : Int) + 1) suf) := by
          show chs ((bts m ((i : Int) + 1) suf).length : Int) ((cnt (bts m ((i : Int) + 1) suf) : Int) - 1) + rk (bts m ((i : Int) + 1) suf) = _
          rw [c, bts_len]
        rw [e2, e3]
        refine ite2 (fun z => absurd (of_decide_eq_true z) (by omega)) (fun _ => ?_)
        refine ⟨_, rfl, _, rfl, _, _, rfl, rfl, ?_⟩
        refine ⟨pre, suf, some (.int (i : Int)), some (.int (chs (m : Int) ((suf.length : Int) - 1))), el, ?_, rfl, ?_⟩
        · exact en ▸ rt
        · rw [em2]
          show _ = [some (V.int (n : Int)), some (V.int (l.length : Int)), some (V.int (num n l)), some (V.ref D), some (V.int (rk (bts m ((i : Int) + 1) suf))), some (V.int (i : Int)), some (V.int (chs (m : Int) ((suf.length : Int) - 1)))]
          have e4 : chs (m : Int) ((suf.length : Int) - 1) + rk (bts m ((i : Int) + 1) suf) - chs (m : Int) ((suf.length : Int) - 1) = rk (bts m ((i : Int) + 1) suf) := by omega
          show [some (V.int (n : Int)), some (V.int (l.length : Int)), some (V.int (num n l)), some (V.ref D), some (V.int (chs (m : Int) ((suf.length : Int) - 1) + rk (bts m ((i : Int) + 1) suf) - chs (m : Int) ((suf.length : Int) - 1))), some (V.int (i : Int)), some (V.int (chs (m : Int) ((suf.length : Int) - 1)))] = _
          rw [e4]
    · rintro σ H' ⟨pre, suf, v5, v6, el, rs, rfl, rfl⟩
      have e0 : suf = [] := by
        cases suf with
        | nil => rfl
        | cons x t =>
          have := rs.1
          have := rs.2.1
          omega
      subst e0
      rw [List.append_nil] at el
      subst el
      refine ⟨_, rfl, D, _, rfl, .inl ⟨SqL.of upd_same, fun p np => ?_⟩⟩
      have s1 := (same_upd (o := .lst (l.map V.int)) nD)
      exact q p _ (s1.trans (same_upd np)) (s1.free np) upd_same

/-! ### one of some -/
def spPick (K : PySem.W.Frag) : Sp := fun vs H Q _ => ∃ (a s : Addr) (b : Nat) (xs : List V), vs = [.ref a, .ref s] ∧ PotAt H a b ∧ SqL K H s xs ∧ s ≠ a ∧ xs ≠ [] ∧ xs.length ≤ 1000 ∧ b < 1000000 ∧
  ∀ v H', v ∈ xs → PotAt H' a (b + 1) → SameB a H H' → Q v H'
theorem ok_pick {f : Addr} {fd : FuncData} (F : Fun K "_law_pick" "_law_pick" s__law_pick f fd) (T : Txt K mg) : FnOk P w K mg base CX0 2 f fd ["_law_pot_here", "_law_some"] (spPick K) := by
  obtain ⟨fT, fdT, D_take⟩ := T.d_take
  have G_take : FnOk P w K mg base CX0 1 fT fdT _ _ := ok_take D_take.F T
  refine F.ok sc__law_pick (fun vs H Q E h => ?_) (fun cdv A outer s H vs Q E hr h => ?_)
  · obtain ⟨a, s, b, xs, rfl, _⟩ := h
    rfl
  · obtain ⟨a, s, b, xs, rfl, hP, hS, hne, hx, hl, hb, q⟩ := h
    have h0 : 0 < xs.length := List.length_pos_iff.mpr hx
    refine ⟨_, (pss_one (ps_ret (pe_ix (k_ixL K) (pv 1) (pe_call G_take (hr.mono (by decide)) (by rfl) D_take.g D_take.F.kp D_take.b .nil pass0 (pa_cons (pv 0) (pa_cons (pe_callB (k_len K) (by rfl) T.z_len (by decide +kernel) (pa_cons (pv 1) pa_nil)) pa_nil))) (fun _ _ => rfl)))), ?_⟩
    refine ⟨_, rfl, _, rfl, _, rfl, s, _, rfl, .inl hS, a, (xs.length : Int), b, rfl, hP, by omega, by omega, hb, fun v H' v0 v1 P' S' => ?_⟩
    obtain ⟨m, rfl⟩ : ∃ m : Nat, v = (m : Int) := ⟨v.toNat, by omega⟩
    have hm : m < xs.length := by omega
    exact ⟨s, _, _, xs[m], rfl, rfl, S'.seq hne hS, atI_nat (List.getElem?_eq_getElem hm), q _ _ (List.getElem_mem hm) P' S'⟩

/-! ### a drawn lot -/
theorem erase_map {α β : Type} (f : α → β) : ∀ (l : List α) (m : Nat), (l.map f).eraseIdx m = (l.eraseIdx m).map f
  | [], _ => rfl
  | _ :: _, 0 => rfl
  | x :: l, m + 1 => congrArg (f x :: ·) (erase_map f l m)
theorem erase_perm {α : Type} : ∀ (l : List α) (m : Nat) (h : m < l.length), (l[m] :: l.eraseIdx m).Perm l
  | x :: l, 0, _ => List.Perm.refl _
  | x :: l, m + 1, h => by
    have hm : m < l.length := Nat.lt_of_succ_lt_succ h
    have ih := erase_perm l m hm
    show (l[m] :: x :: l.eraseIdx m).Perm (x :: l)
    exact (List.Perm.swap x l[m] _).trans (ih.cons x)
theorem ris_of {n : Int} : ∀ {l : List Int} {h : Int}, l.Pairwise (· ≤ ·) → l.Nodup → (∀ x ∈ l, h ≤ x ∧ x < n) → Ris n h l
  | [], _, _, _, _ => trivial
  | x :: t, h, p, d, m => by
    have hx := m x List.mem_cons_self
    refine ⟨hx.1, hx.2, ris_of (List.pairwise_cons.mp p).2 (List.nodup_cons.mp d).2 fun y hy => ?_⟩
    have h1 := (List.pairwise_cons.mp p).1 y hy
    have h2 : x ≠ y := fun e => (List.nodup_cons.mp d).1 (e ▸ hy)
    exact ⟨by omega, (m y (List.mem_cons_of_mem _ hy)).2⟩
theorem ris_mem {n : Int} : ∀ {l : List Int} {h : Int}, Ris n h l → ∀ x ∈ l, h ≤ x ∧ x < n
  | y :: t, h, r, x, hx => by
    rcases List.mem_cons.mp hx with rfl | hx
    · exact ⟨r.1, r.2.1⟩
    · have z := ris_mem r.2.2 x hx
      have := r.1
      exact ⟨by omega, z.2⟩
theorem ris_nodup {n : Int} : ∀ {l : List Int} {h : Int}, Ris n h l → l.Nodup
  | [], _, _ => List.nodup_nil
  | y :: t, h, r => List.nodup_cons.mpr ⟨fun hm => by have z := ris_mem r.2.2 y hm; omega, ris_nodup r.2.2⟩
def hs (n : Nat) : List Int := (List.range n).map fun (i : Nat) => (i : Int)
theorem rgV_hs (n : Nat) : rgV 0 (n : Int) = (hs n).map V.int := by
  unfold rgV hs
  rw [List.map_map, show ((n : Int) - 0).toNat = n by omega]
  apply List.map_congr_left
  intro i _
  show V.int (0 + (i : Int)) = V.int (i : Int)
  rw [Int.zero_add]
theorem hs_mem {n : Nat} {x : Int} : x ∈ hs n ↔ 0 ≤ x ∧ x < n := by
  unfold hs
  rw [List.mem_map]
  constructor
  · rintro ⟨i, hi, rfl⟩
    have := List.mem_range.mp hi
    omega
  · intro h
    exact ⟨x.toNat, List.mem_range.mpr (by omega), by omega⟩
theorem hs_nodup (n : Nat) : (hs n).Nodup := by
  unfold hs
  refine List.Pairwise.map _ ?_ List.nodup_range
  intro a b h e
  exact h (by omega)
theorem hs_len (n : Nat) : (hs n).length = n := by
  unfold hs
  rw [List.length_map, List.length_range]
def spSomeLot : Sp := fun vs H Q _ => ∃ (a : Addr) (n k b : Nat), vs = [.ref a, .int n, .int k] ∧ PotAt H a b ∧ k ≤ n ∧ n ≤ 60 ∧ b + 100 ≤ 1000000 ∧
  ∀ p H' l, PotAt H' a (b + k) → SameB a H H' → H p = none → H' p = some (.tup (l.map V.int)) → Ris n 0 l → l.length = k → Q (.ref p) H'
theorem ok_some_lot {f : Addr} {fd : FuncData} (F : Fun K "_law_some_lot" "_law_some_lot" s__law_some_lot f fd) (T : Txt K mg) : FnOk P w K mg base CX0 2 f fd ["_law_pot_here", "_law_many", "_law_size"] spSomeLot := by
  obtain ⟨fT, fdT, D_take⟩ := T.d_take
  have G_take : FnOk P w K mg base CX0 1 fT fdT _ _ := ok_take D_take.F T
  refine F.ok sc__law_some_lot (fun vs H Q E h => ?_) (fun cdv A outer s H vs Q E hr h => ?_)
  · obtain ⟨a, n, k, b, rfl, _⟩ := h
    rfl
  · obtain ⟨a, n, k, b, rfl, hP, hk, hn, hb, q⟩ := h
    refine ⟨_, (pss_cons (ps_par (by rfl) sc__law_some_lot.nd (i := 3) (j := 4) rfl rfl (by decide) rfl rfl (pa_cons (pe_listRg rfl (by rfl) T.z_list (prg_1 (by rfl) T.z_range (pv 1))) (pa_cons (pe_lst pa_nil) pa_nil)) (by rfl))
 (pss_cons (ps_for PassesOwn.never rfl (pi_range1 (by rfl) T.z_range (pa_cons (pv 2) pa_nil)) (pg_name (i := 5) sc__law_some_lot.nd rfl (by first | exact Or.inl rfl | exact Or.inr rfl))
 (pss_one (ps_expr (pe_bm PySem.F.plainAttrs_list PySem.F.slot_list_append PySem.F.type_list_append mt_append (pv 4) (pa_cons (pe_bm PySem.F.plainAttrs_list PySem.F.slot_list_pop PySem.F.type_list_pop mt_popAt (pv 3) (pa_cons (pe_call G_take (hr.mono (by decide)) (by rfl) D_take.g D_take.F.kp D_take.b .nil pass0 (pa_cons (pv 0) (pa_cons (pe_callB (k_len K) (by rfl) T.z_len (by decide +kernel) (pa_cons (pv 3) pa_nil)) pa_nil))) pa_nil)) pa_nil)))))
 (pss_one (ps_ret (pe_callTy (k_tuple K) (by rfl) T.z_tuple (by decide +kernel) (pa_cons (pe_callB (k_sorted K) (by rfl) T.z_sorted (by decide +kernel) (pa_cons (pv 4) pa_nil)) pa_nil)))))), ?_⟩
    refine ⟨_, rfl, _, rfl, RgOk.of_le (by omega) (by omega) (by omega) (by omega), fun L nL => ⟨Nat.zero_le _, fun D nD => ⟨_, _, rfl, ?_⟩⟩⟩
    rw [rgV_hs] at nD ⊢
    have s1 := same_upd (o := .lst ((hs n).map V.int)) nL
    have s2 := same_upd (o := .lst []) nD
    have nD0 : H D = none := s1.free nD
    have hDL : D ≠ L := fun e => by
      rw [e, upd_same] at nD
      cases nD
    have aL : L ≠ a := fun e => (hP.ne nL) e.symm
    have aD : D ≠ a := fun e => (hP.ne nD0) e.symm
    refine ⟨_, rfl, _, rfl, by omega, by omega, for_range (lo := 0) (fun i σ H' => ∃ left found v5, σ = [some (.ref a), some (.int n), some (.int k), some (.ref L), some (.ref D), v5] ∧ SameB a H H' ∧ PotAt H' a (b + i) ∧ H' L = some (.lst (left.map V.int)) ∧ H' D = some (.lst (found.map V.int)) ∧ (left ++ found).Perm (hs n) ∧ found.length = i)
      ⟨hs n, [], none, rfl, sameb (s1.trans s2), hP.same (s1.trans s2), s2 _ _ upd_same, upd_same, by rw [List.append_nil], rfl⟩ ?_ ?_⟩
    · rintro i σ H1 hi ⟨left, found, v5, rfl, sm, P1, hL, hD, pm, fl⟩
      have hlen : left.length + found.length = n := by
        have z := pm.length_eq
        rw [List.length_append, hs_len] at z
        exact z
      refine ⟨_, rfl, .inl ⟨rfl, _, SqL.of hD⟩, _, rfl, .inl ⟨rfl, _, SqL.of hL⟩, _, rfl, _, rfl, L, _, rfl, .inl (SqL.of hL), a, _, b + i, rfl, P1, ?_, ?_, by omega, fun v H2 v0 v1 P2 S2 => ?_⟩
      · rw [List.length_map]
        omega
      · rw [List.length_map]
        omega
      rw [List.length_map] at v1
      obtain ⟨m, rfl⟩ : ∃ m : Nat, v = (m : Int) := ⟨v.toNat, by omega⟩
      have hm : m < left.length := by omega
      have hL2 := S2 _ _ aL hL
      have hD2 := S2 _ _ aD hD
      have ix : seqIndex? (m : Int) (left.map V.int).length = some m := by
        unfold seqIndex?
        rw [List.length_map]
        simp only [show ¬ ((m : Int) < 0) by omega, if_false]
        rw [if_pos (by simp; omega)]
        simp
      have gx : (left.map V.int)[m]? = some (.int left[m]) := by
        rw [List.getElem?_map, List.getElem?_eq_getElem hm]
        rfl
      refine ⟨L, _, _, m, _, rfl, rfl, hL2, by omega, by omega, ix, gx, ?_⟩
      refine ⟨D, _, _, rfl, rfl, Eq.trans (upd_ne hDL) hD2, ?_, ?_⟩
      · rw [List.length_map]
        exact small1000 (by omega)
      refine ⟨left.eraseIdx m, found ++ [left[m]], some (.int (0 + (i : Int))), rfl, fun x o ne e => ?_, ?_, ?_, ?_, ?_, ?_⟩
      · rw [upd_ne (ne_of_none e nD0), upd_ne (ne_of_none e nL)]
        exact S2 _ _ ne (sm _ _ ne e)
      · obtain ⟨g, s, c, z1, z2⟩ := P2
        exact ⟨g, s, c, by rw [upd_ne aD.symm, upd_ne aL.symm]; exact z1, z2⟩
      · rw [upd_ne hDL.symm, upd_same, erase_map]
      · rw [upd_same, List.map_append]
        rfl
      · refine List.Perm.trans ?_ pm
        rw [← List.append_assoc]
        have e1 : (left[m] :: left.eraseIdx m).Perm left := erase_perm left m hm
        refine List.Perm.trans List.perm_append_comm ?_
        exact List.Perm.append_right found e1
      · rw [List.length_append, fl]
        rfl
    · rintro σ H1 ⟨left, found, v5, rfl, sm, P1, hL, hD, pm, fl⟩
      refine ⟨_, rfl, D, found, rfl, SqL.of hD, fun ns p perm rising np => ?_⟩
      refine ⟨p, _, rfl, .inl ⟨SqL.of upd_same, fun t nt => ?_⟩⟩
      have s3 := same_upd (o := .lst (ns.map V.int)) np
      have s4 := same_upd (o := .tup (ns.map V.int)) nt
      have nd : (left ++ found).Nodup := pm.nodup_iff.mpr (hs_nodup n)
      have nf : found.Nodup := (List.nodup_append.mp nd).2.1
      have fk : found.length = k := by omega
      have nt1 : H1 t = none := s3.free nt
      have nt0 : H t = none := by
        cases ht : H t with
        | none => rfl
        | some o =>
          have ne : t ≠ a := fun e => by
            rw [e] at nt1
            obtain ⟨o', z⟩ := P1.some
            rw [z] at nt1
            cases nt1
          rw [sm _ _ ne ht] at nt1
          cases nt1
      refine q t _ ns ?_ (sm.trans (sameb (s3.trans s4))) nt0 upd_same ?_ ?_
      · have z := P1.same (s3.trans s4)
        rw [show (k : Int).toNat = k by omega] at z
        exact z
      · refine ris_of rising (perm.nodup_iff.mpr nf) fun x hx => ?_
        have m1 : x ∈ hs n := pm.mem_iff.mp (List.mem_append_right _ (perm.mem_iff.mp hx))
        exact hs_mem.mp m1
      · rw [perm.length_eq]
        exact fk

/-! ### a lot near another -/
def fre (l : List Int) (i : Nat) : List Int := (hs i).filter fun x => !l.contains x
theorem hs_succ (i : Nat) : hs (i + 1) = hs i ++ [(i : Int)] := range_map_succ _ i
theorem fre_succ (l : List Int) (i : Nat) : fre l (i + 1) = fre l i ++ (if (!l.contains (i : Int)) = true then [(i : Int)] else []) := by
  unfold fre
  rw [hs_succ, List.filter_append]
  congr 1
  rw [List.filter_cons, List.filter_nil]
theorem fre_len (l : List Int) (i : Nat) : (fre l i).length ≤ i := by
  have z := List.length_filter_le (fun x => !l.contains x) (hs i)
  rw [hs_len] at z
  exact z
def spNear (K : PySem.W.Frag) : Sp := fun vs H Q _ => ∃ (a t : Addr) (n b : Nat) (l : List Int), vs = [.ref a, .int n, .ref t] ∧ PotAt H a b ∧ H t = some (.tup (l.map V.int)) ∧ Ris n 0 l ∧ n ≤ 60 ∧ b + 100 ≤ 1000000 ∧
  ∀ p H' l', PotAt H' a (b + 2) → SameB a H H' → p ≠ a → H' p = some (.tup (l'.map V.int)) → Ris n 0 l' → l'.length = l.length → Q (.ref p) H'
theorem ok_near {f : Addr} {fd : FuncData} (F : Fun K "_law_near" "_law_near" s__law_near f fd) (T : Txt K mg) : FnOk P w K mg base CX0 3 f fd ["_law_pot_here", "_law_many", "_law_lot"] (spNear K) := by
  obtain ⟨fP, fdP, D_pick⟩ := T.d_pick
  have G_pick : FnOk P w K mg base CX0 2 fP fdP _ _ := ok_pick D_pick.F T
  refine F.ok sc__law_near (fun vs H Q E h => ?_) (fun cdv A outer s H vs Q E hr h => ?_)
  · obtain ⟨a, t, n, b, l, rfl, _⟩ := h
    rfl
  · obtain ⟨a, t, n, b, l, rfl, hP, ht, r, hn, hb, q⟩ := h
    have ta : t ≠ a := by
      obtain ⟨_, _, _, z, _⟩ := id hP
      exact ne_of ht z (by intro e; cases e)
    have ll := r.len (by omega)
    refine ⟨_, (pss_cons (ps_setLc (i := 3) (own := [("_law_one", 4)]) (g := gName 4)  rfl sc__law_near.nd rfl rfl (sw_true rfl rfl rfl (by decide +kernel)) (pi_range1 (by rfl) T.z_range (pa_cons (pv 1) pa_nil)) (blkOk_by (own := [("_law_one", 4)]) (N := ["_law_pot_here", "_law_many", "_law_lot", "_law_free", "_law_one", "_law_out", "_law_more"]) (sc := defScope s__law_near) (by decide +kernel)) (fun _ _ _ _ _ => pg_name (i := 4) sc__law_near.nd rfl (Or.inl rfl)) (fun _ _ _ _ _ => pts_one (pt_cmpR (k_notIn K) (pv 4) (pv 2) (by rfl))) (fun _ _ _ _ _ => (pv 4)))
 (pss_cons (ps_if (PW.pt (pw_or (pt_cmpR (k_eqD K hr.units) (pv 3) (pe_lst pa_nil) (nomark _)) (pw_or1 (pt_cmpR (k_eqD K hr.units) (pv 2) (pe_tup pa_nil) (nomark _)))))
 (pss_one (ps_ret (pv 2)))
 pss_nil)
 (pss_cons (ps_asg (pe_tup (pa_cons (pe_call G_pick (hr.mono (by decide)) (by rfl) D_pick.g D_pick.F.kp D_pick.b .nil pass0 (pa_cons (pv 0) (pa_cons (pe_callTy (k_list K) (by rfl) T.z_list (by decide +kernel) (pa_cons (pv 2) pa_nil)) pa_nil))) (pa_cons (pe_call G_pick (hr.mono (by decide)) (by rfl) D_pick.g D_pick.F.kp D_pick.b .nil pass0 (pa_cons (pv 0) (pa_cons (pv 3) pa_nil))) pa_nil))) (pg_tup rfl (pgs_cons (pg_name (i := 5) sc__law_near.nd rfl (by first | exact Or.inl rfl | exact Or.inr rfl)) (pgs_cons (pg_name (i := 6) sc__law_near.nd rfl (by first | exact Or.inl rfl | exact Or.inr rfl)) pgs_nil))))
 (pss_one (ps_ret (pe_callTy (k_tuple K) (by rfl) T.z_tuple (by decide +kernel) (pa_cons (pe_callB (k_sorted K) (by rfl) T.z_sorted (by decide +kernel) (pa_cons (pe_op op_cat (pe_lc (own := [("_law_one", 4)]) (g := gName 4)  rfl sc__law_near.nd (pi_tup (pv 2)) (blkOk_by (own := [("_law_one", 4)]) (N := ["_law_pot_here", "_law_many", "_law_lot", "_law_free", "_law_one", "_law_out", "_law_more"]) (sc := defScope s__law_near) (by decide +kernel)) (fun _ _ _ _ _ => pg_name (i := 4) sc__law_near.nd rfl (Or.inl rfl)) (fun _ _ _ _ _ => pts_one (pt_cmpR op_ne (pv 4) (pv 5) (nomark _))) (fun _ _ _ _ _ => (pv 4))) (pe_lst (pa_cons (pv 6) pa_nil))) pa_nil)) pa_nil))))))), ?_⟩
    -- free
    refine ⟨_, rfl, _, rfl, by omega, by omega, fun D nD => lc_range (lo := 0) (fun i H' => H' = upd H D (.lst ((fre l i).map V.int))) rfl ?_ ?_⟩
    · rintro i H' hi rfl
      have sD := same_upd (o := .lst ((fre l i).map V.int)) nD
      rw [show (0 : Int) + (i : Int) = (i : Int) by omega]
      refine ⟨rfl, _, rfl, _, rfl, t, _, rfl, .inr (SqT.of (sD _ _ ht)), rfl, flat_ints _, _, rfl, ?_⟩
      rw [inV_ints, fre_succ]
      show if (!l.contains (i : Int)) = true then _ else _
      cases hc : (!l.contains (i : Int)) with
      | true =>
        rw [if_pos rfl, if_pos rfl]
        refine ⟨_, rfl, _, upd_same, ?_, ?_⟩
        · rw [List.length_map]
          have := fre_len l i
          exact small1000 (by omega)
        · rw [upd_upd, List.map_append]
          rfl
      | false =>
        rw [if_neg (by decide), if_neg (by decide), List.append_nil]
    · rintro H' rfl
      have sD := same_upd (o := .lst ((fre l (n : Int).toNat).map V.int)) nD
      rw [show (n : Int).toNat = n by omega] at sD ⊢
      have aD : D ≠ a := fun e => (hP.ne nD) e.symm
      -- if free == [] or lot == ()
      refine ⟨_, rfl, Nat.zero_le _, fun z nz => ?_⟩
      have sz := same_upd (o := .lst []) nz
      refine ⟨.list (intsD (fre l n)), .list (intsD []), .lst (SqL.of (sz _ _ upd_same)) (dp_ints _), .lst (SqL.of upd_same) .nil, ints_shaped _, ints_shaped _, _, rfl, ?_⟩
      rw [eqvL_ints]
      have S2 := sD.trans sz
      refine ite2 (fun e => ?_) (fun e => ?_)
      · refine iteT ?_
        exact ⟨_, rfl, q t _ l ((hP.same S2).mono (by omega) (by omega)) (sameb S2) ta (S2 _ _ ht) r rfl⟩
      · have e1 : fre l n ≠ [] := fun z => e (decide_eq_true z)
        refine ⟨_, rfl, Nat.zero_le _, fun y ny => ?_⟩
        have sy := same_upd (o := .tup []) ny
        have S3 := S2.trans sy
        refine ⟨.tuple (intsD l), .tuple (intsD []), .tup (SqT.of (S3 _ _ ht)) (dp_ints _), .tup (SqT.of upd_same) .nil, intsT_shaped _, intsT_shaped _, _, rfl, ?_⟩
        rw [eqvT_ints]
        refine ite2 (fun e2 => ?_) (fun e2 => ?_)
        · exact ⟨_, rfl, q t _ l ((hP.same S3).mono (by omega) (by omega)) (sameb S3) ta (S3 _ _ ht) r rfl⟩
        · have e3 : l ≠ [] := fun z => e2 (decide_eq_true z)
          have P3 := hP.same S3
          have t3 := S3 _ _ ht
          have D3 := sy _ _ (sz _ _ (upd_same (H := H) (a := D) (o := .lst ((fre l n).map V.int))))
          generalize upd (upd (upd H D (.lst ((fre l n).map V.int))) z (.lst [])) y (.tup []) = H3 at S3 P3 t3 D3
          -- out, more
          refine ⟨_, rfl, _, rfl, t, _, rfl, .inr (SqT.of t3), fun c nc => ?_⟩
          have sc := same_upd (o := .lst (l.map V.int)) nc
          have P4 := P3.same sc
          refine ⟨a, c, b, _, rfl, P4, SqL.of upd_same, fun e => (P3.ne nc) e.symm, ?_, ?_, by omega, fun v H5 hv P5 S5 => ?_⟩
          · intro z0
            exact e3 (List.map_eq_nil_iff.mp z0)
          · rw [List.length_map]
            omega
          obtain ⟨out, ho, rfl⟩ := List.mem_map.mp hv
          have D5 := S5 _ _ aD (sc _ _ D3)
          refine ⟨_, rfl, _, rfl, a, D, b + 1, _, rfl, P5, SqL.of D5, aD, ?_, ?_, by omega, fun v H6 hv P6 S6 => ?_⟩
          · intro z0
            exact e1 (List.map_eq_nil_iff.mp z0)
          · rw [List.length_map]
            have := fre_len l n
            omega
          obtain ⟨mo, hm, rfl⟩ := List.mem_map.mp hv
          refine ⟨by show 2 ≤ sizeLine; decide, fun u nu => ?_⟩
          have su := same_upd (o := .tup [.int out, .int mo]) nu
          refine ⟨u, _, rfl, .inl (.inl upd_same), rfl, _, _, rfl, _, _, rfl, rfl, ?_⟩
          have t7 := su _ _ (S6 _ _ ta (S5 _ _ ta (sc _ _ t3)))
          have P7 := P6.same su
          have S7 : SameB a H (upd H6 u (.tup [.int out, .int mo])) := (sameb (S3.trans sc)).trans (S5.trans (S6.trans (sameb su)))
          generalize upd H6 u (.tup [.int out, .int mo]) = H7 at t7 P7 S7
          -- the sorted rest
          refine ⟨_, rfl, t, rfl, ⟨_, SqT.of t7⟩, fun E1 nE => lc_tup (K := K) (a := t) (xs := l.map V.int) (fun i H' => H' = upd H7 E1 (.lst (((l.take i).filter (fun x => x != out)).map V.int))) rfl (fun i H' _ e => by subst e; exact SqT.of (same_upd nE _ _ t7)) ?_ ?_⟩
          · rintro i x H' hx rfl
            obtain ⟨x, hx2, rfl⟩ := map_int_get hx
            have hi := (List.getElem?_eq_some_iff.mp hx2).1
            refine ⟨rfl, _, rfl, _, rfl, rfl, _, rfl, ?_⟩
            rw [List.take_add_one, hx2, List.filter_append]
            have ed : decide (V.int x = V.int out) = (x == out) := by
              by_cases h : x = out
              · subst h
                simp
              · rw [decide_eq_false (fun z => h (V.int.inj z))]
                simp [h]
            rw [ed]
            show if (x != out) = true then _ else _
            cases hc : x != out with
            | true =>
              rw [if_pos rfl]
              refine ⟨_, rfl, _, upd_same, ?_, ?_⟩
              · rw [List.length_map]
                have := List.length_filter_le (fun x => x != out) (l.take i)
                rw [List.length_take] at this
                exact small1000 (by omega)
              · rw [upd_upd, List.map_append]
                simp [hc]
            | false =>
              rw [if_neg (by decide)]
              simp [hc]
          · rintro H' rfl
            rw [List.length_map, List.take_length]
            have sE := same_upd (o := .lst ((l.filter (fun x => x != out)).map V.int)) nE
            refine ⟨_, rfl, by show 1 ≤ sizeLine; decide, fun g ng => ?_⟩
            have sg := same_upd (o := .lst [.int mo]) ng
            have fl := List.length_filter_le (fun x => x != out) l
            refine ⟨E1, g, _, _, rfl, rfl, sg _ _ upd_same, upd_same, ?_, fun j nj => ?_⟩
            · rw [List.length_map]
              show _ + 1 ≤ sizeLine
              exact Nat.succ_le_of_lt (small1000 (by omega))
            have sj := same_upd (o := .lst ((l.filter (fun x => x != out)).map V.int ++ [.int mo])) nj
            refine ⟨j, l.filter (fun x => x != out) ++ [mo], rfl, SqL.of (by rw [upd_same, List.map_append]; rfl), fun ns p perm rising np => ?_⟩
            refine ⟨p, _, rfl, .inl ⟨SqL.of upd_same, fun w1 nw => ?_⟩⟩
            have sp := same_upd (o := .lst (ns.map V.int)) np
            have sw := same_upd (o := .tup (ns.map V.int)) nw
            have S8 := sE.trans (sg.trans (sj.trans (sp.trans sw)))
            have nd := ris_nodup r
            have hmo := List.mem_filter.mp hm
            have mn : mo ∉ l := by
              have z := hmo.2
              intro h
              rw [List.contains_iff_mem.mpr h] at z
              cases z
            have nw0 : w1 ≠ a := fun e => by
              have z := (P7.same (sE.trans (sg.trans (sj.trans sp)))).ne nw
              exact z e.symm
            refine q w1 _ ns (P7.same S8) (S7.trans (sameb S8)) nw0 upd_same ?_ ?_
            · refine ris_of rising (perm.nodup_iff.mpr ?_) fun x hx => ?_
              · refine List.nodup_append.mpr ⟨nd.filter _, by simp, ?_⟩
                intro x hx y hy e
                rw [List.mem_singleton] at hy
                subst hy
                subst e
                exact mn (List.mem_filter.mp hx).1
              · rcases List.mem_append.mp (perm.mem_iff.mp hx) with h | h
                · exact ris_mem r x (List.mem_filter.mp h).1
                · rw [List.mem_singleton] at h
                  subst h
                  exact hs_mem.mp hmo.1
            · rw [perm.length_eq, List.length_append, ← nd.erase_eq_filter, List.length_erase_of_mem ho]
              have := List.length_pos_of_mem ho
              show l.length - 1 + 1 = l.length
              omega

/-! ### one pot's turn -/
def LotsAt (n k : Nat) (a : Addr) (H : Hp) (ts : List (Addr × List Int)) : Prop := ∀ x ∈ ts, x.1 ≠ a ∧ H x.1 = some (.tup (x.2.map V.int)) ∧ Ris n 0 x.2 ∧ x.2.length = k
theorem LotsAt.sameB {n k : Nat} {a : Addr} {H H' : Hp} {ts : List (Addr × List Int)} (h : LotsAt n k a H ts) (e : SameB a H H') : LotsAt n k a H' ts := fun x hx => by
  obtain ⟨h1, h2, h3⟩ := h x hx
  exact ⟨h1, e _ _ h1 h2, h3⟩
theorem LotsAt.put {n k : Nat} {a D : Addr} {H : Hp} {ts : List (Addr × List Int)} {xs ys : List V} (h : LotsAt n k a H ts) (hD : H D = some (.lst xs)) : LotsAt n k a (upd H D (.lst ys)) ts := fun x hx => by
  obtain ⟨h1, h2, h3⟩ := h x hx
  refine ⟨h1, ?_, h3⟩
  rw [upd_ne (ne_of h2 hD (by intro z; cases z))]
  exact h2
theorem LotsAt.add {n k : Nat} {a : Addr} {H : Hp} {ts us : List (Addr × List Int)} (h : LotsAt n k a H ts) (h' : LotsAt n k a H us) : LotsAt n k a H (ts ++ us) := fun x hx => by
  rcases List.mem_append.mp hx with z | z
  · exact h x z
  · exact h' x z
theorem LotsAt.left {n k : Nat} {a : Addr} {H : Hp} {ts us : List (Addr × List Int)} (h : LotsAt n k a H (ts ++ us)) : LotsAt n k a H ts := fun x hx => h x (List.mem_append_left _ hx)
abbrev rfs (ts : List (Addr × List Int)) : List V := ts.map fun x => V.ref x.1
theorem rfs_add (ts us : List (Addr × List Int)) : rfs (ts ++ us) = rfs ts ++ rfs us := List.map_append
theorem rfs_get {ts : List (Addr × List Int)} {i : Nat} {v : V} (h : (rfs ts)[i]? = some v) : ∃ x, ts[i]? = some x ∧ v = .ref x.1 := by
  rw [List.getElem?_map] at h
  cases e : ts[i]? with
  | none =>
    rw [e] at h
    cases h
  | some u =>
    rw [e] at h
    exact ⟨u, rfl, (Option.some.inj h).symm⟩
def spRight : Sp := fun vs H Q _ => ∃ (a : Addr), vs = [.ref a] ∧ PotAt H a 0 ∧ ∀ H', SameB a H H' → Q (.bl true) H'
theorem ok_right {f : Addr} {fd : FuncData} (F : Fun K "_law_right" "_law_right" s__law_right f fd) (T : Txt K mg) : FnOk P w K mg base CX0 4 f fd ["_law_pot_here"] spRight := by
  obtain ⟨fC, fdC, D_choose⟩ := T.d_choose
  have G_choose : FnOk P w K mg base CX0 1 fC fdC _ _ := ok_choose D_choose.F T
  obtain ⟨fT, fdT, D_take⟩ := T.d_take
  have G_take : FnOk P w K mg base CX0 1 fT fdT _ _ := ok_take D_take.F T
  obtain ⟨fP, fdP, D_pick⟩ := T.d_pick
  have G_pick : FnOk P w K mg base CX0 2 fP fdP _ _ := ok_pick D_pick.F T
  obtain ⟨fS, fdS, D_some_lot⟩ := T.d_some_lot
  have G_some_lot : FnOk P w K mg base CX0 2 fS fdS _ _ := ok_some_lot D_some_lot.F T
  obtain ⟨fN, fdN, D_near⟩ := T.d_near
  have G_near : FnOk P w K mg base CX0 3 fN fdN _ _ := ok_near D_near.F T
  obtain ⟨fO, fdO, D_number_of⟩ := T.d_number_of
  have G_number_of : FnOk P w K mg base CX0 2 fO fdO _ _ := ok_number_of D_number_of.F T
  obtain ⟨fA, fdA, D_lot_at⟩ := T.d_lot_at
  have G_lot_at : FnOk P w K mg base CX0 3 fA fdA _ _ := ok_lot_at D_lot_at.F T
  refine F.ok sc__law_right (fun vs H Q E h => ?_) (fun cdv A outer s H vs Q E hr h => ?_)
  · obtain ⟨a, rfl, _⟩ := h
    rfl
  · obtain ⟨a, rfl, hP, q⟩ := h
    refine ⟨_, (pss_cons (ps_set (i := 1) sc__law_right.nd rfl (by first | exact Or.inl rfl | exact Or.inr rfl) (pe_op op_add pe_int (pe_call G_pick (hr.mono (by decide)) (by rfl) D_pick.g D_pick.F.kp D_pick.b .nil pass0 (pa_cons (pv 0) (pa_cons (pe_lst (pa_cons pe_int (pa_cons pe_int (pa_cons (pe_call G_take (hr.mono (by decide)) (by rfl) D_take.g D_take.F.kp D_take.b .nil pass0 (pa_cons (pv 0) (pa_cons pe_int pa_nil))) pa_nil)))) pa_nil)))))
 (pss_cons (ps_set (i := 2) sc__law_right.nd rfl (by first | exact Or.inl rfl | exact Or.inr rfl) (pe_call G_pick (hr.mono (by decide)) (by rfl) D_pick.g D_pick.F.kp D_pick.b .nil pass0 (pa_cons (pv 0) (pa_cons (pe_lst (pa_cons (pe_op op_fdivW (pv 1) pe_int) (pa_cons (pe_call G_take (hr.mono (by decide)) (by rfl) D_take.g D_take.F.kp D_take.b .nil pass0 (pa_cons (pv 0) (pa_cons (pe_op op_add (pv 1) pe_int) pa_nil))) (pa_cons (pe_op op_fdivW (pv 1) pe_int) pa_nil)))) pa_nil))))
 (pss_cons (ps_setLc (i := 3) (own := [("_law_turn", 4)]) (g := gName 4) (tt := tYes) rfl sc__law_right.nd rfl rfl (sw_true rfl rfl rfl (by decide +kernel)) (pi_range1 (by rfl) T.z_range (pa_cons pe_int pa_nil)) (blkOk_by (own := [("_law_turn", 4)]) (N := ["_law_pot_here", "_law_many", "_law_wide", "_law_some", "_law_turn", "_law_lot", "_law_told", "_law_total", "_law_one", "_law_place", "_law_second", "_law_spot", "_law_rest", "_law_hand"]) (sc := defScope s__law_right) (by decide +kernel)) (fun _ _ _ _ _ => pg_name (i := 4) sc__law_right.nd rfl (Or.inl rfl)) (fun _ _ _ _ _ => pts_nil) (fun _ _ _ _ _ => (pe_call G_some_lot (hr.mono (by decide)) (by rfl) D_some_lot.g D_some_lot.F.kp D_some_lot.b .nil pass0 (pa_cons (pv 0) (pa_cons (pv 1) (pa_cons (pv 2) pa_nil))))))
 (pss_cons (ps_set (i := 3) sc__law_right.nd rfl (by first | exact Or.inl rfl | exact Or.inr rfl) (pe_op op_cat (pv 3) (pe_lc (own := [("_law_lot", 5)]) (g := gName 5) (tt := tYes) rfl sc__law_right.nd (pi_list (pv 3)) (blkOk_by (own := [("_law_lot", 5)]) (N := ["_law_pot_here", "_law_many", "_law_wide", "_law_some", "_law_turn", "_law_lot", "_law_told", "_law_total", "_law_one", "_law_place", "_law_second", "_law_spot", "_law_rest", "_law_hand"]) (sc := defScope s__law_right) (by decide +kernel)) (fun _ _ _ _ _ => pg_name (i := 5) sc__law_right.nd rfl (Or.inl rfl)) (fun _ _ _ _ _ => pts_nil) (fun _ _ _ _ _ => (pe_call G_near (hr.mono (by decide)) (by rfl) D_near.g D_near.F.kp D_near.b .nil pass0 (pa_cons (pv 0) (pa_cons (pv 1) (pa_cons (pv 5) pa_nil))))))))
 (pss_cons (ps_asg (pe_tup (pa_cons (pe_lc (own := [("_law_lot", 5)]) (g := gName 5) (tt := tYes) rfl sc__law_right.nd (pi_list (pv 3)) (blkOk_by (own := [("_law_lot", 5)]) (N := ["_law_pot_here", "_law_many", "_law_wide", "_law_some", "_law_turn", "_law_lot", "_law_told", "_law_total", "_law_one", "_law_place", "_law_second", "_law_spot", "_law_rest", "_law_hand"]) (sc := defScope s__law_right) (by decide +kernel)) (fun _ _ _ _ _ => pg_name (i := 5) sc__law_right.nd rfl (Or.inl rfl)) (fun _ _ _ _ _ => pts_nil) (fun _ _ _ _ _ => (pe_call G_number_of (hr.mono (by decide)) (by rfl) D_number_of.g D_number_of.F.kp D_number_of.b .nil pass0 (pa_cons (pv 1) (pa_cons (pv 5) pa_nil))))) (pa_cons (pe_call G_choose (hr.mono (by decide)) (by rfl) D_choose.g D_choose.F.kp D_choose.b .nil pass0 (pa_cons (pv 1) (pa_cons (pv 2) pa_nil))) pa_nil))) (pg_tup rfl (pgs_cons (pg_name (i := 6) sc__law_right.nd rfl (by first | exact Or.inl rfl | exact Or.inr rfl)) (pgs_cons (pg_name (i := 7) sc__law_right.nd rfl (by first | exact Or.inl rfl | exact Or.inr rfl)) pgs_nil))))
 (pss_cons (ps_if (pt_not (pt_val (pe_callB (k_all K rfl) (by rfl) T.z_all (by decide +kernel) (pa_cons (pe_lc (own := [("_law_one", 8)]) (g := gName 8) (tt := tYes) rfl sc__law_right.nd (pi_list (pv 6)) (blkOk_by (own := [("_law_one", 8)]) (N := ["_law_pot_here", "_law_many", "_law_wide", "_law_some", "_law_turn", "_law_lot", "_law_told", "_law_total", "_law_one", "_law_place", "_law_second", "_law_spot", "_law_rest", "_law_hand"]) (sc := defScope s__law_right) (by decide +kernel)) (fun _ _ _ _ _ => pg_name (i := 8) sc__law_right.nd rfl (Or.inl rfl)) (fun _ _ _ _ _ => pts_nil) (fun _ _ _ _ _ => (pe_chain op_le op_lt pe_int (pv 8) (pv 7)))) pa_nil))))
 (pss_one (ps_ret pe_bl))
 pss_nil)
 (pss_cons (ps_for PassesOwn.never rfl (pi_zip (by rfl) T.z_zip (pa_cons (pv 3) (pa_cons (pv 6) pa_nil))) (pg_tup rfl (pgs_cons (pg_name (i := 8) sc__law_right.nd rfl (by first | exact Or.inl rfl | exact Or.inr rfl)) (pgs_cons (pg_name (i := 9) sc__law_right.nd rfl (by first | exact Or.inl rfl | exact Or.inr rfl)) pgs_nil)))
 (pss_cons (ps_for PassesOwn.never rfl (pi_zip (by rfl) T.z_zip (pa_cons (pv 3) (pa_cons (pv 6) pa_nil))) (pg_tup rfl (pgs_cons (pg_name (i := 10) sc__law_right.nd rfl (by first | exact Or.inl rfl | exact Or.inr rfl)) (pgs_cons (pg_name (i := 11) sc__law_right.nd rfl (by first | exact Or.inl rfl | exact Or.inr rfl)) pgs_nil)))
 (pss_one (ps_if (PW.pt (pw_or (pt_cmpR op_ne (pe_cmpR (k_ltT K hr.units0) (pv 8) (pv 10) (nomark _)) (pe_cmpR op_lt (pv 9) (pv 11) (nomark _)) (nomark _)) (pw_or1 (pt_cmpR op_ne (pe_cmpR (k_eqD K hr.units) (pv 8) (pv 10) (nomark _)) (pe_cmpR op_eq (pv 9) (pv 11) (nomark _)) (nomark _)))))
 (pss_one (ps_ret pe_bl))
 pss_nil)))
 (pss_cons (ps_set (i := 12) sc__law_right.nd rfl (by first | exact Or.inl rfl | exact Or.inr rfl) (pe_callTy (k_tuple K) (by rfl) T.z_tuple (by decide +kernel) (pa_cons (pe_lc (own := [("_law_hand", 13)]) (g := gName 13)  rfl sc__law_right.nd (pi_range1 (by rfl) T.z_range (pa_cons (pv 1) pa_nil)) (blkOk_by (own := [("_law_hand", 13)]) (N := ["_law_pot_here", "_law_many", "_law_wide", "_law_some", "_law_turn", "_law_lot", "_law_told", "_law_total", "_law_one", "_law_place", "_law_second", "_law_spot", "_law_rest", "_law_hand"]) (sc := defScope s__law_right) (by decide +kernel)) (fun _ _ _ _ _ => pg_name (i := 13) sc__law_right.nd rfl (Or.inl rfl)) (fun _ _ _ _ _ => pts_one (pt_cmpR (k_notIn K) (pv 13) (pv 8) (by rfl))) (fun _ _ _ _ _ => (pv 13))) pa_nil)))
 (pss_one (ps_if (PW.pt (pw_or (pt_cmpR op_ne (pe_call G_number_of (hr.mono (by decide)) (by rfl) D_number_of.g D_number_of.F.kp D_number_of.b .nil pass0 (pa_cons (pv 1) (pa_cons (pv 12) pa_nil))) (pe_op op_sub (pe_op op_sub (pv 7) pe_int) (pv 9)) (nomark _)) (pw_or1 (pt_cmpR (k_neD K hr.units) (pe_call G_lot_at (hr.mono (by decide)) (by rfl) D_lot_at.g D_lot_at.F.kp D_lot_at.b .nil pass0 (pa_cons (pv 1) (pa_cons (pe_op op_sub (pv 1) (pv 2)) (pa_cons (pe_op op_sub (pe_op op_sub (pv 7) pe_int) (pv 9)) pa_nil)))) (pv 12) (nomark _)))))
 (pss_one (ps_ret pe_bl))
 pss_nil)))))
 (pss_one (ps_ret pe_bl))))))))), ?_⟩
    -- many
    refine ⟨_, rfl, _, rfl, a, 60, 0, rfl, hP, by decide, by decide, by decide, fun x H1 x0 x1 P1 S1 => ⟨by show 3 ≤ sizeLine; decide, fun L nL => ?_⟩⟩
    have sL := same_upd (o := .lst [.int 59, .int 58, .int x]) nL
    refine ⟨a, L, 1, _, rfl, P1.same sL, SqL.of upd_same, fun e => (P1.ne nL) e.symm, by simp, by show 3 ≤ 1000; decide, by decide, fun v H2 hv P2 S2 => ?_⟩
    obtain ⟨m, rfl, m0, m1⟩ : ∃ m : Int, v = .int m ∧ 0 ≤ m ∧ m < 60 := by
      rcases List.mem_cons.mp hv with rfl | hv
      · exact ⟨59, rfl, by decide, by decide⟩
      rcases List.mem_cons.mp hv with rfl | hv
      · exact ⟨58, rfl, by decide, by decide⟩
      rcases List.mem_cons.mp hv with rfl | hv
      · exact ⟨x, rfl, x0, x1⟩
      · cases hv
    have S2a : SameB a H H2 := S1.trans ((sameb sL).trans S2)
    refine ⟨_, _, rfl, rfl, ?_⟩
    obtain ⟨n, hn⟩ : ∃ n : Nat, 1 + m = (n : Int) := ⟨(1 + m).toNat, by omega⟩
    have hn1 : 1 ≤ n := by omega
    have hn60 : n ≤ 60 := by omega
    show gName 1 (V.int (1 + m)) _ _ _
    rw [hn]
    clear hv S2 S1 P1 sL nL x0 x1 m0 m1 hn
    -- wide
    refine ⟨_, rfl, _, rfl, _, _, rfl, rfl, wide_div (b := 64) (by decide) (by decide) (by decide) (by decide), _, rfl, _, rfl, _, _, rfl, rfl, a, (n : Int) + 1, _, rfl, P2, by omega, by omega, by decide, fun y H3 y0 y1 P3 S3 => ?_⟩
    refine ⟨_, rfl, _, _, rfl, rfl, wide_div (b := 64) (by decide) (by decide) (by decide) (by decide), by show 3 ≤ sizeLine; decide, fun L nL => ?_⟩
    have sL := same_upd (o := .lst [.int ((n : Int) / 2), .int y, .int ((n : Int) / 3)]) nL
    refine ⟨a, L, _, _, rfl, P3.same sL, SqL.of upd_same, fun e => (P3.ne nL) e.symm, by simp, by show 3 ≤ 1000; decide, by decide, fun v H4 hv P4 S4 => ?_⟩
    obtain ⟨k, rfl, hk⟩ : ∃ k : Nat, v = .int k ∧ k ≤ n := by
      rcases List.mem_cons.mp hv with rfl | hv
      · exact ⟨((n : Int) / 2).toNat, by rw [Int.toNat_of_nonneg (by omega)], by omega⟩
      rcases List.mem_cons.mp hv with rfl | hv
      · exact ⟨y.toNat, by rw [Int.toNat_of_nonneg y0], by omega⟩
      rcases List.mem_cons.mp hv with rfl | hv
      · exact ⟨((n : Int) / 3).toNat, by rw [Int.toNat_of_nonneg (by omega)], by omega⟩
      · cases hv
    have S4a : SameB a H H4 := S2a.trans (S3.trans ((sameb sL).trans S4))
    clear hv S4 S3 P3 sL nL y0 y1 P2 S2a
    -- some
    refine ⟨12, rfl, by decide, by decide, fun D nD => lc_range (lo := 0) (fun i H' => ∃ ts, SameB a H4 H' ∧ PotAt H' a (4 + 60 * i) ∧ H' D = some (.lst (rfs ts)) ∧ ts.length = i ∧ LotsAt n k a H' ts) ?_ ?_ ?_⟩
    · exact ⟨[], sameb (same_upd nD), P4.same (same_upd nD), upd_same, rfl, fun _ hx => by cases hx⟩
    · rintro i H' hi ⟨ts, Sm, Pm, hD, tl, hT⟩
      have hi12 : i < 12 := hi
      have aD : D ≠ a := fun e => (P4.ne nD) e.symm
      refine ⟨rfl, lcT ?_⟩
      refine ⟨_, rfl, _, rfl, _, rfl, a, n, k, _, rfl, Pm, hk, hn60, by omega, fun p H5 l P5 S5 np hp r hl => ?_⟩
      have hD5 := S5 _ _ aD hD
      have pa : p ≠ a := fun e => by
        obtain ⟨o, z⟩ := Pm.some
        rw [e, z] at np
        cases np
      refine ⟨_, hD5, ?_, ts ++ [(p, l)], fun x o ne e => ?_, ?_, ?_, ?_, ?_⟩
      · rw [List.length_map, tl]
        exact small1000 (by omega)
      · rw [upd_ne (ne_of_none e nD)]
        exact S5 _ _ ne (Sm _ _ ne e)
      · obtain ⟨g, s, c, z1, z2, z3, z4, z5, z6, z7⟩ := P5
        exact ⟨g, s, c, by rw [upd_ne aD.symm]; exact z1, z2, z3, z4, z5, by omega, by omega⟩
      · rw [upd_same, rfs_add]
        rfl
      · rw [List.length_append, tl]
        rfl
      · refine ((hT.sameB S5).add fun x hx => ?_).put hD5
        rw [List.mem_singleton] at hx
        subst hx
        exact ⟨pa, hp, r, hl⟩
    · rintro H5 ⟨ts, S5, P5, hD, tl, hT⟩
      have tl12 : ts.length = 12 := tl
      have aD : D ≠ a := fun e => (P4.ne nD) e.symm
      have S5a := S4a.trans S5
      have P5a : PotAt H5 a 1000 := P5.mono (by decide) (by decide)
      clear P5 S5 S4a P4 nD
      -- the near ones
      refine ⟨_, rfl, _, rfl, D, rfl, ⟨_, SqL.of hD⟩, fun B nB => lc_list (K := K) (a := D) (xs := rfs ts) (fun i H' => ∃ us, SameB a H5 H' ∧ PotAt H' a (1000 + 2 * i) ∧ H' D = some (.lst (rfs ts)) ∧ H' B = some (.lst (rfs us)) ∧ us.length = i ∧ LotsAt n k a H' (ts ++ us)) ?_ ?_ ?_ ?_⟩
      · have sB := same_upd (o := .lst []) nB
        refine ⟨[], sameb sB, P5a.same sB, sB _ _ hD, upd_same, rfl, ?_⟩
        rw [List.append_nil]
        exact hT.sameB (sameb sB)
      · rintro i H' _ ⟨us, _, _, z, _⟩
        exact SqL.of z
      · rintro i v H' hv ⟨us, Sm, Pm, hD6, hB, ul, hT6⟩
        obtain ⟨⟨t, l⟩, hx, rfl⟩ := rfs_get hv
        have hi := (List.getElem?_eq_some_iff.mp hx).1
        obtain ⟨_, ht, r, hl⟩ := hT6 (t, l) (List.mem_append_left _ (List.mem_of_getElem? hx))
        have aB : B ≠ a := fun e => (P5a.ne nB) e.symm
        have DB : D ≠ B := ne_of_none hD nB
        refine ⟨rfl, lcT ?_⟩
        refine ⟨_, rfl, _, rfl, _, rfl, a, t, n, _, l, rfl, Pm, ht, r, hn60, by omega, fun p H7 l' P7 S7 pa hp r' hl' => ?_⟩
        have hB7 := S7 _ _ aB hB
        refine ⟨_, hB7, ?_, us ++ [(p, l')], fun x o ne e => ?_, ?_, ?_, ?_, ?_, ?_⟩
        · rw [List.length_map, ul]
          exact small1000 (by omega)
        · rw [upd_ne (ne_of_none e nB)]
          exact S7 _ _ ne (Sm _ _ ne e)
        · obtain ⟨g, s, c, z1, z2, z3, z4, z5, z6, z7⟩ := P7
          exact ⟨g, s, c, by rw [upd_ne aB.symm]; exact z1, z2, z3, z4, z5, by omega, by omega⟩
        · rw [upd_ne DB]
          exact S7 _ _ aD hD6
        · rw [upd_same, rfs_add]
          rfl
        · rw [List.length_append, ul]
          rfl
        · rw [← List.append_assoc]
          refine ((hT6.sameB S7).add fun x hx => ?_).put hB7
          rw [List.mem_singleton] at hx
          subst hx
          exact ⟨pa, hp, r', hl'.trans hl⟩
      · rintro H6 ⟨us, S6, P6, hD6, hB, ul, hT6⟩
        rw [List.length_map, tl12] at ul
        refine ⟨D, B, _, _, rfl, rfl, hD6, hB, ?_, fun C nC => ?_⟩
        · rw [List.length_map, List.length_map, tl12, ul]
          decide
        have sC := same_upd (o := .lst (rfs ts ++ rfs us)) nC
        rw [show rfs ts ++ rfs us = rfs (ts ++ us) from (List.map_append).symm] at sC ⊢
        have wl : (ts ++ us).length = 24 := by rw [List.length_append, tl12, ul]
        have hT7 := hT6.sameB (sameb sC)
        have S7a := S5a.trans (S6.trans (sameb sC))
        have hC : (upd H6 C (.lst (rfs (ts ++ us)))) C = some (.lst (rfs (ts ++ us))) := upd_same
        generalize ts ++ us = ws at hT7 hC wl sC S7a
        generalize upd H6 C (.lst (rfs ws)) = H7 at hT7 hC S7a
        clear sC P6 S6 hB hT6 hD6 ul hT hD P5a S5a tl12
        -- told, total
        refine ⟨_, rfl, C, rfl, ⟨_, SqL.of hC⟩, fun B nB => lc_list (K := K) (a := C) (xs := rfs ws) (fun i H' => Same H7 H' ∧ H' B = some (.lst (((ws.take i).map fun x => num n x.2).map V.int))) ⟨same_upd nB, upd_same⟩ (fun i H' _ h => SqL.of (h.1 _ _ hC)) ?_ ?_⟩
        · rintro i v H' hv ⟨Sm, hB⟩
          obtain ⟨⟨t, l⟩, hx, rfl⟩ := rfs_get hv
          have hi := (List.getElem?_eq_some_iff.mp hx).1
          obtain ⟨_, ht, r, hl⟩ := hT7 (t, l) (List.mem_of_getElem? hx)
          refine ⟨rfl, lcT ?_⟩
          refine ⟨_, rfl, _, rfl, n, t, l, rfl, SqT.of (Sm _ _ ht), hn60, r, fun H8 S8 => ?_⟩
          refine ⟨_, S8 _ _ hB, ?_, fun x o e => ?_, ?_⟩
          · rw [List.length_map, List.length_map, List.length_take]
            exact small1000 (by omega)
          · rw [upd_ne (ne_of_none e nB)]
            exact S8 _ _ (Sm _ _ e)
          · rw [upd_same, List.take_add_one, hx, List.map_append, List.map_append]
            rfl
        · rintro H8 ⟨S8, hB⟩
          rw [List.length_map, List.take_length] at hB
          refine ⟨_, rfl, _, rfl, n, k, rfl, by omega, by show 2 ≤ sizeLine; decide, fun u nu => ?_⟩
          have su := same_upd (o := .tup [.ref B, .int (chs n k)]) nu
          refine ⟨u, _, rfl, .inl (.inl upd_same), rfl, _, _, rfl, _, _, rfl, rfl, ?_⟩
          have hC9 := su _ _ (S8 _ _ hC)
          have hB9 := su _ _ hB
          have hT9 := hT7.sameB (sameb (S8.trans su))
          have S9a := S7a.trans (sameb (S8.trans su))
          generalize upd H8 u (.tup [.ref B, .int (chs n k)]) = H9 at hC9 hB9 hT9 S9a
          clear su hB hC hT7 S7a S8
          have inr : ∀ x ∈ ws, 0 ≤ num n x.2 ∧ num n x.2 < chs (n : Int) (k : Int) := fun x hx => by
            obtain ⟨_, _, r, hl⟩ := hT9 x hx
            have z := num_lt hn60 r
            rw [hl] at z
            exact ⟨num_nn hn60, z⟩
          -- all in range
          refine ⟨_, rfl, B, rfl, ⟨_, SqL.of hB9⟩, fun G nG => lc_list (K := K) (a := B) (xs := (ws.map fun x => num n x.2).map V.int) (fun i H' => H' = upd H9 G (.lst ((List.replicate i true).map V.bl))) rfl (fun i H' _ e => by subst e; exact SqL.of (same_upd nG _ _ hB9)) ?_ ?_⟩
          · rintro i v H' hv rfl
            obtain ⟨x, hx, rfl⟩ := map_int_get hv
            rw [List.getElem?_map] at hx
            cases hw : ws[i]? with
            | none =>
              rw [hw] at hx
              cases hx
            | some y =>
              rw [hw] at hx
              have ex : num n y.2 = x := Option.some.inj hx
              subst ex
              obtain ⟨z0, z1⟩ := inr y (List.mem_of_getElem? hw)
              have hi := (List.getElem?_eq_some_iff.mp hw).1
              refine ⟨rfl, lcT ?_⟩
              refine ⟨_, rfl, _, _, rfl, rfl, _, rfl, ?_⟩
              rw [if_pos (decide_eq_true z0)]
              refine ⟨_, rfl, _, _, rfl, rfl, _, upd_same, ?_, ?_⟩
              · rw [List.length_map, List.length_replicate]
                exact small1000 (by omega)
              · show upd (upd H9 G _) G (.lst (_ ++ [V.bl (decide (num n y.2 < chs (n : Int) (k : Int)))])) = _
                rw [upd_upd, List.replicate_succ', List.map_append, decide_eq_true z1]
                rfl
          · rintro H' rfl
            refine ⟨G, _, rfl, SqL.of upd_same, _, rfl, ?_⟩
            rw [show ((List.replicate ((ws.map fun x => num n x.2).map V.int).length true).all id) = true by simp]
            refine iteF ?_
            have sG := same_upd (o := .lst ((List.replicate ((ws.map fun x => num n x.2).map V.int).length true).map V.bl)) nG
            have hCa := sG _ _ hC9
            have hBa := sG _ _ hB9
            have hTa := hT9.sameB (sameb sG)
            have Sa := S9a.trans (sameb sG)
            generalize upd H9 G (.lst ((List.replicate ((ws.map fun x => num n x.2).map V.int).length true).map V.bl)) = Ha at hCa hBa hTa Sa
            clear sG hC9 hB9 hT9 S9a nG
            have hzl : (rfs ws).length = ((ws.map fun x => num n x.2).map V.int).length := by
              rw [List.length_map, List.length_map, List.length_map]
            have got : ∀ (i : Nat) (v y : V), (rfs ws)[i]? = some v → ((ws.map fun x => num n x.2).map V.int)[i]? = some y → ∃ x ∈ ws, v = .ref x.1 ∧ y = .int (num n x.2) := fun i v y hv hy => by
              obtain ⟨x, hx, rfl⟩ := rfs_get hv
              refine ⟨x, List.mem_of_getElem? hx, rfl, ?_⟩
              rw [List.getElem?_map, List.getElem?_map, hx] at hy
              exact (Option.some.inj hy).symm
            refine ⟨_, rfl, _, rfl, C, B, _, _, rfl, SqL.of hCa, SqL.of hBa, RZ.for_zipL (K := K) hzl (fun i σ H' => ∃ v4 v5 v8 v9 v10 v11 v12 v13, σ = [some (.ref a), some (.int n), some (.int k), some (.ref C), v4, v5, some (.ref B), some (.int (chs n k)), v8, v9, v10, v11, v12, v13] ∧ Same Ha H') ⟨_, _, _, _, _, _, _, _, rfl, Same.refl _⟩ (fun i σ H' h => ?_) ?_ ?_⟩
            · obtain ⟨_, _, _, _, _, _, _, _, _, z⟩ := h
              exact ⟨SqL.of (z _ _ hCa), SqL.of (z _ _ hBa)⟩
            · rintro i v y t σ H1 hv hy ⟨v4, v5, v8, v9, v10, v11, v12, v13, rfl, Sm⟩ nt
              obtain ⟨⟨p1, l1⟩, hx1, rfl, rfl⟩ := got i v y hv hy
              have st := same_upd (o := .tup [.ref p1, .int (num n l1)]) nt
              refine ⟨t, _, rfl, .inl (.inl upd_same), rfl, _, _, rfl, _, _, rfl, rfl, ?_⟩
              have Sb := Sm.trans st
              generalize upd H1 t (.tup [.ref p1, .int (num n l1)]) = Hb at Sb
              obtain ⟨_, hp1, r1, hl1⟩ := hTa _ hx1
              replace r1 : Ris n 0 l1 := r1
              replace hl1 : l1.length = k := hl1
              -- the inner loop
              refine ⟨_, rfl, _, rfl, C, B, _, _, rfl, SqL.of (Sb _ _ hCa), SqL.of (Sb _ _ hBa), RZ.for_zipL (K := K) hzl (fun i σ H' => ∃ v10 v11, σ = [some (.ref a), some (.int n), some (.int k), some (.ref C), v4, v5, some (.ref B), some (.int (chs n k)), some (.ref p1), some (.int (num n l1)), v10, v11, v12, v13] ∧ Same Ha H') ⟨_, _, rfl, Sb⟩ (fun i σ H' h => ?_) ?_ ?_⟩
              · obtain ⟨_, _, _, z⟩ := h
                exact ⟨SqL.of (z _ _ hCa), SqL.of (z _ _ hBa)⟩
              · rintro j v y t2 σ H2 hv2 hy2 ⟨u10, u11, rfl, Sc⟩ nt2
                obtain ⟨⟨p2, l2⟩, hx2, rfl, rfl⟩ := got j v y hv2 hy2
                have st2 := same_upd (o := .tup [.ref p2, .int (num n l2)]) nt2
                refine ⟨t2, _, rfl, .inl (.inl upd_same), rfl, _, _, rfl, _, _, rfl, rfl, ?_⟩
                have Sd := Sc.trans st2
                generalize upd H2 t2 (.tup [.ref p2, .int (num n l2)]) = Hd at Sd
                obtain ⟨_, hp2, r2, hl2⟩ := hTa _ hx2
                have h1d := Sd _ _ hp1
                have h2d := Sd _ _ hp2
                have el : l1.length = l2.length := hl1.trans hl2.symm
                refine ⟨_, rfl, _, rfl, p1, p2, l1, l2, rfl, rfl, SqT.of h1d, SqT.of h2d, _, rfl, _, rfl, _, _, rfl, rfl, rfl, _, rfl, iteNS (by rw [num_lex hn60 el r1 r2]) ?_⟩
                refine ⟨_, rfl, _, rfl, .tuple (intsD l1), .tuple (intsD l2), .tup (SqT.of h1d) (dp_ints _), .tup (SqT.of h2d) (dp_ints _), intsT_shaped _, intsT_shaped _, _, rfl, _, rfl, rfl, rfl, _, rfl, iteNS ?_ ⟨_, _, rfl, Sd⟩⟩
                rw [eqvT_ints]
                congr 1
                refine decide_eq_decide.mpr ⟨fun z => by rw [z], fun z => num_inj hn60 el r1 r2 (V.int.inj z)⟩
              · rintro σ H2 ⟨u10, u11, rfl, Sc⟩
                have h1c := Sc _ _ hp1
                -- rest
                refine ⟨_, rfl, _, rfl, by omega, by omega, fun R nR => lc_range (lo := 0) (fun i H' => H' = upd H2 R (.lst ((fre l1 i).map V.int))) rfl ?_ ?_⟩
                · rintro i H' hi rfl
                  have sR := same_upd (o := .lst ((fre l1 i).map V.int)) nR
                  rw [show (0 : Int) + (i : Int) = (i : Int) by omega]
                  refine ⟨rfl, _, rfl, _, rfl, p1, _, rfl, .inr (SqT.of (sR _ _ h1c)), rfl, flat_ints _, _, rfl, ?_⟩
                  rw [inV_ints, fre_succ]
                  show if (!l1.contains (i : Int)) = true then _ else _
                  cases hc : (!l1.contains (i : Int)) with
                  | true =>
                    rw [if_pos rfl, if_pos rfl]
                    refine ⟨_, rfl, _, upd_same, ?_, ?_⟩
                    · rw [List.length_map]
                      have := fre_len l1 i
                      exact small1000 (by omega)
                    · rw [upd_upd, List.map_append]
                      rfl
                  | false =>
                    rw [if_neg (by decide), if_neg (by decide), List.append_nil]
                · rintro H' rfl
                  rw [show (n : Int).toNat = n by omega]
                  have er : fre l1 n = rst n 0 l1 := by
                    have z := rst_filter n 0 l1 (by rw [Int.zero_add]; exact r1)
                    rw [z]
                    unfold fre hs
                    congr 1
                    apply List.map_congr_left
                    intro i _
                    omega
                  rw [er]
                  have rr : Ris n 0 (rst n 0 l1) := by
                    have z := rst_ris n 0 l1
                    rw [Int.zero_add] at z
                    exact z
                  have rl := rst_len r1
                  have rn := num_rst hn60 r1
                  rw [hl1] at rl rn
                  have sR := same_upd (o := .lst ((rst n 0 l1).map V.int)) nR
                  refine ⟨R, _, rfl, .inl ⟨SqL.of upd_same, fun W nW => ?_⟩⟩
                  have sW := same_upd (o := .tup ((rst n 0 l1).map V.int)) nW
                  have Se := Sc.trans (sR.trans sW)
                  have hW : (upd (upd H2 R (.lst ((rst n 0 l1).map V.int))) W (.tup ((rst n 0 l1).map V.int))) W = some (.tup ((rst n 0 l1).map V.int)) := upd_same
                  generalize upd (upd H2 R (.lst ((rst n 0 l1).map V.int))) W (.tup ((rst n 0 l1).map V.int)) = He at Se hW
                  refine ⟨_, rfl, _, rfl, n, W, rst n 0 l1, rfl, SqT.of hW, hn60, rr, fun Hf Sf => ?_⟩
                  refine ⟨_, rfl, _, _, rfl, rfl, _, rfl, _, _, rfl, rfl, rfl, _, rfl, iteNS (by rw [rn]) ?_⟩
                  refine ⟨_, rfl, _, rfl, _, rfl, _, _, rfl, rfl, _, rfl, _, _, rfl, rfl, _, rfl, _, _, rfl, rfl, n, rst n 0 l1, ?_, hn60, rr, fun p3 Hg Sg np3 hp3 => ?_⟩
                  · show [V.int (n : Int), V.int ((n : Int) - (k : Int)), V.int (chs n k - 1 - num n l1)] = [V.int (n : Int), V.int ((rst n 0 l1).length : Int), V.int (num n (rst n 0 l1))]
                    rw [rn, show ((n : Int) - (k : Int)) = ((rst n 0 l1).length : Int) by omega]
                  refine ⟨_, rfl, .tuple (intsD (rst n 0 l1)), .tuple (intsD (rst n 0 l1)), .tup (SqT.of hp3) (dp_ints _), .tup (SqT.of (Sg _ _ (Sf _ _ hW))) (dp_ints _), intsT_shaped _, intsT_shaped _, _, rfl, ?_⟩
                  rw [eqv_self (intsT_shaped _)]
                  exact iteF ⟨_, _, _, _, _, _, _, _, rfl, Se.trans (Sf.trans Sg)⟩
            · rintro σ H1 ⟨v4, v5, v8, v9, v10, v11, v12, v13, rfl, Sm⟩
              exact q _ (Sa.trans (sameb Sm))

/-! ### the law -/
def spLaw (K : PySem.W.Frag) : Sp := fun vs H Q _ => ∃ (a : Addr) (ns : List Int), vs = [.ref a] ∧ SqL K H a (ns.map V.int) ∧ ns.length ≤ 63 ∧ ∀ H', Q (.bl true) H'
theorem ok_law {f : Addr} {fd : FuncData} (F : Fun K "law" "law" s_law f fd) (T : Txt K mg) : FnOk P w K mg base CX0 5 f fd ["_law_script"] (spLaw K) := by
  obtain ⟨fP, fdP, D_pot⟩ := T.d_pot
  have G_pot : FnOk P w K mg base CX0 1 fP fdP _ _ := ok_pot D_pot.F T
  obtain ⟨fR, fdR, D_right⟩ := T.d_right
  have G_right : FnOk P w K mg base CX0 4 fR fdR _ _ := ok_right D_right.F T
  refine F.ok sc_law (fun vs H Q E h => ?_) (fun cdv A outer s H vs Q E hr h => ?_)
  · obtain ⟨a, ns, rfl, _⟩ := h
    rfl
  · obtain ⟨a, ns, rfl, hS, hlen, q⟩ := h
    refine ⟨_, (pss_one (ps_ret (pe_callB (k_all K rfl) (by rfl) T.z_all (by decide +kernel) (pa_cons (pe_lc (own := [("_law_k", 1)]) (g := gName 1) (tt := tYes) rfl sc_law.nd (pi_range1 (by rfl) T.z_range (pa_cons (pe_callB (call_max2 rfl) (by rfl) T.z_max (by decide +kernel) (pa_cons pe_int (pa_cons (pe_callB (call_min2 rfl) (by rfl) T.z_min (by decide +kernel) (pa_cons (pe_callB (k_len K) (by rfl) T.z_len (by decide +kernel) (pa_cons (pv 0) pa_nil)) (pa_cons pe_int pa_nil))) pa_nil))) pa_nil)) (blkOk_by (own := [("_law_k", 1)]) (N := ["_law_script", "_law_k"]) (sc := defScope s_law) (by decide +kernel)) (fun _ _ _ _ _ => pg_name (i := 1) sc_law.nd rfl (Or.inl rfl)) (fun _ _ _ _ _ => pts_nil) (fun _ _ _ _ _ => (pe_call G_right (hr.mono (by decide)) (by rfl) D_right.g D_right.F.kp D_right.b .nil pass0 (pa_cons (pe_call G_pot (hr.mono (by decide)) (by rfl) D_pot.g D_pot.F.kp D_pot.b .nil pass0 (pa_cons (pv 0) (pa_cons (pv 1) pa_nil))) pa_nil)))) pa_nil)))), ?_⟩
    refine ⟨_, rfl, a, _, rfl, .inl hS, _, _, rfl, _, _, rfl, _, rfl, ?_, ?_, fun D nD => lc_range (lo := 0) (fun i H' => Same H H' ∧ H' D = some (.lst ((List.replicate i true).map V.bl))) ⟨same_upd nD, upd_same⟩ ?_ ?_⟩
    · repeat' split
      all_goals omega
    · repeat' split
      all_goals omega
    · rintro i H' hi ⟨sm, hD⟩
      have hi3 : i < 4 := by
        revert hi
        repeat' split
        all_goals omega
      refine ⟨rfl, lcT ?_⟩
      refine ⟨_, rfl, _, rfl, a, _, ns, rfl, sm.seq hS, by omega, by omega, fun p H2 np s2 P2 => ?_⟩
      refine ⟨p, rfl, P2, fun H3 s3 => ?_⟩
      have Dp' : D ≠ p := ne_of_none hD np
      have hD3 := s3 _ _ Dp' (s2 _ _ hD)
      refine ⟨_, hD3, ?_, fun x o e => ?_, ?_⟩
      · rw [List.length_map, List.length_replicate]
        exact small1000 (by omega)
      · rw [upd_ne (ne_of_none e nD)]
        exact s3 _ _ (ne_of_none (sm _ _ e) np) (s2 _ _ (sm _ _ e))
      · rw [upd_same, List.replicate_succ', List.map_append]
        rfl
    · rintro H' ⟨sm, hD⟩
      refine ⟨D, _, rfl, SqL.of hD, ?_⟩
      have e : ∀ n, ((List.replicate n true).all id) = true := fun n => by simp
      rw [e]
      exact q _

end
theorem all_mk {l : PySem.W.OpenLaw} {w : World} {K : PySem.W.Frag} {h : Heap} {mg : Str → Option Value} {fa f0 f1 f2 f3 f4 f5 f6 f7 f8 f9 f10 f11 : Addr} (X : K.In h) (G : h.Ns mainGlobals mg) (hfa : mg "law" = some (.ref fa))
    {od0 an0 : Option Addr} {sl0 : Array (Option Value)} {oc0 kV0 dc0 pm0 cd0 ct0 : Value}
    (a0 : PySem.W.nsIn K mainGlobals "is_whole" = some (some (.ref f0))) (l0 : K.lookup f0 = some ⟨oc0, od0, .func (PySem.W.fnOf "is_whole" "is_whole" (defArgs s_is_whole) (defBody s_is_whole) (defScope s_is_whole) .none kV0 dc0 pm0 an0 cd0 ct0), sl0⟩) (c0 : PySem.W.codeIn K cd0 "is_whole" = true) (k0 : PySem.W.keepIn K (.ref f0) = true)
    {od1 an1 : Option Addr} {sl1 : Array (Option Value)} {oc1 kV1 dc1 pm1 cd1 ct1 : Value}
    (a1 : PySem.W.nsIn K mainGlobals "is_below" = some (some (.ref f1))) (l1 : K.lookup f1 = some ⟨oc1, od1, .func (PySem.W.fnOf "is_below" "is_below" (defArgs s_is_below) (defBody s_is_below) (defScope s_is_below) .none kV1 dc1 pm1 an1 cd1 ct1), sl1⟩) (c1 : PySem.W.codeIn K cd1 "is_below" = true) (k1 : PySem.W.keepIn K (.ref f1) = true)
    {od2 an2 : Option Addr} {sl2 : Array (Option Value)} {oc2 kV2 dc2 pm2 cd2 ct2 : Value}
    (a2 : PySem.W.nsIn K mainGlobals "choose" = some (some (.ref f2))) (l2 : K.lookup f2 = some ⟨oc2, od2, .func (PySem.W.fnOf "choose" "choose" (defArgs s_choose) (defBody s_choose) (defScope s_choose) .none kV2 dc2 pm2 an2 cd2 ct2), sl2⟩) (c2 : PySem.W.codeIn K cd2 "choose" = true) (k2 : PySem.W.keepIn K (.ref f2) = true)
    {od3 an3 : Option Addr} {sl3 : Array (Option Value)} {oc3 kV3 dc3 pm3 cd3 ct3 : Value}
    (a3 : PySem.W.nsIn K mainGlobals "lot_at" = some (some (.ref f3))) (l3 : K.lookup f3 = some ⟨oc3, od3, .func (PySem.W.fnOf "lot_at" "lot_at" (defArgs s_lot_at) (defBody s_lot_at) (defScope s_lot_at) .none kV3 dc3 pm3 an3 cd3 ct3), sl3⟩) (c3 : PySem.W.codeIn K cd3 "lot_at" = true) (k3 : PySem.W.keepIn K (.ref f3) = true)
    {od4 an4 : Option Addr} {sl4 : Array (Option Value)} {oc4 kV4 dc4 pm4 cd4 ct4 : Value}
    (a4 : PySem.W.nsIn K mainGlobals "number_of" = some (some (.ref f4))) (l4 : K.lookup f4 = some ⟨oc4, od4, .func (PySem.W.fnOf "number_of" "number_of" (defArgs s_number_of) (defBody s_number_of) (defScope s_number_of) .none kV4 dc4 pm4 an4 cd4 ct4), sl4⟩) (c4 : PySem.W.codeIn K cd4 "number_of" = true) (k4 : PySem.W.keepIn K (.ref f4) = true)
    {od5 an5 : Option Addr} {sl5 : Array (Option Value)} {oc5 kV5 dc5 pm5 cd5 ct5 : Value}
    (a5 : PySem.W.nsIn K mainGlobals "_law_pot" = some (some (.ref f5))) (l5 : K.lookup f5 = some ⟨oc5, od5, .func (PySem.W.fnOf "_law_pot" "_law_pot" (defArgs s__law_pot) (defBody s__law_pot) (defScope s__law_pot) .none kV5 dc5 pm5 an5 cd5 ct5), sl5⟩) (c5 : PySem.W.codeIn K cd5 "_law_pot" = true) (k5 : PySem.W.keepIn K (.ref f5) = true)
    {od6 an6 : Option Addr} {sl6 : Array (Option Value)} {oc6 kV6 dc6 pm6 cd6 ct6 : Value}
    (a6 : PySem.W.nsIn K mainGlobals "_law_take" = some (some (.ref f6))) (l6 : K.lookup f6 = some ⟨oc6, od6, .func (PySem.W.fnOf "_law_take" "_law_take" (defArgs s__law_take) (defBody s__law_take) (defScope s__law_take) .none kV6 dc6 pm6 an6 cd6 ct6), sl6⟩) (c6 : PySem.W.codeIn K cd6 "_law_take" = true) (k6 : PySem.W.keepIn K (.ref f6) = true)
    {od7 an7 : Option Addr} {sl7 : Array (Option Value)} {oc7 kV7 dc7 pm7 cd7 ct7 : Value}
    (a7 : PySem.W.nsIn K mainGlobals "_law_pick" = some (some (.ref f7))) (l7 : K.lookup f7 = some ⟨oc7, od7, .func (PySem.W.fnOf "_law_pick" "_law_pick" (defArgs s__law_pick) (defBody s__law_pick) (defScope s__law_pick) .none kV7 dc7 pm7 an7 cd7 ct7), sl7⟩) (c7 : PySem.W.codeIn K cd7 "_law_pick" = true) (k7 : PySem.W.keepIn K (.ref f7) = true)
    {od8 an8 : Option Addr} {sl8 : Array (Option Value)} {oc8 kV8 dc8 pm8 cd8 ct8 : Value}
    (a8 : PySem.W.nsIn K mainGlobals "_law_some_lot" = some (some (.ref f8))) (l8 : K.lookup f8 = some ⟨oc8, od8, .func (PySem.W.fnOf "_law_some_lot" "_law_some_lot" (defArgs s__law_some_lot) (defBody s__law_some_lot) (defScope s__law_some_lot) .none kV8 dc8 pm8 an8 cd8 ct8), sl8⟩) (c8 : PySem.W.codeIn K cd8 "_law_some_lot" = true) (k8 : PySem.W.keepIn K (.ref f8) = true)
    {od9 an9 : Option Addr} {sl9 : Array (Option Value)} {oc9 kV9 dc9 pm9 cd9 ct9 : Value}
    (a9 : PySem.W.nsIn K mainGlobals "_law_near" = some (some (.ref f9))) (l9 : K.lookup f9 = some ⟨oc9, od9, .func (PySem.W.fnOf "_law_near" "_law_near" (defArgs s__law_near) (defBody s__law_near) (defScope s__law_near) .none kV9 dc9 pm9 an9 cd9 ct9), sl9⟩) (c9 : PySem.W.codeIn K cd9 "_law_near" = true) (k9 : PySem.W.keepIn K (.ref f9) = true)
    {od10 an10 : Option Addr} {sl10 : Array (Option Value)} {oc10 kV10 dc10 pm10 cd10 ct10 : Value}
    (a10 : PySem.W.nsIn K mainGlobals "_law_right" = some (some (.ref f10))) (l10 : K.lookup f10 = some ⟨oc10, od10, .func (PySem.W.fnOf "_law_right" "_law_right" (defArgs s__law_right) (defBody s__law_right) (defScope s__law_right) .none kV10 dc10 pm10 an10 cd10 ct10), sl10⟩) (c10 : PySem.W.codeIn K cd10 "_law_right" = true) (k10 : PySem.W.keepIn K (.ref f10) = true)
    {od11 an11 : Option Addr} {sl11 : Array (Option Value)} {oc11 kV11 dc11 pm11 cd11 ct11 : Value}
    (a11 : PySem.W.nsIn K mainGlobals "law" = some (some (.ref f11))) (l11 : K.lookup f11 = some ⟨oc11, od11, .func (PySem.W.fnOf "law" "law" (defArgs s_law) (defBody s_law) (defScope s_law) .none kV11 dc11 pm11 an11 cd11 ct11), sl11⟩) (c11 : PySem.W.codeIn K cd11 "law" = true) (k11 : PySem.W.keepIn K (.ref f11) = true)
    (z_abs : PySem.W.nsIn K mainGlobals "abs" = some none)
    (z_all : PySem.W.nsIn K mainGlobals "all" = some none)
    (z_bool : PySem.W.nsIn K mainGlobals "bool" = some none)
    (z_enumerate : PySem.W.nsIn K mainGlobals "enumerate" = some none)
    (z_int : PySem.W.nsIn K mainGlobals "int" = some none)
    (z_isinstance : PySem.W.nsIn K mainGlobals "isinstance" = some none)
    (z_len : PySem.W.nsIn K mainGlobals "len" = some none)
    (z_list : PySem.W.nsIn K mainGlobals "list" = some none)
    (z_max : PySem.W.nsIn K mainGlobals "max" = some none)
    (z_min : PySem.W.nsIn K mainGlobals "min" = some none)
    (z_range : PySem.W.nsIn K mainGlobals "range" = some none)
    (z_sorted : PySem.W.nsIn K mainGlobals "sorted" = some none)
    (z_sum : PySem.W.nsIn K mainGlobals "sum" = some none)
    (z_tuple : PySem.W.nsIn K mainGlobals "tuple" = some none)
    (z_zip : PySem.W.nsIn K mainGlobals "zip" = some none) :
    ∃ fd : FuncData, (∀ (s : Shared) (v : Value), BindsTo s fd ⟨[v], []⟩ [("_law_script", v)]) ∧ ∀ base : Heap, K.In base → base.Ns mainGlobals mg → FnOk l.prog w K mg base CX0 5 fa fd ["_law_script"] (spLaw K) := by
  have e := hfa.symm.trans (PySem.W.mg_of X G a11)
  cases e
  have T : Txt K mg := ⟨⟨_, _, ⟨fun_mk (st := s_is_whole) l0 c0 k0, PySem.W.mg_of X G a0, (fun_mk (st := s_is_whole) l0 c0 k0).binds (ps := ["thing"]) fun _ _ _ _ _ _ us hl => match us, hl with | [_], _ => rfl⟩⟩, ⟨_, _, ⟨fun_mk (st := s_is_below) l1 c1 k1, PySem.W.mg_of X G a1, (fun_mk (st := s_is_below) l1 c1 k1).binds (ps := ["bound", "thing"]) fun _ _ _ _ _ _ us hl => match us, hl with | [_, _], _ => rfl⟩⟩, ⟨_, _, ⟨fun_mk (st := s_choose) l2 c2 k2, PySem.W.mg_of X G a2, (fun_mk (st := s_choose) l2 c2 k2).binds (ps := ["n", "k"]) fun _ _ _ _ _ _ us hl => match us, hl with | [_, _], _ => rfl⟩⟩, ⟨_, _, ⟨fun_mk (st := s_lot_at) l3 c3 k3, PySem.W.mg_of X G a3, (fun_mk (st := s_lot_at) l3 c3 k3).binds (ps := ["hands", "size", "number"]) fun _ _ _ _ _ _ us hl => match us, hl with | [_, _, _], _ => rfl⟩⟩, ⟨_, _, ⟨fun_mk (st := s_number_of) l4 c4 k4, PySem.W.mg_of X G a4, (fun_mk (st := s_number_of) l4 c4 k4).binds (ps := ["hands", "lot"]) fun _ _ _ _ _ _ us hl => match us, hl with | [_, _], _ => rfl⟩⟩, ⟨_, _, ⟨fun_mk (st := s__law_pot) l5 c5 k5, PySem.W.mg_of X G a5, (fun_mk (st := s__law_pot) l5 c5 k5).binds (ps := ["_law_script", "_law_k"]) fun _ _ _ _ _ _ us hl => match us, hl with | [_, _], _ => rfl⟩⟩, ⟨_, _, ⟨fun_mk (st := s__law_take) l6 c6 k6, PySem.W.mg_of X G a6, (fun_mk (st := s__law_take) l6 c6 k6).binds (ps := ["_law_pot_here", "_law_size"]) fun _ _ _ _ _ _ us hl => match us, hl with | [_, _], _ => rfl⟩⟩, ⟨_, _, ⟨fun_mk (st := s__law_pick) l7 c7 k7, PySem.W.mg_of X G a7, (fun_mk (st := s__law_pick) l7 c7 k7).binds (ps := ["_law_pot_here", "_law_some"]) fun _ _ _ _ _ _ us hl => match us, hl with | [_, _], _ => rfl⟩⟩, ⟨_, _, ⟨fun_mk (st := s__law_some_lot) l8 c8 k8, PySem.W.mg_of X G a8, (fun_mk (st := s__law_some_lot) l8 c8 k8).binds (ps := ["_law_pot_here", "_law_many", "_law_size"]) fun _ _ _ _ _ _ us hl => match us, hl with | [_, _, _], _ => rfl⟩⟩, ⟨_, _, ⟨fun_mk (st := s__law_near) l9 c9 k9, PySem.W.mg_of X G a9, (fun_mk (st := s__law_near) l9 c9 k9).binds (ps := ["_law_pot_here", "_law_many", "_law_lot"]) fun _ _ _ _ _ _ us hl => match us, hl with | [_, _, _], _ => rfl⟩⟩, ⟨_, _, ⟨fun_mk (st := s__law_right) l10 c10 k10, PySem.W.mg_of X G a10, (fun_mk (st := s__law_right) l10 c10 k10).binds (ps := ["_law_pot_here"]) fun _ _ _ _ _ _ us hl => match us, hl with | [_], _ => rfl⟩⟩, PySem.W.mg_none_of X G z_abs, PySem.W.mg_none_of X G z_all, PySem.W.mg_none_of X G z_bool, PySem.W.mg_none_of X G z_enumerate, PySem.W.mg_none_of X G z_int, PySem.W.mg_none_of X G z_isinstance, PySem.W.mg_none_of X G z_len, PySem.W.mg_none_of X G z_list, PySem.W.mg_none_of X G z_max, PySem.W.mg_none_of X G z_min, PySem.W.mg_none_of X G z_range, PySem.W.mg_none_of X G z_sorted, PySem.W.mg_none_of X G z_sum, PySem.W.mg_none_of X G z_tuple, PySem.W.mg_none_of X G z_zip⟩
  exact ⟨PySem.W.fnOf "law" "law" (defArgs s_law) (defBody s_law) (defScope s_law) .none kV11 dc11 pm11 an11 cd11 ct11, fun s v => .of_eq rfl, fun base _ _ => ok_law (fun_mk (st := s_law) l11 c11 k11) T⟩
end My
open PySem PySem.W PyProof.Rows
set_option maxRecDepth 100000 in
set_option maxHeartbeats 0 in
theorem PySem.Challenge.cw_lackcry_k05_whole_numbers_rise_as_lots_d_holds : PySem.Challenge.rw_lackcry_k05_whole_numbers_rise_as_lots_d.Holds := by
  w_on; o_law; k_head; (case hw => w_witness2)
  k_fill
  refine L2.walk_of (l := PySem.Challenge.rw_lackcry_k05_whole_numbers_rise_as_lots_d) (n := 63) (k := 5) (x := "_law_script") (CX := fun _ => L2.CX0) (sp := fun w => My.spLaw _) rfl (by decide) rfl ⟨rfl, by decide, by decide⟩ (fun w h Y => PySem.W.kIn_of Y) ?F (fun _ _ a ns hl _ hS => ⟨a, ns, rfl, hS, hl, fun _ => rfl⟩) (fun _ _ _ _ _ h => h)
  case F =>
    intro w mg fa h KX G hmg
    refine' My.all_mk KX G hmg ?a0 ?l0 ?c0 ?k0 ?a1 ?l1 ?c1 ?k1 ?a2 ?l2 ?c2 ?k2 ?a3 ?l3 ?c3 ?k3 ?a4 ?l4 ?c4 ?k4 ?a5 ?l5 ?c5 ?k5 ?a6 ?l6 ?c6 ?k6 ?a7 ?l7 ?c7 ?k7 ?a8 ?l8 ?c8 ?k8 ?a9 ?l9 ?c9 ?k9 ?a10 ?l10 ?c10 ?k10 ?a11 ?l11 ?c11 ?k11 ?z_abs ?z_all ?z_bool ?z_enumerate ?z_int ?z_isinstance ?z_len ?z_list ?z_max ?z_min ?z_range ?z_sorted ?z_sum ?z_tuple ?z_zip
    (case a0 => k_is); (case l0 => k_is); (case c0 => k_is); (case k0 => k_is); (case a1 => k_is); (case l1 => k_is); (case c1 => k_is); (case k1 => k_is); (case a2 => k_is); (case l2 => k_is); (case c2 => k_is); (case k2 => k_is); (case a3 => k_is); (case l3 => k_is); (case c3 => k_is); (case k3 => k_is); (case a4 => k_is); (case l4 => k_is); (case c4 => k_is); (case k4 => k_is); (case a5 => k_is); (case l5 => k_is); (case c5 => k_is); (case k5 => k_is); (case a6 => k_is); (case l6 => k_is); (case c6 => k_is); (case k6 => k_is); (case a7 => k_is); (case l7 => k_is); (case c7 => k_is); (case k7 => k_is); (case a8 => k_is); (case l8 => k_is); (case c8 => k_is); (case k8 => k_is); (case a9 => k_is); (case l9 => k_is); (case c9 => k_is); (case k9 => k_is); (case a10 => k_is); (case l10 => k_is); (case c10 => k_is); (case k10 => k_is); (case a11 => k_is); (case l11 => k_is); (case c11 => k_is); (case k11 => k_is); (case z_abs => k_is); (case z_all => k_is); (case z_bool => k_is); (case z_enumerate => k_is); (case z_int => k_is); (case z_isinstance => k_is); (case z_len => k_is); (case z_list => k_is); (case z_max => k_is); (case z_min => k_is); (case z_range => k_is); (case z_sorted => k_is); (case z_sum => k_is); (case z_tuple => k_is); (case z_zip => k_is)
