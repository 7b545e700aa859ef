import PyProof.Rows.All
import Wide.All
import OpenK.AllK
import Wide.FinOn
import HandS.ForMost
import HandS.Wide
import HandS.IsInst
import HandS.SortInts
import HandS.TupAny
import HandS.Conv
import HandS.Zip
import KE.GoesEnum
import HandS.Style
import HandS.TupLe
import HandS.AnyAll
import HandS.JoinGen
import HandS.EndTab
import HandS.ExcValue
import PyProof.TupleOfGen
import PySem.Challenge.RW_lackcry_k06_signs_by_exchanges
set_option Elab.async false
set_option linter.all false
set_option maxRecDepth 100000
set_option maxHeartbeats 4000000
namespace My
open PySem PySem.Spec PyProof.Rows L2
/-! ### a def of the top, as callers use it -/
structure DefAt (K : PySem.W.Frag) (mg : Str → Option Value) (x : Str) (st : Stmt) (ps : List Str) (f : Addr) (fd : FuncData) : Prop where
  F : Fun K x x st f fd
  g : mg x = some (.ref f)
  b : Binds K fd ps []
section
variable {X : Cx} {CX : CXT} {k : Nat} {f : Addr} {fd : FuncData} {ps ks : List Str} {sp : Sp} {E : XK} {x : Str} {p pos : Pos} {kws : List Keyword} {tk : TA} {g : List Value → List Value → List Value} {gV : List V → List V → List V}
/-- f(k = v, ..), nothing by position -/
theorem pe_callK0 (F : FnOk X.prog X.w X.K X.mg X.base CX k f fd ps sp) (hr : Room k X.A) (hg : Gl X x) (hm : X.mg x = some (.ref f)) (hk : PySem.W.keepIn X.K (.ref f) = true) (hb : KBinds X.K fd ps ks g gV) (hx : Passes CX X E)
    (hkw : PK X kws tk) (hall : (backToKw pos (keywordEach kws X.env)).all (·.1.isSome) = true := by rfl) (hks : (backToKw pos (keywordEach kws X.env)).filterMap (·.1) = ks := by rfl)
    (hdb : (x == ("__debug__" : Str)) = false := by decide)
    (hpl : ((backTo pos (starEach [] X.env)).any (·.1) || (backToKw pos (keywordEach kws X.env)).any (·.1.isNone)) = false := by rfl) :
    PE X (.Call (.Name x p) [] kws pos) (tCallK sp gV E tNil tk) := by
  refine ⟨fun pins s σ H Q I h => ?_⟩
  refine wpAny_Call_Name_kw (ld_glob I hg hm ?_ hdb)
  refine PySem.W.callWith_KW0 (h₀ := X.base) I.ok.mod.kin hk hall (thn (hkw.run pos pins s σ H _ I h) fun ws s2 ⟨zs, H2, I2, rz, q2⟩ => ⟨I2.kIn, ?_⟩) hpl
  rw [hks]
  exact run_fnk (us := []) (vs := []) F hr hb hx I2 .nil rz q2
/-- a power of a great base -/
def CPowW (i j : Int) : Prop := 0 ≤ j ∧ (Builtin.Int.intBits i : Int) * j ≤ 2 ^ 27
theorem op_powW : OpR X (binaryOp .Pow) (rI CPowW fun i j => .int (i ^ j.toNat)) := opI fun _ _ _ _ _ _ _ hc q => pow_int hc.1 hc.2 q
end
/-! ### the rules that read K, with K named (within a comprehension the reading may not lean on the block) -/
section
variable {X : Cx} (K : PySem.W.Frag)
theorem k_ixL (h : X.K = K := by rfl) : IxR X (rIxL K) := h ▸ ix_list
theorem k_ixT (h : X.K = K := by rfl) : IxR X (rIxT K) := h ▸ ix_tup
def rLenS (K : PySem.W.Frag) : List V → Hp → VK → Prop := fun xs H Q => ∃ p ys, xs = [.ref p] ∧ (SqL K H p ys ∨ SqT K H p ys) ∧ Q (.int ys.length) H
theorem k_len (h : X.K = K := by rfl) : CallR X (.builtin "len") (rLenS K) := h ▸ call_len_seq
theorem k_in (h : X.K = K := by rfl) : OpR X (compareOp .In) (rIn K false) := h ▸ op_in_seq
theorem k_notIn (h : X.K = K := by rfl) : OpR X (compareOp .NotIn) (rIn K true) := h ▸ op_notIn_seq
theorem k_eqD (hu : X.A.units + 64 < cLine) (h : X.K = K := by rfl) : OpR X (compareOp .Eq) (rEqD K) := h ▸ op_eqD hu
theorem k_neD (hu : X.A.units + 64 < cLine) (h : X.K = K := by rfl) : OpR X (compareOp .NotEq) (rNeD K) := h ▸ op_neD hu
theorem k_catA (h : X.K = K := by rfl) : OpR X (binaryOp .Add) (rCatA K) := h ▸ op_catA
theorem k_sum (hc : X.calm = true) (h : X.K = K := by rfl) : CallR X (.builtin "sum") (rSum K) := h ▸ cr_sum hc
theorem k_all (hc : X.calm = true) (h : X.K = K := by rfl) : CallR X (.builtin "all") (rAll K) := h ▸ cr_all hc
theorem k_any (hc : X.calm = true) (h : X.K = K := by rfl) : CallR X (.builtin "any") (rAny K) := h ▸ cr_any hc
theorem k_sorted (h : X.K = K := by rfl) : CallR X (.builtin "sorted") (rSortedI K) := h ▸ cr_sortedI
def rTupOf (K : PySem.W.Frag) : List V → Hp → VK → Prop := fun xs H Q => ∃ p ys, xs = [.ref p] ∧ ((SqL K H p ys ∧ ∀ l, H l = none → Q (.ref l) (upd H l (.tup ys))) ∨ (SqT K H p ys ∧ Q (.ref p) H))
theorem k_tuple (h : X.K = K := by rfl) : CallR X (.type "tuple") (rTupOf K) := h ▸ call_tuple_of
def rLstOf (K : PySem.W.Frag) : List V → Hp → VK → Prop := fun xs H Q => ∃ p ys, xs = [.ref p] ∧ (SqL K H p ys ∨ SqT K H p ys) ∧ ∀ l, H l = none → Q (.ref l) (upd H l (.lst ys))
theorem k_list (h : X.K = K := by rfl) : CallR X (.type "list") (rLstOf K) := h ▸ call_list_of
theorem k_slL (h : X.K = K := by rfl) : SlR X (rSlL K) := h ▸ sl_list
theorem k_slT (h : X.K = K := by rfl) : SlR X (rSlA K) := h ▸ sl_tupA
theorem k_isi (h : X.K = K := by rfl) : CallR X (.builtin "isinstance") (rIsi K) := h ▸ call_isi
theorem k_pgT {es : List Expr} {k n : Nat} {t : TGs} {pos : Pos} (hc : X.calm = true) (h : PGs X es t) (hK : X.K = K := by rfl) (hn : (assignEach es X.env).length = n := by rfl) (hst : (assignEach es X.env).findIdx? (·.1) = none := by rfl) : PG X (.Tuple es k pos) (gTup K n t) := hK ▸ pg_tup hc h hn hst
theorem k_piL {tg l : Expr} {tl : TE} (hl : PE X l tl) (h : X.K = K := by rfl) : PI X tg l (iList K tl) := h ▸ pi_list hl
theorem k_piT {tg l : Expr} {tl : TE} (hl : PE X l tl) (h : X.K = K := by rfl) : PI X tg l (iTup K tl) := h ▸ pi_tup hl
theorem k_ltT (hu : X.A.units < cLine) (h : X.K = K := by rfl) : OpR X (compareOp .Lt) (rLtT K) := h ▸ op_ltT hu
end
/-! ### heaps -/
theorem same_upd {H : Hp} {p : Addr} {o : HO} (h : H p = none) : Same H (upd H p o) := fun b x e => by
  rw [upd_ne (ne_of_none e h)]
  exact e
/-- all that was tracked but at a is as it was -/
def SameB (a : Addr) (H H' : Hp) : Prop := ∀ b o, b ≠ a → H b = some o → H' b = some o
theorem SameB.refl (a : Addr) (H : Hp) : SameB a H H := fun _ _ _ h => h
theorem SameB.trans {a : Addr} {H H1 H2 : Hp} (x : SameB a H H1) (y : SameB a H1 H2) : SameB a H H2 := fun b o n h => y b o n (x b o n h)
theorem SameB.upd {a : Addr} {H : Hp} {o : HO} : SameB a H (L2.upd H a o) := fun b _ n h => by
  rw [upd_ne n]
  exact h
theorem sameb {a : Addr} {H H' : Hp} (e : Same H H') : SameB a H H' := fun b o _ h => e b o h
theorem SameB.seq {K : PySem.W.Frag} {a l : Addr} {H H' : Hp} {xs : List V} (e : SameB a H H') (n : l ≠ a) (h : SqL K H l xs) : SqL K H' l xs := by
  rcases h with (h | ⟨o, h⟩) | h
  · exact .inl (.inl (e _ _ n h))
  · exact .inl (.inr ⟨o, e _ _ n h⟩)
  · exact .inr h
/-! ### the law's pot: three ints in a list -/
def PotAt (H : Hp) (a : Addr) (b : Nat) : Prop := ∃ g s c : Int, H a = some (.lst [.int g, .int s, .int c]) ∧ 0 ≤ g ∧ 0 ≤ s ∧ s < 2 ^ 61 ∧ 0 ≤ c ∧ c ≤ b ∧ b ≤ 1000000
theorem PotAt.same {H H' : Hp} {a : Addr} {b : Nat} (h : PotAt H a b) (e : Same H H') : PotAt H' a b := by
  obtain ⟨g, s, c, h1, h2⟩ := h
  exact ⟨g, s, c, e _ _ h1, h2⟩
theorem PotAt.ne {H : Hp} {a b : Addr} {n : Nat} (h : PotAt H a n) (q : H b = none) : a ≠ b := by
  obtain ⟨_, _, _, h1, _⟩ := h
  exact ne_of_none h1 q
/-! ### rows of ints as data -/
def intsD (ns : List Int) : List PyData := ns.map PyData.int
theorem dp_ints {K : PySem.W.Frag} {H : Hp} : ∀ ns : List Int, DpAll K H (ns.map V.int) (intsD ns)
  | [] => .nil
  | n :: ns => .cons (.int n) (dp_ints ns)
theorem ints_lay : ∀ ns : List Int, PyData.canLayAll0 (intsD ns) = true
  | [] => by simp [intsD, PyData.canLayAll0]
  | n :: ns => by
    have h := ints_lay ns
    simp only [intsD, List.map_cons, PyData.canLayAll0, PyData.canLay0] at h ⊢
    simpa using h
theorem ints_depth : ∀ ns : List Int, PyData.depthAll (intsD ns) ≤ 2
  | [] => by simp [intsD, PyData.depthAll]
  | n :: ns => by
    have h := ints_depth ns
    simp only [intsD, List.map_cons, PyData.depthAll, PyData.depth] at h ⊢
    omega
theorem ints_shaped (ns : List Int) : SeqAt.shaped (.list (intsD ns)) = true := by
  have h1 := ints_depth ns
  have h2 : PyData.depth (.list (intsD ns)) ≤ 64 := by
    simp only [PyData.depth]
    omega
  show (PyData.canLay0 (.list (intsD ns)) && decide (PyData.depth (.list (intsD ns)) ≤ 64)) = true
  rw [Bool.and_eq_true]
  exact ⟨by simp only [PyData.canLay0]; exact ints_lay ns, decide_eq_true h2⟩
theorem intsT_shaped (ns : List Int) : SeqAt.shaped (.tuple (intsD ns)) = true := by
  have h1 := ints_depth ns
  have h2 : PyData.depth (.tuple (intsD ns)) ≤ 64 := by
    simp only [PyData.depth]
    omega
  show (PyData.canLay0 (.tuple (intsD ns)) && decide (PyData.depth (.tuple (intsD ns)) ≤ 64)) = true
  rw [Bool.and_eq_true]
  exact ⟨by simp only [PyData.canLay0]; exact ints_lay ns, decide_eq_true h2⟩
theorem eqv_self {d : PyData} (h : SeqAt.shaped d = true) : PyData.eqv d d = true := SeqAt.eqv_refl d (SeqAt.canLay_of_shaped h)
theorem atI_neg1 {α : Type} {xs : List α} {v : α} (h : xs[xs.length - 1]? = some v) : atI xs (-1) = some v := by
  have hl : 0 < xs.length := by
    cases xs with
    | nil => simp at h
    | cons _ _ => simp
  unfold atI ixN
  rw [if_neg (by decide), if_pos (by omega)]
  show xs[(-1 + (xs.length : Int)).toNat]? = some v
  rw [show (-1 + (xs.length : Int)).toNat = xs.length - 1 by omega]
  exact h
theorem map_int_get {ns : List Int} {i : Nat} {y : V} (h : (ns.map V.int)[i]? = some y) : ∃ u, ns[i]? = some u ∧ y = .int u := by
  rw [List.getElem?_map] at h
  cases e : ns[i]? with
  | none =>
    rw [e] at h
    cases h
  | some u =>
    rw [e] at h
    exact ⟨u, rfl, (Option.some.inj h).symm⟩
theorem range_map_succ {α : Type} (f : Nat → α) (i : Nat) : (List.range (i + 1)).map f = (List.range i).map f ++ [f i] := by
  rw [List.range_succ, List.map_append]
  rfl
theorem lcT {A B : Hp → Prop} {σ : L2.St} {H : Hp} (h : A H) : tYes σ H (fun b H3 => if b = true then A H3 else B H3) := by
  show (if (true = true) then A H else B H)
  rw [if_pos rfl]
  exact h
theorem row_get {l : List Int} {i : Nat} (h : i < l.length) : (l.map V.int)[i]? = some (.int (l.getD i 0)) := by
  rw [List.getElem?_map, List.getElem?_eq_getElem h, List.getD_eq_getElem?_getD, List.getElem?_eq_getElem h]
  rfl
theorem flat_rep (n : Nat) : (List.replicate n [V.int 0]).flatten = (List.replicate n (0 : Int)).map V.int := by
  induction n with
  | zero => rfl
  | succ n ih =>
    rw [List.replicate_succ, List.flatten_cons, ih, List.replicate_succ, List.map_cons]
    rfl
theorem seqT {K : PySem.W.Frag} {H H' : Hp} {a : Addr} {xs : List V} (e : Same H H') (h : SqT K H a xs) : SqT K H' a xs := by
  rcases h with (h | ⟨o, h⟩) | h
  · exact .inl (.inl (e _ _ h))
  · exact .inl (.inr ⟨o, e _ _ h⟩)
  · exact .inr h
theorem SameB.seqT {K : PySem.W.Frag} {a l : Addr} {H H' : Hp} {xs : List V} (e : SameB a H H') (n : l ≠ a) (h : SqT K H l xs) : SqT K H' l xs := by
  rcases h with (h | ⟨o, h⟩) | h
  · exact .inl (.inl (e _ _ n h))
  · exact .inl (.inr ⟨o, e _ _ n h⟩)
  · exact .inr h
/-- a comprehension over enumerate of a tuple is told by IteT: see enumT -/
theorem lc_noif {A B : Hp → Prop} {b : Bool} {H : Hp} (hb : b = true) (h : A H) : if b = true then A H else B H := by
  rw [if_pos hb]
  exact h
theorem PotAt.mono {H : Hp} {a : Addr} {b b' : Nat} (h : PotAt H a b) (l : b ≤ b') (m : b' ≤ 1000000) : PotAt H a b' := by
  obtain ⟨g, s, c, h1, h2, h3, h4, h5, h6, h7⟩ := h
  exact ⟨g, s, c, h1, h2, h3, h4, h5, by omega, m⟩
theorem PotAt.some {H : Hp} {a : Addr} {n : Nat} (h : PotAt H a n) : ∃ o, H a = some o := by
  obtain ⟨_, _, _, h1, _⟩ := h
  exact ⟨_, h1⟩
theorem PotAt.sameB {H H' : Hp} {a b : Addr} {n : Nat} (h : PotAt H a n) (e : SameB b H H') (ne : a ≠ b) : PotAt H' a n := by
  obtain ⟨g, s, c, h1, h2⟩ := h
  exact ⟨g, s, c, e _ _ ne h1, h2⟩
theorem eqv_ints : ∀ l m : List Int, PyData.eqvAll (intsD l) (intsD m) = decide (l = m)
  | [], [] => rfl
  | [], y :: m => rfl
  | x :: l, [] => rfl
  | x :: l, y :: m => by
    show (PyData.eqv (.int x) (.int y) && PyData.eqvAll (intsD l) (intsD m)) = decide (x :: l = y :: m)
    rw [eqv_ints l m]
    show ((x == y) && decide (l = m)) = decide (x :: l = y :: m)
    by_cases h : x = y
    · subst h
      by_cases h2 : l = m
      · subst h2
        simp
      · simp [h2]
    · simp [h]
theorem eqvL_ints (l m : List Int) : PyData.eqv (.list (intsD l)) (.list (intsD m)) = decide (l = m) := eqv_ints l m
theorem eqvT_ints (l m : List Int) : PyData.eqv (.tuple (intsD l)) (.tuple (intsD m)) = decide (l = m) := eqv_ints l m
theorem flat_ints (l : List Int) : (l.map V.int).all flatV = true := by
  rw [List.all_map]
  exact List.all_eq_true.mpr fun _ _ => rfl
theorem inV_ints (x : Int) : ∀ l : List Int, inV (.int x) (l.map V.int) = l.contains x
  | [] => rfl
  | y :: l => by
    have ih := inV_ints x l
    have e1 : inV (.int x) ((y :: l).map V.int) = (eqV (.int y) (.int x) || inV (.int x) (l.map V.int)) := rfl
    rw [e1, ih, List.contains_cons]
    congr 1
    show (y == x) = (x == y)
    exact BEq.comm
def topS (i : Nat) : Stmt := PySem.Challenge.pw_lackcry_k06_signs_by_exchanges.main.body.getD i (.Pass ⟨0, 0, 0, 0⟩)
abbrev s_sign_of_many : Stmt := topS 1
theorem sc_sign_of_many : FnScope ["many"] ["many"] (defScope s_sign_of_many) := ⟨rfl, rfl, rfl, by decide +kernel, rfl, by decide +kernel, by decide +kernel⟩
abbrev s_sign : Stmt := topS 2
theorem sc_sign : FnScope ["hand", "lot", "other"] ["hand", "lot"] (defScope s_sign) := ⟨rfl, rfl, rfl, by decide +kernel, rfl, by decide +kernel, by decide +kernel⟩
abbrev s_laid : Stmt := topS 3
theorem sc_laid : FnScope ["one", "other", "hand", "crossed", "above"] ["one", "other"] (defScope s_laid) := ⟨rfl, rfl, rfl, by decide +kernel, rfl, by decide +kernel, by decide +kernel⟩
abbrev s_without : Stmt := topS 4
theorem sc_without : FnScope ["lot", "hand"] ["lot", "hand"] (defScope s_without) := ⟨rfl, rfl, rfl, by decide +kernel, rfl, by decide +kernel, by decide +kernel⟩
abbrev s_with_hand : Stmt := topS 5
theorem sc_with_hand : FnScope ["lot", "hand"] ["lot", "hand"] (defScope s_with_hand) := ⟨rfl, rfl, rfl, by decide +kernel, rfl, by decide +kernel, by decide +kernel⟩
abbrev s__law_pot : Stmt := topS 7
theorem sc__law_pot : FnScope ["_law_script", "_law_k", "_law_cell", "_law_great"] ["_law_script", "_law_k"] (defScope s__law_pot) := ⟨rfl, rfl, rfl, by decide +kernel, rfl, by decide +kernel, by decide +kernel⟩
abbrev s__law_take : Stmt := topS 8
theorem sc__law_take : FnScope ["_law_pot_here", "_law_room", "_law_digit", "_law_low", "_law_high", "_law_mixed", "_law_last"] ["_law_pot_here", "_law_room"] (defScope s__law_take) := ⟨rfl, rfl, rfl, by decide +kernel, rfl, by decide +kernel, by decide +kernel⟩
abbrev s__law_pick : Stmt := topS 9
theorem sc__law_pick : FnScope ["_law_pot_here", "_law_some"] ["_law_pot_here", "_law_some"] (defScope s__law_pick) := ⟨rfl, rfl, rfl, by decide +kernel, rfl, by decide +kernel, by decide +kernel⟩
abbrev s__law_some_lot : Stmt := topS 10
theorem sc__law_some_lot : FnScope ["_law_pot_here", "_law_many", "_law_room", "_law_left", "_law_found", "_law_turn"] ["_law_pot_here", "_law_many", "_law_room"] (defScope s__law_some_lot) := ⟨rfl, rfl, rfl, by decide +kernel, rfl, by decide +kernel, by decide +kernel⟩
abbrev s__law_sorted : Stmt := topS 11
theorem sc__law_sorted : FnScope ["_law_row", "_law_left", "_law_turn", "_law_end", "_law_at"] ["_law_row"] (defScope s__law_sorted) := ⟨rfl, rfl, rfl, by decide +kernel, rfl, by decide +kernel, by decide +kernel⟩
abbrev s__law_right : Stmt := topS 12
theorem sc__law_right : FnScope ["_law_pot_here", "_law_many", "_law_turn", "_law_some", "_law_free", "_law_who", "_law_apart", "_law_at", "_law_second", "_law_ahead", "_law_behind", "_law_due", "_law_rest", "_law_each"] ["_law_pot_here"] (defScope s__law_right) := ⟨rfl, rfl, rfl, by decide +kernel, rfl, by decide +kernel, by decide +kernel⟩
abbrev s_law : Stmt := topS 13
theorem sc_law : FnScope ["_law_script", "_law_k"] ["_law_script"] (defScope s_law) := ⟨rfl, rfl, rfl, by decide +kernel, rfl, by decide +kernel, by decide +kernel⟩
structure Txt (K : PySem.W.Frag) (mg : Str → Option Value) : Prop where
  d_sign_of_many : ∃ f fd, DefAt K mg "sign_of_many" s_sign_of_many ["many"] f fd
  d_sign : ∃ f fd, DefAt K mg "sign" s_sign ["hand", "lot"] f fd
  d_laid : ∃ f fd, DefAt K mg "laid" s_laid ["one", "other"] f fd
  d_without : ∃ f fd, DefAt K mg "without" s_without ["lot", "hand"] f fd
  d_with_hand : ∃ f fd, DefAt K mg "with_hand" s_with_hand ["lot", "hand"] f fd
  d_pot : ∃ f fd, DefAt K mg "_law_pot" s__law_pot ["_law_script", "_law_k"] f fd
  d_take : ∃ f fd, DefAt K mg "_law_take" s__law_take ["_law_pot_here", "_law_room"] f fd
  d_pick : ∃ f fd, DefAt K mg "_law_pick" s__law_pick ["_law_pot_here", "_law_some"] f fd
  d_some_lot : ∃ f fd, DefAt K mg "_law_some_lot" s__law_some_lot ["_law_pot_here", "_law_many", "_law_room"] f fd
  d_sorted : ∃ f fd, DefAt K mg "_law_sorted" s__law_sorted ["_law_row"] f fd
  d_right : ∃ f fd, DefAt K mg "_law_right" s__law_right ["_law_pot_here"] f fd
  z_abs : mg "abs" = none
  z_all : mg "all" = none
  z_any : mg "any" = none
  z_len : mg "len" = none
  z_list : mg "list" = none
  z_max : mg "max" = none
  z_min : mg "min" = none
  z_range : mg "range" = none
  z_set : mg "set" = none
  z_sorted : mg "sorted" = none
  z_sum : mg "sum" = none
  z_tuple : mg "tuple" = none
section
variable {P : Program} {w : World} {K : PySem.W.Frag} {mg : Str → Option Value} {base : Heap}
/-! ### sorted of a tuple of ints -/
section
variable {X : Cx}
def rSortedT (K : PySem.W.Frag) : List V → Hp → VK → Prop := fun vs H Q => ∃ (a : Addr) (ns : List Int), vs = [V.ref a] ∧ SqT K H a (ns.map V.int) ∧
  ∀ (ns' : List Int) (p : Addr), ns'.Perm ns → ns'.Pairwise (· ≤ ·) → H p = none → Q (.ref p) (upd H p (.lst (ns'.map V.int)))
theorem cr_sortedT : CallR X (.builtin "sorted") (rSortedT X.K) := by
  intro pins s σ H vs us Q I r h
  obtain ⟨a, ns, rfl, hs, q⟩ := h
  obtain ⟨its, rv, hl, hz⟩ := I.tuple hs
  rw [Vals.ref1 r]
  have hi := rv.ints
  have hz2 : its.length ≤ sizeLine := by rw [← rv.length]; exact hz
  obtain ⟨ot, ho, hc, nT, hd⟩ := id hl
  refine Calls.call_function_entry kind_sorted plain_sorted entry_sorted (args_sorted1 _) ?_
  unfold Builtin.«sorted»
  refine wpAny_bind (m := checkCount "sorted" 1 1 _) (wpAny_pure ?_)
  refine wpAny_bind (wpAny_collect_seq a (.inr rfl) ho hc hd (fun h' hk => ?_) (by rw [List.size_toArray]; exact hz2))
  refine wpAny_bind (wpAny_newList ?_ hz2)
  have hoL : (h'.push (seqObj "list" its.toArray 0)).get? h'.objs.size = some (seqObj "list" its.toArray 0) := Heap.get?_push_size _ rfl
  have keep : ∀ b o, s.heap.get? b = some o → b ≠ h'.objs.size ∧ (h'.push (seqObj "list" its.toArray 0)).get? b = some o := fun b o q => by
    have z := hk b o q
    exact ⟨Nat.ne_of_lt (Heap.lt_size z), Heap.get?_push_of_some _ z⟩
  show wpAny _ _ _ _ _ { s with heap := h'.push (seqObj "list" its.toArray 0) }
  refine wpAny_bind (wpAny_holding (wpAny_call_entry PyProof.Rows.slot_list_sort ⟨_, hoL, rfl⟩ PyProof.Rows.entry_list_sort (SrtO.list_sort_ord SrtO.swo_int hoL hz2 (fun h2 => SrtO.ints_sortable hi h2) fun out h1 h2 => ⟨_, rfl, ?_⟩) (PyProof.Rows.args_list_sort _)))
  refine wpAny_pure ?_
  obtain ⟨k1, k2, k3⟩ := SrtO.ints_out hi h1 h2
  obtain ⟨ep, he'⟩ := PyProof.Rows.sortedHeap_at (vs := its) (out := out.toArray) hoL
  have hlen : ((out.map SrtO.iv).map V.int).length ≤ sizeLine := by
    rw [List.length_map, k2.length_eq]
    rw [List.length_map] at hz
    exact hz
  have hn : H h'.objs.size = none := (I.hok.kept hk).fresh (Nat.le_refl _)
  have hp : s.heap.get? h'.objs.size = none := by
    cases e : s.heap.get? h'.objs.size with
    | none => rfl
    | some u => exact absurd rfl (keep _ _ e).1
  refine ⟨_, rfl, .ref _, upd H h'.objs.size (.lst ((out.map SrtO.iv).map V.int)), I.laidN (t' := s.toks) (fun b u hu => ?_) hp hn ⟨hlen, out, ep, vals_of_ints k1, he'⟩, rfl, q _ _ k2 k3 hn⟩
  obtain ⟨n1, n2⟩ := keep b u hu
  rw [PyProof.Rows.sortedHeap_old n1 (Heap.lt_size n2)]
  exact n2
theorem k_sortedT (K : PySem.W.Frag) (h : X.K = K := by rfl) : CallR X (.builtin "sorted") (rSortedT K) := h ▸ cr_sortedT
end

/-! ### tuple(x for x in t if x != f): t a tuple of ints, f a captured int -/
section
open GxR (TabB TabG Tabbed GenS)
variable {X : Cx}
theorem clo_find {cells : List (Str × Addr)} {f : Str} {c : Addr} (hc : cells.lookup f = some c) : ∀ (names : List (Str × NameKind)) (acc : List (Str × Addr)),
    ((f, NameKind.free) ∈ names ∨ acc.lookup f = some c) → (∀ c', acc.lookup f = some c' → c' = c) → (cloFrom cells names acc).lookup f = some c
  | [], acc, h, _ => by
    rcases h with h | h
    · cases h
    · exact h
  | (n, k) :: r, acc, h, u => by
    unfold cloFrom
    by_cases hk : (k == NameKind.free) = true
    · rw [if_pos hk]
      by_cases hn : n = f
      · subst hn
        have e : List.lookup n ((n, (cells.lookup n).getD 0) :: acc) = some c := by
          rw [hc]
          simp [List.lookup]
        exact clo_find hc r _ (.inr e) (fun c' h' => by rw [e] at h'; exact (Option.some.inj h').symm)
      · have e : List.lookup f ((n, (cells.lookup n).getD 0) :: acc) = acc.lookup f := by
          have z : (f == n) = false := by simpa using fun q : f = n => hn q.symm
          simp [List.lookup, z]
        refine clo_find hc r _ ?_ (fun c' h' => u c' (by rw [← e]; exact h'))
        rcases h with h | h
        · rcases List.mem_cons.mp h with q | q
          · exact absurd (congrArg Prod.fst q).symm hn
          · exact .inl q
        · exact .inr (by rw [e]; exact h)
    · rw [if_neg hk]
      refine clo_find hc r _ ?_ u
      rcases h with h | h
      · rcases List.mem_cons.mp h with q | q
        · exfalso
          apply hk
          have z : NameKind.free = k := congrArg Prod.snd q
          rw [← z]
          rfl
        · exact .inl q
      · exact .inr h
/-- the items that pass, by their places -/
theorem pass_map (ns : List Int) (p : Int → Bool) : ((List.range ns.length).filter fun i => match ns[i]? with | some k => p k | none => false).map (fun i => ns.getD i 0) = ns.filter p := by
  have h : ∀ (pre suf : List Int), ((List.range' pre.length suf.length).filter fun i => match (pre ++ suf)[i]? with | some k => p k | none => false).map (fun i => (pre ++ suf).getD i 0) = suf.filter p := by
    intro pre suf
    induction suf generalizing pre with
    | nil => rfl
    | cons x t ih =>
      have ih' := ih (pre ++ [x])
      rw [List.append_assoc, List.length_append] at ih'
      have g : (pre ++ x :: t)[pre.length]? = some x := by
        rw [List.getElem?_append_right (Nat.le_refl _), Nat.sub_self]
        rfl
      have gd : (pre ++ x :: t).getD pre.length 0 = x := by
        rw [List.getD_eq_getElem?_getD, g]
        rfl
      rw [List.length_cons, List.range'_succ, List.filter_cons, List.filter_cons]
      have e1 : (match (pre ++ x :: t)[pre.length]? with | some k => p k | none => false) = p x := by rw [g]
      rw [e1]
      cases hp : p x with
      | true =>
        rw [if_pos rfl, if_pos rfl, List.map_cons, gd]
        exact congrArg (x :: ·) ih'
      | false =>
        rw [if_neg (by decide), if_neg (by decide)]
        exact ih'
  have z := h [] ns
  rw [List.range_eq_range']
  exact z
/-- what it asks -/
def tGenNe (K : PySem.W.Frag) (P : Addr) (jf : Nat) (te : TE) : TE := fun σ H Q => te σ H fun v H1 =>
  ∃ (a : Addr) (ns : List Int) (vf : Int), v = .ref a ∧ SqT K H1 a (ns.map V.int) ∧ σ[jf]? = some (some (.int vf)) ∧ TabG H1 P ∧
    ∀ H2 p, Tabbed P H1 H2 → H2 p = none → Q (.ref p) (upd H2 p (.tup ((ns.filter fun k => k != vf).map V.int)))
theorem pe_tupGenNe (K : PySem.W.Frag) {c P : Addr} {iter : Expr} {x f : Str} {px p pos gpos q1 q2 q3 q4 : Pos} {scope : Scope} {te : TE} {k jf : Nat}
    (hr : Room k X.A) (hg : Gl X "tuple") (hm : X.mg "tuple" = none) (TB : TabB X.base X.mg c P) (hcode : X.env.code = .ref c) (S : GenS X.env scope x)
    (hfs : (f, NameKind.free) ∈ scope.names) (hff : scope.names.lookup f = some .free) (hNf : X.N[jf]? = some f) (hcf : X.env.scope.names.lookup f = some .cell)
    (hi : PE X iter te) (hs : ∀ v, genFold iter X.env v = pure v) (hK : X.K = K := by rfl)
    (d1 : (x == ("__debug__" : Str)) = false := by decide) (d2 : (f == ("__debug__" : Str)) = false := by decide) (d3 : (f == ("__classdict__" : Str)) = false := by decide)
    (he : starEach [.GeneratorExp (.Name x q1) [⟨.Name x px, iter, [.Compare (.Name x q2) [.NotEq] [.Name f q3] q4], 0⟩] scope gpos] X.env =
      (false, eval (.GeneratorExp (.Name x q1) [⟨.Name x px, iter, [.Compare (.Name x q2) [.NotEq] [.Name f q3] q4], 0⟩] scope gpos) X.env) :: starEach [] X.env := by rfl) :
    PE X (.Call (.Name "tuple" p) [.GeneratorExp (.Name x q1) [⟨.Name x px, iter, [.Compare (.Name x q2) [.NotEq] [.Name f q3] q4], 0⟩] scope gpos] [] pos) (tGenNe K P jf te) := by
  subst hK
  refine ⟨fun pins s σ H Q I h => ?_⟩
  refine Call_ (ld_blt I hg hm boot_tuple (PyProof.Rows.callWith_type1 ?_ he (by rfl)))
  rw [he]
  show wpAny _ _ (spliced ((false, eval (.GeneratorExp (.Name x q1) [⟨.Name x px, iter, [.Compare (.Name x q2) [.NotEq] [.Name f q3] q4], 0⟩] scope gpos) X.env) :: backTo pos (starEach [] X.env))) _ _ s
  refine Calls.spliced_cons ?_
  refine wpAny_GeneratorExp_walksQ hr.hd S.co (closure_ok S.free) S.cell S.dot S.loc S.kind (by have := hr.dp; omega) ?_ hs
  refine thn (hi.run pins s σ H _ I h) ?_
  rintro xv s1 ⟨v, H1, I1, r1, a, ns, vf, rfl, hT, hσ, ⟨ps, hP, ht⟩, hQ⟩
  cases r1
  obtain ⟨its, rv, pT, _⟩ := I1.tuple hT
  have pT' : s1.heap.IsTuple a its.toArray := pT
  -- the captured name's cell
  obtain ⟨mL, hnL, hlL⟩ := I1.loc
  obtain ⟨uf, ruf, lk⟩ := hlL jf f (.int vf) hNf hσ (.inr (.inl hcf))
  obtain ⟨tf, rfl⟩ : ∃ t, uf = Value.int vf t := ruf
  obtain ⟨cf, hcl, hcv⟩ : ∃ cc, X.env.cells.lookup f = some cc ∧ s1.heap.IsCell cc (some (.int vf tf)) := by
    rcases lk with ⟨z, _⟩ | ⟨_, cc, z1, z2⟩
    · have z' : X.env.scope.names.lookup f = some .local := z
      rw [hcf] at z'
      cases z'
    · exact ⟨cc, z1, z2⟩
  obtain ⟨oc, hoc, hdc⟩ := id hcv
  have at_ : ∀ (i : Nat) (u : Value), its.toArray[i]? = some u → ∃ k t, ns[i]? = some k ∧ u = .int k t := fun i u hu => by
    have hu2 : its[i]? = some u := by simpa using hu
    have hl := rv.length
    have hi2 := (List.getElem?_eq_some_iff.mp hu2).1
    have hi3 : i < ns.length := by
      rw [List.length_map] at hl
      omega
    have hb : (ns.map V.int)[i]? = some (V.int ns[i]) := by
      rw [List.getElem?_map, List.getElem?_eq_getElem hi3]
      rfl
    obtain ⟨u', hu', ru⟩ := rv.get hb
    rw [hu2] at hu'
    cases hu'
    obtain ⟨t, e⟩ := (show ∃ t, u = Value.int ns[i] t from ru)
    exact ⟨ns[i], t, List.getElem?_eq_getElem hi3, e⟩
  have hsz : its.toArray.size = ns.length := by
    rw [List.size_toArray, ← rv.length, List.length_map]
  refine wpAny_pyIter_tuple pT' ?_
  generalize ho : (⟨.type "tuple_iterator", none, .fields #[.ref a, .int 0 0], #[]⟩ : Obj) = o
  have la : a < s1.heap.objs.size := by
    obtain ⟨_, e, _⟩ := id pT'
    exact Heap.lt_size e
  have lc : cf < s1.heap.objs.size := Heap.lt_size hoc
  have hPs : s1.heap.get? P = some { cls := .none, data := .fields ps } := I1.hok P _ hP
  have lP : P < s1.heap.objs.size := Heap.lt_size hPs
  have aP : a ≠ P := fun z => by
    obtain ⟨_, e, e2, _⟩ := id pT'
    rw [z, hPs] at e
    cases e
    cases e2
  have cP : cf ≠ P := fun z => by
    rw [z, hPs] at hoc
    cases hoc
    cases hdc
  have up : ∀ b u, s1.heap.get? b = some u → (s1.heap.push o).get? b = some u := fun b u e => Heap.get?_push_of_some _ e
  have cd : PySem.W.CodeHd (s1.heap.push o) c P := TB.code.keeps fun b u e => up b u (I1.bk b u e)
  have lim : (s1.heap.push o).NoLimit := I1.nolimit.push o
  have szo : (s1.heap.push o).objs.size = s1.heap.objs.size + 1 := Heap.size_push ..
  have sC : cStatics ≠ P := fun e => by
    obtain ⟨_, hns, _⟩ := I1.nolimit
    obtain ⟨o', es, ep, z, hd, _⟩ := hns
    rw [e, hPs] at z
    cases z
    cases hd
  have lS : cStatics < s1.heap.objs.size := by
    obtain ⟨_, hns, _⟩ := I1.nolimit
    exact hns.lt
  -- behind the code object, whether it was made now or before
  have go : ∀ (code : Value) (h3 : Heap) (tk : Nat) (more : Array Value), Heap.ExtBut P (s1.heap.push o) h3 → (s1.heap.push o).objs.size ≤ h3.objs.size →
      h3.get? P = some { cls := .none, data := .fields (ps ++ more) } → TriplesOk (ps ++ more).toList →
      wpAny (model X.prog X.w) X.A (builtinsFor X.env.globals X.env.builtins) (fun bi s₄ =>
        ∃ Ia fp wr n₀ Pf St₀ pz F, Value.ref s1.heap.objs.size = .ref Ia ∧ (∀ A' : Around, A'.handled = none → Walks X.prog X.w A' Ia fp wr n₀ Pf St₀) ∧ St₀ 0 s₄.heap ∧ (∀ b ∈ fp, b < s₄.heap.objs.size) ∧ s₄.heap.NoLimit ∧ cStatics ∉ wr ∧
          (∀ href : Heap, (∀ b o, s₄.heap.get? b = some o → href.get? b = some o) →
            QuietGen X.prog X.w (genEnv scope (cloFrom X.env.cells scope.names []) s₄.heap.objs.size code bi X.env) x [.Compare (.Name x q2) [.NotEq] [.Name f q3] q4] (.Name x q1) (List.range s₄.heap.objs.size) wr Pf pz F href) ∧
          (∀ g h₅ tk gs, gs.bare = true → s₄.heap.objs.size < g → h₅.objs.size = g + 1 → (∀ b o, s₄.heap.get? b = some o → h₅.get? b = some o) →
            WalksS X.prog X.w X.A.in4 g (g :: s₄.heap.objs.size :: List.range s₄.heap.objs.size) (s₄.heap.objs.size :: wr) (GenOnlyQ s₄.gens.size) (passing pz n₀ 0).length
              (fun j y => ∃ i, (passing pz n₀ 0)[j]? = some i ∧ F i y) (GenAt X.prog X.w X.A.in4 g s₄.gens.size s₄.heap.objs.size (List.range s₄.heap.objs.size) wr pz n₀ F) →
            GenAt X.prog X.w X.A.in4 g s₄.gens.size s₄.heap.objs.size (List.range s₄.heap.objs.size) wr pz n₀ F 0 { s₄ with gens := s₄.gens.push gs, toks := tk, heap := h₅ } →
            wpAny (model X.prog X.w) X.A (spliced (backTo pos (starEach [] X.env))) (fun vs s6 => wpAny (model X.prog X.w) X.A (call (.type "tuple") (.ref g :: vs)) (EP X pins σ Q) X.xe s6) X.xe { s₄ with gens := s₄.gens.push gs, toks := tk, heap := h₅ })) X.xe { s1 with heap := h3, toks := tk } := by
    intro code h3 tk more hx hle hP3 ht3
    obtain ⟨bm, ob, b1, b2, b3, b4, b5, b6, b7, b8⟩ := TB.bm
    have keep3 : ∀ b u, b ≠ P → s1.heap.get? b = some u → h3.get? b = some u := fun b u hb e => hx b u hb (up b u e)
    have lh3 : s1.heap.objs.size < h3.objs.size := by
      rw [szo] at hle
      exact hle
    refine wpAny_builtinsFor (m := X.mg) (by rw [I1.ok.glob]; exact ((I1.mod.glob.keeps I1.bk).push o).extBut hx TB.gP) b1 b2 (keep3 _ _ b4 (I1.bk _ _ b5)) b6 b7 b8 ?_
    have hT3 : h3.IsTuple a its.toArray := pT'.at fun u e => keep3 a u aP e
    have hI3 : h3.IsTupleIter s1.heap.objs.size a 0 := by
      refine ⟨o, hx _ _ (Nat.ne_of_gt lP) (Heap.get?_push_size _ (by rw [← ho]; rfl)), ?_, ?_⟩
      · rw [← ho]
      · rw [← ho]
        rfl
    have hc3 : h3.get? cf = some oc := keep3 _ _ cP hoc
    refine ⟨s1.heap.objs.size, [s1.heap.objs.size, a], [s1.heap.objs.size], its.toArray.size, (fun i v => its.toArray[i]? = some v), (fun i h => h.IsTupleIter s1.heap.objs.size a i ∧ h.IsTuple a its.toArray),
      (fun i => match ns[i]? with | some k => k != vf | none => false), (fun i y => ∃ k t, ns[i]? = some k ∧ y = .int k t), rfl, fun A' hA => Walks.tuple hA _ _ (Nat.ne_of_lt la) _, ⟨hI3, hT3⟩, ?_, lim.extBut hx sC, ?_, ?_, ?_⟩
    · intro b hb
      rcases (show b = s1.heap.objs.size ∨ b = a by simpa using hb) with rfl | rfl
      · exact lh3
      · exact Nat.lt_trans la lh3
    · intro z
      have z' : cStatics = s1.heap.objs.size := by simpa using z
      exact Nat.ne_of_lt lS z'
    · intro href hhref
      have cell : ∀ s₂ : Shared, (∀ b ∈ List.range h3.objs.size, b ∉ [s1.heap.objs.size] → ∀ o, href.get? b = some o → s₂.heap.get? b = some o) → s₂.heap.IsCell cf (some (.int vf tf)) := fun s₂ hk => by
        refine ⟨oc, hk cf (List.mem_range.mpr (Heap.lt_size hc3)) (by simp; exact Nat.ne_of_lt lc) _ (hhref _ _ hc3), hdc⟩
      have find : (cloFrom X.env.cells scope.names []).lookup f = some cf := clo_find hcl _ _ (.inl hfs) (fun c' z => by cases z)
      refine ⟨?_, ?_⟩
      · intro A' E' i v s₂ m₂ hA hPv hn hmx hk
        obtain ⟨kk, t, hki, rfl⟩ := at_ i v hPv
        refine wpAny_tests_one (wpAny_isTrue_Compare1 ?_ rfl)
        refine wpAny_Name (wpAny_loadName_local S.kind S.loc hn hmx ?_) d1
        refine wpAny_Name (wpAny_loadName_free S.kind hff find (cell s₂ hk) ?_ d3) d2
        refine ne_int (wpAny_truthy_bool ⟨?_, GxR.keeps_refl _⟩)
        rw [hki]
      · intro A' E' i v s₂ m₂ hA hPv hp hn hmx hk
        obtain ⟨kk, t, hki, rfl⟩ := at_ i v hPv
        exact wpAny_Name (wpAny_loadName_local S.kind S.loc hn hmx ⟨⟨kk, t, hki, rfl⟩, GxR.keeps_refl _⟩) d1
    · intro g h5 tk5 gs hgb hag hsz5 hk5 W5 hgat
      refine Calls.spliced_nil ?_
      have lt5 : ∀ b ∈ g :: h3.objs.size :: List.range h3.objs.size, b < h5.objs.size := fun b hb => by
        have h8 : h3.objs.size < g := hag
        rw [hsz5]
        rcases List.mem_cons.mp hb with z | z
        · omega
        · rcases List.mem_cons.mp z with z | z
          · omega
          · have := List.mem_range.mp z
            omega
      have few : (passing (fun i => match ns[i]? with | some k => k != vf | none => false) its.toArray.size 0).length ≤ sizeLine := by
        unfold passing
        have z1 := List.length_filter_le (fun i => match ns[i]? with | some k => k != vf | none => false) ((List.range its.toArray.size).drop 0)
        rw [List.drop_zero, List.length_range] at z1
        have z2 : its.toArray.size ≤ sizeLine := by
          rw [hsz]
          have z := (I1.tuple hT).choose_spec.2.2
          rw [List.length_map] at z
          exact z
        rw [List.drop_zero]
        omega
      refine call_tuple_gen (hsz := few) W5.in4_3 (fun i s9 h9 => h9.1.typeIs) hgat lt5 List.mem_cons_self ?_
      intro s' acc hmv hacc
      have nwr : ∀ b u, s1.heap.get? b = some u → b ∉ h3.objs.size :: [s1.heap.objs.size] := fun b u e hb => by
        have hl := Heap.lt_size e
        rcases (show b = h3.objs.size ∨ b = s1.heap.objs.size by simpa using hb) with z | z
        · rw [z] at hl
          exact Nat.lt_irrefl _ (Nat.lt_trans hl lh3)
        · exact Nat.ne_of_lt hl z
      have J := GxR.inv_tab (more := more) (h' := s'.heap) (g' := s'.gens) (d' := s'.drawn) (t' := s'.toks) I1 hP (fun b u hb e => hmv.heap b u (nwr b u e) (hk5 b u (keep3 b u hb e)))
        (hmv.heap P _ (nwr P _ hPs) (hk5 P _ hP3)) (AllBare.movedS (I1.bare.push hgb) hmv)
      rw [GxR.sh_eta s1 s' hmv.os] at J
      have Tb : Tabbed P H1 (upd H1 P (.tbl (ps ++ more))) := ⟨⟨ps ++ more, upd_same, ht3⟩, fun b hb => upd_ne hb⟩
      have fr : (upd H1 P (.tbl (ps ++ more))) s'.heap.objs.size = none := J.hok.fresh (Nat.le_refl _)
      have vals : Vals ((ns.filter fun k => k != vf).map V.int) acc.toList := by
        rw [← pass_map ns fun k => k != vf]
        obtain ⟨e1, e2⟩ := hacc
        have pe : passing (fun i => match ns[i]? with | some k => k != vf | none => false) its.toArray.size 0 = (List.range ns.length).filter fun i => match ns[i]? with | some k => k != vf | none => false := by
          unfold passing
          rw [List.drop_zero, hsz]
        rw [pe] at e1 e2
        refine vals_of_at ?_ ?_
        · have z : acc.toList.length = acc.size := Array.length_toList
          rw [List.length_map, List.length_map, z, e1]
        · intro j y u hy hu
          rw [Array.getElem?_toList] at hu
          obtain ⟨i, hij, kk, t, hki, rfl⟩ := e2 j u hu
          rw [List.getElem?_map, List.getElem?_map, hij] at hy
          have hy' : V.int (ns.getD i 0) = y := Option.some.inj hy
          rw [← hy', List.getD_eq_getElem?_getD, hki]
          exact ⟨t, rfl⟩
      have small : ((ns.filter fun k => k != vf).map V.int).length ≤ sizeLine := by
        rw [vals.length, Array.length_toList, hacc.1]
        exact few
      refine ⟨.ref s'.heap.objs.size, _, J.laid (t' := s'.toks) (o := .tup ((ns.filter fun k => k != vf).map V.int)) (fun b u e => Heap.get?_push_of_some _ e) (Nat.le_refl _) ?_, rfl, hQ _ _ Tb fr⟩
      refine ⟨small, acc.toList, vals, ?_⟩
      have e0 : acc.toList.toArray = acc := by simp
      rw [e0]
      exact IsTup.new _ _
  refine ⟨lim, ?_⟩
  have hP2 := up _ _ hPs
  cases hf : codeAmong gpos ps.toList with
  | none =>
    refine wpAny_genexprCodeX hcode (cd.code hP2 ht) (cd.tab hP2) hf fun c' h' tk hx hge hlt hco' _ htab' _ => ?_
    obtain ⟨_, _, _, _, _, _, _, _, _, _, _, _, _, _, _, _, _, _, _, htr, _⟩ := hco'
    exact go _ h' tk _ hx (Nat.le_trans hge (Nat.le_of_lt hlt)) htab'.2 htr
  | some cv =>
    refine wpAny_genexprCode_hit hcode (cd.code hP2 ht) hf ?_
    refine go cv (s1.heap.push o) s1.toks #[] (Heap.ExtBut.refl _ _) (Nat.le_refl _) ?_ ?_
    · rw [Array.append_empty]
      exact hP2
    · rw [Array.append_empty]
      exact ht
end

/-! ### inversions, crossings, signs -/
def sg (n : Nat) : Int := if n % 2 = 0 then 1 else -1
theorem sg_add (a b : Nat) : sg (a + b) = sg a * sg b := by
  unfold sg
  have h1 := Nat.mod_two_eq_zero_or_one a
  have h2 := Nat.mod_two_eq_zero_or_one b
  rcases h1 with h1 | h1 <;> rcases h2 with h2 | h2 <;> simp [Nat.add_mod, h1, h2]
theorem sg_succ (a : Nat) : sg (a + 1) = 0 - sg a := by
  rw [sg_add, show sg 1 = -1 from rfl]
  omega
theorem sg_cases (a : Nat) : sg a = 1 ∨ sg a = -1 := by
  unfold sg
  by_cases h : a % 2 = 0
  · exact .inl (if_pos h)
  · exact .inr (if_neg h)
theorem sg_abs (a : Nat) : (-2 : Int) < sg a ∧ sg a < 2 := by
  rcases sg_cases a with h | h <;> rw [h] <;> decide
theorem sg_mod (n : Nat) : (1 : Int) - 2 * ((n : Int) % 2) = sg n := by
  unfold sg
  by_cases h : n % 2 = 0
  · rw [if_pos h]
    omega
  · rw [if_neg h]
    omega
def bel (l : List Int) (h : Int) : Nat := (l.filter fun x => decide (x < h)).length
def abv (l : List Int) (h : Int) : Nat := (l.filter fun x => decide (x > h)).length
def crs (a b : List Int) : Nat := (b.map (abv a)).sum
def inv : List Int → Nat
  | [] => 0
  | x :: t => bel t x + inv t
theorem bel_cons (x : Int) (l : List Int) (h : Int) : bel (x :: l) h = (if x < h then 1 else 0) + bel l h := by
  unfold bel
  rw [List.filter_cons]
  by_cases e : x < h
  · rw [if_pos (by simpa using e), if_pos e, List.length_cons]
    omega
  · rw [if_neg (by simpa using e), if_neg e]
    omega
theorem abv_cons (x : Int) (l : List Int) (h : Int) : abv (x :: l) h = (if h < x then 1 else 0) + abv l h := by
  unfold abv
  rw [List.filter_cons]
  by_cases e : h < x
  · rw [if_pos (by simpa using e), if_pos e, List.length_cons]
    omega
  · rw [if_neg (by simpa using e), if_neg e]
    omega
theorem bel_app (a b : List Int) (h : Int) : bel (a ++ b) h = bel a h + bel b h := by
  unfold bel
  rw [List.filter_append, List.length_append]
theorem crs_nil (b : List Int) : crs [] b = 0 := by
  unfold crs
  induction b with
  | nil => rfl
  | cons y b ih =>
    rw [List.map_cons, List.sum_cons, ih]
    rfl
theorem crs_cons (a : List Int) (y : Int) (b : List Int) : crs a (y :: b) = abv a y + crs a b := by
  unfold crs
  rw [List.map_cons, List.sum_cons]
theorem crs_consL (x : Int) (a : List Int) : ∀ b : List Int, crs (x :: a) b = bel b x + crs a b
  | [] => rfl
  | y :: b => by
    have ih := crs_consL x a b
    rw [crs_cons, crs_cons, ih, abv_cons, bel_cons]
    omega
theorem crs_appL (a b c : List Int) : crs (a ++ b) c = crs a c + crs b c := by
  induction a with
  | nil => rw [List.nil_append, crs_nil, Nat.zero_add]
  | cons x a ih =>
    rw [List.cons_append, crs_consL, crs_consL, ih]
    omega
theorem crs_appR (a b c : List Int) : crs a (b ++ c) = crs a b + crs a c := by
  unfold crs
  rw [List.map_append, List.sum_append]
theorem abv_perm {a a' : List Int} (p : a.Perm a') (h : Int) : abv a h = abv a' h := (p.filter _).length_eq
theorem bel_perm {a a' : List Int} (p : a.Perm a') (h : Int) : bel a h = bel a' h := (p.filter _).length_eq
theorem crs_perm {a a' b b' : List Int} (p : a.Perm a') (q : b.Perm b') : crs a b = crs a' b' := by
  unfold crs
  have e : abv a = abv a' := funext fun h => abv_perm p h
  rw [e]
  exact (q.map _).sum_nat
theorem inv_app (a b : List Int) : inv (a ++ b) = inv a + inv b + crs a b := by
  induction a with
  | nil =>
    rw [List.nil_append, crs_nil]
    show inv b = 0 + inv b + 0
    omega
  | cons x a ih =>
    show bel (a ++ b) x + inv (a ++ b) = (bel a x + inv a) + inv b + crs (x :: a) b
    rw [bel_app, ih, crs_consL]
    omega
theorem bel_abv {b : List Int} {x : Int} (h : x ∉ b) : bel b x + abv b x = b.length := by
  induction b with
  | nil => rfl
  | cons y b ih =>
    have h1 : x ≠ y := fun e => h (e ▸ List.mem_cons_self)
    have h2 := ih fun m => h (List.mem_cons_of_mem _ m)
    rw [bel_cons, abv_cons, List.length_cons]
    by_cases e : y < x
    · rw [if_pos e, if_neg (by omega)]
      omega
    · rw [if_neg e, if_pos (by omega)]
      omega
theorem crs_swap {a b : List Int} (h : ∀ x ∈ a, x ∉ b) : crs a b + crs b a = a.length * b.length := by
  induction a with
  | nil =>
    rw [crs_nil]
    show 0 + 0 = 0 * b.length
    omega
  | cons x a ih =>
    have h1 := bel_abv (h x List.mem_cons_self)
    have h2 := ih fun y hy => h y (List.mem_cons_of_mem _ hy)
    rw [crs_consL, crs_cons, List.length_cons, Nat.succ_mul]
    omega
theorem inv_swap {a b : List Int} {x y : Int} (h : y < x) : inv (a ++ x :: y :: b) = inv (a ++ y :: x :: b) + 1 := by
  rw [inv_app, inv_app, crs_perm (List.Perm.refl a) (List.Perm.swap y x b)]
  show inv a + (bel (y :: b) x + (bel b y + inv b)) + _ = inv a + (bel (x :: b) y + (bel b x + inv b)) + _ + 1
  rw [bel_cons, bel_cons, if_pos h, if_neg (by omega)]
  omega
theorem bel_none {l : List Int} {x : Int} (h : ∀ y ∈ l, x ≤ y) : bel l x = 0 := by
  induction l with
  | nil => rfl
  | cons y l ih =>
    have h1 := h y List.mem_cons_self
    rw [bel_cons, if_neg (by omega), ih fun z hz => h z (List.mem_cons_of_mem _ hz)]
theorem inv_zero : ∀ {l : List Int}, l.Pairwise (· ≤ ·) → inv l = 0
  | [], _ => rfl
  | x :: l, p => by
    have h := List.pairwise_cons.mp p
    show bel l x + inv l = 0
    rw [bel_none h.1, inv_zero h.2]
/-! ### the sorted row -/
def srt (l : List Int) : List Int := l.mergeSort fun a b => decide (a ≤ b)
theorem srt_perm (l : List Int) : (srt l).Perm l := List.mergeSort_perm ..
theorem srt_pw (l : List Int) : (srt l).Pairwise (· ≤ ·) := by
  have h := List.pairwise_mergeSort (le := fun a b : Int => decide (a ≤ b)) (fun a b c h1 h2 => by
    have := of_decide_eq_true h1
    have := of_decide_eq_true h2
    exact decide_eq_true (by omega)) (fun a b => by
    rw [Bool.or_eq_true, decide_eq_true_eq, decide_eq_true_eq]
    omega) l
  exact h.imp fun h => of_decide_eq_true h
theorem pw_eq {l m : List Int} (h1 : l.Pairwise (· ≤ ·)) (h2 : m.Pairwise (· ≤ ·)) (p : l.Perm m) : l = m :=
  List.Perm.eq_of_pairwise (fun a b _ _ x y => by omega) h1 h2 p
theorem srt_eq {l m : List Int} (h : m.Pairwise (· ≤ ·)) (p : m.Perm l) : m = srt l := pw_eq h (srt_pw l) (p.trans (srt_perm l).symm)
theorem srt_congr {l m : List Int} (p : l.Perm m) : srt l = srt m := srt_eq (srt_pw l) ((srt_perm l).trans p)
theorem srt_of {l : List Int} (h : l.Pairwise (· ≤ ·)) : srt l = l := (srt_eq h (List.Perm.refl l)).symm
theorem srt_nil : srt [] = [] := srt_of List.Pairwise.nil
theorem srt_len (l : List Int) : (srt l).length = l.length := (srt_perm l).length_eq
/-! ### neighbours exchanged -/
theorem split2 {l : List Int} {m : Nat} (h : m + 1 < l.length) : ∃ a x y b, l = a ++ x :: y :: b ∧ a.length = m := by
  refine ⟨l.take m, l[m], l[m + 1], l.drop (m + 2), ?_, by rw [List.length_take]; omega⟩
  rw [List.getElem_cons_drop, List.getElem_cons_drop, List.take_append_drop]
theorem sp_get0 {a b : List Int} {x y : Int} {m : Nat} (h : a.length = m) : (a ++ x :: y :: b)[m]? = some x := by
  rw [List.getElem?_append_right (by omega), h, Nat.sub_self]
  rfl
theorem sp_get1 {a b : List Int} {x y : Int} {m : Nat} (h : a.length = m) : (a ++ x :: y :: b)[m + 1]? = some y := by
  rw [List.getElem?_append_right (by omega), show m + 1 - a.length = 1 by omega]
  rfl
theorem sp_set {a b : List V} {x y u v : V} {m : Nat} (h : a.length = m) : ((a ++ x :: y :: b).set m u).set (m + 1) v = a ++ u :: v :: b := by
  subst h
  rw [List.set_append_right _ _ (Nat.le_refl _), Nat.sub_self, List.set_cons_zero, List.set_append_right _ _ (by omega), show a.length + 1 - a.length = 1 by omega]
  rfl
theorem sp_getD {a b : List Int} {x y : Int} {m : Nat} (h : a.length = m) (i : Nat) : (a ++ y :: x :: b).getD i 0 = if i = m then y else if i = m + 1 then x else (a ++ x :: y :: b).getD i 0 := by
  subst h
  by_cases h1 : i = a.length
  · rw [if_pos h1, List.getD_eq_getElem?_getD, h1, sp_get0 rfl]
    rfl
  · rw [if_neg h1]
    by_cases h2 : i = a.length + 1
    · rw [if_pos h2, List.getD_eq_getElem?_getD, h2, sp_get1 rfl]
      rfl
    · rw [if_neg h2, List.getD_eq_getElem?_getD, List.getD_eq_getElem?_getD]
      congr 1
      by_cases h3 : i < a.length
      · rw [List.getElem?_append_left h3, List.getElem?_append_left h3]
      · rw [List.getElem?_append_right (by omega), List.getElem?_append_right (by omega)]
        obtain ⟨j, hj⟩ : ∃ j, i - a.length = j + 2 := ⟨i - a.length - 2, by omega⟩
        rw [hj]
        rfl
/-- all behind place e is in its place -/
def Fin (l : List Int) (e : Nat) : Prop := ∀ i j, i < j → e < j → j < l.length → l.getD i 0 ≤ l.getD j 0
/-- the greatest of the first m + 1 stands at m -/
def Top (l : List Int) (m : Nat) : Prop := ∀ i, i < m → l.getD i 0 ≤ l.getD m 0
theorem fin_pw {l : List Int} (h : Fin l 0) : l.Pairwise (· ≤ ·) := by
  refine List.pairwise_iff_getElem.mpr fun i j hi hj hij => ?_
  have z := h i j hij (by omega) hj
  rw [List.getD_eq_getElem?_getD, List.getD_eq_getElem?_getD, List.getElem?_eq_getElem hi, List.getElem?_eq_getElem hj] at z
  exact z
theorem fin_down {l : List Int} {e : Nat} (h : Fin l (e + 1)) (t : Top l (e + 1)) : Fin l e := fun i j hij he hj => by
  by_cases z : j = e + 1
  · subst z
    exact t i hij
  · exact h i j hij (by omega) hj
/-- a step without an exchange -/
theorem top_up {l : List Int} {m : Nat} (t : Top l m) (h : l.getD m 0 ≤ l.getD (m + 1) 0) : Top l (m + 1) := fun i hi => by
  by_cases z : i = m
  · subst z
    exact h
  · have := t i (by omega)
    omega
/-- a step with one -/
theorem swap_fin {a b : List Int} {x y : Int} {m e : Nat} (h : a.length = m) (he : m + 1 ≤ e) (f : Fin (a ++ x :: y :: b) e) : Fin (a ++ y :: x :: b) e := fun i j hij hej hj => by
  have hj' : j < (a ++ x :: y :: b).length := by
    rw [List.length_append] at hj ⊢
    exact hj
  rw [sp_getD h i, sp_getD h j, if_neg (show ¬ j = m by omega), if_neg (show ¬ j = m + 1 by omega)]
  have g0 : (a ++ x :: y :: b).getD m 0 = x := by
    rw [List.getD_eq_getElem?_getD, sp_get0 h]
    rfl
  have g1 : (a ++ x :: y :: b).getD (m + 1) 0 = y := by
    rw [List.getD_eq_getElem?_getD, sp_get1 h]
    rfl
  by_cases h1 : i = m
  · rw [if_pos h1]
    have z := f (m + 1) j (by omega) hej hj'
    rw [g1] at z
    exact z
  · rw [if_neg h1]
    by_cases h2 : i = m + 1
    · rw [if_pos h2]
      have z := f m j (by omega) hej hj'
      rw [g0] at z
      exact z
    · rw [if_neg h2]
      exact f i j hij hej hj'
theorem swap_top {a b : List Int} {x y : Int} {m : Nat} (h : a.length = m) (hxy : y < x) (t : Top (a ++ x :: y :: b) m) : Top (a ++ y :: x :: b) (m + 1) := fun i hi => by
  rw [sp_getD h i, sp_getD h (m + 1), if_neg (show ¬ m + 1 = m by omega), if_pos (rfl : m + 1 = m + 1)]
  have g0 : (a ++ x :: y :: b).getD m 0 = x := by
    rw [List.getD_eq_getElem?_getD, sp_get0 h]
    rfl
  by_cases h1 : i = m
  · rw [if_pos h1]
    omega
  · rw [if_neg h1, if_neg (by omega)]
    have z := t i (by omega)
    rw [g0] at z
    exact z
/-! ### one hand less -/
theorem bel_ne {l : List Int} {g h : Int} (nd : l.Nodup) (hg : g ∈ l) : bel l h = bel (l.filter fun k => k != g) h + (if g < h then 1 else 0) := by
  induction l with
  | nil => cases hg
  | cons x l ih =>
    have n := List.nodup_cons.mp nd
    by_cases e : x = g
    · subst e
      have z : (l.filter fun k => k != x) = l := by
        rw [List.filter_eq_self]
        intro k hk
        have : k ≠ x := fun q => n.1 (q ▸ hk)
        simpa using this
      rw [List.filter_cons, if_neg (by simp), z, bel_cons]
      omega
    · have m : g ∈ l := by
        rcases List.mem_cons.mp hg with q | q
        · exact absurd q.symm e
        · exact q
      rw [List.filter_cons, if_pos (by simpa using e), bel_cons, bel_cons, ih n.2 m]
      omega
theorem two_out {l : List Int} {g h : Int} (nd : l.Nodup) (hg : g ∈ l) (hh : h ∈ l) (ne : g ≠ h) :
    sg (bel l g) * sg (bel (l.filter fun k => k != g) h) + sg (bel l h) * sg (bel (l.filter fun k => k != h) g) = 0 := by
  have e1 := bel_ne (h := h) nd hg
  have e2 := bel_ne (h := g) nd hh
  rw [← sg_add, ← sg_add]
  by_cases c : g < h
  · rw [if_pos c] at e1
    rw [if_neg (by omega)] at e2
    rw [show bel l h + bel (l.filter fun k => k != h) g = (bel l g + bel (l.filter fun k => k != g) h) + 1 by omega, sg_succ]
    omega
  · rw [if_neg c] at e1
    rw [if_pos (by omega)] at e2
    rw [show bel l g + bel (l.filter fun k => k != g) h = (bel l h + bel (l.filter fun k => k != h) g) + 1 by omega, sg_succ]
    omega

/-! ### len(set(xs)) of ints, also where some are there twice -/
theorem firstMet_dup {ns : List Int} : ∀ i, i ≤ ns.length → (PyProof.Rows.firstMet (fun i => ns.getD i 0) i).length = i → (ns.take i).Nodup
  | 0, _, _ => by simp
  | i + 1, hi, e => by
    have hlt : i < ns.length := hi
    have e1 : ns.getD i 0 = ns[i] := by
      rw [List.getD_eq_getElem?_getD, List.getElem?_eq_getElem hlt] <;> rfl
    have e2 : ns.take (i + 1) = ns.take i ++ [ns[i]] := by
      rw [List.take_add_one, List.getElem?_eq_getElem hlt] <;> rfl
    have le := PyProof.Rows.firstMet_length_le (fun i => ns.getD i 0) i
    have any := PyProof.Rows.firstMet_any (fun i => ns.getD i 0) i (ns.getD i 0)
    rw [PyProof.Rows.firstMet_succ] at e
    have e' : (if (PyProof.Rows.firstMet (fun i => ns.getD i 0) i).any (· == ns.getD i 0) then PyProof.Rows.firstMet (fun i => ns.getD i 0) i else PyProof.Rows.firstMet (fun i => ns.getD i 0) i ++ [ns.getD i 0]).length = i + 1 := e
    cases hb : (PyProof.Rows.firstMet (fun i => ns.getD i 0) i).any (· == ns.getD i 0) with
    | true =>
      rw [hb, if_pos rfl] at e'
      omega
    | false =>
      rw [hb, if_neg (by decide), List.length_append] at e'
      have ih := firstMet_dup i (Nat.le_of_lt hlt) (by simpa using e')
      rw [e2]
      refine List.nodup_append.mpr ⟨ih, by simp, ?_⟩
      intro x hx y hy z
      rw [List.mem_singleton] at hy
      subst hy
      subst z
      rw [hb] at any
      have no := List.any_eq_false.mp any.symm
      obtain ⟨j, hj⟩ := List.mem_iff_getElem?.mp hx
      rw [List.getElem?_take] at hj
      by_cases hji : j < i
      · rw [if_pos hji] at hj
        refine no (ns.getD j 0) (List.mem_map.mpr ⟨j, List.mem_range.mpr hji, rfl⟩) ?_
        rw [List.getD_eq_getElem?_getD, hj, e1]
        simp
      · rw [if_neg hji] at hj
        cases hj
def tLenSet (K : PySem.W.Frag) (ta : TE) : TE := fun σ H Q => ta σ H fun x H1 => ∃ (l : Addr) (ns : List Int), x = .ref l ∧ SqL K H1 l (ns.map V.int) ∧ ns.length ≤ 4000 ∧ ∀ m : Nat, m ≤ ns.length → (m = ns.length ↔ ns.Nodup) → Q (.int m) H1
theorem pe_lenSet (K : PySem.W.Frag) {X : Cx} {a : Expr} {ta : TE} {p p2 q pos : Pos} (hg : Gl X "len") (hm : X.mg "len" = none) (hg2 : Gl X "set") (hm2 : X.mg "set" = none) (ha : PE X a ta) (hc : X.calm = true := by rfl) (hK : X.K = K := by rfl)
    (na : starEach [a] X.env = (false, eval a X.env) :: starEach [] X.env := by rfl) : PE X (.Call (.Name "len" p) [.Call (.Name "set" p2) [a] [] q] [] pos) (tLenSet K ta) := by
  subst hK
  refine ⟨fun pins s σ H Q I h => ?_⟩
  refine Call_ (ld_blt I hg hm boot_len ?_)
  refine PyProof.Rows.callWith_builtin1 (PyProof.Rows.args_cons ?_ rfl) rfl rfl
  refine Call_ (ld_blt I hg2 hm2 boot_set ?_)
  refine PyProof.Rows.callWith_type1 (PyProof.Rows.args_cons (thn (ha.run pins s σ H _ I h) fun v s1 ⟨x, H1, I1, r1, q1⟩ => PyProof.Rows.args_nil ?_) na) na rfl
  obtain ⟨l, ns, rfl, hq, hl, q1⟩ := q1
  cases r1
  obtain ⟨its, r, pl, hz⟩ := I1.list hq
  have hlen : its.toArray.size = ns.length := by rw [List.size_toArray, ← r.length, List.length_map]
  refine call_set_list (I1.ok.hd hc) pl.isList (by simpa using RZ.intsAre_vals r) (by rw [hlen]; unfold scanBound; omega) fun h' tk hS hk => ?_
  refine PyProof.Rows.args_nil ?_
  rw [hlen] at hS
  have le := PyProof.Rows.firstMet_length_le (fun i => ns.getD i 0) ns.length
  have iff : (PyProof.Rows.firstMet (fun i => ns.getD i 0) ns.length).length = ns.length ↔ ns.Nodup := by
    constructor
    · intro e
      have z := firstMet_dup ns.length (Nat.le_refl _) e
      rw [List.take_length] at z
      exact z
    · intro nd
      rw [RZ.firstMet_nodup nd ns.length (Nat.le_refl _), List.take_length]
  obtain ⟨o, es, ep, t, ho, hex, hd, _, _, _, hf, hn⟩ := hS
  have I2 : Inv X pins σ H1 { s1 with heap := h', toks := tk } := I1.kept fun b o e => hk b o (Heap.lt_size e) e
  exact call_len_set ho hex hd hf (by rw [hn] <;> omega) ⟨.int (PyProof.Rows.firstMet (fun i => ns.getD i 0) ns.length).length, H1, I2.tok _, ⟨_, by rw [hn]⟩, q1 _ le iff⟩

/-! ### 1 of an even number, -1 of an odd one; the sign of a hand -/
def spSgm : Sp := fun vs H Q _ => ∃ n : Nat, vs = [.int n] ∧ Q (.int (sg n)) H
theorem ok_sign_of_many {f : Addr} {fd : FuncData} (F : Fun K "sign_of_many" "sign_of_many" s_sign_of_many f fd) (T : Txt K mg) : FnOk P w K mg base CX0 1 f fd ["many"] spSgm := by
  refine F.ok sc_sign_of_many (fun vs H Q E h => ?_) (fun cdv A outer s H vs Q E hr h => ?_)
  · obtain ⟨n, rfl, _⟩ := h
    rfl
  · obtain ⟨n, rfl, q⟩ := h
    refine ⟨_, (pss_one (ps_ret (pe_ifExp (pt_cmpR op_eq (pe_op op_mod (pv 0) pe_int) pe_int (nomark _)) pe_int (pe_un un_neg pe_int)))), ?_⟩
    refine ⟨_, rfl, _, _, rfl, rfl, (by show (0 : Int) < 2; decide), rfl, _, rfl, ?_⟩
    have ed : decide (V.int ((n : Int) % 2) = V.int 0) = decide (n % 2 = 0) := by
      by_cases h : n % 2 = 0
      · rw [decide_eq_true h, decide_eq_true]
        rw [show (n : Int) % 2 = 0 by omega]
      · rw [decide_eq_false h, decide_eq_false]
        intro z
        have := V.int.inj z
        omega
    rw [ed]
    unfold sg at q
    refine ite2 (fun e => ?_) (fun e => ?_)
    · rw [if_pos (of_decide_eq_true e)] at q
      exact q
    · rw [if_neg (fun z => e (decide_eq_true z))] at q
      exact ⟨_, rfl, q⟩
def spSign (K : PySem.W.Frag) : Sp := fun vs H Q _ => ∃ (t : Addr) (x : Int) (l : List Int), vs = [.int x, .ref t] ∧ SqT K H t (l.map V.int) ∧ l.length ≤ 200 ∧ ∀ H', Same H H' → Q (.int (sg (bel l x))) H'
theorem ok_sign {f : Addr} {fd : FuncData} (F : Fun K "sign" "sign" s_sign f fd) (T : Txt K mg) : FnOk P w K mg base CX0 2 f fd ["hand", "lot"] (spSign K) := by
  obtain ⟨fM, fdM, D_sign_of_many⟩ := T.d_sign_of_many
  have G_sign_of_many : FnOk P w K mg base CX0 1 fM fdM _ _ := ok_sign_of_many D_sign_of_many.F T
  refine F.ok sc_sign (fun vs H Q E h => ?_) (fun cdv A outer s H vs Q E hr h => ?_)
  · obtain ⟨t, x, l, rfl, _⟩ := h
    rfl
  · obtain ⟨t, x, l, rfl, ht, hl, q⟩ := h
    refine ⟨_, (pss_one (ps_ret (pe_call G_sign_of_many (hr.mono (by decide)) (by rfl) D_sign_of_many.g D_sign_of_many.F.kp D_sign_of_many.b .nil pass0 (pa_cons (pe_callB (k_len K) (by rfl) T.z_len (by decide +kernel) (pa_cons (pe_lc (own := [("other", 2)]) (g := gName 2)  rfl sc_sign.nd (k_piT K (pv 1)) (blkOk_by (own := [("other", 2)]) (N := ["hand", "lot", "other"]) (sc := (defScope s_sign)) (by decide +kernel)) (fun _ _ _ _ _ => pg_name (i := 2) sc_sign.nd rfl (by first | exact Or.inl rfl | exact Or.inr rfl)) (fun _ _ _ _ _ => pts_one (pt_cmpR op_lt (pv 2) (pv 0) (nomark _))) (fun _ _ _ _ _ => (pv 2))) pa_nil)) pa_nil)))), ?_⟩
    refine ⟨_, rfl, t, rfl, ⟨_, ht⟩, fun D nD => lc_tup (K := K) (a := t) (xs := l.map V.int) (fun i H' => H' = upd H D (.lst (((l.take i).filter (fun y => decide (y < x))).map V.int))) rfl (fun i H' _ e => by subst e; exact seqT (same_upd nD) ht) ?_ ?_⟩
    · rintro i y H' hy rfl
      obtain ⟨y, hy2, rfl⟩ := map_int_get hy
      have hi := (List.getElem?_eq_some_iff.mp hy2).1
      refine ⟨rfl, _, rfl, _, rfl, _, _, rfl, rfl, _, rfl, ?_⟩
      rw [List.take_add_one, hy2, List.filter_append]
      show if decide (y < x) = true then _ else _
      cases hc : decide (y < x) with
      | true =>
        rw [if_pos rfl]
        refine ⟨_, rfl, _, upd_same, ?_, ?_⟩
        · rw [List.length_map]
          have := List.length_filter_le (fun y => decide (y < x)) (l.take i)
          rw [List.length_take] at this
          exact small1000 (by omega)
        · rw [upd_upd, List.map_append]
          have hc' : y < x := of_decide_eq_true hc
          simp [hc']
      | false =>
        rw [if_neg (by decide)]
        have hc' : ¬ y < x := of_decide_eq_false hc
        simp [hc']
    · rintro H' rfl
      rw [List.length_map, List.take_length]
      refine ⟨D, _, rfl, .inl (SqL.of upd_same), ?_⟩
      rw [List.length_map]
      exact ⟨bel l x, rfl, q _ (same_upd nD)⟩

/-! ### two lots laid together -/
def PairAt (H : Hp) (p : Addr) (s : Int) (l : List Int) : Prop := ∃ q, H p = some (.tup [.int s, .ref q]) ∧ H q = some (.tup (l.map V.int))
theorem PairAt.same {H H' : Hp} {p : Addr} {s : Int} {l : List Int} (h : PairAt H p s l) (e : Same H H') : PairAt H' p s l := by
  obtain ⟨q, h1, h2⟩ := h
  exact ⟨q, e _ _ h1, e _ _ h2⟩
theorem same_refl (H : Hp) : Same H H := fun _ _ h => h
theorem cat_any {K : PySem.W.Frag} {H : Hp} {a b : Addr} {xs ys : List V} {Q : VK} (ha : SqT K H a xs) (hb : SqT K H b ys) (hl : xs.length + ys.length ≤ sizeLine)
    (q : ∀ p H', Same H H' → SqT K H' p (xs ++ ys) → Q (.ref p) H') : rCatA K (.ref a) (.ref b) H Q := by
  refine ⟨a, b, xs, ys, rfl, rfl, ha, hb, hl, fun e => ?_, fun _ e => ?_, fun _ _ p np => ?_⟩
  · subst e
    exact q b H (same_refl H) hb
  · subst e
    rw [List.append_nil] at q
    exact q a H (same_refl H) ha
  · exact q p _ (same_upd np) (SqT.of upd_same)
def shares (a b : List Int) : Bool := (b.map fun y => a.contains y).any id
def lsg (a b : List Int) : Int := if shares a b = true then 0 else sg (crs a b)
def lsr (a b : List Int) : List Int := if shares a b = true then [] else srt (a ++ b)
theorem shares_no {a b : List Int} (h : ∀ x ∈ a, x ∉ b) : shares a b = false := by
  unfold shares
  rw [List.any_map, List.any_eq_false]
  intro y hy z
  exact h y (List.contains_iff_mem.mp z) hy
theorem shares_yes {a b : List Int} {x : Int} (h : x ∈ a) (h' : x ∈ b) : shares a b = true := by
  unfold shares
  rw [List.any_map, List.any_eq_true]
  exact ⟨x, h', List.contains_iff_mem.mpr h⟩
theorem lsg_no {a b : List Int} (h : ∀ x ∈ a, x ∉ b) : lsg a b = sg (crs a b) := by
  unfold lsg
  rw [shares_no h]
  rfl
theorem lsr_no {a b : List Int} (h : ∀ x ∈ a, x ∉ b) : lsr a b = srt (a ++ b) := by
  unfold lsr
  rw [shares_no h]
  rfl
theorem sum_nat (l : List Int) (f : Int → Nat) : (l.map fun y => ((f y : Nat) : Int)).sum = ((l.map f).sum : Nat) := by
  induction l with
  | nil => rfl
  | cons x l ih =>
    rw [List.map_cons, List.map_cons, List.sum_cons, List.sum_cons, ih]
    omega
def spLaid (K : PySem.W.Frag) : Sp := fun vs H Q _ => ∃ (t u : Addr) (a b : List Int), vs = [.ref t, .ref u] ∧ SqT K H t (a.map V.int) ∧ SqT K H u (b.map V.int) ∧ a.length ≤ 200 ∧ b.length ≤ 200 ∧
  ∀ p H', Same H H' → H p = none → PairAt H' p (lsg a b) (lsr a b) → Q (.ref p) H'
theorem ok_laid {f : Addr} {fd : FuncData} (F : Fun K "laid" "laid" s_laid f fd) (T : Txt K mg) : FnOk P w K mg base CX0 2 f fd ["one", "other"] (spLaid K) := by
  obtain ⟨fM, fdM, D_sign_of_many⟩ := T.d_sign_of_many
  have G_sign_of_many : FnOk P w K mg base CX0 1 fM fdM _ _ := ok_sign_of_many D_sign_of_many.F T
  refine F.ok sc_laid (fun vs H Q E h => ?_) (fun cdv A outer s H vs Q E hr h => ?_)
  · obtain ⟨t, u, a, b, rfl, _⟩ := h
    rfl
  · obtain ⟨t, u, a, b, rfl, ht, hu, ha, hb, q⟩ := h
    refine ⟨_, (pss_cons (ps_if (pt_val (pe_callB (k_any K rfl) (by rfl) T.z_any (by decide +kernel) (pa_cons (pe_lc (own := [("hand", 2)]) (g := gName 2) (tt := tYes) rfl sc_laid.nd (k_piT K (pv 1)) (blkOk_by (own := [("hand", 2)]) (N := ["one", "other", "hand", "crossed", "above"]) (sc := (defScope s_laid)) (by decide +kernel)) (fun _ _ _ _ _ => pg_name (i := 2) sc_laid.nd rfl (by first | exact Or.inl rfl | exact Or.inr rfl)) (fun _ _ _ _ _ => pts_nil) (fun _ _ _ _ _ => (pe_cmpR (k_in K) (pv 2) (pv 0) (by rfl)))) pa_nil)))
 (pss_one (ps_ret (pe_tup (pa_cons pe_int (pa_cons (pe_tup pa_nil) pa_nil)))))
 pss_nil)
 (pss_cons (ps_set (i := 3) sc_laid.nd rfl (by first | exact Or.inl rfl | exact Or.inr rfl) (pe_callB (k_sum K rfl) (by rfl) T.z_sum (by decide +kernel) (pa_cons (pe_lc (own := [("hand", 2)]) (g := gName 2) (tt := tYes) rfl sc_laid.nd (k_piT K (pv 1)) (blkOk_by (own := [("hand", 2)]) (N := ["one", "other", "hand", "crossed", "above"]) (sc := (defScope s_laid)) (by decide +kernel)) (fun _ _ _ _ _ => pg_name (i := 2) sc_laid.nd rfl (by first | exact Or.inl rfl | exact Or.inr rfl)) (fun _ _ _ _ _ => pts_nil) (fun _ _ _ _ _ => (pe_callB (k_len K) (by rfl) T.z_len (by decide +kernel) (pa_cons (pe_lc (own := [("above", 4)]) (g := gName 4)  rfl sc_laid.nd (k_piT K (pv 0)) (blkOk_by (own := [("above", 4)]) (N := ["one", "other", "hand", "crossed", "above"]) (sc := ({ kind := .function, names := [(".0", .local), ("hand", .cell), ("len", .globalImplicit), ("one", .cell)], isGenerator := false, isCoroutine := false } : Scope)) (by decide +kernel)) (fun _ _ _ _ _ => pg_name (i := 4) sc_laid.nd rfl (by first | exact Or.inl rfl | exact Or.inr rfl)) (fun _ _ _ _ _ => pts_one (pt_cmpR op_gt (pv 4) (pv 2) (nomark _))) (fun _ _ _ _ _ => (pv 4))) pa_nil)))) pa_nil)))
 (pss_one (ps_ret (pe_tup (pa_cons (pe_call G_sign_of_many (hr.mono (by decide)) (by rfl) D_sign_of_many.g D_sign_of_many.F.kp D_sign_of_many.b .nil pass0 (pa_cons (pv 3) pa_nil)) (pa_cons (pe_callTy (k_tuple K) (by rfl) T.z_tuple (by decide +kernel) (pa_cons (pe_callB (k_sortedT K) (by rfl) T.z_sorted (by decide +kernel) (pa_cons (pe_op (k_catA K) (pv 0) (pv 1)) pa_nil)) pa_nil)) pa_nil))))))), ?_⟩
    -- any([hand in one for hand in other])
    refine ⟨_, rfl, u, rfl, ⟨_, hu⟩, fun D nD => lc_tup (K := K) (a := u) (xs := b.map V.int) (fun i H' => H' = upd H D (.lst (((b.take i).map fun y => a.contains y).map V.bl))) rfl (fun i H' _ e => by subst e; exact seqT (same_upd nD) hu) ?_ ?_⟩
    · rintro i y H' hy rfl
      obtain ⟨y, hy2, rfl⟩ := map_int_get hy
      have hi := (List.getElem?_eq_some_iff.mp hy2).1
      refine ⟨rfl, lcT ?_⟩
      refine ⟨_, rfl, _, rfl, t, _, rfl, .inr (seqT (same_upd nD) ht), rfl, flat_ints _, ?_⟩
      refine ⟨_, upd_same, ?_, ?_⟩
      · rw [List.length_map, List.length_map, List.length_take]
        exact small1000 (by omega)
      · rw [upd_upd, List.take_add_one, hy2, List.map_append, List.map_append]
        show upd H D (.lst (_ ++ [V.bl (inV (.int y) (a.map V.int))])) = _
        rw [inV_ints]
        rfl
    · rintro H' rfl
      rw [List.length_map, List.take_length]
      have sD := same_upd (o := .lst ((b.map fun y => a.contains y).map V.bl)) nD
      refine ⟨D, _, rfl, SqL.of upd_same, _, rfl, ?_⟩
      show if shares a b = true then _ else _
      have ht2 := seqT sD ht
      have hu2 := seqT sD hu
      generalize upd H D (.lst ((b.map fun y => a.contains y).map V.bl)) = H2 at sD ht2 hu2
      cases hs : shares a b with
      | true =>
        rw [if_pos rfl]
        unfold lsg lsr at q
        rw [if_pos hs, if_pos hs] at q
        refine ⟨Nat.zero_le _, fun z nz => ⟨by show 2 ≤ sizeLine; decide, fun p np => ?_⟩⟩
        have sz := same_upd (o := .tup []) nz
        have sp := same_upd (o := .tup [.int 0, .ref z]) np
        refine q p _ (sD.trans (sz.trans sp)) (sD.free (sz.free np)) ⟨z, upd_same, sp _ _ upd_same⟩
      | false =>
        rw [if_neg (by decide)]
        unfold lsg lsr at q
        rw [if_neg (by rw [hs]; decide), if_neg (by rw [hs]; decide)] at q
        -- crossed
        refine ⟨_, rfl, u, rfl, ⟨_, hu2⟩, fun S nS => lc_tup (K := K) (a := u) (xs := b.map V.int) (fun i H' => Same H2 H' ∧ H' S = some (.lst (((b.take i).map fun y => ((abv a y : Nat) : Int)).map V.int))) ⟨same_upd nS, upd_same⟩ (fun i H' _ e => seqT e.1 hu2) ?_ ?_⟩
        · rintro i y H3 hy ⟨s3, hS⟩
          obtain ⟨y, hy2, rfl⟩ := map_int_get hy
          have hi := (List.getElem?_eq_some_iff.mp hy2).1
          refine ⟨rfl, lcT ?_⟩
          refine ⟨_, rfl, t, rfl, ⟨_, seqT s3 ht2⟩, fun D2 nD2 => lc_tup (K := K) (a := t) (xs := a.map V.int) (fun i H' => H' = upd H3 D2 (.lst (((a.take i).filter (fun z => decide (z > y))).map V.int))) rfl (fun i H' _ e => by subst e; exact seqT (s3.trans (same_upd nD2)) ht2) ?_ ?_⟩
          · rintro j z H' hz rfl
            obtain ⟨z, hz2, rfl⟩ := map_int_get hz
            have hj := (List.getElem?_eq_some_iff.mp hz2).1
            refine ⟨rfl, _, rfl, _, rfl, _, _, rfl, rfl, _, rfl, ?_⟩
            rw [List.take_add_one, hz2, List.filter_append]
            show if decide (y < z) = true then _ else _
            cases hc : decide (y < z) with
            | true =>
              rw [if_pos rfl]
              refine ⟨_, rfl, _, upd_same, ?_, ?_⟩
              · rw [List.length_map]
                have := List.length_filter_le (fun z => decide (z > y)) (a.take j)
                rw [List.length_take] at this
                exact small1000 (by omega)
              · rw [upd_upd, List.map_append]
                have hc' : y < z := of_decide_eq_true hc
                simp [hc']
            | false =>
              rw [if_neg (by decide)]
              have hc' : ¬ y < z := of_decide_eq_false hc
              simp [hc']
          · rintro H' rfl
            rw [List.length_map, List.take_length]
            have s4 := same_upd (o := .lst ((a.filter (fun z => decide (z > y))).map V.int)) nD2
            refine ⟨D2, _, rfl, .inl (SqL.of upd_same), ?_⟩
            rw [List.length_map]
            refine ⟨_, s4 _ _ hS, ?_, ?_⟩
            · rw [List.length_map, List.length_map, List.length_take]
              exact small1000 (by omega)
            · refine ⟨fun x o e => ?_, ?_⟩
              · rw [upd_ne (ne_of_none e nS)]
                exact s4 _ _ (s3 _ _ e)
              · rw [upd_same, List.take_add_one, hy2, List.map_append, List.map_append]
                rfl
        · rintro H3 ⟨s3, hS⟩
          rw [List.length_map, List.take_length] at hS
          refine ⟨S, _, rfl, SqL.of hS, ?_⟩
          rw [sum_nat]
          have S3 := sD.trans s3
          refine ⟨_, rfl, crs a b, rfl, ?_⟩
          refine ⟨_, rfl, _, rfl, ?_⟩
          refine cat_any (seqT S3 ht) (seqT S3 hu) ?_ fun c H4 s4 hc => ?_
          · rw [List.length_map, List.length_map]
            exact Nat.le_of_lt (small1000 (by omega))
          rw [← List.map_append] at hc
          refine ⟨c, _, rfl, hc, fun ns p perm rising np => ⟨p, _, rfl, .inl ⟨SqL.of upd_same, fun t1 nt => ⟨by show 2 ≤ sizeLine; decide, fun r nr => ?_⟩⟩⟩⟩
          have s5 := same_upd (o := .lst (ns.map V.int)) np
          have s6 := same_upd (o := .tup (ns.map V.int)) nt
          have s7 := same_upd (o := .tup [.int (sg (crs a b)), .ref t1]) nr
          have S7 := S3.trans (s4.trans (s5.trans s6))
          have en : ns = srt (a ++ b) := srt_eq rising perm
          subst en
          exact q r _ (S7.trans s7) (S7.free nr) ⟨t1, upd_same, s7 _ _ upd_same⟩

/-! ### a def whose code object is known; the lot less a hand -/
theorem okC {x qual : Str} {st : Stmt} {f : Addr} {fd : FuncData} {N ps : List Str} {k : Nat} {sp : Sp} {c : Addr} (F : Fun K x qual st f fd) (hc : fd.code = .ref c) (S : FnScope N ps (defScope st)) (len : ∀ vs H Q E, sp vs H Q E → vs.length = ps.length)
    (hbody : ∀ (A : Around) (outer : List Env) (s : Shared) (H : Hp) (vs : List V) (Q : VK) (E : XK), Room k (A.deeper (envOfC qual (defScope st) s.heap.objs.size f (.ref c))) → sp vs H Q E →
      ∃ t, PSs (cxOf CX0 P w K mg base N qual (defScope st) f (.ref c) A outer s H E).nox (defBody st) t ∧ t { nx := fun _ H' => Q .non H', rt := Q } (L2.start N vs) H) : FnOk P w K mg base CX0 (k + 1) f fd ps sp := by
  obtain ⟨oc, od, kV, doc, pm, an, cdv, ct, osl, rfl, lk, hcd⟩ := F.ex
  have e : cdv = .ref c := hc
  subst e
  refine fn_of lk hcd S len fun A outer s H vs Q E hr hsp => ?_
  obtain ⟨t, h, q⟩ := hbody A outer s H vs Q E hr hsp
  exact ⟨t, h.nox, q⟩
theorem gs_free {sc scope : Scope} {n : Nat} (h : (scope.names.all fun y => decide (y.2 = .free → sc.names.lookup y.1 = some .cell)) = true) : ∀ y ∈ scope.names, y.2 = .free → ∃ c, (cellsFrom n sc.names []).lookup y.1 = some c := fun y hy e =>
  cell_has (of_decide_eq_true (List.all_eq_true.mp h y hy) e)
/-- the def «without», its code object and the table Pt of that -/
structure WithAt (K : PySem.W.Frag) (mg : Str → Option Value) (base : Heap) (Pt : Addr) : Prop where
  ex : ∃ f fd c, DefAt K mg "without" s_without ["lot", "hand"] f fd ∧ fd.code = .ref c ∧ GxR.TabB base mg c Pt
def spWithout (K : PySem.W.Frag) (Pt : Addr) : Sp := fun vs H Q _ => ∃ (t : Addr) (x : Int) (l : List Int), vs = [.ref t, .int x] ∧ SqT K H t (l.map V.int) ∧ GxR.TabG H Pt ∧
  ∀ p H', SameB Pt H H' → GxR.TabG H' Pt → H p = none → H' p = some (.tup ((l.filter fun k => k != x).map V.int)) → Q (.ref p) H'
theorem tab_same {H H' : Hp} {Pt : Addr} (h : GxR.TabG H Pt) (e : Same H H') : GxR.TabG H' Pt := by
  obtain ⟨ps, h1, h2⟩ := h
  exact ⟨ps, e _ _ h1, h2⟩
theorem tab_some {H : Hp} {Pt : Addr} (h : GxR.TabG H Pt) : ∃ ps, H Pt = some (.tbl ps) := ⟨h.choose, h.choose_spec.1⟩
theorem ok_without {f : Addr} {fd : FuncData} {c Pt : Addr} (F : Fun K "without" "without" s_without f fd) (hc : fd.code = .ref c) (TB : GxR.TabB base mg c Pt) (T : Txt K mg) : FnOk P w K mg base CX0 3 f fd ["lot", "hand"] (spWithout K Pt) := by
  refine okC F hc sc_without (fun vs H Q E h => ?_) (fun A outer s H vs Q E hr h => ?_)
  · obtain ⟨t, x, l, rfl, _⟩ := h
    rfl
  · obtain ⟨t, x, l, rfl, ht, hP, q⟩ := h
    refine ⟨_, (pss_one (ps_ret (pe_tupGenNe (jf := 1) K hr (by rfl) T.z_tuple TB rfl ⟨rfl, rfl, by decide, rfl, rfl, gs_free (sc := defScope s_without) (by decide +kernel)⟩ (by decide) rfl rfl rfl (pv 0) (fun _ => rfl)))), ?_⟩
    refine ⟨_, rfl, t, l, x, rfl, ht, rfl, hP, fun H2 p tb np => ?_⟩
    have nP : p ≠ Pt := fun e => by
      obtain ⟨ps, z, _⟩ := tb.1
      rw [e, z] at np
      cases np
    have np0 : H p = none := by rw [← tb.2 p nP]; exact np
    have su := same_upd (o := .tup ((l.filter fun k => k != x).map V.int)) np
    refine q p _ (fun b o nb e => su _ _ ((tb.2 b nb).trans e)) (tab_same tb.1 su) np0 upd_same

/-! ### the law's draws -/
def spTake : Sp := fun vs H Q _ => ∃ (a : Addr) (n : Int) (b : Nat), vs = [.ref a, .int n] ∧ PotAt H a b ∧ 0 < n ∧ n < 2 ^ 64 ∧ b < 1000000 ∧
  ∀ v H', 0 ≤ v → v < n → PotAt H' a (b + 1) → SameB a H H' → Q (.int v) H'
theorem ok_take {f : Addr} {fd : FuncData} (F : Fun K "_law_take" "_law_take" s__law_take f fd) (T : Txt K mg) : FnOk P w K mg base CX0 1 f fd ["_law_pot_here", "_law_room"] spTake := by
  refine F.ok sc__law_take (fun vs H Q E h => ?_) (fun cdv A outer s H vs Q E hr h => ?_)
  · obtain ⟨a, n, b, rfl, _⟩ := h
    rfl
  · obtain ⟨a, n, b, rfl, ⟨g, s, c, h0, hg, hs, hs2, hc, hcb, hb⟩, hn, hn2, hb2, q⟩ := h
    have hL := SqL.of (K := K) h0
    refine ⟨_, (pss_cons (ps_if (pt_cmpR op_gt (pe_ix (k_ixL K) (pv 0) pe_int (fun _ _ => rfl)) pe_int (nomark _))
 (pss_cons (ps_set (i := 2) sc__law_take.nd rfl (by first | exact Or.inl rfl | exact Or.inr rfl) (pe_op op_mod (pe_ix (k_ixL K) (pv 0) pe_int (fun _ _ => rfl)) (pv 1)))
 (pss_cons (ps_asg (pe_op op_fdivW (pe_ix (k_ixL K) (pv 0) pe_int (fun _ _ => rfl)) (pv 1)) (pg_sub (pv 0) pe_int set_list))
 (pss_one (ps_ret (pv 2)))))
 pss_nil)
 (pss_cons (ps_asg (pe_op op_add (pe_ix (k_ixL K) (pv 0) pe_int (fun _ _ => rfl)) pe_int) (pg_sub (pv 0) pe_int set_list))
 (pss_cons (ps_set (i := 3) sc__law_take.nd rfl (by first | exact Or.inl rfl | exact Or.inr rfl) (pe_op op_add (pe_ix (k_ixL K) (pv 0) pe_int (fun _ _ => rfl)) (pe_op op_mulW pe_int (pe_ix (k_ixL K) (pv 0) pe_int (fun _ _ => rfl)))))
 (pss_cons (ps_set (i := 4) sc__law_take.nd rfl (by first | exact Or.inl rfl | exact Or.inr rfl) (pe_op op_add (pe_op op_add (pe_op op_mod (pe_ix (k_ixL K) (pv 0) pe_int (fun _ _ => rfl)) pe_int) (pe_op op_mulW pe_int (pe_ix (k_ixL K) (pv 0) pe_int (fun _ _ => rfl)))) pe_int))
 (pss_cons (ps_set (i := 5) sc__law_take.nd rfl (by first | exact Or.inl rfl | exact Or.inr rfl) (pe_op op_mod (pe_op op_mulW (pv 3) (pv 4)) pe_int))
 (pss_cons (ps_set (i := 6) sc__law_take.nd rfl (by first | exact Or.inl rfl | exact Or.inr rfl) (pe_op op_add (pe_op op_add (pe_op op_mod (pv 5) pe_int) (pe_op op_mulW pe_int (pe_ix (k_ixL K) (pv 0) pe_int (fun _ _ => rfl)))) pe_int))
 (pss_one (ps_ret (pe_op op_mod (pe_op op_fdivW (pe_op op_mod (pe_op op_mulW (pe_op op_add (pv 5) pe_int) (pv 6)) pe_int) pe_int) (pv 1)))))))))), ?_⟩
    refine ⟨_, rfl, a, _, 0, .int g, rfl, rfl, hL, atI_nat (j := 0) rfl, _, _, rfl, rfl, _, rfl, ite2 (fun e => ?_) (fun e => ?_)⟩
    · refine ⟨_, rfl, a, _, 0, .int g, rfl, rfl, hL, atI_nat (j := 0) rfl, _, rfl, _, _, rfl, rfl, hn, ?_⟩
      refine ⟨_, rfl, a, _, 0, .int g, rfl, rfl, hL, atI_nat (j := 0) rfl, _, rfl, _, _, rfl, rfl, wide_div (b := 64) hn (by omega) (by decide) (by decide), ?_⟩
      refine ⟨_, rfl, a, _, 0, 0, rfl, rfl, h0, rfl, ?_⟩
      refine ⟨_, rfl, q _ _ (Int.emod_nonneg _ (by omega)) (Int.emod_lt_of_pos _ hn) ?_ SameB.upd⟩
      exact ⟨g / n, s, c, upd_same, Int.ediv_nonneg hg (by omega), hs, hs2, hc, by omega, by omega⟩
    · refine ⟨_, rfl, a, _, 2, .int c, rfl, rfl, hL, atI_nat (j := 2) rfl, _, _, rfl, rfl, ?_⟩
      refine ⟨_, rfl, a, _, 2, 2, rfl, rfl, h0, rfl, ?_⟩
      have h1 : (upd H a (.lst [.int g, .int s, .int (c + 1)])) a = some (.lst [.int g, .int s, .int (c + 1)]) := upd_same
      have hM := SqL.of (K := K) h1
      refine ⟨_, rfl, a, _, 1, .int s, rfl, rfl, hM, atI_nat (j := 1) rfl, _, rfl, a, _, 2, .int (c + 1), rfl, rfl, hM, atI_nat (j := 2) rfl, _, _, rfl, rfl, wide_mul (a := 24) (b := 21) (by decide) (by omega) (by decide) (by decide) (by decide), _, _, rfl, rfl, ?_⟩
      refine ⟨_, rfl, a, _, 1, .int s, rfl, rfl, hM, atI_nat (j := 1) rfl, _, _, rfl, rfl, (by show (0 : Int) < 7919; decide), _, rfl, a, _, 2, .int (c + 1), rfl, rfl, hM, atI_nat (j := 2) rfl, _, _, rfl, rfl, wide_mul (a := 25) (b := 21) (by decide) (by omega) (by decide) (by decide) (by decide), _, _, rfl, rfl, _, _, rfl, rfl, ?_⟩
      refine ⟨_, rfl, _, rfl, _, _, rfl, rfl, wide_mul (a := 62) (b := 47) (by omega) (by omega) (by decide) (by decide) (by decide), _, _, rfl, rfl, (by show (0 : Int) < 2305843009213693951; decide), ?_⟩
      generalize hm : (s + 15485863 * (c + 1)) * (s % 7919 + 32452867 * (c + 1) + 17) % 2305843009213693951 = m
      have m0 : 0 ≤ m := by
        rw [← hm]
        exact Int.emod_nonneg _ (by decide)
      have m1 : m < 2305843009213693951 := by
        rw [← hm]
        exact Int.emod_lt_of_pos _ (by decide)
      refine ⟨_, rfl, _, _, rfl, rfl, (by show (0 : Int) < 1000003; decide), _, rfl, a, _, 2, .int (c + 1), rfl, rfl, hM, atI_nat (j := 2) rfl, _, _, rfl, rfl, wide_mul (a := 24) (b := 21) (by decide) (by omega) (by decide) (by decide) (by decide), _, _, rfl, rfl, _, _, rfl, rfl, ?_⟩
      refine ⟨_, rfl, _, _, rfl, rfl, _, rfl, _, _, rfl, rfl, wide_mul (a := 62) (b := 47) (by omega) (by omega) (by decide) (by decide) (by decide), _, _, rfl, rfl, (by show (0 : Int) < 2305843009213693907; decide), _, _, rfl, rfl, wide_div (b := 64) (by decide) (by decide) (by decide) (by decide), _, rfl, _, _, rfl, rfl, hn, ?_⟩
      refine q _ _ (Int.emod_nonneg _ (by omega)) (Int.emod_lt_of_pos _ hn) ?_ SameB.upd
      exact ⟨g, s, c + 1, h1, hg, hs, hs2, by omega, by omega, by omega⟩

/-! ### the pot made -/
theorem pw_pos : (0 : Int) < ((10 : Int) ^ (60 : Int).toNat) ^ (4 : Int).toNat := by decide +kernel
theorem pw_ok : CPowW ((10 : Int) ^ (60 : Int).toNat) 4 := by
  refine ⟨by decide, ?_⟩
  decide +kernel
def spPot (K : PySem.W.Frag) : Sp := fun vs H Q _ => ∃ (a : Addr) (j : Int) (ns : List Int), vs = [.ref a, .int j] ∧ SqL K H a (ns.map V.int) ∧ 0 ≤ j ∧ j ≤ 1000 ∧
  ∀ p H', H p = none → Same H H' → PotAt H' p 0 → Q (.ref p) H'
theorem pot_fin {H : Hp} {p : Addr} {g s : Int} (hg : 0 ≤ g) : PotAt (upd H p (.lst [.int g, .int (s % 2305843009213693921), .int 0])) p 0 :=
  ⟨g, _, 0, upd_same, hg, Int.emod_nonneg _ (by decide), Int.lt_of_lt_of_le (Int.emod_lt_of_pos _ (by decide)) (by decide), by decide, by decide, by decide⟩
theorem ok_pot {f : Addr} {fd : FuncData} (F : Fun K "_law_pot" "_law_pot" s__law_pot f fd) (T : Txt K mg) : FnOk P w K mg base CX0 1 f fd ["_law_script", "_law_k"] (spPot K) := by
  refine F.ok sc__law_pot (fun vs H Q E h => ?_) (fun cdv A outer s H vs Q E hr h => ?_)
  · obtain ⟨a, j, ns, rfl, _⟩ := h
    rfl
  · obtain ⟨a, j, ns, rfl, hS, hj, hj2, q⟩ := h
    refine ⟨_, (pss_cons (ps_set (i := 2) sc__law_pot.nd rfl (by first | exact Or.inl rfl | exact Or.inr rfl) (pe_ifExp (pt_cmpR op_lt (pv 1) (pe_callB (k_len K) (by rfl) T.z_len (by decide +kernel) (pa_cons (pv 0) pa_nil)) (nomark _)) (pe_ix (k_ixL K) (pv 0) (pv 1) (fun _ _ => rfl)) pe_int))
 (pss_cons (ps_set (i := 3) sc__law_pot.nd rfl (by first | exact Or.inl rfl | exact Or.inr rfl) (pe_ifExp (pt_cmpR op_ge (pe_callB call_abs (by rfl) T.z_abs (by decide +kernel) (pa_cons (pv 2) pa_nil)) (pe_op op_pow pe_int pe_int) (nomark _)) (pe_op op_mod (pe_callB call_abs (by rfl) T.z_abs (by decide +kernel) (pa_cons (pv 2) pa_nil)) (pe_op op_powW (pe_op op_pow pe_int pe_int) pe_int)) pe_int))
 (pss_one (ps_ret (pe_lst (pa_cons (pv 3) (pa_cons (pe_op op_mod (pe_op op_add (pe_op op_add (pe_op op_mulW (pe_op op_mod (pv 2) pe_int) pe_int) (pe_op op_mulW (pe_op op_mulW pe_int (pv 1)) (pv 1))) pe_int) pe_int) (pa_cons pe_int pa_nil)))))))), ?_⟩
    refine ⟨_, rfl, _, rfl, a, _, rfl, .inl hS, _, _, rfl, rfl, _, rfl, ?_⟩
    refine ite2 (fun e => ?_) (fun e => ?_)
    · have hl : j < ((ns.map V.int).length : Int) := of_decide_eq_true e
      rw [List.length_map] at hl
      obtain ⟨m, rfl⟩ : ∃ m : Nat, j = (m : Int) := ⟨j.toNat, by omega⟩
      have hm : m < ns.length := by omega
      have g1 : (ns.map V.int)[m]? = some (.int ns[m]) := by
        rw [List.getElem?_map, List.getElem?_eq_getElem hm]
        rfl
      refine ⟨_, rfl, _, rfl, a, _, (m : Int), .int ns[m], rfl, rfl, hS, atI_nat g1, ?_⟩
      generalize ns[m] = c
      refine ⟨_, rfl, _, rfl, _, _, rfl, rfl, ⟨by decide, by decide, by decide⟩, _, _, rfl, rfl, _, rfl, ite2 (fun e2 => ?_) (fun e2 => ?_)⟩
      · refine ⟨_, rfl, _, rfl, _, _, rfl, rfl, ⟨by decide, by decide, by decide⟩, _, _, rfl, rfl, pw_ok, _, _, rfl, rfl, pw_pos, ?_⟩
        refine ⟨_, rfl, _, rfl, _, _, rfl, rfl, (by show (0 : Int) < 2305843009213693951; decide), _, _, rfl, rfl, wide_mul (a := 64) (b := 21) (by omega) (by decide) (by decide) (by decide) (by decide), _, rfl, _, _, rfl, rfl, wide_mul (a := 21) (b := 21) (by decide) (by omega) (by decide) (by decide) (by decide), _, rfl, _, _, rfl, rfl, wide_mul (a := 64) (b := 21) (by omega) (by omega) (by decide) (by decide) (by decide), _, _, rfl, rfl, _, _, rfl, rfl, _, _, rfl, rfl, (by show (0 : Int) < 2305843009213693921; decide), (by show 3 ≤ sizeLine; decide), fun p hp => q p _ hp (same_upd hp) (pot_fin (Int.emod_nonneg _ (Int.ne_of_gt pw_pos)))⟩
      · refine ⟨_, rfl, _, rfl, _, _, rfl, rfl, (by show (0 : Int) < 2305843009213693951; decide), _, _, rfl, rfl, wide_mul (a := 64) (b := 21) (by omega) (by decide) (by decide) (by decide) (by decide), _, rfl, _, _, rfl, rfl, wide_mul (a := 21) (b := 21) (by decide) (by omega) (by decide) (by decide) (by decide), _, rfl, _, _, rfl, rfl, wide_mul (a := 64) (b := 21) (by omega) (by omega) (by decide) (by decide) (by decide), _, _, rfl, rfl, _, _, rfl, rfl, _, _, rfl, rfl, (by show (0 : Int) < 2305843009213693921; decide), (by show 3 ≤ sizeLine; decide), fun p hp => q p _ hp (same_upd hp) (pot_fin (Int.le_refl 0))⟩
    · refine ⟨_, rfl, _, rfl, _, _, rfl, rfl, ⟨by decide, by decide, by decide⟩, _, _, rfl, rfl, _, rfl, ite2 (fun e2 => ?_) (fun e2 => ?_)⟩
      · exact absurd e2 (by decide)
      · refine ⟨_, rfl, _, rfl, _, _, rfl, rfl, (by show (0 : Int) < 2305843009213693951; decide), _, _, rfl, rfl, wide_mul (a := 64) (b := 21) (by omega) (by decide) (by decide) (by decide) (by decide), _, rfl, _, _, rfl, rfl, wide_mul (a := 21) (b := 21) (by decide) (by omega) (by decide) (by decide) (by decide), _, rfl, _, _, rfl, rfl, wide_mul (a := 64) (b := 21) (by omega) (by omega) (by decide) (by decide) (by decide), _, _, rfl, rfl, _, _, rfl, rfl, _, _, rfl, rfl, (by show (0 : Int) < 2305843009213693921; decide), (by show 3 ≤ sizeLine; decide), fun p hp => q p _ hp (same_upd hp) (pot_fin (Int.le_refl 0))⟩

/-! ### one of some -/
def spPick (K : PySem.W.Frag) : Sp := fun vs H Q _ => ∃ (a s : Addr) (b : Nat) (xs : List V), vs = [.ref a, .ref s] ∧ PotAt H a b ∧ SqL K H s xs ∧ s ≠ a ∧ xs ≠ [] ∧ xs.length ≤ 1000 ∧ b < 1000000 ∧
  ∀ v H', v ∈ xs → PotAt H' a (b + 1) → SameB a H H' → Q v H'
theorem ok_pick {f : Addr} {fd : FuncData} (F : Fun K "_law_pick" "_law_pick" s__law_pick f fd) (T : Txt K mg) : FnOk P w K mg base CX0 2 f fd ["_law_pot_here", "_law_some"] (spPick K) := by
  obtain ⟨fT, fdT, D_take⟩ := T.d_take
  have G_take : FnOk P w K mg base CX0 1 fT fdT _ _ := ok_take D_take.F T
  refine F.ok sc__law_pick (fun vs H Q E h => ?_) (fun cdv A outer s H vs Q E hr h => ?_)
  · obtain ⟨a, s, b, xs, rfl, _⟩ := h
    rfl
  · obtain ⟨a, s, b, xs, rfl, hP, hS, hne, hx, hl, hb, q⟩ := h
    have h0 : 0 < xs.length := List.length_pos_iff.mpr hx
    refine ⟨_, (pss_one (ps_ret (pe_ix (k_ixL K) (pv 1) (pe_call G_take (hr.mono (by decide)) (by rfl) D_take.g D_take.F.kp D_take.b .nil pass0 (pa_cons (pv 0) (pa_cons (pe_callB (k_len K) (by rfl) T.z_len (by decide +kernel) (pa_cons (pv 1) pa_nil)) pa_nil))) (fun _ _ => rfl)))), ?_⟩
    refine ⟨_, rfl, _, rfl, _, rfl, s, _, rfl, .inl hS, a, (xs.length : Int), b, rfl, hP, by omega, by omega, hb, fun v H' v0 v1 P' S' => ?_⟩
    obtain ⟨m, rfl⟩ : ∃ m : Nat, v = (m : Int) := ⟨v.toNat, by omega⟩
    have hm : m < xs.length := by omega
    exact ⟨s, _, _, xs[m], rfl, rfl, S'.seq hne hS, atI_nat (List.getElem?_eq_getElem hm), q _ _ (List.getElem_mem hm) P' S'⟩

/-! ### rising rows -/
def Ris (n : Int) : Int → List Int → Prop
  | _, [] => True
  | h, x :: t => h ≤ x ∧ x < n ∧ Ris n (x + 1) t
theorem Ris.le {n : Int} : ∀ {l : List Int} {h h' : Int}, Ris n h l → h' ≤ h → Ris n h' l
  | [], _, _, _, _ => trivial
  | _ :: _, _, _, r, e => ⟨Int.le_trans e r.1, r.2⟩
theorem Ris.up {n h x : Int} {t : List Int} (r : Ris n h (x :: t)) (e : ¬ x = h) : Ris n (h + 1) (x :: t) := ⟨by have := r.1; omega, r.2⟩
theorem Ris.at {n : Int} : ∀ {l : List Int} {h : Int} {i : Nat} {x : Int}, Ris n h l → l[i]? = some x → h ≤ x ∧ x < n
  | y :: t, h, 0, x, r, e => by
    cases e
    exact ⟨r.1, r.2.1⟩
  | y :: t, h, i + 1, x, r, e => by
    have z := Ris.at (i := i) r.2.2 e
    have := r.1
    exact ⟨by omega, z.2⟩
theorem Ris.len {n : Int} : ∀ {l : List Int} {h : Int}, Ris n h l → h ≤ n → (l.length : Int) ≤ n - h
  | [], h, _, e => by
    show (0 : Int) ≤ n - h
    omega
  | x :: t, h, r, _ => by
    have z := Ris.len r.2.2 (by have := r.2.1; omega)
    have := r.1
    show ((t.length + 1 : Nat) : Int) ≤ n - h
    omega

/-! ### a drawn lot -/
theorem erase_map {α β : Type} (f : α → β) : ∀ (l : List α) (m : Nat), (l.map f).eraseIdx m = (l.eraseIdx m).map f
  | [], _ => rfl
  | _ :: _, 0 => rfl
  | x :: l, m + 1 => congrArg (f x :: ·) (erase_map f l m)
theorem erase_perm {α : Type} : ∀ (l : List α) (m : Nat) (h : m < l.length), (l[m] :: l.eraseIdx m).Perm l
  | x :: l, 0, _ => List.Perm.refl _
  | x :: l, m + 1, h => by
    have hm : m < l.length := Nat.lt_of_succ_lt_succ h
    have ih := erase_perm l m hm
    show (l[m] :: x :: l.eraseIdx m).Perm (x :: l)
    exact (List.Perm.swap x l[m] _).trans (ih.cons x)
theorem ris_of {n : Int} : ∀ {l : List Int} {h : Int}, l.Pairwise (· ≤ ·) → l.Nodup → (∀ x ∈ l, h ≤ x ∧ x < n) → Ris n h l
  | [], _, _, _, _ => trivial
  | x :: t, h, p, d, m => by
    have hx := m x List.mem_cons_self
    refine ⟨hx.1, hx.2, ris_of (List.pairwise_cons.mp p).2 (List.nodup_cons.mp d).2 fun y hy => ?_⟩
    have h1 := (List.pairwise_cons.mp p).1 y hy
    have h2 : x ≠ y := fun e => (List.nodup_cons.mp d).1 (e ▸ hy)
    exact ⟨by omega, (m y (List.mem_cons_of_mem _ hy)).2⟩
theorem ris_mem {n : Int} : ∀ {l : List Int} {h : Int}, Ris n h l → ∀ x ∈ l, h ≤ x ∧ x < n
  | y :: t, h, r, x, hx => by
    rcases List.mem_cons.mp hx with rfl | hx
    · exact ⟨r.1, r.2.1⟩
    · have z := ris_mem r.2.2 x hx
      have := r.1
      exact ⟨by omega, z.2⟩
theorem ris_nodup {n : Int} : ∀ {l : List Int} {h : Int}, Ris n h l → l.Nodup
  | [], _, _ => List.nodup_nil
  | y :: t, h, r => List.nodup_cons.mpr ⟨fun hm => by have z := ris_mem r.2.2 y hm; omega, ris_nodup r.2.2⟩
def hs (n : Nat) : List Int := (List.range n).map fun (i : Nat) => (i : Int)
theorem rgV_hs (n : Nat) : rgV 0 (n : Int) = (hs n).map V.int := by
  unfold rgV hs
  rw [List.map_map, show ((n : Int) - 0).toNat = n by omega]
  apply List.map_congr_left
  intro i _
  show V.int (0 + (i : Int)) = V.int (i : Int)
  rw [Int.zero_add]
theorem hs_mem {n : Nat} {x : Int} : x ∈ hs n ↔ 0 ≤ x ∧ x < n := by
  unfold hs
  rw [List.mem_map]
  constructor
  · rintro ⟨i, hi, rfl⟩
    have := List.mem_range.mp hi
    omega
  · intro h
    exact ⟨x.toNat, List.mem_range.mpr (by omega), by omega⟩
theorem hs_nodup (n : Nat) : (hs n).Nodup := by
  unfold hs
  refine List.Pairwise.map _ ?_ List.nodup_range
  intro a b h e
  exact h (by omega)
theorem hs_len (n : Nat) : (hs n).length = n := by
  unfold hs
  rw [List.length_map, List.length_range]
def spSomeLot : Sp := fun vs H Q _ => ∃ (a : Addr) (n k b : Nat), vs = [.ref a, .int n, .int k] ∧ PotAt H a b ∧ k ≤ n ∧ n ≤ 60 ∧ b + 100 ≤ 1000000 ∧
  ∀ p H' l, PotAt H' a (b + k) → SameB a H H' → H p = none → H' p = some (.tup (l.map V.int)) → Ris n 0 l → l.length = k → Q (.ref p) H'
theorem ok_some_lot {f : Addr} {fd : FuncData} (F : Fun K "_law_some_lot" "_law_some_lot" s__law_some_lot f fd) (T : Txt K mg) : FnOk P w K mg base CX0 2 f fd ["_law_pot_here", "_law_many", "_law_room"] spSomeLot := by
  obtain ⟨fT, fdT, D_take⟩ := T.d_take
  have G_take : FnOk P w K mg base CX0 1 fT fdT _ _ := ok_take D_take.F T
  refine F.ok sc__law_some_lot (fun vs H Q E h => ?_) (fun cdv A outer s H vs Q E hr h => ?_)
  · obtain ⟨a, n, k, b, rfl, _⟩ := h
    rfl
  · obtain ⟨a, n, k, b, rfl, hP, hk, hn, hb, q⟩ := h
    refine ⟨_, (pss_cons (ps_par (by rfl) sc__law_some_lot.nd (i := 3) (j := 4) rfl rfl (by decide) rfl rfl (pa_cons (pe_listRg rfl (by rfl) T.z_list (prg_1 (by rfl) T.z_range (pv 1))) (pa_cons (pe_lst pa_nil) pa_nil)) (by rfl))
 (pss_cons (ps_for PassesOwn.never rfl (pi_range1 (by rfl) T.z_range (pa_cons (pv 2) pa_nil)) (pg_name (i := 5) sc__law_some_lot.nd rfl (by first | exact Or.inl rfl | exact Or.inr rfl))
 (pss_one (ps_expr (pe_bm PySem.F.plainAttrs_list PySem.F.slot_list_append PySem.F.type_list_append mt_append (pv 4) (pa_cons (pe_bm PySem.F.plainAttrs_list PySem.F.slot_list_pop PySem.F.type_list_pop mt_popAt (pv 3) (pa_cons (pe_call G_take (hr.mono (by decide)) (by rfl) D_take.g D_take.F.kp D_take.b .nil pass0 (pa_cons (pv 0) (pa_cons (pe_callB (k_len K) (by rfl) T.z_len (by decide +kernel) (pa_cons (pv 3) pa_nil)) pa_nil))) pa_nil)) pa_nil)))))
 (pss_one (ps_ret (pe_callTy (k_tuple K) (by rfl) T.z_tuple (by decide +kernel) (pa_cons (pe_callB (k_sorted K) (by rfl) T.z_sorted (by decide +kernel) (pa_cons (pv 4) pa_nil)) pa_nil)))))), ?_⟩
    refine ⟨_, rfl, _, rfl, RgOk.of_le (by omega) (by omega) (by omega) (by omega), fun L nL => ⟨Nat.zero_le _, fun D nD => ⟨_, _, rfl, ?_⟩⟩⟩
    rw [rgV_hs] at nD ⊢
    have s1 := same_upd (o := .lst ((hs n).map V.int)) nL
    have s2 := same_upd (o := .lst []) nD
    have nD0 : H D = none := s1.free nD
    have hDL : D ≠ L := fun e => by
      rw [e, upd_same] at nD
      cases nD
    have aL : L ≠ a := fun e => (hP.ne nL) e.symm
    have aD : D ≠ a := fun e => (hP.ne nD0) e.symm
    refine ⟨_, rfl, _, rfl, by omega, by omega, for_range (lo := 0) (fun i σ H' => ∃ left found v5, σ = [some (.ref a), some (.int n), some (.int k), some (.ref L), some (.ref D), v5] ∧ SameB a H H' ∧ PotAt H' a (b + i) ∧ H' L = some (.lst (left.map V.int)) ∧ H' D = some (.lst (found.map V.int)) ∧ (left ++ found).Perm (hs n) ∧ found.length = i)
      ⟨hs n, [], none, rfl, sameb (s1.trans s2), hP.same (s1.trans s2), s2 _ _ upd_same, upd_same, by rw [List.append_nil], rfl⟩ ?_ ?_⟩
    · rintro i σ H1 hi ⟨left, found, v5, rfl, sm, P1, hL, hD, pm, fl⟩
      have hlen : left.length + found.length = n := by
        have z := pm.length_eq
        rw [List.length_append, hs_len] at z
        exact z
      refine ⟨_, rfl, .inl ⟨rfl, _, SqL.of hD⟩, _, rfl, .inl ⟨rfl, _, SqL.of hL⟩, _, rfl, _, rfl, L, _, rfl, .inl (SqL.of hL), a, _, b + i, rfl, P1, ?_, ?_, by omega, fun v H2 v0 v1 P2 S2 => ?_⟩
      · rw [List.length_map]
        omega
      · rw [List.length_map]
        omega
      rw [List.length_map] at v1
      obtain ⟨m, rfl⟩ : ∃ m : Nat, v = (m : Int) := ⟨v.toNat, by omega⟩
      have hm : m < left.length := by omega
      have hL2 := S2 _ _ aL hL
      have hD2 := S2 _ _ aD hD
      have ix : seqIndex? (m : Int) (left.map V.int).length = some m := by
        unfold seqIndex?
        rw [List.length_map]
        simp only [show ¬ ((m : Int) < 0) by omega, if_false]
        rw [if_pos (by simp; omega)]
        simp
      have gx : (left.map V.int)[m]? = some (.int left[m]) := by
        rw [List.getElem?_map, List.getElem?_eq_getElem hm]
        rfl
      refine ⟨L, _, _, m, _, rfl, rfl, hL2, by omega, by omega, ix, gx, ?_⟩
      refine ⟨D, _, _, rfl, rfl, Eq.trans (upd_ne hDL) hD2, ?_, ?_⟩
      · rw [List.length_map]
        exact small1000 (by omega)
      refine ⟨left.eraseIdx m, found ++ [left[m]], some (.int (0 + (i : Int))), rfl, fun x o ne e => ?_, ?_, ?_, ?_, ?_, ?_⟩
      · rw [upd_ne (ne_of_none e nD0), upd_ne (ne_of_none e nL)]
        exact S2 _ _ ne (sm _ _ ne e)
      · obtain ⟨g, s, c, z1, z2⟩ := P2
        exact ⟨g, s, c, by rw [upd_ne aD.symm, upd_ne aL.symm]; exact z1, z2⟩
      · rw [upd_ne hDL.symm, upd_same, erase_map]
      · rw [upd_same, List.map_append]
        rfl
      · refine List.Perm.trans ?_ pm
        rw [← List.append_assoc]
        have e1 : (left[m] :: left.eraseIdx m).Perm left := erase_perm left m hm
        refine List.Perm.trans List.perm_append_comm ?_
        exact List.Perm.append_right found e1
      · rw [List.length_append, fl]
        rfl
    · rintro σ H1 ⟨left, found, v5, rfl, sm, P1, hL, hD, pm, fl⟩
      refine ⟨_, rfl, D, found, rfl, SqL.of hD, fun ns p perm rising np => ?_⟩
      refine ⟨p, _, rfl, .inl ⟨SqL.of upd_same, fun t nt => ?_⟩⟩
      have s3 := same_upd (o := .lst (ns.map V.int)) np
      have s4 := same_upd (o := .tup (ns.map V.int)) nt
      have nd : (left ++ found).Nodup := pm.nodup_iff.mpr (hs_nodup n)
      have nf : found.Nodup := (List.nodup_append.mp nd).2.1
      have fk : found.length = k := by omega
      have nt1 : H1 t = none := s3.free nt
      have nt0 : H t = none := by
        cases ht : H t with
        | none => rfl
        | some o =>
          have ne : t ≠ a := fun e => by
            rw [e] at nt1
            obtain ⟨o', z⟩ := P1.some
            rw [z] at nt1
            cases nt1
          rw [sm _ _ ne ht] at nt1
          cases nt1
      refine q t _ ns ?_ (sm.trans (sameb (s3.trans s4))) nt0 upd_same ?_ ?_
      · have z := P1.same (s3.trans s4)
        rw [show (k : Int).toNat = k by omega] at z
        exact z
      · refine ris_of rising (perm.nodup_iff.mpr nf) fun x hx => ?_
        have m1 : x ∈ hs n := pm.mem_iff.mp (List.mem_append_right _ (perm.mem_iff.mp hx))
        exact hs_mem.mp m1
      · rw [perm.length_eq]
        exact fk

/-! ### a row sorted by exchanges of neighbours -/
theorem ixN_nat {m n : Nat} (h : m < n) : ixN n (m : Int) = some m := by
  unfold ixN
  rw [if_pos (by omega)]
  first
    | rfl
    | simp; omega
theorem atI_succ {xs : List V} {m : Nat} {v : V} (h : xs[m + 1]? = some v) : atI xs ((m : Int) + 1) = some v := atI_nat (j := m + 1) h
theorem ixN_succ {m n : Nat} (h : m + 1 < n) : ixN n ((m : Int) + 1) = some (m + 1) := ixN_nat (m := m + 1) h
def bsg (l : List Int) : Int := if l.Nodup then sg (inv l) else 0
def bsr (l : List Int) : List Int := if l.Nodup then srt l else []
def spBub (K : PySem.W.Frag) : Sp := fun vs H Q _ => ∃ (t : Addr) (row : List Int), vs = [.ref t] ∧ (SqL K H t (row.map V.int) ∨ SqT K H t (row.map V.int)) ∧ row.length ≤ 200 ∧
  ∀ p H', Same H H' → H p = none → PairAt H' p (bsg row) (bsr row) → Q (.ref p) H'
theorem ok_sorted {f : Addr} {fd : FuncData} (F : Fun K "_law_sorted" "_law_sorted" s__law_sorted f fd) (T : Txt K mg) : FnOk P w K mg base CX0 1 f fd ["_law_row"] (spBub K) := by
  refine F.ok sc__law_sorted (fun vs H Q E h => ?_) (fun cdv A outer s H vs Q E hr h => ?_)
  · obtain ⟨t, row, rfl, _⟩ := h
    rfl
  · obtain ⟨t, row, rfl, ht, hl, q⟩ := h
    refine ⟨_, (pss_cons (ps_par (by rfl) sc__law_sorted.nd (i := 1) (j := 2) rfl rfl (by decide) rfl rfl (pa_cons (pe_callTy (k_list K) (by rfl) T.z_list (by decide +kernel) (pa_cons (pv 0) pa_nil)) (pa_cons pe_int pa_nil)) (by rfl))
 (pss_cons (ps_if (pt_cmpR op_lt (pe_lenSet K (by rfl) T.z_len (by rfl) T.z_set (pv 1)) (pe_callB (k_len K) (by rfl) T.z_len (by decide +kernel) (pa_cons (pv 1) pa_nil)) (nomark _))
 (pss_one (ps_ret (pe_tup (pa_cons pe_int (pa_cons (pe_tup pa_nil) pa_nil)))))
 pss_nil)
 (pss_cons (ps_for PassesOwn.never rfl (pi_range3 (by rfl) T.z_range (pa_cons (pe_op op_sub (pe_callB (k_len K) (by rfl) T.z_len (by decide +kernel) (pa_cons (pv 1) pa_nil)) pe_int) (pa_cons pe_int (pa_cons (pe_un un_neg pe_int) pa_nil)))) (pg_name (i := 3) sc__law_sorted.nd rfl (by first | exact Or.inl rfl | exact Or.inr rfl))
 (pss_one (ps_for PassesOwn.never rfl (pi_range1 (by rfl) T.z_range (pa_cons (pv 3) pa_nil)) (pg_name (i := 4) sc__law_sorted.nd rfl (by first | exact Or.inl rfl | exact Or.inr rfl))
 (pss_one (ps_if (pt_cmpR op_gt (pe_ix (k_ixL K) (pv 1) (pv 4) (fun _ _ => rfl)) (pe_ix (k_ixL K) (pv 1) (pe_op op_add (pv 4) pe_int) (fun _ _ => rfl)) (nomark _))
 (pss_cons (ps_asg (pe_tup (pa_cons (pe_ix (k_ixL K) (pv 1) (pe_op op_add (pv 4) pe_int) (fun _ _ => rfl)) (pa_cons (pe_ix (k_ixL K) (pv 1) (pv 4) (fun _ _ => rfl)) pa_nil))) (pg_tup rfl (pgs_cons (pg_sub (pv 1) (pv 4) set_list) (pgs_cons (pg_sub (pv 1) (pe_op op_add (pv 4) pe_int) set_list) pgs_nil))))
 (pss_one (ps_set (i := 2) sc__law_sorted.nd rfl (by first | exact Or.inl rfl | exact Or.inr rfl) (pe_op op_sub pe_int (pv 2)))))
 pss_nil)))))
 (pss_one (ps_ret (pe_tup (pa_cons (pv 2) (pa_cons (pe_callTy (k_tuple K) (by rfl) T.z_tuple (by decide +kernel) (pa_cons (pv 1) pa_nil)) pa_nil)))))))), ?_⟩
    refine ⟨_, rfl, t, _, rfl, ht, fun L nL => ⟨_, _, rfl, ?_⟩⟩
    have sL := same_upd (o := .lst (row.map V.int)) nL
    refine ⟨_, rfl, L, row, rfl, SqL.of upd_same, by omega, fun m mle miff => ?_⟩
    refine ⟨_, rfl, L, _, rfl, .inl (SqL.of upd_same), ?_⟩
    rw [List.length_map]
    refine ⟨_, _, rfl, rfl, _, rfl, ite2 (fun e => ?_) (fun e => ?_)⟩
    · have lt : (m : Int) < (row.length : Int) := of_decide_eq_true e
      have nd : ¬ row.Nodup := fun z => by
        have := miff.mpr z
        omega
      unfold bsg bsr at q
      rw [if_neg nd, if_neg nd] at q
      refine ⟨Nat.zero_le _, fun z nz => ⟨by show 2 ≤ sizeLine; decide, fun p np => ?_⟩⟩
      have sz := same_upd (o := .tup []) nz
      have sp := same_upd (o := .tup [.int 0, .ref z]) np
      exact q p _ (sL.trans (sz.trans sp)) (sL.free (sz.free np)) ⟨z, upd_same, sp _ _ upd_same⟩
    · have nd : row.Nodup := by
        refine miff.mp ?_
        have : ¬ (m : Int) < (row.length : Int) := fun z => e (decide_eq_true z)
        omega
      unfold bsg bsr at q
      rw [if_pos nd, if_pos nd] at q
      clear e miff mle
      refine ⟨_, rfl, L, _, rfl, .inl (SqL.of upd_same), ?_⟩
      rw [List.length_map]
      refine ⟨_, _, rfl, rfl, _, rfl, _, _, _, _, rfl, RgC.neg (by omega) (by omega) (by decide) (by decide), for_rangeC (fun i σ H' => ∃ l k v3 v4, σ = [some (.ref t), some (.ref L), some (.int (sg k)), v3, v4] ∧ Same H H' ∧ H' L = some (.lst (l.map V.int)) ∧ l.Perm row ∧ k + inv l = inv row ∧ Fin l (row.length - 1 - i))
        ⟨row, 0, none, none, rfl, sL, upd_same, List.Perm.refl _, by omega, fun i j _ h1 h2 => by omega⟩ ?_ ?_⟩
      · rintro i σ H1 hi ⟨l, k, v3, v4, rfl, s1, hL, pm, ki, fi⟩
        obtain ⟨e, he⟩ : ∃ e, row.length - 1 - i = e + 1 := ⟨row.length - 1 - i - 1, by omega⟩
        rw [he] at fi
        rw [show (row.length : Int) - 1 + (i : Int) * (-1) = ((e + 1 : Nat) : Int) by omega]
        have ln : l.length = row.length := pm.length_eq
        refine ⟨_, rfl, _, rfl, by omega, by omega, for_range (lo := 0) (fun m σ H' => ∃ l k v4, σ = [some (.ref t), some (.ref L), some (.int (sg k)), some (.int ((e + 1 : Nat) : Int)), v4] ∧ Same H H' ∧ H' L = some (.lst (l.map V.int)) ∧ l.Perm row ∧ k + inv l = inv row ∧ Fin l (e + 1) ∧ Top l m)
          ⟨l, k, v4, rfl, s1, hL, pm, ki, fi, fun i h => absurd h (Nat.not_lt_zero _)⟩ ?_ ?_⟩
        · clear hL pm ki fi s1 ln
          rintro m σ H2 hm ⟨l, k, v4, rfl, s2, hL, pm, ki, fi, tp⟩
          have ln : l.length = row.length := pm.length_eq
          have hm2 : m < e + 1 := by
            have : ((e + 1 : Nat) : Int).toNat = e + 1 := by omega
            omega
          obtain ⟨a, x, y, b, rfl, la⟩ := split2 (l := l) (m := m) (by omega)
          rw [show (0 : Int) + (m : Int) = (m : Int) by omega]
          have gx : ((a ++ x :: y :: b).map V.int)[m]? = some (.int x) := by rw [List.getElem?_map, sp_get0 la]; rfl
          have gy : ((a ++ x :: y :: b).map V.int)[m + 1]? = some (.int y) := by rw [List.getElem?_map, sp_get1 la]; rfl
          have lm : ((a ++ x :: y :: b).map V.int).length = row.length := by rw [List.length_map, ln]
          refine ⟨_, rfl, _, rfl, L, _, (m : Int), .int x, rfl, rfl, SqL.of hL, atI_nat gx, _, rfl, _, rfl, _, _, rfl, rfl, L, _, _, .int y, rfl, rfl, SqL.of hL, atI_succ gy, _, _, rfl, rfl, _, rfl, ite2 (fun c => ?_) (fun c => ?_)⟩
          · have c' : y < x := of_decide_eq_true c
            refine ⟨_, rfl, _, rfl, _, _, rfl, rfl, L, _, _, .int y, rfl, rfl, SqL.of hL, atI_succ gy, _, rfl, _, rfl, L, _, (m : Int), .int x, rfl, rfl, SqL.of hL, atI_nat gx, by show 2 ≤ sizeLine; decide, fun u nu => ?_⟩
            have su := same_upd (o := .tup [.int y, .int x]) nu
            refine ⟨u, _, rfl, .inl (.inl upd_same), rfl, _, _, rfl, _, rfl, _, rfl, L, _, _, m, rfl, rfl, su _ _ hL, ixN_nat (by omega), ?_⟩
            refine ⟨_, _, rfl, _, rfl, _, rfl, _, _, rfl, rfl, L, _, _, m + 1, rfl, rfl, upd_same, ixN_succ (by rw [List.length_set]; omega), rfl, ?_⟩
            refine ⟨_, rfl, _, _, rfl, rfl, a ++ y :: x :: b, k + 1, some (.int (m : Int)), ?_, ?_, ?_, ?_, ?_, ?_, ?_⟩
            · rw [sg_succ]
              rfl
            · intro z o hz
              rw [upd_ne (ne_of_none hz nL), upd_ne (ne_of_none hz nL)]
              exact su _ _ (s2 _ _ hz)
            · rw [upd_same]
              have z := sp_set (a := a.map V.int) (b := b.map V.int) (x := .int x) (y := .int y) (u := .int y) (v := .int x) (m := m) (by rw [List.length_map, la])
              rw [List.map_append, List.map_cons, List.map_cons, z, List.map_append, List.map_cons, List.map_cons]
            · exact (List.Perm.append_left a (List.Perm.swap x y b)).trans pm
            · have := inv_swap (a := a) (b := b) c'
              omega
            · exact swap_fin la (by omega) fi
            · exact swap_top la c' tp
          · have c' : ¬ y < x := fun z => c (decide_eq_true z)
            refine ⟨a ++ x :: y :: b, k, _, rfl, s2, hL, pm, ki, fi, top_up tp ?_⟩
            rw [List.getD_eq_getElem?_getD, List.getD_eq_getElem?_getD, sp_get0 la, sp_get1 la]
            show x ≤ y
            omega
        · clear hL pm ki fi s1 ln
          rintro σ H2 ⟨l, k, v4, rfl, s2, hL, pm, ki, fi, tp⟩
          rw [show ((e + 1 : Nat) : Int).toNat = e + 1 by omega] at tp
          refine ⟨l, k, _, v4, rfl, s2, hL, pm, ki, ?_⟩
          rw [show row.length - 1 - (i + 1) = e by omega]
          exact fin_down fi tp
      · rintro σ H1 ⟨l, k, v3, v4, rfl, s1, hL, pm, ki, fi⟩
        have pw : l.Pairwise (· ≤ ·) := fin_pw (by
          rw [show row.length - 1 - ((row.length : Int) - 1 - 0).toNat = 0 by omega] at fi
          exact fi)
        have iz := inv_zero pw
        have ek : k = inv row := by omega
        have el : l = srt row := srt_eq pw pm
        subst ek
        subst el
        refine ⟨_, rfl, _, rfl, L, _, rfl, .inl ⟨SqL.of hL, fun t1 nt => ⟨by show 2 ≤ sizeLine; decide, fun p np => ?_⟩⟩⟩
        have s2 := same_upd (o := .tup ((srt row).map V.int)) nt
        have s3 := same_upd (o := .tup [.int (sg (inv row)), .ref t1]) np
        exact q p _ (s1.trans (s2.trans s3)) (s1.free (s2.free np)) ⟨t1, upd_same, s3 _ _ upd_same⟩

/-! ### pairs of a sign and a lot, compared -/
def pairD (s : Int) (l : List Int) : PyData := .tuple [.int s, .tuple (intsD l)]
theorem dp_pair {K : PySem.W.Frag} {H : Hp} {p : Addr} {s : Int} {l : List Int} (h : PairAt H p s l) : Dp K H (.ref p) (pairD s l) := by
  obtain ⟨q, h1, h2⟩ := h
  exact .tup (SqT.of h1) (.cons (.int s) (.cons (.tup (SqT.of h2) (dp_ints l)) .nil))
theorem dp_pairS {K : PySem.W.Frag} {H : Hp} {p q : Addr} {s : Int} {l : List Int} (h1 : SqT K H p [.int s, .ref q]) (h2 : SqT K H q (l.map V.int)) : Dp K H (.ref p) (pairD s l) :=
  .tup h1 (.cons (.int s) (.cons (.tup h2 (dp_ints l)) .nil))
theorem pair_shaped (s : Int) (l : List Int) : SeqAt.shaped (pairD s l) = true := by
  have h1 := ints_depth l
  have h2 : PyData.depth (pairD s l) ≤ 64 := by
    unfold pairD
    simp only [PyData.depth, PyData.depthAll]
    omega
  show (PyData.canLay0 (pairD s l) && decide (PyData.depth (pairD s l) ≤ 64)) = true
  rw [Bool.and_eq_true]
  refine ⟨?_, decide_eq_true h2⟩
  unfold pairD
  simp only [PyData.canLay0, PyData.canLayAll0, ints_lay l]
  rfl
theorem eqv_pair (s s' : Int) (l l' : List Int) : PyData.eqv (pairD s l) (pairD s' l') = (decide (s = s') && decide (l = l')) := by
  show ((s == s') && (PyData.eqv (.tuple (intsD l)) (.tuple (intsD l')) && true)) = _
  rw [eqvT_ints, Bool.and_true]
  rfl
theorem rows_sg {a b c : List Int} (h1 : ∀ x ∈ a, x ∉ b) (h2 : ∀ x ∈ a, x ∉ c) (h3 : ∀ x ∈ b, x ∉ c) : lsg a b * lsg (lsr a b) c = lsg b c * lsg a (lsr b c) ∧ lsr (lsr a b) c = lsr a (lsr b c) := by
  have d1 : ∀ x ∈ lsr a b, x ∉ c := fun x hx => by
    rw [lsr_no h1] at hx
    rcases List.mem_append.mp ((srt_perm _).mem_iff.mp hx) with z | z
    · exact h2 x z
    · exact h3 x z
  have d2 : ∀ x ∈ a, x ∉ lsr b c := fun x hx hy => by
    rw [lsr_no h3] at hy
    rcases List.mem_append.mp ((srt_perm _).mem_iff.mp hy) with z | z
    · exact h1 x hx z
    · exact h2 x hx z
  rw [lsg_no d1, lsg_no d2, lsr_no d1, lsr_no d2, lsr_no h1, lsr_no h3, lsg_no h1, lsg_no h3]
  constructor
  · rw [crs_perm (srt_perm (a ++ b)) (List.Perm.refl c), crs_perm (List.Perm.refl a) (srt_perm (b ++ c)), crs_appL, crs_appR, ← sg_add, ← sg_add]
    congr 1
    omega
  · refine srt_congr ?_
    refine (List.Perm.append_right c (srt_perm (a ++ b))).trans ?_
    rw [List.append_assoc]
    exact (List.Perm.append_left a (srt_perm (b ++ c))).symm
theorem turned_sg {a b : List Int} (h : ∀ x ∈ a, x ∉ b) : sg (a.length * b.length) * lsg b a = lsg a b ∧ lsr b a = lsr a b := by
  have h' : ∀ x ∈ b, x ∉ a := fun x h1 h2 => h x h2 h1
  rw [lsg_no h, lsg_no h', lsr_no h, lsr_no h']
  constructor
  · rw [← crs_swap h, sg_add, Int.mul_assoc]
    rcases sg_cases (crs b a) with z | z <;> rw [z] <;> omega
  · exact srt_congr List.perm_append_comm
theorem lsr_len (a b : List Int) : (lsr a b).length ≤ a.length + b.length := by
  unfold lsr
  split
  · exact Nat.zero_le _
  · rw [srt_len, List.length_append]
    exact Nat.le_refl _

/-! ### all that was tracked but at a and at p is as it was -/
def SameP (a p : Addr) (H H' : Hp) : Prop := ∀ b o, b ≠ a → b ≠ p → H b = some o → H' b = some o
theorem SameP.trans {a p : Addr} {H H1 H2 : Hp} (x : SameP a p H H1) (y : SameP a p H1 H2) : SameP a p H H2 := fun b o n m h => y b o n m (x b o n m h)
theorem samep {a p : Addr} {H H' : Hp} (e : Same H H') : SameP a p H H' := fun b o _ _ h => e b o h
theorem samepA {a p : Addr} {H H' : Hp} (e : SameB a H H') : SameP a p H H' := fun b o n _ h => e b o n h
theorem samepP {a p : Addr} {H H' : Hp} (e : SameB p H H') : SameP a p H H' := fun b o _ m h => e b o m h
theorem tab_sameA {H H' : Hp} {a Pt : Addr} {n : Nat} (h : GxR.TabG H Pt) (hP : PotAt H a n) (e : SameB a H H') : GxR.TabG H' Pt := by
  obtain ⟨ps, h1, h2⟩ := h
  obtain ⟨_, _, _, z, _⟩ := hP
  exact ⟨ps, e _ _ (ne_of h1 z (by intro e; cases e)) h1, h2⟩
theorem pot_sameP {H H' : Hp} {a Pt : Addr} {n : Nat} (hP : PotAt H a n) (h : GxR.TabG H Pt) (e : SameB Pt H H') : PotAt H' a n := by
  obtain ⟨ps, h1, h2⟩ := h
  obtain ⟨_, _, _, z, _⟩ := id hP
  exact hP.sameB e (ne_of z h1 (by intro e; cases e))
theorem tup_sameA {H H' : Hp} {a t : Addr} {n : Nat} {xs : List V} (h : H t = some (.tup xs)) (hP : PotAt H a n) (e : SameB a H H') : H' t = some (.tup xs) := by
  obtain ⟨_, _, _, z, _⟩ := hP
  exact e _ _ (ne_of h z (by intro e; cases e)) h
theorem tup_sameP {H H' : Hp} {Pt t : Addr} {xs : List V} (h : H t = some (.tup xs)) (hT : GxR.TabG H Pt) (e : SameB Pt H H') : H' t = some (.tup xs) := by
  obtain ⟨ps, z, _⟩ := hT
  exact e _ _ (ne_of h z (by intro e; cases e)) h
theorem lst_sameP {H H' : Hp} {Pt t : Addr} {xs : List V} (h : H t = some (.lst xs)) (hT : GxR.TabG H Pt) (e : SameB Pt H H') : H' t = some (.lst xs) := by
  obtain ⟨ps, z, _⟩ := hT
  exact e _ _ (ne_of h z (by intro e; cases e)) h
theorem cut_whole {xs : List V} {lo hi : Option Int} (h : HT.sIx xs.length 0 lo = 0 ∧ HT.sIx xs.length xs.length hi = xs.length) : cutV xs lo hi = xs := by
  unfold cutV
  rw [h.1, h.2]
  exact List.take_length
theorem cut_any {K : PySem.W.Frag} {H : Hp} {p : Addr} {xs : List V} {lo hi : Option Int} {Q : VK} (h1 : SqT K H p xs)
    (h : ∀ r H', Same H H' → SqT K H' r (cutV xs lo hi) → Q (.ref r) H') : rSlA K (.ref p) lo hi H Q := by
  refine ⟨p, xs, rfl, h1, fun e => ?_, fun _ r nr => ?_⟩
  · refine h p H (same_refl _) ?_
    rw [cut_whole e]
    exact h1
  · exact h r _ (same_upd nr) (SqT.of upd_same)
theorem cut_to (xs : List V) (k : Nat) : cutV xs none (some (k : Int)) = xs.take k := by
  unfold cutV
  rw [HT.sIx_none, HT.sIx_nat, List.drop_zero, Nat.sub_zero]
  by_cases h : k ≤ xs.length
  · rw [Nat.min_eq_left h]
  · rw [Nat.min_eq_right (by omega), List.take_of_length_le (Nat.le_refl _), List.take_of_length_le (by omega)]

/-! ### the lot and a hand more -/
def spWith (K : PySem.W.Frag) : Sp := fun vs H Q _ => ∃ (t : Addr) (x : Int) (l : List Int), vs = [.ref t, .int x] ∧ SqT K H t (l.map V.int) ∧ l.length ≤ 200 ∧
  ∀ p H', Same H H' → H' p = some (.tup ((srt (l ++ [x])).map V.int)) → Q (.ref p) H'
theorem ok_with_hand {f : Addr} {fd : FuncData} (F : Fun K "with_hand" "with_hand" s_with_hand f fd) (T : Txt K mg) : FnOk P w K mg base CX0 1 f fd ["lot", "hand"] (spWith K) := by
  refine F.ok sc_with_hand (fun vs H Q E h => ?_) (fun cdv A outer s H vs Q E hr h => ?_)
  · obtain ⟨t, x, l, rfl, _⟩ := h
    rfl
  · obtain ⟨t, x, l, rfl, ht, hl, q⟩ := h
    refine ⟨_, (pss_one (ps_ret (pe_callTy (k_tuple K) (by rfl) T.z_tuple (by decide +kernel) (pa_cons (pe_callB (k_sortedT K) (by rfl) T.z_sorted (by decide +kernel) (pa_cons (pe_op (k_catA K) (pv 0) (pe_tup (pa_cons (pv 1) pa_nil))) pa_nil)) pa_nil)))), ?_⟩
    refine ⟨_, rfl, _, rfl, by show 1 ≤ sizeLine; decide, fun u nu => ?_⟩
    have su := same_upd (o := .tup [.int x]) nu
    refine cat_any (seqT su ht) (SqT.of upd_same) ?_ fun r H1 s1 hr1 => ?_
    · rw [List.length_map]
      show l.length + 1 ≤ sizeLine
      exact Nat.le_of_lt (small1000 (by omega))
    refine ⟨r, l ++ [x], rfl, ?_, fun ns p perm rising np => ⟨p, _, rfl, .inl ⟨SqL.of upd_same, fun t1 nt => ?_⟩⟩⟩
    · rw [List.map_append]
      exact hr1
    have s2 := same_upd (o := .lst (ns.map V.int)) np
    have s3 := same_upd (o := .tup (ns.map V.int)) nt
    have en : ns = srt (l ++ [x]) := srt_eq rising perm
    subst en
    exact q t1 _ (su.trans (s1.trans (s2.trans s3))) upd_same

def kg_laid (_ : List Value) : List Value → List Value
  | [a0, a1] => [a1, a0]
  | _ => []
def kv_laid (_ : List V) : List V → List V
  | [a0, a1] => [a1, a0]
  | _ => []
theorem kb_laid {K : PySem.W.Frag} {f : Addr} {fd : FuncData} (F : Fun K "laid" "laid" s_laid f fd) : KBinds K fd ["one", "other"] ["other", "one"] (fun us ws => match us with | [] => kg_laid us ws | _ => []) (fun us ws => match us with | [] => kv_laid us ws | _ => []) := by
  obtain ⟨oc, od, kV, doc, pm, an, cdv, ct, osl, rfl, lk, hcd⟩ := F.ex
  refine ⟨fun s us ws _ hl => ?_, fun r z => ?_⟩
  · match us, ws, hl with
    | [], [a0, a1], _ => exact .of_eq rfl
  · cases r with
    | cons _ _ => exact .nil
    | nil =>
      cases z with
      | nil => exact .nil
      | cons r0 z =>
        cases z with
        | nil => exact .nil
        | cons r1 z =>
          cases z with
          | nil => exact (.cons r1 (.cons r0 .nil))
          | cons _ _ => exact .nil

def kg_without (_ : List Value) : List Value → List Value
  | [a0, a1] => [a1, a0]
  | _ => []
def kv_without (_ : List V) : List V → List V
  | [a0, a1] => [a1, a0]
  | _ => []
theorem kb_without {K : PySem.W.Frag} {f : Addr} {fd : FuncData} (F : Fun K "without" "without" s_without f fd) : KBinds K fd ["lot", "hand"] ["hand", "lot"] (fun us ws => match us with | [] => kg_without us ws | _ => []) (fun us ws => match us with | [] => kv_without us ws | _ => []) := by
  obtain ⟨oc, od, kV, doc, pm, an, cdv, ct, osl, rfl, lk, hcd⟩ := F.ex
  refine ⟨fun s us ws _ hl => ?_, fun r z => ?_⟩
  · match us, ws, hl with
    | [], [a0, a1], _ => exact .of_eq rfl
  · cases r with
    | cons _ _ => exact .nil
    | nil =>
      cases z with
      | nil => exact .nil
      | cons r0 z =>
        cases z with
        | nil => exact .nil
        | cons r1 z =>
          cases z with
          | nil => exact (.cons r1 (.cons r0 .nil))
          | cons _ _ => exact .nil

def kg_sign (_ : List Value) : List Value → List Value
  | [a0, a1] => [a1, a0]
  | _ => []
def kv_sign (_ : List V) : List V → List V
  | [a0, a1] => [a1, a0]
  | _ => []
theorem kb_sign {K : PySem.W.Frag} {f : Addr} {fd : FuncData} (F : Fun K "sign" "sign" s_sign f fd) : KBinds K fd ["hand", "lot"] ["lot", "hand"] (fun us ws => match us with | [] => kg_sign us ws | _ => []) (fun us ws => match us with | [] => kv_sign us ws | _ => []) := by
  obtain ⟨oc, od, kV, doc, pm, an, cdv, ct, osl, rfl, lk, hcd⟩ := F.ex
  refine ⟨fun s us ws _ hl => ?_, fun r z => ?_⟩
  · match us, ws, hl with
    | [], [a0, a1], _ => exact .of_eq rfl
  · cases r with
    | cons _ _ => exact .nil
    | nil =>
      cases z with
      | nil => exact .nil
      | cons r0 z =>
        cases z with
        | nil => exact .nil
        | cons r1 z =>
          cases z with
          | nil => exact (.cons r1 (.cons r0 .nil))
          | cons _ _ => exact .nil

def kg_with_hand (_ : List Value) : List Value → List Value
  | [a0, a1] => [a1, a0]
  | _ => []
def kv_with_hand (_ : List V) : List V → List V
  | [a0, a1] => [a1, a0]
  | _ => []
theorem kb_with_hand {K : PySem.W.Frag} {f : Addr} {fd : FuncData} (F : Fun K "with_hand" "with_hand" s_with_hand f fd) : KBinds K fd ["lot", "hand"] ["hand", "lot"] (fun us ws => match us with | [] => kg_with_hand us ws | _ => []) (fun us ws => match us with | [] => kv_with_hand us ws | _ => []) := by
  obtain ⟨oc, od, kV, doc, pm, an, cdv, ct, osl, rfl, lk, hcd⟩ := F.ex
  refine ⟨fun s us ws _ hl => ?_, fun r z => ?_⟩
  · match us, ws, hl with
    | [], [a0, a1], _ => exact .of_eq rfl
  · cases r with
    | cons _ _ => exact .nil
    | nil =>
      cases z with
      | nil => exact .nil
      | cons r0 z =>
        cases z with
        | nil => exact .nil
        | cons r1 z =>
          cases z with
          | nil => exact (.cons r1 (.cons r0 .nil))
          | cons _ _ => exact .nil

/-! ### lots by this law's own look -/
theorem laid_bub {a b : List Int} (pa : a.Pairwise (· ≤ ·)) (na : a.Nodup) (pb : b.Pairwise (· ≤ ·)) (nb : b.Nodup) : lsg a b = bsg (a ++ b) ∧ lsr a b = bsr (a ++ b) := by
  by_cases h : ∀ x ∈ a, x ∉ b
  · have nd : (a ++ b).Nodup := List.nodup_append.mpr ⟨na, nb, fun x hx y hy e => h x hx (e ▸ hy)⟩
    unfold bsg bsr
    rw [lsg_no h, lsr_no h, if_pos nd, if_pos nd, inv_app, inv_zero pa, inv_zero pb, Nat.zero_add]
    exact ⟨rfl, rfl⟩
  · obtain ⟨x, hx, hy⟩ : ∃ x, x ∈ a ∧ x ∈ b := by
      refine Classical.byContradiction fun z => h fun x hx hy => z ⟨x, hx, hy⟩
    have sh := shares_yes hx hy
    have nd : ¬ (a ++ b).Nodup := fun z => (List.nodup_append.mp z).2.2 x hx x hy rfl
    unfold lsg lsr bsg bsr
    rw [if_pos sh, if_pos sh, if_neg nd, if_neg nd]
    exact ⟨rfl, rfl⟩
theorem less_perm {l : List Int} {x : Int} (n : l.Nodup) (h : x ∈ l) : (x :: l.filter fun k => k != x).Perm l := by
  rw [← n.erase_eq_filter]
  exact (List.perm_cons_erase h).symm
theorem with_back {l : List Int} {x : Int} (p : l.Pairwise (· ≤ ·)) (n : l.Nodup) (h : x ∈ l) : srt ((l.filter fun k => k != x) ++ [x]) = l :=
  (srt_eq p ((less_perm n h).symm.trans (List.perm_append_comm (l₁ := [x])))).symm
theorem sign_bub {l : List Int} {x : Int} (p : l.Pairwise (· ≤ ·)) (n : l.Nodup) (h : x ∈ l) : bsg (x :: l.filter fun k => k != x) = sg (bel l x) := by
  have nd : (x :: l.filter fun k => k != x).Nodup := (less_perm n h).nodup_iff.mpr n
  unfold bsg
  rw [if_pos nd, bel_ne n h, if_neg (by omega), Nat.add_zero]
  show sg (bel (l.filter fun k => k != x) x + inv (l.filter fun k => k != x)) = _
  rw [inv_zero (p.filter _), Nat.add_zero]
theorem ris_pw {n : Int} : ∀ {l : List Int} {h : Int}, Ris n h l → l.Pairwise (· ≤ ·)
  | [], _, _ => List.Pairwise.nil
  | x :: t, h, r => List.pairwise_cons.mpr ⟨fun y hy => by have := ris_mem r.2.2 y hy; omega, ris_pw r.2.2⟩
/-- a lot at t -/
def LotAt (H : Hp) (t : Addr) (l : List Int) : Prop := H t = some (.tup (l.map V.int)) ∧ l.Pairwise (· ≤ ·) ∧ l.Nodup ∧ l.length ≤ 60
theorem LotAt.same {H H' : Hp} {t : Addr} {l : List Int} (h : LotAt H t l) (e : Same H H') : LotAt H' t l := ⟨e _ _ h.1, h.2⟩
theorem LotAt.sameA {H H' : Hp} {t a : Addr} {n : Nat} {l : List Int} (h : LotAt H t l) (hP : PotAt H a n) (e : SameB a H H') : LotAt H' t l := ⟨tup_sameA h.1 hP e, h.2⟩
theorem LotAt.sameP {H H' : Hp} {t Pt : Addr} {l : List Int} (h : LotAt H t l) (hT : GxR.TabG H Pt) (e : SameB Pt H H') : LotAt H' t l := ⟨tup_sameP h.1 hT e, h.2⟩
theorem lst_sameA {H H' : Hp} {a t : Addr} {xs : List V} (h : H t = some (.lst xs)) (n : t ≠ a) (e : SameB a H H') : H' t = some (.lst xs) := e _ _ n h
/-! ### the hands left out -/
def fre (l : List Int) (i : Nat) : List Int := (hs i).filter fun x => !l.contains x
theorem hs_succ (i : Nat) : hs (i + 1) = hs i ++ [(i : Int)] := range_map_succ _ i
theorem fre_succ (l : List Int) (i : Nat) : fre l (i + 1) = fre l i ++ (if (!l.contains (i : Int)) = true then [(i : Int)] else []) := by
  unfold fre
  rw [hs_succ, List.filter_append]
  congr 1
  rw [List.filter_cons, List.filter_nil]
theorem fre_len (l : List Int) (i : Nat) : (fre l i).length ≤ i := by
  have z := List.length_filter_le (fun x => !l.contains x) (hs i)
  rw [hs_len] at z
  exact z
theorem fre_nodup (l : List Int) (i : Nat) : (fre l i).Nodup := (hs_nodup i).filter _
/-- those at other places are other ones -/
theorem at_nodup {f l : List Int} (nf : f.Nodup) (nl : l.Nodup) (h : ∀ x ∈ l, 0 ≤ x ∧ x < f.length) : (l.map fun x => f.getD x.toNat 0).Nodup := by
  refine List.pairwise_map.mpr (List.Pairwise.imp_of_mem (S := fun x y => f.getD x.toNat 0 ≠ f.getD y.toNat 0) ?_ nl)
  intro x y hx hy ne e
  have h1 := h x hx
  have h2 := h y hy
  have i1 : x.toNat < f.length := by omega
  have i2 : y.toNat < f.length := by omega
  rw [List.getD_eq_getElem?_getD, List.getD_eq_getElem?_getD, List.getElem?_eq_getElem i1, List.getElem?_eq_getElem i2] at e
  have e' : f[x.toNat] = f[y.toNat] := e
  have := (List.getElem_inj nf).mp e'
  omega
/-! ### one pot's turn -/
def spRight (Pt : Addr) : Sp := fun vs H Q _ => ∃ (a : Addr), vs = [.ref a] ∧ PotAt H a 0 ∧ GxR.TabG H Pt ∧ ∀ H', SameP a Pt H H' → GxR.TabG H' Pt → Q (.bl true) H'
theorem ok_right {f : Addr} {fd : FuncData} {Pt : Addr} (F : Fun K "_law_right" "_law_right" s__law_right f fd) (T : Txt K mg) (W : WithAt K mg base Pt) : FnOk P w K mg base CX0 5 f fd ["_law_pot_here"] (spRight Pt) := by
  obtain ⟨fT, fdT, D_take⟩ := T.d_take
  have G_take : FnOk P w K mg base CX0 1 fT fdT _ _ := ok_take D_take.F T
  obtain ⟨fP, fdP, D_pick⟩ := T.d_pick
  have G_pick : FnOk P w K mg base CX0 2 fP fdP _ _ := ok_pick D_pick.F T
  obtain ⟨fO, fdO, D_some_lot⟩ := T.d_some_lot
  have G_some_lot : FnOk P w K mg base CX0 2 fO fdO _ _ := ok_some_lot D_some_lot.F T
  obtain ⟨fS, fdS, D_sorted⟩ := T.d_sorted
  have G_sorted : FnOk P w K mg base CX0 1 fS fdS _ _ := ok_sorted D_sorted.F T
  obtain ⟨fL, fdL, D_laid⟩ := T.d_laid
  have G_laid : FnOk P w K mg base CX0 2 fL fdL _ _ := ok_laid D_laid.F T
  obtain ⟨fG, fdG, D_sign⟩ := T.d_sign
  have G_sign : FnOk P w K mg base CX0 2 fG fdG _ _ := ok_sign D_sign.F T
  obtain ⟨fH, fdH, D_with_hand⟩ := T.d_with_hand
  have G_with_hand : FnOk P w K mg base CX0 1 fH fdH _ _ := ok_with_hand D_with_hand.F T
  obtain ⟨fW, fdW, cW, D_without, hcW, TB⟩ := W.ex
  have G_without : FnOk P w K mg base CX0 3 fW fdW _ _ := ok_without D_without.F hcW TB T
  refine F.ok sc__law_right (fun vs H Q E h => ?_) (fun cdv A outer s H vs Q E hr h => ?_)
  · obtain ⟨a, rfl, _⟩ := h
    rfl
  · obtain ⟨a, rfl, hP, hT, q⟩ := h
    refine ⟨_, (pss_cons (ps_set (i := 1) sc__law_right.nd rfl (by first | exact Or.inl rfl | exact Or.inr rfl) (pe_op op_add pe_int (pe_call G_pick (hr.mono (by decide)) (by rfl) D_pick.g D_pick.F.kp D_pick.b .nil pass0 (pa_cons (pv 0) (pa_cons (pe_lst (pa_cons pe_int (pa_cons (pe_call G_take (hr.mono (by decide)) (by rfl) D_take.g D_take.F.kp D_take.b .nil pass0 (pa_cons (pv 0) (pa_cons pe_int pa_nil))) (pa_cons (pe_call G_take (hr.mono (by decide)) (by rfl) D_take.g D_take.F.kp D_take.b .nil pass0 (pa_cons (pv 0) (pa_cons pe_int pa_nil))) pa_nil)))) pa_nil)))))
 (pss_cons (ps_for PassesOwn.never rfl (pi_range1 (by rfl) T.z_range (pa_cons pe_int pa_nil)) (pg_name (i := 2) sc__law_right.nd rfl (by first | exact Or.inl rfl | exact Or.inr rfl))
 (pss_cons (ps_set (i := 3) sc__law_right.nd rfl (by first | exact Or.inl rfl | exact Or.inr rfl) (pe_call G_some_lot (hr.mono (by decide)) (by rfl) D_some_lot.g D_some_lot.F.kp D_some_lot.b .nil pass0 (pa_cons (pv 0) (pa_cons (pv 1) (pa_cons (pe_call G_pick (hr.mono (by decide)) (by rfl) D_pick.g D_pick.F.kp D_pick.b .nil pass0 (pa_cons (pv 0) (pa_cons (pe_lst (pa_cons (pe_call G_take (hr.mono (by decide)) (by rfl) D_take.g D_take.F.kp D_take.b .nil pass0 (pa_cons (pv 0) (pa_cons (pe_op op_add (pv 1) pe_int) pa_nil))) (pa_cons (pe_call G_take (hr.mono (by decide)) (by rfl) D_take.g D_take.F.kp D_take.b .nil pass0 (pa_cons (pv 0) (pa_cons (pe_op op_add (pe_callB (call_min2 rfl) (by rfl) T.z_min (by decide +kernel) (pa_cons pe_int (pa_cons (pv 1) pa_nil))) pe_int) pa_nil))) pa_nil))) pa_nil))) pa_nil)))))
 (pss_cons (ps_set (i := 4) sc__law_right.nd rfl (by first | exact Or.inl rfl | exact Or.inr rfl) (pe_lc (own := [("_law_who", 5)]) (g := gName 5)  rfl sc__law_right.nd (pi_range1 (by rfl) T.z_range (pa_cons (pv 1) pa_nil)) (blkOk_by (own := [("_law_who", 5)]) (N := ["_law_pot_here", "_law_many", "_law_turn", "_law_some", "_law_free", "_law_who", "_law_apart", "_law_at", "_law_second", "_law_ahead", "_law_behind", "_law_due", "_law_rest", "_law_each"]) (sc := (defScope s__law_right)) (by decide +kernel)) (fun _ _ _ _ _ => pg_name (i := 5) sc__law_right.nd rfl (by first | exact Or.inl rfl | exact Or.inr rfl)) (fun _ _ _ _ _ => pts_one (pt_cmpR (k_notIn K) (pv 5) (pv 3) (by rfl))) (fun _ _ _ _ _ => (pv 5))))
 (pss_cons (ps_set (i := 6) sc__law_right.nd rfl (by first | exact Or.inl rfl | exact Or.inr rfl) (pe_callTy (k_tuple K) (by rfl) T.z_tuple (by decide +kernel) (pa_cons (pe_callB (k_sorted K) (by rfl) T.z_sorted (by decide +kernel) (pa_cons (pe_lc (own := [("_law_at", 7)]) (g := gName 7) (tt := tYes) rfl sc__law_right.nd (k_piT K (pe_call G_some_lot (hr.mono (by decide)) (by rfl) D_some_lot.g D_some_lot.F.kp D_some_lot.b .nil pass0 (pa_cons (pv 0) (pa_cons (pe_callB (k_len K) (by rfl) T.z_len (by decide +kernel) (pa_cons (pv 4) pa_nil)) (pa_cons (pe_call G_take (hr.mono (by decide)) (by rfl) D_take.g D_take.F.kp D_take.b .nil pass0 (pa_cons (pv 0) (pa_cons (pe_op op_add (pe_callB (k_len K) (by rfl) T.z_len (by decide +kernel) (pa_cons (pv 4) pa_nil)) pe_int) pa_nil))) pa_nil))))) (blkOk_by (own := [("_law_at", 7)]) (N := ["_law_pot_here", "_law_many", "_law_turn", "_law_some", "_law_free", "_law_who", "_law_apart", "_law_at", "_law_second", "_law_ahead", "_law_behind", "_law_due", "_law_rest", "_law_each"]) (sc := (defScope s__law_right)) (by decide +kernel)) (fun _ _ _ _ _ => pg_name (i := 7) sc__law_right.nd rfl (by first | exact Or.inl rfl | exact Or.inr rfl)) (fun _ _ _ _ _ => pts_nil) (fun _ _ _ _ _ => (pe_ix (k_ixL K) (pv 4) (pv 7) (fun _ _ => rfl)))) pa_nil)) pa_nil)))
 (pss_cons (ps_set (i := 8) sc__law_right.nd rfl (by first | exact Or.inl rfl | exact Or.inr rfl) (pe_call G_pick (hr.mono (by decide)) (by rfl) D_pick.g D_pick.F.kp D_pick.b .nil pass0 (pa_cons (pv 0) (pa_cons (pe_lst (pa_cons (pv 6) (pa_cons (pv 6) (pa_cons (pe_call G_some_lot (hr.mono (by decide)) (by rfl) D_some_lot.g D_some_lot.F.kp D_some_lot.b .nil pass0 (pa_cons (pv 0) (pa_cons (pv 1) (pa_cons (pe_call G_take (hr.mono (by decide)) (by rfl) D_take.g D_take.F.kp D_take.b .nil pass0 (pa_cons (pv 0) (pa_cons (pe_op op_add (pv 1) pe_int) pa_nil))) pa_nil)))) (pa_cons (pe_tup pa_nil) pa_nil))))) pa_nil))))
 (pss_cons (ps_for PassesOwn.never rfl (k_piL K (pe_lst (pa_cons (pe_tup (pa_cons (pv 3) (pa_cons (pv 8) pa_nil))) (pa_cons (pe_tup (pa_cons (pv 8) (pa_cons (pv 3) pa_nil))) pa_nil)))) (pg_tup rfl (pgs_cons (pg_name (i := 9) sc__law_right.nd rfl (by first | exact Or.inl rfl | exact Or.inr rfl)) (pgs_cons (pg_name (i := 10) sc__law_right.nd rfl (by first | exact Or.inl rfl | exact Or.inr rfl)) pgs_nil)))
 (pss_cons (ps_set (i := 11) sc__law_right.nd rfl (by first | exact Or.inl rfl | exact Or.inr rfl) (pe_call G_sorted (hr.mono (by decide)) (by rfl) D_sorted.g D_sorted.F.kp D_sorted.b .nil pass0 (pa_cons (pe_op (k_catA K) (pv 9) (pv 10)) pa_nil)))
 (pss_one (ps_if (PW.pt (pw_or (pt_cmpR (k_neD K hr.units) (pe_call G_laid (hr.mono (by decide)) (by rfl) D_laid.g D_laid.F.kp D_laid.b .nil pass0 (pa_cons (pv 9) (pa_cons (pv 10) pa_nil))) (pv 11) (nomark _)) (pw_or1 (pt_cmpR (k_neD K hr.units) (pe_callK0 G_laid (hr.mono (by decide)) (by rfl) D_laid.g D_laid.F.kp (kb_laid D_laid.F) pass0 (pk_cons (pv 10) (pk_cons (pv 9) pk_nil))) (pv 11) (nomark _)))))
 (pss_one (ps_ret pe_bl))
 pss_nil))))
 (pss_cons (ps_for PassesOwn.never rfl (k_piT K (pv 3)) (pg_name (i := 5) sc__law_right.nd rfl (by first | exact Or.inl rfl | exact Or.inr rfl))
 (pss_cons (ps_set (i := 12) sc__law_right.nd rfl (by first | exact Or.inl rfl | exact Or.inr rfl) (pe_callTy (k_tuple K) (by rfl) T.z_tuple (by decide +kernel) (pa_cons (pe_lc (own := [("_law_each", 13)]) (g := gName 13)  rfl sc__law_right.nd (k_piT K (pv 3)) (blkOk_by (own := [("_law_each", 13)]) (N := ["_law_pot_here", "_law_many", "_law_turn", "_law_some", "_law_free", "_law_who", "_law_apart", "_law_at", "_law_second", "_law_ahead", "_law_behind", "_law_due", "_law_rest", "_law_each"]) (sc := (defScope s__law_right)) (by decide +kernel)) (fun _ _ _ _ _ => pg_name (i := 13) sc__law_right.nd rfl (by first | exact Or.inl rfl | exact Or.inr rfl)) (fun _ _ _ _ _ => pts_one (pt_cmpR op_ne (pv 13) (pv 5) (nomark _))) (fun _ _ _ _ _ => (pv 13))) pa_nil)))
 (pss_cons (ps_if (PW.pt (pw_or (pt_cmpR (k_neD K hr.units) (pe_call G_without (hr.mono (by decide)) (by rfl) D_without.g D_without.F.kp D_without.b .nil pass0 (pa_cons (pv 3) (pa_cons (pv 5) pa_nil))) (pv 12) (nomark _)) (pw_or (pt_cmpR (k_neD K hr.units) (pe_callK0 G_without (hr.mono (by decide)) (by rfl) D_without.g D_without.F.kp (kb_without D_without.F) pass0 (pk_cons (pv 5) (pk_cons (pv 3) pk_nil))) (pv 12) (nomark _)) (pw_or1 (pt_cmpR (k_neD K hr.units) (pe_call G_with_hand (hr.mono (by decide)) (by rfl) D_with_hand.g D_with_hand.F.kp D_with_hand.b .nil pass0 (pa_cons (pv 12) (pa_cons (pv 5) pa_nil))) (pv 3) (nomark _))))))
 (pss_one (ps_ret pe_bl))
 pss_nil)
 (pss_one (ps_if (PW.pt (pw_or (pt_cmpR op_ne (pe_call G_sign (hr.mono (by decide)) (by rfl) D_sign.g D_sign.F.kp D_sign.b .nil pass0 (pa_cons (pv 5) (pa_cons (pv 3) pa_nil))) (pe_ix (k_ixT K) (pe_call G_sorted (hr.mono (by decide)) (by rfl) D_sorted.g D_sorted.F.kp D_sorted.b .nil pass0 (pa_cons (pe_op (k_catA K) (pe_tup (pa_cons (pv 5) pa_nil)) (pv 12)) pa_nil)) pe_int (fun _ _ => rfl)) (nomark _)) (pw_or1 (pt_cmpR op_ne (pe_callK0 G_sign (hr.mono (by decide)) (by rfl) D_sign.g D_sign.F.kp (kb_sign D_sign.F) pass0 (pk_cons (pv 3) (pk_cons (pv 5) pk_nil))) (pe_call G_sign (hr.mono (by decide)) (by rfl) D_sign.g D_sign.F.kp D_sign.b .nil pass0 (pa_cons (pv 5) (pa_cons (pv 3) pa_nil))) (nomark _)))))
 (pss_one (ps_ret pe_bl))
 pss_nil)))))
 (pss_one (ps_for PassesOwn.never rfl (k_piL K (pe_slice (k_slL K) (pv 4) po_none (po_some pe_int))) (pg_name (i := 5) sc__law_right.nd rfl (by first | exact Or.inl rfl | exact Or.inr rfl))
 (pss_one (ps_if (pt_cmpR (k_neD K hr.units) (pe_callK0 G_with_hand (hr.mono (by decide)) (by rfl) D_with_hand.g D_with_hand.F.kp (kb_with_hand D_with_hand.F) pass0 (pk_cons (pv 5) (pk_cons (pv 3) pk_nil))) (pe_callTy (k_tuple K) (by rfl) T.z_tuple (by decide +kernel) (pa_cons (pe_callB (k_sortedT K) (by rfl) T.z_sorted (by decide +kernel) (pa_cons (pe_op (k_catA K) (pv 3) (pe_tup (pa_cons (pv 5) pa_nil))) pa_nil)) pa_nil)) (nomark _))
 (pss_one (ps_ret pe_bl))
 pss_nil)))))))))))
 (pss_one (ps_ret pe_bl)))), ?_⟩
    -- many
    refine ⟨_, rfl, _, rfl, a, 60, 0, rfl, hP, by decide, by decide, by decide, fun x H1 x0 x1 P1 S1 => ⟨_, rfl, a, 7, 1, rfl, P1, by decide, by decide, by decide, fun y H1b y0 y1 P1b S1b => ⟨by show 3 ≤ sizeLine; decide, fun L nL => ?_⟩⟩⟩
    have T1 := tab_sameA (tab_sameA hT hP S1) P1 S1b
    have sL := same_upd (o := .lst [.int 59, .int x, .int y]) nL
    refine ⟨a, L, 2, _, rfl, P1b.same sL, SqL.of upd_same, fun e => (P1b.ne nL) e.symm, by simp, by show 3 ≤ 1000; decide, by decide, fun v H2 hv P2 S2 => ?_⟩
    obtain ⟨m, rfl, m0, m1⟩ : ∃ m : Int, v = .int m ∧ 0 ≤ m ∧ m < 60 := by
      rcases List.mem_cons.mp hv with rfl | hv
      · exact ⟨59, rfl, by decide, by decide⟩
      rcases List.mem_cons.mp hv with rfl | hv
      · exact ⟨x, rfl, x0, x1⟩
      rcases List.mem_cons.mp hv with rfl | hv
      · exact ⟨y, rfl, y0, by omega⟩
      · cases hv
    have T2 := tab_sameA (tab_same T1 sL) (P1b.same sL) S2
    have S2a : SameP a Pt H H2 := samepA (S1.trans (S1b.trans ((sameb sL).trans S2)))
    refine ⟨_, _, rfl, rfl, ?_⟩
    obtain ⟨n, hn⟩ : ∃ n : Nat, 1 + m = (n : Int) := ⟨(1 + m).toNat, by omega⟩
    have hn60 : n ≤ 60 := by omega
    show gName 1 (V.int (1 + m)) _ _ _
    rw [hn]
    clear hv S2 S1 P1 sL nL x0 x1 m0 m1 hn y0 y1 P1b S1b T1
    refine ⟨_, rfl, by decide, by decide, for_range (lo := 0) (fun i σ H' => ∃ v2 v3 v4 v5 v6 v7 v8 v9 v10 v11 v12 v13, σ = [some (.ref a), some (.int n), v2, v3, v4, v5, v6, v7, v8, v9, v10, v11, v12, v13] ∧ SameP a Pt H H' ∧ PotAt H' a (3 + 200 * i) ∧ GxR.TabG H' Pt)
      ⟨none, none, none, none, none, none, none, none, none, none, none, none, rfl, S2a, P2, T2⟩ ?_ ?_⟩
    · clear S2a P2 T2
      rintro i σ H1 hi ⟨v2, v3, v4, v5, v6, v7, v8, v9, v10, v11, v12, v13, rfl, Sm, P1, T1⟩
      have hi12 : i < 12 := hi
      -- some
      refine ⟨_, rfl, _, rfl, _, rfl, _, rfl, _, rfl, _, _, rfl, rfl, a, (n : Int) + 1, _, rfl, P1, by omega, by omega, by omega, fun x H2 x0 x1 P2 S2 => ?_⟩
      refine ⟨_, rfl, _, rfl, _, _, rfl, _, _, rfl, rfl, a, _, _, rfl, P2, ?_, ?_, by omega, fun y H3 y0 y1 P3 S3 => ?_⟩
      · split <;> omega
      · split <;> omega
      have y1' : y < (n : Int) + 1 := by
        revert y1
        split <;> omega
      refine ⟨by show 2 ≤ sizeLine; decide, fun L nL => ?_⟩
      have sL := same_upd (o := .lst [.int x, .int y]) nL
      refine ⟨a, L, _, _, rfl, P3.same sL, SqL.of upd_same, fun e => (P3.ne nL) e.symm, by simp, by show 2 ≤ 1000; decide, by omega, fun v H4 hv P4 S4 => ?_⟩
      obtain ⟨k, rfl, hk⟩ : ∃ k : Nat, v = .int k ∧ k ≤ n := by
        rcases List.mem_cons.mp hv with rfl | hv
        · exact ⟨x.toNat, by rw [Int.toNat_of_nonneg x0], by omega⟩
        rcases List.mem_cons.mp hv with rfl | hv
        · exact ⟨y.toNat, by rw [Int.toNat_of_nonneg y0], by omega⟩
        · cases hv
      refine ⟨a, n, k, _, rfl, P4, hk, hn60, by omega, fun t5 H5 l P5 S5 n5 h5 r5 len5 => ?_⟩
      have T3 := tab_sameA (tab_sameA T1 P1 S2) P2 S3
      have T5 := tab_sameA (tab_sameA (tab_same T3 sL) (P3.same sL) S4) P4 S5
      have Sm5 := Sm.trans (samepA (S2.trans (S3.trans ((sameb sL).trans (S4.trans S5)))))
      have P5b : PotAt H5 a (3 + 200 * i + 70) := P5.mono (by omega) (by omega)
      have lot5 : LotAt H5 t5 l := ⟨h5, ris_pw r5, ris_nodup r5, by omega⟩
      clear P5 hv S5 S4 sL nL P4 P3 S3 S2 P2 x0 x1 y0 y1 y1' T3 T1 Sm P1 h5 n5 len5 hk
      -- free
      refine ⟨_, rfl, _, rfl, by omega, by omega, fun D nD => lc_range (lo := 0) (fun i H' => H' = upd H5 D (.lst ((fre l i).map V.int))) rfl ?_ ?_⟩
      · rintro j H' hj rfl
        have sD := same_upd (o := .lst ((fre l j).map V.int)) nD
        rw [show (0 : Int) + (j : Int) = (j : Int) by omega]
        refine ⟨rfl, _, rfl, _, rfl, t5, _, rfl, .inr (SqT.of (sD _ _ lot5.1)), rfl, flat_ints _, _, rfl, ?_⟩
        rw [inV_ints, fre_succ]
        show if (!l.contains (j : Int)) = true then _ else _
        cases hc : (!l.contains (j : Int)) with
        | true =>
          rw [if_pos rfl, if_pos rfl]
          refine ⟨_, rfl, _, upd_same, ?_, ?_⟩
          · rw [List.length_map]
            have := fre_len l j
            exact small1000 (by omega)
          · rw [upd_upd, List.map_append]
            rfl
        | false =>
          rw [if_neg (by decide), if_neg (by decide), List.append_nil]
      · rintro H' rfl
        rw [show (n : Int).toNat = n by omega]
        have sD := same_upd (o := .lst ((fre l n).map V.int)) nD
        have aD : D ≠ a := fun e => (P5b.ne nD) e.symm
        have hD : (upd H5 D (.lst ((fre l n).map V.int))) D = some (.lst ((fre l n).map V.int)) := upd_same
        have fl := fre_len l n
        have fnd := fre_nodup l n
        have lot6 := lot5.same sD
        have P6 := P5b.same sD
        have T6 := tab_same T5 sD
        have Sm6 := Sm5.trans (samep sD)
        generalize upd H5 D (.lst ((fre l n).map V.int)) = H6 at hD lot6 P6 T6 Sm6
        clear sD nD lot5 P5b T5 Sm5 r5
        generalize fre l n = fr at hD fl fnd
        have dl : ((fr.map V.int).length : Int) = (fr.length : Int) := by rw [List.length_map]
        -- apart
        refine ⟨_, rfl, _, rfl, D, _, rfl, .inl (SqL.of hD), _, rfl, _, rfl, D, _, rfl, .inl (SqL.of hD), _, _, rfl, rfl, a, _, _, rfl, P6, ?_, ?_, by omega, fun x H7 x0 x1 P7 S7 => ?_⟩
        · rw [dl]
          omega
        · rw [dl]
          omega
        rw [dl] at x1
        obtain ⟨kx, rfl⟩ : ∃ k : Nat, x = (k : Int) := ⟨x.toNat, by omega⟩
        have hkx : kx ≤ fr.length := by omega
        refine ⟨a, (fr.map V.int).length, kx, _, rfl, P7, by rw [List.length_map]; omega, by rw [List.length_map]; omega, by omega, fun t8 H8 l8 P8 S8 n8 h8 r8 len8 => ?_⟩
        rw [List.length_map] at r8
        have hD8 := lst_sameA (lst_sameA hD aD S7) aD S8
        have lot8 := (lot6.sameA P6 S7).sameA P7 S8
        have T8 := tab_sameA (tab_sameA T6 P6 S7) P7 S8
        have Sm8 := Sm6.trans (samepA (S7.trans S8))
        have P8b : PotAt H8 a (3 + 200 * i + 131) := P8.mono (by omega) (by omega)
        clear P8 P7 P6 S7 S8 x0 x1 T6 Sm6 hD lot6 n8
        refine ⟨t8, rfl, ⟨_, SqT.of h8⟩, fun E nE => lc_tup (K := K) (a := t8) (xs := l8.map V.int) (fun j H' => H' = upd H8 E (.lst (((l8.take j).map fun x => fr.getD x.toNat 0).map V.int))) rfl (fun j H' _ e => by subst e; exact SqT.of (same_upd nE _ _ h8)) ?_ ?_⟩
        · rintro j x H' hx rfl
          obtain ⟨x, hx2, rfl⟩ := map_int_get hx
          have hj := (List.getElem?_eq_some_iff.mp hx2).1
          have rg := r8.at hx2
          obtain ⟨m, rfl⟩ : ∃ m : Nat, x = (m : Int) := ⟨x.toNat, by omega⟩
          have hm : m < fr.length := by omega
          have sE := same_upd (o := .lst (((l8.take j).map fun x => fr.getD x.toNat 0).map V.int)) nE
          refine ⟨rfl, lcT ?_⟩
          refine ⟨_, rfl, _, rfl, D, _, _, _, rfl, rfl, SqL.of (sE _ _ hD8), atI_nat (row_get hm), ?_⟩
          refine ⟨_, upd_same, ?_, ?_⟩
          · rw [List.length_map, List.length_map, List.length_take]
            exact small1000 (by omega)
          · rw [upd_upd, List.take_add_one, hx2, List.map_append, List.map_append]
            rfl
        · rintro H' rfl
          rw [List.length_map, List.take_length]
          have sE := same_upd (o := .lst ((l8.map fun x => fr.getD x.toNat 0).map V.int)) nE
          refine ⟨E, _, rfl, SqL.of upd_same, fun ns p9 perm rising np => ⟨p9, _, rfl, .inl ⟨SqL.of upd_same, fun t9 nt => ?_⟩⟩⟩
          have s1 := same_upd (o := .lst (ns.map V.int)) np
          have s2 := same_upd (o := .tup (ns.map V.int)) nt
          have S9 := sE.trans (s1.trans s2)
          have nnd : ns.Nodup := perm.nodup_iff.mpr (at_nodup fnd (ris_nodup r8) fun x hx => ris_mem r8 x hx)
          have nlen : ns.length ≤ 60 := by
            rw [perm.length_eq, List.length_map]
            omega
          have lot9 := lot8.same S9
          have ap9 : LotAt (upd (upd (upd H8 E (.lst ((l8.map fun x => fr.getD x.toNat 0).map V.int))) p9 (.lst (ns.map V.int))) t9 (.tup (ns.map V.int))) t9 ns := ⟨upd_same, rising, nnd, nlen⟩
          have hD9 := S9 _ _ hD8
          have P9 := P8b.same S9
          have T9 := tab_same T8 S9
          have Sm9 := Sm8.trans (samep S9)
          generalize upd (upd (upd H8 E (.lst ((l8.map fun x => fr.getD x.toNat 0).map V.int))) p9 (.lst (ns.map V.int))) t9 (.tup (ns.map V.int)) = H9 at lot9 ap9 hD9 P9 T9 Sm9
          clear S9 s1 s2 sE nE np nt lot8 hD8 P8b T8 Sm8 h8 r8 len8 perm rising nnd nlen
          -- second
          refine ⟨_, rfl, _, rfl, _, rfl, _, rfl, _, rfl, _, rfl, _, rfl, _, _, rfl, rfl, a, _, _, rfl, P9, by omega, by omega, by omega, fun x H10 x0 x1 P10 S10 => ?_⟩
          obtain ⟨kx, rfl⟩ : ∃ k : Nat, x = (k : Int) := ⟨x.toNat, by omega⟩
          refine ⟨a, n, kx, _, rfl, P10, by omega, hn60, by omega, fun t11 H11 l11 P11 S11 n11 h11 r11 len11 => ?_⟩
          have other : LotAt H11 t11 l11 := ⟨h11, ris_pw r11, ris_nodup r11, by omega⟩
          refine ⟨Nat.zero_le _, fun z nz => ⟨by show 4 ≤ sizeLine; decide, fun L nL => ?_⟩⟩
          have sz := same_upd (o := .tup []) nz
          have sL := same_upd (o := .lst [.ref t9, .ref t9, .ref t11, .ref z]) nL
          have P11b := (P11.same sz).same sL
          refine ⟨a, L, _, _, rfl, P11b, SqL.of upd_same, fun e => ((P11.same sz).ne nL) e.symm, by simp, by show 4 ≤ 1000; decide, by omega, fun v H12 hv P12 S12 => ?_⟩
          have S12a := S10.trans (S11.trans ((sameb (sz.trans sL)).trans S12))
          have lot12 := ((((lot9.sameA P9 S10).sameA P10 S11).same (sz.trans sL)).sameA P11b S12)
          have ap12 := ((((ap9.sameA P9 S10).sameA P10 S11).same (sz.trans sL)).sameA P11b S12)
          have ot12 := ((other.same (sz.trans sL)).sameA P11b S12)
          have T12 := tab_sameA (tab_same (tab_sameA (tab_sameA T9 P9 S10) P10 S11) (sz.trans sL)) P11b S12
          have hD12 := lst_sameA hD9 aD S12a
          have z12 : LotAt H12 z [] := ⟨tup_sameA (sL _ _ upd_same) P11b S12, List.Pairwise.nil, List.nodup_nil, by decide⟩
          have Sm12 := Sm9.trans (samepA S12a)
          have P12b : PotAt H12 a (3 + 200 * (i + 1)) := P12.mono (by omega) (by omega)
          obtain ⟨ts, ls, rfl, sec⟩ : ∃ ts ls, v = .ref ts ∧ LotAt H12 ts ls := by
            rcases List.mem_cons.mp hv with rfl | hv
            · exact ⟨_, _, rfl, ap12⟩
            rcases List.mem_cons.mp hv with rfl | hv
            · exact ⟨_, _, rfl, ap12⟩
            rcases List.mem_cons.mp hv with rfl | hv
            · exact ⟨_, _, rfl, ot12⟩
            rcases List.mem_cons.mp hv with rfl | hv
            · exact ⟨_, _, rfl, z12⟩
            · cases hv
          clear hv z12 ot12 ap12 P12 S12 S12a sL sz nL nz P11b P11 S11 P10 S10 other h11 r11 len11 n11 x0 x1 lot9 ap9 hD9 P9 T9 Sm9
          -- the two orders
          refine ⟨_, rfl, _, rfl, by show 2 ≤ sizeLine; decide, fun u1 nu1 => ⟨_, rfl, _, rfl, by show 2 ≤ sizeLine; decide, fun u2 nu2 => ⟨by show 2 ≤ sizeLine; decide, fun M nM => ?_⟩⟩⟩
          have w1 := same_upd (o := .tup [.ref t5, .ref ts]) nu1
          have w2 := same_upd (o := .tup [.ref ts, .ref t5]) nu2
          have w3 := same_upd (o := .lst [.ref u1, .ref u2]) nM
          have W3 := w1.trans (w2.trans w3)
          have hM := upd_same (H := upd (upd H12 u1 (.tup [.ref t5, .ref ts])) u2 (.tup [.ref ts, .ref t5])) (a := M) (o := .lst [.ref u1, .ref u2])
          have hu1 := (w2.trans w3) _ _ (upd_same (H := H12) (a := u1) (o := .tup [.ref t5, .ref ts]))
          have hu2 := w3 _ _ (upd_same (H := upd H12 u1 (.tup [.ref t5, .ref ts])) (a := u2) (o := .tup [.ref ts, .ref t5]))
          have lot13 := lot12.same W3
          have sec13 := sec.same W3
          have hD13 := W3 _ _ hD12
          have T13 := tab_same T12 W3
          have P13 := P12b.same W3
          have Sm13 := Sm12.trans (samep W3)
          generalize upd (upd (upd H12 u1 (.tup [.ref t5, .ref ts])) u2 (.tup [.ref ts, .ref t5])) M (.lst [.ref u1, .ref u2]) = H13 at hM hu1 hu2 lot13 sec13 hD13 T13 P13 Sm13
          clear W3 w1 w2 w3 nu1 nu2 nM lot12 sec hD12 T12 P12b Sm12
          refine ⟨M, rfl, ⟨_, SqL.of hM⟩, for_list (K := K) (a := M) (xs := [.ref u1, .ref u2]) (fun j σ H' => ∃ v9 v10 v11, σ = [some (.ref a), some (.int n), some (.int (0 + (i : Int))), some (.ref t5), some (.ref D), v5, some (.ref t9), v7, some (.ref ts), v9, v10, v11, v12, v13] ∧ Same H13 H')
            ⟨_, _, _, rfl, same_refl _⟩ ?_ ?_ ?_⟩
          · rintro j σ H' _ ⟨_, _, _, _, s'⟩
            exact SqL.of (s' _ _ hM)
          · rintro j x σ H14 hx ⟨v9, v10, v11, rfl, s14⟩
            obtain ⟨u, ta, tb, la, lb, rfl, hu, ha, hb⟩ : ∃ u ta tb la lb, x = .ref u ∧ H14 u = some (.tup [.ref ta, .ref tb]) ∧ LotAt H14 ta la ∧ LotAt H14 tb lb := by
              have hj : j < 2 := (List.getElem?_eq_some_iff.mp hx).1
              match j, hj, hx with
              | 0, _, hx => exact ⟨u1, t5, ts, l, ls, (Option.some.inj hx).symm, s14 _ _ hu1, lot13.same s14, sec13.same s14⟩
              | 1, _, hx => exact ⟨u2, ts, t5, ls, l, (Option.some.inj hx).symm, s14 _ _ hu2, sec13.same s14, lot13.same s14⟩
            have la60 := ha.2.2.2
            have lb60 := hb.2.2.2
            obtain ⟨e1, e2⟩ := laid_bub ha.2.1 ha.2.2.1 hb.2.1 hb.2.2.1
            refine ⟨u, _, rfl, SqT.of hu, rfl, _, _, rfl, _, _, rfl, rfl, ?_⟩
            refine ⟨_, rfl, _, rfl, cat_any (SqT.of ha.1) (SqT.of hb.1) ?_ fun r Hr sr hr1 => ?_⟩
            · rw [List.length_map, List.length_map]
              exact Nat.le_of_lt (small1000 (by omega))
            rw [← List.map_append] at hr1
            refine ⟨r, la ++ lb, rfl, .inr hr1, by rw [List.length_append]; omega, fun pd Hd sd nd prd => ?_⟩
            have S1 := sr.trans sd
            refine ⟨_, rfl, _, rfl, ta, tb, la, lb, rfl, SqT.of (S1 _ _ ha.1), SqT.of (S1 _ _ hb.1), by omega, by omega, fun pe He se ne pre => ⟨_, rfl, _, _, dp_pair pre, dp_pair (prd.same se), pair_shaped _ _, pair_shaped _ _, _, rfl, ?_⟩⟩
            have eb : PyData.eqv (pairD (lsg la lb) (lsr la lb)) (pairD (bsg (la ++ lb)) (bsr (la ++ lb))) = true := by
              rw [eqv_pair, e1, e2, decide_eq_true rfl, decide_eq_true rfl]
              rfl
            rw [eb]
            refine iteF ?_
            have S2 := S1.trans se
            refine ⟨_, rfl, _, rfl, ta, tb, la, lb, rfl, SqT.of (S2 _ _ ha.1), SqT.of (S2 _ _ hb.1), by omega, by omega, fun pf Hf sf nf prf => ⟨_, rfl, _, _, dp_pair prf, dp_pair ((prd.same se).same sf), pair_shaped _ _, pair_shaped _ _, _, rfl, ?_⟩⟩
            rw [eb]
            refine iteF ?_
            exact ⟨_, _, _, rfl, s14.trans (S2.trans sf)⟩
          · rintro σ H14 ⟨v9, v10, v11, rfl, s14⟩
            have lot14 := lot13.same s14
            have hD14 := s14 _ _ hD13
            have T14 := tab_same T13 s14
            have P14 := P13.same s14
            have Sm14 := Sm13.trans (samep s14)
            clear s14 lot13 sec13 hD13 T13 P13 Sm13 hM hu1 hu2
            obtain ⟨h14, pw, nd, l60⟩ := id lot14
            -- each hand of the lot
            refine ⟨_, rfl, t5, rfl, ⟨_, SqT.of h14⟩, for_tup (K := K) (a := t5) (xs := l.map V.int) (fun j σ H' => ∃ v5 v12 v13, σ = [some (.ref a), some (.int n), some (.int (0 + (i : Int))), some (.ref t5), some (.ref D), v5, some (.ref t9), v7, some (.ref ts), v9, v10, v11, v12, v13] ∧ SameB Pt H14 H' ∧ GxR.TabG H' Pt)
              ⟨_, _, _, rfl, SameB.refl _ _, T14⟩ ?_ ?_ ?_⟩
            · rintro j σ H' _ ⟨_, _, _, _, S', _⟩
              exact SqT.of (tup_sameP h14 T14 S')
            · rintro j x σ Ha hx ⟨v5, v12, v13, rfl, Sa, Ta⟩
              obtain ⟨x, hx2, rfl⟩ := map_int_get hx
              have mx : x ∈ l := List.mem_of_getElem? hx2
              have ga := tup_sameP h14 T14 Sa
              -- rest
              refine ⟨_, rfl, t5, rfl, ⟨_, SqT.of ga⟩, fun E nE => lc_tup (K := K) (a := t5) (xs := l.map V.int) (fun j H' => H' = upd Ha E (.lst (((l.take j).filter (fun y => y != x)).map V.int))) rfl (fun j H' _ e => by subst e; exact SqT.of (same_upd nE _ _ ga)) ?_ ?_⟩
              · rintro k y H' hy rfl
                obtain ⟨y, hy2, rfl⟩ := map_int_get hy
                have hk := (List.getElem?_eq_some_iff.mp hy2).1
                refine ⟨rfl, _, rfl, _, rfl, rfl, _, rfl, ?_⟩
                rw [List.take_add_one, hy2, List.filter_append]
                have ed : decide (V.int y = V.int x) = (y == x) := by
                  by_cases h : y = x
                  · subst h
                    simp
                  · rw [decide_eq_false (fun z => h (V.int.inj z))]
                    simp [h]
                rw [ed]
                show if (y != x) = true then _ else _
                cases hc : y != x with
                | true =>
                  rw [if_pos rfl]
                  refine ⟨_, rfl, _, upd_same, ?_, ?_⟩
                  · rw [List.length_map]
                    have := List.length_filter_le (fun y => y != x) (l.take k)
                    rw [List.length_take] at this
                    exact small1000 (by omega)
                  · rw [upd_upd, List.map_append]
                    simp [hc]
                | false =>
                  rw [if_neg (by decide)]
                  simp [hc]
              · rintro H' rfl
                rw [List.length_map, List.take_length]
                have sE := same_upd (o := .lst ((l.filter (fun y => y != x)).map V.int)) nE
                refine ⟨E, _, rfl, .inl ⟨SqL.of upd_same, fun tr nr => ?_⟩⟩
                have sr := same_upd (o := .tup ((l.filter (fun y => y != x)).map V.int)) nr
                have Sb := Sa.trans (sameb (sE.trans sr))
                have Tb := tab_same Ta (sE.trans sr)
                have gb := (sE.trans sr) _ _ ga
                have hb := upd_same (H := upd Ha E (.lst ((l.filter (fun y => y != x)).map V.int))) (a := tr) (o := .tup ((l.filter (fun y => y != x)).map V.int))
                generalize upd (upd Ha E (.lst ((l.filter (fun y => y != x)).map V.int))) tr (.tup ((l.filter (fun y => y != x)).map V.int)) = Hb at Sb Tb gb hb
                clear sE sr nE nr ga Sa Ta
                have rl := List.length_filter_le (fun y => y != x) l
                -- without, twice; with_hand
                refine ⟨_, rfl, _, rfl, t5, x, l, rfl, SqT.of gb, Tb, fun pc Hc Sc Tc nc hc => ⟨_, rfl, .tuple (intsD (l.filter fun y => y != x)), .tuple (intsD (l.filter fun y => y != x)), .tup (SqT.of hc) (dp_ints _), .tup (SqT.of (tup_sameP hb Tb Sc)) (dp_ints _), intsT_shaped _, intsT_shaped _, _, rfl, ?_⟩⟩
                rw [eqvT_ints, decide_eq_true rfl]
                refine iteF ?_
                have gc := tup_sameP gb Tb Sc
                have hbc := tup_sameP hb Tb Sc
                refine ⟨_, rfl, _, rfl, t5, x, l, rfl, SqT.of gc, Tc, fun pd Hd Sd Td nd' hd => ⟨_, rfl, .tuple (intsD (l.filter fun y => y != x)), .tuple (intsD (l.filter fun y => y != x)), .tup (SqT.of hd) (dp_ints _), .tup (SqT.of (tup_sameP hbc Tc Sd)) (dp_ints _), intsT_shaped _, intsT_shaped _, _, rfl, ?_⟩⟩
                rw [eqvT_ints, decide_eq_true rfl]
                refine iteF ?_
                have gd := tup_sameP gc Tc Sd
                have hbd := tup_sameP hbc Tc Sd
                refine ⟨_, rfl, _, rfl, tr, x, l.filter fun y => y != x, rfl, SqT.of hbd, by omega, fun pe He se he => ?_⟩
                rw [with_back pw nd mx] at he
                refine ⟨_, rfl, .tuple (intsD l), .tuple (intsD l), .tup (SqT.of he) (dp_ints _), .tup (SqT.of (se _ _ gd)) (dp_ints _), intsT_shaped _, intsT_shaped _, _, rfl, ?_⟩
                rw [eqvT_ints, decide_eq_true rfl]
                refine iteF ?_
                have ge := se _ _ gd
                have hbe := se _ _ hbd
                have Se := Sb.trans (Sc.trans (Sd.trans (sameb se)))
                have Te := tab_same Td se
                -- sign
                refine ⟨_, rfl, _, rfl, t5, x, l, rfl, SqT.of ge, by omega, fun Hf sf => ?_⟩
                refine ⟨_, rfl, by show 1 ≤ sizeLine; decide, fun u nu => ⟨_, rfl, ?_⟩⟩
                have su := same_upd (o := .tup [.int x]) nu
                refine cat_any (SqT.of upd_same) (SqT.of (su _ _ (sf _ _ hbe))) ?_ fun r Hg sg1 hr1 => ?_
                · rw [List.length_map]
                  show 1 + _ ≤ sizeLine
                  exact Nat.le_of_lt (small1000 (by omega))
                refine ⟨r, x :: l.filter fun y => y != x, rfl, .inr hr1, by rw [List.length_cons]; omega, fun ph Hh sh nh prh => ?_⟩
                obtain ⟨qz, y1, y2⟩ := prh
                rw [sign_bub pw nd mx] at y1
                refine ⟨ph, _, 0, .int (sg (bel l x)), rfl, rfl, SqT.of y1, atI_nat (j := 0) rfl, rfl, _, rfl, ?_⟩
                rw [decide_eq_true rfl]
                refine iteF ?_
                have S5 := sf.trans (su.trans (sg1.trans sh))
                have gh := S5 _ _ ge
                refine ⟨_, rfl, _, rfl, t5, x, l, rfl, SqT.of gh, by omega, fun Hk sk => ?_⟩
                refine ⟨_, rfl, _, rfl, t5, x, l, rfl, SqT.of (sk _ _ gh), by omega, fun Hl sl => ⟨rfl, _, rfl, ?_⟩⟩
                rw [decide_eq_true rfl]
                refine iteF ?_
                have S6 := S5.trans (sk.trans sl)
                exact ⟨_, _, _, rfl, Se.trans (sameb S6), tab_same Te S6⟩
            · rintro σ Ha ⟨v5, v12, v13, rfl, Sa, Ta⟩
              have ga := tup_sameP h14 T14 Sa
              have da := lst_sameP hD14 T14 Sa
              have Pa := pot_sameP P14 T14 Sa
              have Sma := Sm14.trans (samepP Sa)
              -- hands that it hasn't
              have ec : cutV (fr.map V.int) none (some 3) = (fr.take 3).map V.int := (cut_to _ 3).trans List.map_take.symm
              refine ⟨_, rfl, _, rfl, D, _, rfl, SqL.of da, fun X1 nX => ?_⟩
              rw [ec]
              have sX := same_upd (o := .lst ((fr.take 3).map V.int)) nX
              have hX := upd_same (H := Ha) (a := X1) (o := .lst ((fr.take 3).map V.int))
              have gb := sX _ _ ga
              have Tb := tab_same Ta sX
              have Pb := Pa.same sX
              have Smb := Sma.trans (samep sX)
              generalize upd Ha X1 (.lst ((fr.take 3).map V.int)) = Hb at hX gb Tb Pb Smb
              refine ⟨X1, rfl, ⟨_, SqL.of hX⟩, for_list (K := K) (a := X1) (xs := (fr.take 3).map V.int) (fun j σ H' => ∃ v5, σ = [some (.ref a), some (.int n), some (.int (0 + (i : Int))), some (.ref t5), some (.ref D), v5, some (.ref t9), v7, some (.ref ts), v9, v10, v11, v12, v13] ∧ Same Hb H')
                ⟨_, rfl, same_refl _⟩ ?_ ?_ ?_⟩
              · rintro j σ H' _ ⟨_, _, s'⟩
                exact SqL.of (s' _ _ hX)
              · rintro j x σ Hc hx ⟨v5, rfl, sc⟩
                obtain ⟨x, hx2, rfl⟩ := map_int_get hx
                have gc := sc _ _ gb
                refine ⟨_, rfl, _, rfl, t5, x, l, rfl, SqT.of gc, by omega, fun pd Hd sd hd => ?_⟩
                refine ⟨_, rfl, _, rfl, by show 1 ≤ sizeLine; decide, fun u nu => ?_⟩
                have su := same_upd (o := .tup [.int x]) nu
                refine cat_any (SqT.of (su _ _ (sd _ _ gc))) (SqT.of upd_same) ?_ fun r He se hr1 => ?_
                · rw [List.length_map]
                  show l.length + 1 ≤ sizeLine
                  exact Nat.le_of_lt (small1000 (by omega))
                refine ⟨r, l ++ [x], rfl, by rw [List.map_append]; exact hr1, fun ns p1 perm rising np => ⟨p1, _, rfl, .inl ⟨SqL.of upd_same, fun t1 nt => ?_⟩⟩⟩
                have s2 := same_upd (o := .lst (ns.map V.int)) np
                have s3 := same_upd (o := .tup (ns.map V.int)) nt
                have en : ns = srt (l ++ [x]) := srt_eq rising perm
                subst en
                refine ⟨.tuple (intsD (srt (l ++ [x]))), .tuple (intsD (srt (l ++ [x]))), .tup (SqT.of ((su.trans (se.trans (s2.trans s3))) _ _ hd)) (dp_ints _), .tup (SqT.of upd_same) (dp_ints _), intsT_shaped _, intsT_shaped _, _, rfl, ?_⟩
                rw [eqvT_ints, decide_eq_true rfl]
                refine iteF ?_
                exact ⟨_, rfl, sc.trans (sd.trans (su.trans (se.trans (s2.trans s3))))⟩
              · rintro σ Hc ⟨v5, rfl, sc⟩
                exact ⟨_, _, _, _, _, _, _, _, _, _, _, _, rfl, Smb.trans (samep sc), Pb.same sc, tab_same Tb sc⟩
    · rintro σ H1 ⟨v2, v3, v4, v5, v6, v7, v8, v9, v10, v11, v12, v13, rfl, Sm, P1, T1⟩
      exact q _ Sm T1

/-! ### the law -/
theorem seq_sameP {K : PySem.W.Frag} {H H' : Hp} {Pt t : Addr} {xs : List V} (h : SqL K H t xs) (hT : GxR.TabG H Pt) (e : SameB Pt H H') : SqL K H' t xs := by
  obtain ⟨ps, z, _⟩ := hT
  rcases h with (h | ⟨o, h⟩) | h
  · exact .inl (.inl (e _ _ (ne_of h z (by intro e; cases e)) h))
  · exact .inl (.inr ⟨o, e _ _ (ne_of h z (by intro e; cases e)) h⟩)
  · exact .inr h
def spLawT (K : PySem.W.Frag) (Pt : Addr) : Sp := fun vs H Q _ => ∃ (a : Addr) (ns : List Int), vs = [.ref a] ∧ SqL K H a (ns.map V.int) ∧ ns.length ≤ 63 ∧ GxR.TabG H Pt ∧ ∀ H', Q (.bl true) H'
theorem ok_law {f : Addr} {fd : FuncData} {Pt : Addr} (F : Fun K "law" "law" s_law f fd) (T : Txt K mg) (W : WithAt K mg base Pt) : FnOk P w K mg base CX0 6 f fd ["_law_script"] (spLawT K Pt) := by
  obtain ⟨fP, fdP, D_pot⟩ := T.d_pot
  have G_pot : FnOk P w K mg base CX0 1 fP fdP _ _ := ok_pot D_pot.F T
  obtain ⟨fR, fdR, D_right⟩ := T.d_right
  have G_right : FnOk P w K mg base CX0 5 fR fdR _ _ := ok_right D_right.F T W
  refine F.ok sc_law (fun vs H Q E h => ?_) (fun cdv A outer s H vs Q E hr h => ?_)
  · obtain ⟨a, ns, rfl, _⟩ := h
    rfl
  · obtain ⟨a, ns, rfl, hS, hlen, hT, q⟩ := h
    refine ⟨_, (pss_one (ps_ret (pe_callB (k_all K rfl) (by rfl) T.z_all (by decide +kernel) (pa_cons (pe_lc (own := [("_law_k", 1)]) (g := gName 1) (tt := tYes) rfl sc_law.nd (pi_range1 (by rfl) T.z_range (pa_cons (pe_callB (call_max2 rfl) (by rfl) T.z_max (by decide +kernel) (pa_cons pe_int (pa_cons (pe_callB (call_min2 rfl) (by rfl) T.z_min (by decide +kernel) (pa_cons (pe_callB (k_len K) (by rfl) T.z_len (by decide +kernel) (pa_cons (pv 0) pa_nil)) (pa_cons pe_int pa_nil))) pa_nil))) pa_nil)) (blkOk_by (own := [("_law_k", 1)]) (N := ["_law_script", "_law_k"]) (sc := (defScope s_law)) (by decide +kernel)) (fun _ _ _ _ _ => pg_name (i := 1) sc_law.nd rfl (by first | exact Or.inl rfl | exact Or.inr rfl)) (fun _ _ _ _ _ => pts_nil) (fun _ _ _ _ _ => (pe_call G_right (hr.mono (by decide)) (by rfl) D_right.g D_right.F.kp D_right.b .nil pass0 (pa_cons (pe_call G_pot (hr.mono (by decide)) (by rfl) D_pot.g D_pot.F.kp D_pot.b .nil pass0 (pa_cons (pv 0) (pa_cons (pv 1) pa_nil))) pa_nil)))) pa_nil)))), ?_⟩
    refine ⟨_, rfl, a, _, rfl, .inl hS, _, _, rfl, _, _, rfl, _, rfl, ?_, ?_, fun D nD => lc_range (lo := 0) (fun i H' => SameB Pt H H' ∧ GxR.TabG H' Pt ∧ H' D = some (.lst ((List.replicate i true).map V.bl))) ⟨sameb (same_upd nD), tab_same hT (same_upd nD), upd_same⟩ ?_ ?_⟩
    · repeat' split
      all_goals omega
    · repeat' split
      all_goals omega
    · rintro i H' hi ⟨sm, hT', hD⟩
      have hi3 : i < 4 := by
        revert hi
        repeat' split
        all_goals omega
      refine ⟨rfl, lcT ?_⟩
      refine ⟨_, rfl, _, rfl, a, _, ns, rfl, seq_sameP hS hT sm, by omega, by omega, fun p H2 np s2 P2 => ?_⟩
      refine ⟨p, rfl, P2, tab_same hT' s2, fun H3 s3 T3 => ?_⟩
      have Dp' : D ≠ p := ne_of_none hD np
      have DP : D ≠ Pt := fun e => by
        obtain ⟨ps, z, _⟩ := hT
        rw [← e, nD] at z
        cases z
      have hD3 := s3 _ _ Dp' DP (s2 _ _ hD)
      obtain ⟨ps, z3, y3⟩ := T3
      refine ⟨_, hD3, ?_, fun x o ne e => ?_, ⟨ps, by rw [upd_ne (Ne.symm DP)]; exact z3, y3⟩, ?_⟩
      · rw [List.length_map, List.length_replicate]
        exact small1000 (by omega)
      · rw [upd_ne (ne_of_none e nD)]
        exact s3 _ _ (ne_of_none (sm _ _ ne e) np) ne (s2 _ _ (sm _ _ ne e))
      · rw [upd_same, List.replicate_succ', List.map_append]
        rfl
    · rintro H' ⟨sm, _, hD⟩
      refine ⟨D, _, rfl, SqL.of hD, ?_⟩
      have e : ∀ n, ((List.replicate n true).all id) = true := fun n => by simp
      rw [e]
      exact q _

/-! ### the end where a def of the text holds a generator expression: the table of its code object -/
theorem walkT {l : PySem.W.OpenLaw} {n k : Nat} {q : Program} {loose : List Str} {XP : (Str → Option Value) → Heap → Prop}
    {YP : World → Heap → Prop} {d dW : DefRec} {K : Params → PySem.W.Frag} {x x0 : Str} (hn : l.most = some n) (hz : n ≤ sizeLine)
    (hdf : d.params.defaults = []) (hr : Room k callerA) (hrec : (recsOf q).find? (fun e => e.name == x0) = some dW) (hY : ∀ (w : World) (h : Heap), YP w h → (K w.params).In h)
    (F : ∀ (w : World) (mg : Str → Option Value) (fa : Addr) (h : Heap), (K w.params).In h → h.Ns mainGlobals mg → mg d.name = some (.ref fa) →
      (∀ c P : Addr, PySem.W.tabIn (K w.params) x0 = some (c, P) → PySem.W.CodeHd h c P ∧ h.get? P = some { cls := .none, data := .fields #[] }) →
      LamX.LawAtS l w (K w.params) CX0 k n x mg fa h) :
    PySem.W.WalkO q loose XP YP l.row.toRowW d [] (fun f vs => PySem.call f vs) := by
  refine Att.attach_callB hn hdf ?_
  intro w s₀ s₁ mg mb fa o pm cd doc a vs ns G Y ho hd hcd hmg hobj hints hlen hbits hg
  have kin := hY w _ Y
  obtain ⟨fd, cs, sp, z1, z2, z3, z4, z5, z6⟩ := F w mg fa _ kin G.T.g hmg (fun c P ht => PySem.W.tab_of G.T kin hrec ht)
  exact LamX.law_callTs kin G.T.g G.T.b G.T.builtins G.T.nolimit hg z1 z2 z3 G.T.bmain hobj hints (Nat.le_trans hlen hz) hr z6 z4 (fun H y1 y2 => z5 H a ns hlen hbits y1 y2) fun _ _ _ y => y
/-- the code object of the def that tabIn tells -/
theorem tabIn_code {K : PySem.W.Frag} {x : Str} {f c Pt : Addr} {oc : Value} {od : Option Addr} {sl : Array (Option Value)} {fd : FuncData} (a : PySem.W.nsIn K mainGlobals x = some (some (.ref f))) (l : K.lookup f = some ⟨oc, od, .func fd, sl⟩)
    (t : PySem.W.tabIn K x = some (c, Pt)) : fd.code = .ref c := by
  unfold PySem.W.tabIn at t
  rw [a] at t
  dsimp only at t
  rw [l] at t
  dsimp only at t
  split at t
  · rename_i c' hc'
    rw [hc']
    split at t
    · split at t
      · cases t
        rfl
      · cases t
    · cases t
  · cases t

end
theorem all_mk {l : PySem.W.OpenLaw} {w : World} {K : PySem.W.Frag} {h : Heap} {mg : Str → Option Value} {fa f0 f1 f2 f3 f4 f5 f6 f7 f8 f9 f10 f11 : Addr} (X : K.In h) (G : h.Ns mainGlobals mg) (hfa : mg "law" = some (.ref fa))
    (hT : ∀ c P : Addr, PySem.W.tabIn K "without" = some (c, P) → PySem.W.CodeHd h c P ∧ h.get? P = some { cls := .none, data := .fields #[] })
    {od0 an0 : Option Addr} {sl0 : Array (Option Value)} {oc0 kV0 dc0 pm0 cd0 ct0 : Value}
    (a0 : PySem.W.nsIn K mainGlobals "sign_of_many" = some (some (.ref f0))) (l0 : K.lookup f0 = some ⟨oc0, od0, .func (PySem.W.fnOf "sign_of_many" "sign_of_many" (defArgs s_sign_of_many) (defBody s_sign_of_many) (defScope s_sign_of_many) .none kV0 dc0 pm0 an0 cd0 ct0), sl0⟩) (c0 : PySem.W.codeIn K cd0 "sign_of_many" = true) (k0 : PySem.W.keepIn K (.ref f0) = true)
    {od1 an1 : Option Addr} {sl1 : Array (Option Value)} {oc1 kV1 dc1 pm1 cd1 ct1 : Value}
    (a1 : PySem.W.nsIn K mainGlobals "sign" = some (some (.ref f1))) (l1 : K.lookup f1 = some ⟨oc1, od1, .func (PySem.W.fnOf "sign" "sign" (defArgs s_sign) (defBody s_sign) (defScope s_sign) .none kV1 dc1 pm1 an1 cd1 ct1), sl1⟩) (c1 : PySem.W.codeIn K cd1 "sign" = true) (k1 : PySem.W.keepIn K (.ref f1) = true)
    {od2 an2 : Option Addr} {sl2 : Array (Option Value)} {oc2 kV2 dc2 pm2 cd2 ct2 : Value}
    (a2 : PySem.W.nsIn K mainGlobals "laid" = some (some (.ref f2))) (l2 : K.lookup f2 = some ⟨oc2, od2, .func (PySem.W.fnOf "laid" "laid" (defArgs s_laid) (defBody s_laid) (defScope s_laid) .none kV2 dc2 pm2 an2 cd2 ct2), sl2⟩) (c2 : PySem.W.codeIn K cd2 "laid" = true) (k2 : PySem.W.keepIn K (.ref f2) = true)
    {cT : Addr}
    {od3 an3 : Option Addr} {sl3 : Array (Option Value)} {oc3 kV3 dc3 pm3 ct3 : Value}
    (a3 : PySem.W.nsIn K mainGlobals "without" = some (some (.ref f3))) (l3 : K.lookup f3 = some ⟨oc3, od3, .func (PySem.W.fnOf "without" "without" (defArgs s_without) (defBody s_without) (defScope s_without) .none kV3 dc3 pm3 an3 (.ref cT) ct3), sl3⟩) (c3 : PySem.W.codeIn K (.ref cT) "without" = true) (k3 : PySem.W.keepIn K (.ref f3) = true)
    {od4 an4 : Option Addr} {sl4 : Array (Option Value)} {oc4 kV4 dc4 pm4 cd4 ct4 : Value}
    (a4 : PySem.W.nsIn K mainGlobals "with_hand" = some (some (.ref f4))) (l4 : K.lookup f4 = some ⟨oc4, od4, .func (PySem.W.fnOf "with_hand" "with_hand" (defArgs s_with_hand) (defBody s_with_hand) (defScope s_with_hand) .none kV4 dc4 pm4 an4 cd4 ct4), sl4⟩) (c4 : PySem.W.codeIn K cd4 "with_hand" = true) (k4 : PySem.W.keepIn K (.ref f4) = true)
    {od5 an5 : Option Addr} {sl5 : Array (Option Value)} {oc5 kV5 dc5 pm5 cd5 ct5 : Value}
    (a5 : PySem.W.nsIn K mainGlobals "_law_pot" = some (some (.ref f5))) (l5 : K.lookup f5 = some ⟨oc5, od5, .func (PySem.W.fnOf "_law_pot" "_law_pot" (defArgs s__law_pot) (defBody s__law_pot) (defScope s__law_pot) .none kV5 dc5 pm5 an5 cd5 ct5), sl5⟩) (c5 : PySem.W.codeIn K cd5 "_law_pot" = true) (k5 : PySem.W.keepIn K (.ref f5) = true)
    {od6 an6 : Option Addr} {sl6 : Array (Option Value)} {oc6 kV6 dc6 pm6 cd6 ct6 : Value}
    (a6 : PySem.W.nsIn K mainGlobals "_law_take" = some (some (.ref f6))) (l6 : K.lookup f6 = some ⟨oc6, od6, .func (PySem.W.fnOf "_law_take" "_law_take" (defArgs s__law_take) (defBody s__law_take) (defScope s__law_take) .none kV6 dc6 pm6 an6 cd6 ct6), sl6⟩) (c6 : PySem.W.codeIn K cd6 "_law_take" = true) (k6 : PySem.W.keepIn K (.ref f6) = true)
    {od7 an7 : Option Addr} {sl7 : Array (Option Value)} {oc7 kV7 dc7 pm7 cd7 ct7 : Value}
    (a7 : PySem.W.nsIn K mainGlobals "_law_pick" = some (some (.ref f7))) (l7 : K.lookup f7 = some ⟨oc7, od7, .func (PySem.W.fnOf "_law_pick" "_law_pick" (defArgs s__law_pick) (defBody s__law_pick) (defScope s__law_pick) .none kV7 dc7 pm7 an7 cd7 ct7), sl7⟩) (c7 : PySem.W.codeIn K cd7 "_law_pick" = true) (k7 : PySem.W.keepIn K (.ref f7) = true)
    {od8 an8 : Option Addr} {sl8 : Array (Option Value)} {oc8 kV8 dc8 pm8 cd8 ct8 : Value}
    (a8 : PySem.W.nsIn K mainGlobals "_law_some_lot" = some (some (.ref f8))) (l8 : K.lookup f8 = some ⟨oc8, od8, .func (PySem.W.fnOf "_law_some_lot" "_law_some_lot" (defArgs s__law_some_lot) (defBody s__law_some_lot) (defScope s__law_some_lot) .none kV8 dc8 pm8 an8 cd8 ct8), sl8⟩) (c8 : PySem.W.codeIn K cd8 "_law_some_lot" = true) (k8 : PySem.W.keepIn K (.ref f8) = true)
    {od9 an9 : Option Addr} {sl9 : Array (Option Value)} {oc9 kV9 dc9 pm9 cd9 ct9 : Value}
    (a9 : PySem.W.nsIn K mainGlobals "_law_sorted" = some (some (.ref f9))) (l9 : K.lookup f9 = some ⟨oc9, od9, .func (PySem.W.fnOf "_law_sorted" "_law_sorted" (defArgs s__law_sorted) (defBody s__law_sorted) (defScope s__law_sorted) .none kV9 dc9 pm9 an9 cd9 ct9), sl9⟩) (c9 : PySem.W.codeIn K cd9 "_law_sorted" = true) (k9 : PySem.W.keepIn K (.ref f9) = true)
    {od10 an10 : Option Addr} {sl10 : Array (Option Value)} {oc10 kV10 dc10 pm10 cd10 ct10 : Value}
    (a10 : PySem.W.nsIn K mainGlobals "_law_right" = some (some (.ref f10))) (l10 : K.lookup f10 = some ⟨oc10, od10, .func (PySem.W.fnOf "_law_right" "_law_right" (defArgs s__law_right) (defBody s__law_right) (defScope s__law_right) .none kV10 dc10 pm10 an10 cd10 ct10), sl10⟩) (c10 : PySem.W.codeIn K cd10 "_law_right" = true) (k10 : PySem.W.keepIn K (.ref f10) = true)
    {od11 an11 : Option Addr} {sl11 : Array (Option Value)} {oc11 kV11 dc11 pm11 cd11 ct11 : Value}
    (a11 : PySem.W.nsIn K mainGlobals "law" = some (some (.ref f11))) (l11 : K.lookup f11 = some ⟨oc11, od11, .func (PySem.W.fnOf "law" "law" (defArgs s_law) (defBody s_law) (defScope s_law) .none kV11 dc11 pm11 an11 cd11 ct11), sl11⟩) (c11 : PySem.W.codeIn K cd11 "law" = true) (k11 : PySem.W.keepIn K (.ref f11) = true)
    (z_abs : PySem.W.nsIn K mainGlobals "abs" = some none)
    (z_all : PySem.W.nsIn K mainGlobals "all" = some none)
    (z_any : PySem.W.nsIn K mainGlobals "any" = some none)
    (z_len : PySem.W.nsIn K mainGlobals "len" = some none)
    (z_list : PySem.W.nsIn K mainGlobals "list" = some none)
    (z_max : PySem.W.nsIn K mainGlobals "max" = some none)
    (z_min : PySem.W.nsIn K mainGlobals "min" = some none)
    (z_range : PySem.W.nsIn K mainGlobals "range" = some none)
    (z_set : PySem.W.nsIn K mainGlobals "set" = some none)
    (z_sorted : PySem.W.nsIn K mainGlobals "sorted" = some none)
    (z_sum : PySem.W.nsIn K mainGlobals "sum" = some none)
    (z_tuple : PySem.W.nsIn K mainGlobals "tuple" = some none)
    {Pt : Addr} {oT : Value} {dT : Option Addr} {vT : Array Value} {sT : Array (Option Value)} (lT : K.lookup cT = some ⟨oT, dT, .fields vT, sT⟩) (vP : vT[11]? = some (.ref Pt)) (nP : K.lookup Pt = none) :
    LamX.LawAtS l w K CX0 6 63 "_law_script" mg fa h := by
  have e := hfa.symm.trans (PySem.W.mg_of X G a11)
  cases e
  have T : Txt K mg := ⟨⟨_, _, ⟨fun_mk (st := s_sign_of_many) l0 c0 k0, PySem.W.mg_of X G a0, (fun_mk (st := s_sign_of_many) l0 c0 k0).binds (ps := ["many"]) fun _ _ _ _ _ _ us hl => match us, hl with | [_], _ => rfl⟩⟩, ⟨_, _, ⟨fun_mk (st := s_sign) l1 c1 k1, PySem.W.mg_of X G a1, (fun_mk (st := s_sign) l1 c1 k1).binds (ps := ["hand", "lot"]) fun _ _ _ _ _ _ us hl => match us, hl with | [_, _], _ => rfl⟩⟩, ⟨_, _, ⟨fun_mk (st := s_laid) l2 c2 k2, PySem.W.mg_of X G a2, (fun_mk (st := s_laid) l2 c2 k2).binds (ps := ["one", "other"]) fun _ _ _ _ _ _ us hl => match us, hl with | [_, _], _ => rfl⟩⟩, ⟨_, _, ⟨fun_mk (st := s_without) l3 c3 k3, PySem.W.mg_of X G a3, (fun_mk (st := s_without) l3 c3 k3).binds (ps := ["lot", "hand"]) fun _ _ _ _ _ _ us hl => match us, hl with | [_, _], _ => rfl⟩⟩, ⟨_, _, ⟨fun_mk (st := s_with_hand) l4 c4 k4, PySem.W.mg_of X G a4, (fun_mk (st := s_with_hand) l4 c4 k4).binds (ps := ["lot", "hand"]) fun _ _ _ _ _ _ us hl => match us, hl with | [_, _], _ => rfl⟩⟩, ⟨_, _, ⟨fun_mk (st := s__law_pot) l5 c5 k5, PySem.W.mg_of X G a5, (fun_mk (st := s__law_pot) l5 c5 k5).binds (ps := ["_law_script", "_law_k"]) fun _ _ _ _ _ _ us hl => match us, hl with | [_, _], _ => rfl⟩⟩, ⟨_, _, ⟨fun_mk (st := s__law_take) l6 c6 k6, PySem.W.mg_of X G a6, (fun_mk (st := s__law_take) l6 c6 k6).binds (ps := ["_law_pot_here", "_law_room"]) fun _ _ _ _ _ _ us hl => match us, hl with | [_, _], _ => rfl⟩⟩, ⟨_, _, ⟨fun_mk (st := s__law_pick) l7 c7 k7, PySem.W.mg_of X G a7, (fun_mk (st := s__law_pick) l7 c7 k7).binds (ps := ["_law_pot_here", "_law_some"]) fun _ _ _ _ _ _ us hl => match us, hl with | [_, _], _ => rfl⟩⟩, ⟨_, _, ⟨fun_mk (st := s__law_some_lot) l8 c8 k8, PySem.W.mg_of X G a8, (fun_mk (st := s__law_some_lot) l8 c8 k8).binds (ps := ["_law_pot_here", "_law_many", "_law_room"]) fun _ _ _ _ _ _ us hl => match us, hl with | [_, _, _], _ => rfl⟩⟩, ⟨_, _, ⟨fun_mk (st := s__law_sorted) l9 c9 k9, PySem.W.mg_of X G a9, (fun_mk (st := s__law_sorted) l9 c9 k9).binds (ps := ["_law_row"]) fun _ _ _ _ _ _ us hl => match us, hl with | [_], _ => rfl⟩⟩, ⟨_, _, ⟨fun_mk (st := s__law_right) l10 c10 k10, PySem.W.mg_of X G a10, (fun_mk (st := s__law_right) l10 c10 k10).binds (ps := ["_law_pot_here"]) fun _ _ _ _ _ _ us hl => match us, hl with | [_], _ => rfl⟩⟩, PySem.W.mg_none_of X G z_abs, PySem.W.mg_none_of X G z_all, PySem.W.mg_none_of X G z_any, PySem.W.mg_none_of X G z_len, PySem.W.mg_none_of X G z_list, PySem.W.mg_none_of X G z_max, PySem.W.mg_none_of X G z_min, PySem.W.mg_none_of X G z_range, PySem.W.mg_none_of X G z_set, PySem.W.mg_none_of X G z_sorted, PySem.W.mg_none_of X G z_sum, PySem.W.mg_none_of X G z_tuple⟩
  have tb : PySem.W.tabIn K "without" = some (cT, Pt) := by
    unfold PySem.W.tabIn
    rw [a3]
    dsimp only
    rw [l3]
    dsimp only [PySem.W.fnOf]
    rw [lT]
    dsimp only
    rw [vP]
  obtain ⟨hC, hE⟩ := hT _ _ tb
  have one : ∀ {Pr : Addr × Addr → Prop}, Pr (cT, Pt) → ∀ p ∈ [(cT, Pt)], Pr p := fun h p hp => by
    rw [List.mem_singleton] at hp
    subst hp
    exact h
  refine ⟨PySem.W.fnOf "law" "law" (defArgs s_law) (defBody s_law) (defScope s_law) .none kV11 dc11 pm11 an11 cd11 ct11, [(cT, Pt)], spLawT K Pt, one hE, one nP, one hC, fun s v => .of_eq rfl, fun H a ns hn _ hH hS => ?_, fun base _ _ hB => ?_⟩
  · exact ⟨a, ns, rfl, hS, hn, ⟨#[], hH _ (List.mem_singleton.mpr rfl), trivial⟩, fun _ => rfl⟩
  · have B := hB _ (List.mem_singleton.mpr rfl)
    exact ok_law (fun_mk (st := s_law) l11 c11 k11) T ⟨⟨f3, _, cT, ⟨fun_mk (st := s_without) l3 c3 k3, PySem.W.mg_of X G a3, (fun_mk (st := s_without) l3 c3 k3).binds (ps := ["lot", "hand"]) fun _ _ _ _ _ _ us hl => match us, hl with | [_, _], _ => rfl⟩, tabIn_code a3 l3 tb, ⟨B.code, B.bm, B.gP⟩⟩⟩
end My
open PySem PySem.W PyProof.Rows
set_option maxRecDepth 100000 in
set_option maxHeartbeats 0 in
theorem PySem.Challenge.cw_lackcry_k06_signs_by_exchanges_holds : PySem.Challenge.rw_lackcry_k06_signs_by_exchanges.Holds := by
  w_on; o_law; k_head; (case hw => w_witness2)
  k_fill
  refine My.walkT (l := PySem.Challenge.rw_lackcry_k06_signs_by_exchanges) (n := 63) (k := 6) (x := "_law_script") (x0 := "without") rfl (by decide) rfl ⟨rfl, by decide, by decide⟩ rfl (fun w h Y => PySem.W.kIn_of Y) ?F
  case F =>
    intro w mg fa h KX G hmg hT
    refine' My.all_mk KX G hmg hT ?a0 ?l0 ?c0 ?k0 ?a1 ?l1 ?c1 ?k1 ?a2 ?l2 ?c2 ?k2 ?a3 ?l3 ?c3 ?k3 ?a4 ?l4 ?c4 ?k4 ?a5 ?l5 ?c5 ?k5 ?a6 ?l6 ?c6 ?k6 ?a7 ?l7 ?c7 ?k7 ?a8 ?l8 ?c8 ?k8 ?a9 ?l9 ?c9 ?k9 ?a10 ?l10 ?c10 ?k10 ?a11 ?l11 ?c11 ?k11 ?z_abs ?z_all ?z_any ?z_len ?z_list ?z_max ?z_min ?z_range ?z_set ?z_sorted ?z_sum ?z_tuple ?lT ?vP ?nP
    (case a0 => k_is); (case l0 => k_is); (case c0 => k_is); (case k0 => k_is); (case a1 => k_is); (case l1 => k_is); (case c1 => k_is); (case k1 => k_is); (case a2 => k_is); (case l2 => k_is); (case c2 => k_is); (case k2 => k_is); (case a3 => k_is); (case l3 => k_is); (case c3 => k_is); (case k3 => k_is); (case a4 => k_is); (case l4 => k_is); (case c4 => k_is); (case k4 => k_is); (case a5 => k_is); (case l5 => k_is); (case c5 => k_is); (case k5 => k_is); (case a6 => k_is); (case l6 => k_is); (case c6 => k_is); (case k6 => k_is); (case a7 => k_is); (case l7 => k_is); (case c7 => k_is); (case k7 => k_is); (case a8 => k_is); (case l8 => k_is); (case c8 => k_is); (case k8 => k_is); (case a9 => k_is); (case l9 => k_is); (case c9 => k_is); (case k9 => k_is); (case a10 => k_is); (case l10 => k_is); (case c10 => k_is); (case k10 => k_is); (case a11 => k_is); (case l11 => k_is); (case c11 => k_is); (case k11 => k_is); (case z_abs => k_is); (case z_all => k_is); (case z_any => k_is); (case z_len => k_is); (case z_list => k_is); (case z_max => k_is); (case z_min => k_is); (case z_range => k_is); (case z_set => k_is); (case z_sorted => k_is); (case z_sum => k_is); (case z_tuple => k_is); (case lT => k_is); (case vP => exact rfl); (case nP => exact rfl)
