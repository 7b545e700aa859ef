import PyProof.Rows.All
import Wide.All
import OpenK.AllK
import Wide.FinOn
import HandS.ForMost
import HandS.Wide
import HandS.IsInst
import HandS.SortInts
import HandS.TupAny
import HandS.Conv
import HandS.Zip
import KE.GoesEnum
import HandS.Style
import HandS.TupLe
import PySem.Challenge.RW_lackcry_k02_lots_of_anything
set_option Elab.async false
set_option linter.all false
set_option maxRecDepth 100000
set_option maxHeartbeats 4000000
namespace My
open PySem PySem.Spec PyProof.Rows L2
/-! ### a def of the top, as callers use it -/
structure DefAt (K : PySem.W.Frag) (mg : Str → Option Value) (x : Str) (st : Stmt) (ps : List Str) (f : Addr) (fd : FuncData) : Prop where
  F : Fun K x x st f fd
  g : mg x = some (.ref f)
  b : Binds K fd ps []
section
variable {X : Cx} {CX : CXT} {k : Nat} {f : Addr} {fd : FuncData} {ps ks : List Str} {sp : Sp} {E : XK} {x : Str} {p pos : Pos} {kws : List Keyword} {tk : TA} {g : List Value → List Value → List Value} {gV : List V → List V → List V}
/-- f(k = v, ..), nothing by position -/
theorem pe_callK0 (F : FnOk X.prog X.w X.K X.mg X.base CX k f fd ps sp) (hr : Room k X.A) (hg : Gl X x) (hm : X.mg x = some (.ref f)) (hk : PySem.W.keepIn X.K (.ref f) = true) (hb : KBinds X.K fd ps ks g gV) (hx : Passes CX X E)
    (hkw : PK X kws tk) (hall : (backToKw pos (keywordEach kws X.env)).all (·.1.isSome) = true := by rfl) (hks : (backToKw pos (keywordEach kws X.env)).filterMap (·.1) = ks := by rfl)
    (hdb : (x == ("__debug__" : Str)) = false := by decide)
    (hpl : ((backTo pos (starEach [] X.env)).any (·.1) || (backToKw pos (keywordEach kws X.env)).any (·.1.isNone)) = false := by rfl) :
    PE X (.Call (.Name x p) [] kws pos) (tCallK sp gV E tNil tk) := by
  refine ⟨fun pins s σ H Q I h => ?_⟩
  refine wpAny_Call_Name_kw (ld_glob I hg hm ?_ hdb)
  refine PySem.W.callWith_KW0 (h₀ := X.base) I.ok.mod.kin hk hall (thn (hkw.run pos pins s σ H _ I h) fun ws s2 ⟨zs, H2, I2, rz, q2⟩ => ⟨I2.kIn, ?_⟩) hpl
  rw [hks]
  exact run_fnk (us := []) (vs := []) F hr hb hx I2 .nil rz q2
/-- a power of a great base -/
def CPowW (i j : Int) : Prop := 0 ≤ j ∧ (Builtin.Int.intBits i : Int) * j ≤ 2 ^ 27
theorem op_powW : OpR X (binaryOp .Pow) (rI CPowW fun i j => .int (i ^ j.toNat)) := opI fun _ _ _ _ _ _ _ hc q => pow_int hc.1 hc.2 q
end
/-! ### the rules that read K, with K named (within a comprehension the reading may not lean on the block) -/
section
variable {X : Cx} (K : PySem.W.Frag)
theorem k_ixL (h : X.K = K := by rfl) : IxR X (rIxL K) := h ▸ ix_list
theorem k_ixT (h : X.K = K := by rfl) : IxR X (rIxT K) := h ▸ ix_tup
def rLenS (K : PySem.W.Frag) : List V → Hp → VK → Prop := fun xs H Q => ∃ p ys, xs = [.ref p] ∧ (SqL K H p ys ∨ SqT K H p ys) ∧ Q (.int ys.length) H
theorem k_len (h : X.K = K := by rfl) : CallR X (.builtin "len") (rLenS K) := h ▸ call_len_seq
theorem k_in (h : X.K = K := by rfl) : OpR X (compareOp .In) (rIn K false) := h ▸ op_in_seq
theorem k_notIn (h : X.K = K := by rfl) : OpR X (compareOp .NotIn) (rIn K true) := h ▸ op_notIn_seq
theorem k_eqD (hu : X.A.units + 64 < cLine) (h : X.K = K := by rfl) : OpR X (compareOp .Eq) (rEqD K) := h ▸ op_eqD hu
theorem k_neD (hu : X.A.units + 64 < cLine) (h : X.K = K := by rfl) : OpR X (compareOp .NotEq) (rNeD K) := h ▸ op_neD hu
theorem k_catA (h : X.K = K := by rfl) : OpR X (binaryOp .Add) (rCatA K) := h ▸ op_catA
theorem k_sum (hc : X.calm = true) (h : X.K = K := by rfl) : CallR X (.builtin "sum") (rSum K) := h ▸ cr_sum hc
theorem k_all (hc : X.calm = true) (h : X.K = K := by rfl) : CallR X (.builtin "all") (rAll K) := h ▸ cr_all hc
theorem k_any (hc : X.calm = true) (h : X.K = K := by rfl) : CallR X (.builtin "any") (rAny K) := h ▸ cr_any hc
theorem k_sorted (h : X.K = K := by rfl) : CallR X (.builtin "sorted") (rSortedI K) := h ▸ cr_sortedI
def rTupOf (K : PySem.W.Frag) : List V → Hp → VK → Prop := fun xs H Q => ∃ p ys, xs = [.ref p] ∧ ((SqL K H p ys ∧ ∀ l, H l = none → Q (.ref l) (upd H l (.tup ys))) ∨ (SqT K H p ys ∧ Q (.ref p) H))
theorem k_tuple (h : X.K = K := by rfl) : CallR X (.type "tuple") (rTupOf K) := h ▸ call_tuple_of
def rLstOf (K : PySem.W.Frag) : List V → Hp → VK → Prop := fun xs H Q => ∃ p ys, xs = [.ref p] ∧ (SqL K H p ys ∨ SqT K H p ys) ∧ ∀ l, H l = none → Q (.ref l) (upd H l (.lst ys))
theorem k_list (h : X.K = K := by rfl) : CallR X (.type "list") (rLstOf K) := h ▸ call_list_of
theorem k_slL (h : X.K = K := by rfl) : SlR X (rSlL K) := h ▸ sl_list
theorem k_slT (h : X.K = K := by rfl) : SlR X (rSlA K) := h ▸ sl_tupA
theorem k_isi (h : X.K = K := by rfl) : CallR X (.builtin "isinstance") (rIsi K) := h ▸ call_isi
theorem k_pgT {es : List Expr} {k n : Nat} {t : TGs} {pos : Pos} (hc : X.calm = true) (h : PGs X es t) (hK : X.K = K := by rfl) (hn : (assignEach es X.env).length = n := by rfl) (hst : (assignEach es X.env).findIdx? (·.1) = none := by rfl) : PG X (.Tuple es k pos) (gTup K n t) := hK ▸ pg_tup hc h hn hst
theorem k_ltT (hu : X.A.units < cLine) (h : X.K = K := by rfl) : OpR X (compareOp .Lt) (rLtT K) := h ▸ op_ltT hu
end
/-! ### heaps -/
theorem same_upd {H : Hp} {p : Addr} {o : HO} (h : H p = none) : Same H (upd H p o) := fun b x e => by
  rw [upd_ne (ne_of_none e h)]
  exact e
/-- all that was tracked but at a is as it was -/
def SameB (a : Addr) (H H' : Hp) : Prop := ∀ b o, b ≠ a → H b = some o → H' b = some o
theorem SameB.refl (a : Addr) (H : Hp) : SameB a H H := fun _ _ _ h => h
theorem SameB.trans {a : Addr} {H H1 H2 : Hp} (x : SameB a H H1) (y : SameB a H1 H2) : SameB a H H2 := fun b o n h => y b o n (x b o n h)
theorem SameB.upd {a : Addr} {H : Hp} {o : HO} : SameB a H (L2.upd H a o) := fun b _ n h => by
  rw [upd_ne n]
  exact h
theorem sameb {a : Addr} {H H' : Hp} (e : Same H H') : SameB a H H' := fun b o _ h => e b o h
theorem SameB.seq {K : PySem.W.Frag} {a l : Addr} {H H' : Hp} {xs : List V} (e : SameB a H H') (n : l ≠ a) (h : SqL K H l xs) : SqL K H' l xs := by
  rcases h with (h | ⟨o, h⟩) | h
  · exact .inl (.inl (e _ _ n h))
  · exact .inl (.inr ⟨o, e _ _ n h⟩)
  · exact .inr h
/-! ### the law's pot: three ints in a list -/
def PotAt (H : Hp) (a : Addr) (b : Nat) : Prop := ∃ g s c : Int, H a = some (.lst [.int g, .int s, .int c]) ∧ 0 ≤ g ∧ 0 ≤ s ∧ s < 2 ^ 61 ∧ 0 ≤ c ∧ c ≤ b ∧ b ≤ 1000000
theorem PotAt.same {H H' : Hp} {a : Addr} {b : Nat} (h : PotAt H a b) (e : Same H H') : PotAt H' a b := by
  obtain ⟨g, s, c, h1, h2⟩ := h
  exact ⟨g, s, c, e _ _ h1, h2⟩
theorem PotAt.ne {H : Hp} {a b : Addr} {n : Nat} (h : PotAt H a n) (q : H b = none) : a ≠ b := by
  obtain ⟨_, _, _, h1, _⟩ := h
  exact ne_of_none h1 q
/-! ### rows of ints as data -/
def intsD (ns : List Int) : List PyData := ns.map PyData.int
theorem dp_ints {K : PySem.W.Frag} {H : Hp} : ∀ ns : List Int, DpAll K H (ns.map V.int) (intsD ns)
  | [] => .nil
  | n :: ns => .cons (.int n) (dp_ints ns)
theorem ints_lay : ∀ ns : List Int, PyData.canLayAll0 (intsD ns) = true
  | [] => by simp [intsD, PyData.canLayAll0]
  | n :: ns => by
    have h := ints_lay ns
    simp only [intsD, List.map_cons, PyData.canLayAll0, PyData.canLay0] at h ⊢
    simpa using h
theorem ints_depth : ∀ ns : List Int, PyData.depthAll (intsD ns) ≤ 2
  | [] => by simp [intsD, PyData.depthAll]
  | n :: ns => by
    have h := ints_depth ns
    simp only [intsD, List.map_cons, PyData.depthAll, PyData.depth] at h ⊢
    omega
theorem ints_shaped (ns : List Int) : SeqAt.shaped (.list (intsD ns)) = true := by
  have h1 := ints_depth ns
  have h2 : PyData.depth (.list (intsD ns)) ≤ 64 := by
    simp only [PyData.depth]
    omega
  show (PyData.canLay0 (.list (intsD ns)) && decide (PyData.depth (.list (intsD ns)) ≤ 64)) = true
  rw [Bool.and_eq_true]
  exact ⟨by simp only [PyData.canLay0]; exact ints_lay ns, decide_eq_true h2⟩
theorem intsT_shaped (ns : List Int) : SeqAt.shaped (.tuple (intsD ns)) = true := by
  have h1 := ints_depth ns
  have h2 : PyData.depth (.tuple (intsD ns)) ≤ 64 := by
    simp only [PyData.depth]
    omega
  show (PyData.canLay0 (.tuple (intsD ns)) && decide (PyData.depth (.tuple (intsD ns)) ≤ 64)) = true
  rw [Bool.and_eq_true]
  exact ⟨by simp only [PyData.canLay0]; exact ints_lay ns, decide_eq_true h2⟩
theorem eqv_self {d : PyData} (h : SeqAt.shaped d = true) : PyData.eqv d d = true := SeqAt.eqv_refl d (SeqAt.canLay_of_shaped h)
theorem atI_neg1 {α : Type} {xs : List α} {v : α} (h : xs[xs.length - 1]? = some v) : atI xs (-1) = some v := by
  have hl : 0 < xs.length := by
    cases xs with
    | nil => simp at h
    | cons _ _ => simp
  unfold atI ixN
  rw [if_neg (by decide), if_pos (by omega)]
  show xs[(-1 + (xs.length : Int)).toNat]? = some v
  rw [show (-1 + (xs.length : Int)).toNat = xs.length - 1 by omega]
  exact h
theorem map_int_get {ns : List Int} {i : Nat} {y : V} (h : (ns.map V.int)[i]? = some y) : ∃ u, ns[i]? = some u ∧ y = .int u := by
  rw [List.getElem?_map] at h
  cases e : ns[i]? with
  | none =>
    rw [e] at h
    cases h
  | some u =>
    rw [e] at h
    exact ⟨u, rfl, (Option.some.inj h).symm⟩
theorem range_map_succ {α : Type} (f : Nat → α) (i : Nat) : (List.range (i + 1)).map f = (List.range i).map f ++ [f i] := by
  rw [List.range_succ, List.map_append]
  rfl
theorem lcT {A B : Hp → Prop} {σ : L2.St} {H : Hp} (h : A H) : tYes σ H (fun b H3 => if b = true then A H3 else B H3) := by
  show (if (true = true) then A H else B H)
  rw [if_pos rfl]
  exact h
theorem row_get {l : List Int} {i : Nat} (h : i < l.length) : (l.map V.int)[i]? = some (.int (l.getD i 0)) := by
  rw [List.getElem?_map, List.getElem?_eq_getElem h, List.getD_eq_getElem?_getD, List.getElem?_eq_getElem h]
  rfl
theorem flat_rep (n : Nat) : (List.replicate n [V.int 0]).flatten = (List.replicate n (0 : Int)).map V.int := by
  induction n with
  | zero => rfl
  | succ n ih =>
    rw [List.replicate_succ, List.flatten_cons, ih, List.replicate_succ, List.map_cons]
    rfl
theorem seqT {K : PySem.W.Frag} {H H' : Hp} {a : Addr} {xs : List V} (e : Same H H') (h : SqT K H a xs) : SqT K H' a xs := by
  rcases h with (h | ⟨o, h⟩) | h
  · exact .inl (.inl (e _ _ h))
  · exact .inl (.inr ⟨o, e _ _ h⟩)
  · exact .inr h
theorem SameB.seqT {K : PySem.W.Frag} {a l : Addr} {H H' : Hp} {xs : List V} (e : SameB a H H') (n : l ≠ a) (h : SqT K H l xs) : SqT K H' l xs := by
  rcases h with (h | ⟨o, h⟩) | h
  · exact .inl (.inl (e _ _ n h))
  · exact .inl (.inr ⟨o, e _ _ n h⟩)
  · exact .inr h
/-- a comprehension over enumerate of a tuple is told by IteT: see enumT -/
theorem lc_noif {A B : Hp → Prop} {b : Bool} {H : Hp} (hb : b = true) (h : A H) : if b = true then A H else B H := by
  rw [if_pos hb]
  exact h
theorem PotAt.mono {H : Hp} {a : Addr} {b b' : Nat} (h : PotAt H a b) (l : b ≤ b') (m : b' ≤ 1000000) : PotAt H a b' := by
  obtain ⟨g, s, c, h1, h2, h3, h4, h5, h6, h7⟩ := h
  exact ⟨g, s, c, h1, h2, h3, h4, h5, by omega, m⟩
theorem PotAt.some {H : Hp} {a : Addr} {n : Nat} (h : PotAt H a n) : ∃ o, H a = some o := by
  obtain ⟨_, _, _, h1, _⟩ := h
  exact ⟨_, h1⟩
theorem PotAt.sameB {H H' : Hp} {a b : Addr} {n : Nat} (h : PotAt H a n) (e : SameB b H H') (ne : a ≠ b) : PotAt H' a n := by
  obtain ⟨g, s, c, h1, h2⟩ := h
  exact ⟨g, s, c, e _ _ ne h1, h2⟩
theorem eqv_ints : ∀ l m : List Int, PyData.eqvAll (intsD l) (intsD m) = decide (l = m)
  | [], [] => rfl
  | [], y :: m => rfl
  | x :: l, [] => rfl
  | x :: l, y :: m => by
    show (PyData.eqv (.int x) (.int y) && PyData.eqvAll (intsD l) (intsD m)) = decide (x :: l = y :: m)
    rw [eqv_ints l m]
    show ((x == y) && decide (l = m)) = decide (x :: l = y :: m)
    by_cases h : x = y
    · subst h
      by_cases h2 : l = m
      · subst h2
        simp
      · simp [h2]
    · simp [h]
theorem eqvL_ints (l m : List Int) : PyData.eqv (.list (intsD l)) (.list (intsD m)) = decide (l = m) := eqv_ints l m
theorem eqvT_ints (l m : List Int) : PyData.eqv (.tuple (intsD l)) (.tuple (intsD m)) = decide (l = m) := eqv_ints l m
theorem flat_ints (l : List Int) : (l.map V.int).all flatV = true := by
  rw [List.all_map]
  exact List.all_eq_true.mpr fun _ _ => rfl
theorem inV_ints (x : Int) : ∀ l : List Int, inV (.int x) (l.map V.int) = l.contains x
  | [] => rfl
  | y :: l => by
    have ih := inV_ints x l
    have e1 : inV (.int x) ((y :: l).map V.int) = (eqV (.int y) (.int x) || inV (.int x) (l.map V.int)) := rfl
    rw [e1, ih, List.contains_cons]
    congr 1
    show (y == x) = (x == y)
    exact BEq.comm
def topS (i : Nat) : Stmt := PySem.Challenge.pw_lackcry_k02_lots_of_anything.main.body.getD i (.Pass ⟨0, 0, 0, 0⟩)
abbrev s_is_whole : Stmt := topS 1
theorem sc_is_whole : FnScope ["thing"] ["thing"] (defScope s_is_whole) := ⟨rfl, rfl, rfl, by decide +kernel, rfl, by decide +kernel, by decide +kernel⟩
abbrev s_is_below : Stmt := topS 2
theorem sc_is_below : FnScope ["bound", "thing"] ["bound", "thing"] (defScope s_is_below) := ⟨rfl, rfl, rfl, by decide +kernel, rfl, by decide +kernel, by decide +kernel⟩
abbrev s_is_lot : Stmt := topS 4
theorem sc_is_lot : FnScope ["hands", "size", "thing", "least", "hand"] ["hands", "size", "thing"] (defScope s_is_lot) := ⟨rfl, rfl, rfl, by decide +kernel, rfl, by decide +kernel, by decide +kernel⟩
abbrev s__law_pot : Stmt := topS 6
theorem sc__law_pot : FnScope ["_law_script", "_law_k", "_law_cell", "_law_great"] ["_law_script", "_law_k"] (defScope s__law_pot) := ⟨rfl, rfl, rfl, by decide +kernel, rfl, by decide +kernel, by decide +kernel⟩
abbrev s__law_take : Stmt := topS 7
theorem sc__law_take : FnScope ["_law_pot_here", "_law_room", "_law_digit", "_law_low", "_law_high", "_law_mixed", "_law_last"] ["_law_pot_here", "_law_room"] (defScope s__law_take) := ⟨rfl, rfl, rfl, by decide +kernel, rfl, by decide +kernel, by decide +kernel⟩
abbrev s__law_pick : Stmt := topS 8
theorem sc__law_pick : FnScope ["_law_pot_here", "_law_some"] ["_law_pot_here", "_law_some"] (defScope s__law_pick) := ⟨rfl, rfl, rfl, by decide +kernel, rfl, by decide +kernel, by decide +kernel⟩
abbrev s__law_some_lot : Stmt := topS 9
theorem sc__law_some_lot : FnScope ["_law_pot_here", "_law_many", "_law_room", "_law_left", "_law_found", "_law_turn"] ["_law_pot_here", "_law_many", "_law_room"] (defScope s__law_some_lot) := ⟨rfl, rfl, rfl, by decide +kernel, rfl, by decide +kernel, by decide +kernel⟩
abbrev s__law_due : Stmt := topS 10
theorem sc__law_due : FnScope ["_law_many", "_law_wide", "_law_thing_here", "_law_last", "_law_one"] ["_law_many", "_law_wide", "_law_thing_here"] (defScope s__law_due) := ⟨rfl, rfl, rfl, by decide +kernel, rfl, by decide +kernel, by decide +kernel⟩
abbrev s__law_bent : Stmt := topS 11
theorem sc__law_bent : FnScope ["_law_pot_here", "_law_many", "_law_lot", "_law_way", "_law_at", "_law_odd", "_law_some"] ["_law_pot_here", "_law_many", "_law_lot"] (defScope s__law_bent) := ⟨rfl, rfl, rfl, by decide +kernel, rfl, by decide +kernel, by decide +kernel⟩
abbrev s__law_right : Stmt := topS 12
theorem sc__law_right : FnScope ["_law_pot_here", "_law_many", "_law_lot", "_law_things", "_law_turn", "_law_one", "_law_wide", "_law_due_here", "_law_kept"] ["_law_pot_here"] (defScope s__law_right) := ⟨rfl, rfl, rfl, by decide +kernel, rfl, by decide +kernel, by decide +kernel⟩
abbrev s_law : Stmt := topS 13
theorem sc_law : FnScope ["_law_script", "_law_k"] ["_law_script"] (defScope s_law) := ⟨rfl, rfl, rfl, by decide +kernel, rfl, by decide +kernel, by decide +kernel⟩
structure Txt (K : PySem.W.Frag) (mg : Str → Option Value) : Prop where
  d_is_whole : ∃ f fd, DefAt K mg "is_whole" s_is_whole ["thing"] f fd
  d_is_below : ∃ f fd, DefAt K mg "is_below" s_is_below ["bound", "thing"] f fd
  d_is_lot : ∃ f fd, DefAt K mg "is_lot" s_is_lot ["hands", "size", "thing"] f fd
  d_pot : ∃ f fd, DefAt K mg "_law_pot" s__law_pot ["_law_script", "_law_k"] f fd
  d_take : ∃ f fd, DefAt K mg "_law_take" s__law_take ["_law_pot_here", "_law_room"] f fd
  d_pick : ∃ f fd, DefAt K mg "_law_pick" s__law_pick ["_law_pot_here", "_law_some"] f fd
  d_some_lot : ∃ f fd, DefAt K mg "_law_some_lot" s__law_some_lot ["_law_pot_here", "_law_many", "_law_room"] f fd
  d_due : ∃ f fd, DefAt K mg "_law_due" s__law_due ["_law_many", "_law_wide", "_law_thing_here"] f fd
  d_bent : ∃ f fd, DefAt K mg "_law_bent" s__law_bent ["_law_pot_here", "_law_many", "_law_lot"] f fd
  d_right : ∃ f fd, DefAt K mg "_law_right" s__law_right ["_law_pot_here"] f fd
  z_abs : mg "abs" = none
  z_all : mg "all" = none
  z_bool : mg "bool" = none
  z_int : mg "int" = none
  z_isinstance : mg "isinstance" = none
  z_len : mg "len" = none
  z_list : mg "list" = none
  z_max : mg "max" = none
  z_min : mg "min" = none
  z_range : mg "range" = none
  z_repr : mg "repr" = none
  z_sorted : mg "sorted" = none
  z_tuple : mg "tuple" = none
section
variable {P : Program} {w : World} {K : PySem.W.Frag} {mg : Str → Option Value} {base : Heap}
/-! ### promises that hold where no repr is under way (the layer's own promises say nothing of that, and repr of a tuple asks it) -/
structure FnG (P : Program) (w : World) (K : PySem.W.Frag) (mg : Str → Option Value) (base : Heap) (CX : CXT) (k : Nat) (f : Addr)
    (fd : FuncData) (ps : List Str) (sp : Sp) : Prop where
  len : ∀ vs H Q E, sp vs H Q E → vs.length = ps.length
  go : ∀ (A : Around) (fs : List Env) (s : Shared) (H : Hp) (ar : Args) (us : List Value) (vs : List V) (Q : VK) (E : XK),
    Room k A → A.guards = some [] → Env0 P w K mg base A fs s H → BindsTo s fd ar (ps.zip us) → Vals vs us → sp vs H Q E →
    codeAny (model P w) A (.call (.ref f) ar) (CR CX fs P w H s Q E) s
section
variable {P : Program} {w : World} {K : PySem.W.Frag} {mg : Str → Option Value} {base : Heap} {CX : CXT}
theorem FnG.of {k : Nat} {f : Addr} {fd : FuncData} {ps : List Str} {sp : Sp} (F : FnOk P w K mg base CX k f fd ps sp) :
    FnG P w K mg base CX k f fd ps sp :=
  ⟨F.len, fun A fs s H ar us vs Q E a _ => F.run A fs s H ar us vs Q E a⟩
/-- a def's promise from its body, where no repr is under way -/
theorem FnG.by {x qual : Str} {st : Stmt} {f : Addr} {fd : FuncData} {N ps : List Str} {k : Nat} {sp : Sp} (F : Fun K x qual st f fd)
    (S : FnScope N ps (defScope st)) (len : ∀ vs H Q E, sp vs H Q E → vs.length = ps.length)
    (body : ∀ (cdv : Value) (A : Around) (fs : List Env) (s : Shared) (H : Hp) (vs : List V) (Q : VK) (E : XK),
      Room k (A.deeper (envOfC qual (defScope st) s.heap.objs.size f cdv)) → A.guards = some [] → sp vs H Q E →
      ∃ t, PSs (cxOf CX P w K mg base N qual (defScope st) f cdv A fs s H E) (defBody st) t ∧
        t { nx := fun _ H' => Q .non H', rt := Q } (start N vs) H) :
    FnG P w K mg base CX (k + 1) f fd ps sp := by
  obtain ⟨oc, od, kV, doc, pm, an, cdv, ct, osl, rfl, lk, cdok⟩ := F.ex
  refine ⟨len, ?_⟩
  intro A fs s H ar us vs Q E room gd env bd rel ask
  have kin : K.In s.heap := env.mod.kin.keeps fun b o z => (env.bs b o z).1
  have nol : s.heap.NoLimit := env.mod.nolimit.keeps fun b o z => (env.bs b o z).1
  have parK : ∀ y ∈ ps.zip us, (defScope st).names.lookup y.1 = some .local ∨
      ((defScope st).names.lookup y.1 = some .cell ∧
        ((cellsFrom (s.heap.objs.size + 1) (defScope st).names []).lookup y.1).isSome = true) := by
    rintro ⟨m, v⟩ hy
    rcases S.par m (List.of_mem_zip hy).1 with z | z
    · exact .inl z
    · exact .inr ⟨z, PySem.W.cellsFrom_some _ _ _ (.inl z)⟩
  refine codeAny_call_function room.depth (kin _ _ lk) rfl S.co S.gen rfl (PySem.W.codeRec_of kin cdok) (bd _ _ _ _ ?_)
  refine wpAny_newFunctionEnv_cells S.kind parK ?_
  rintro _ rfl s1 x
  refine ⟨nol.keeps x.toInCall.keep, codeAny_func ?_⟩
  obtain ⟨t, der, rd⟩ := body cdv A fs s H vs Q E (room.deeper _) gd ask
  have I := inv_start (CX := CX) (E := E) S room.hd env (len _ _ _ _ ask) rel x
  refine wpAny_mono (der.run [] s1 (start N vs) H _ I rd) ?_ fun e s' z => z
  intro fl s' z
  match fl, z with
  | .ret u, ⟨v, σ', H', J, rv, q⟩ => exact ⟨v, H', J.os, J.bare, J.base, J.hok, rv, q⟩
  | .next, ⟨σ', H', J, q⟩ => exact ⟨V.non, H', J.os, J.bare, J.base, J.hok, rfl, q⟩
  | .brk, ⟨_, _, _, q⟩ => exact False.elim q
  | .cont, ⟨_, _, _, q⟩ => exact False.elim q
end
/-- the same of a def that no error leaves -/
theorem FnG.by0 {P : Program} {w : World} {K : PySem.W.Frag} {mg : Str → Option Value} {base : Heap} {x qual : Str} {st : Stmt} {f : Addr}
    {fd : FuncData} {N ps : List Str} {k : Nat} {sp : Sp} (F : Fun K x qual st f fd) (S : FnScope N ps (defScope st))
    (len : ∀ vs H Q E, sp vs H Q E → vs.length = ps.length)
    (body : ∀ (cdv : Value) (A : Around) (fs : List Env) (s : Shared) (H : Hp) (vs : List V) (Q : VK) (E : XK),
      Room k (A.deeper (envOfC qual (defScope st) s.heap.objs.size f cdv)) → A.guards = some [] → sp vs H Q E →
      ∃ t, PSs (cxOf CX0 P w K mg base N qual (defScope st) f cdv A fs s H E).nox (defBody st) t ∧
        t { nx := fun _ H' => Q .non H', rt := Q } (start N vs) H) :
    FnG P w K mg base CX0 (k + 1) f fd ps sp :=
  FnG.by F S len fun cdv A fs s H vs Q E hr gd ask => by
    obtain ⟨t, d, r⟩ := body cdv A fs s H vs Q E hr gd ask
    exact ⟨t, d.nox, r⟩
theorem room70 {k : Nat} {A : Around} (r : Room k A) : A.units + 70 < cLine := by
  have z := r.un
  omega
section
variable {X : Cx} {CX : CXT} {k : Nat} {f : Addr} {fd : FuncData} {ps ks : List Str} {sp : Sp} {dvs : List V} {ds : List Value} {E : XK}
  {x : Str} {p pos : Pos} {e : Expr} {es : List Expr} {t tk : TA} {kws : List Keyword} {g : List Value → List Value → List Value} {gV : List V → List V → List V}
theorem goG {pins : List (Addr × Obj)} {σ : L2.St} {H : Hp} {s : Shared} {Q : VK} {ar : Args} {us : List Value} {vs : List V}
    (F : FnG X.prog X.w X.K X.mg X.base CX k f fd ps sp) (hr : Room k X.A) (gd : X.A.guards = some []) (hx : Passes CX X E)
    (I : Inv X pins σ H s) (bd : BindsTo s fd ar (ps.zip us)) (r : Vals vs us) (h : sp vs H Q E) :
    wpAny (model X.prog X.w) X.A (call (.ref f) ar.pos ar.kw) (EP X pins σ Q) X.xe s := by
  refine wpAny_call (codeAny_mono (F.go X.A X.stack s H ar us vs Q E hr gd I.env0 bd r h) ?_)
  intro res s' z
  match res, z with
  | .error e, z => exact hx pins σ H s e s' I z
  | .ok (.ret u), z => exact I.after z
  | .ok .next, z => exact False.elim z
  | .ok .brk, z => exact False.elim z
  | .ok .cont, z => exact False.elim z
theorem pg_call (F : FnG X.prog X.w X.K X.mg X.base CX k f fd ps sp) (hr : Room k X.A) (gd : X.A.guards = some []) (hg : Gl X x)
    (hm : X.mg x = some (.ref f)) (hk : PySem.W.keepIn X.K (.ref f) = true) (hb : Binds X.K fd ps []) (hx : Passes CX X E)
    (ha : PA X (e :: es) t) (d1 : (x == ("__debug__" : Str)) = false := by decide)
    (d2 : starEach (e :: es) X.env = (false, eval e X.env) :: starEach es X.env := by rfl)
    (d3 : (backTo pos (starEach es X.env)).any (·.1) = false := by rfl) :
    PE X (.Call (.Name x p) (e :: es) [] pos) (tCall sp [] E t) := by
  refine ⟨fun pins s σ H Q I h => wpAny_Call_Name_kw (ld_glob I hg hm ?_ d1)⟩
  refine PySem.W.callWith_K (h₀ := X.base) I.ok.mod.kin hk (thn (ha.run pos pins s σ H _ I h) ?_) d2 d3
  rintro us s1 ⟨vs, H1, I1, r, q⟩
  have q' : sp vs H1 Q E := by
    have z := q
    rw [List.append_nil] at z
    exact z
  have hl : (us ++ []).length = ps.length := by
    rw [List.append_nil, ← r.length]
    exact F.len _ _ _ _ q'
  have b := hb s1 us I1.kIn hl
  rw [List.append_nil] at b
  exact ⟨I1.kIn, goG (ar := ⟨us, []⟩) F hr gd hx I1 b r q'⟩
theorem pg_call0 (F : FnG X.prog X.w X.K X.mg X.base CX k f fd [] sp) (hr : Room k X.A) (gd : X.A.guards = some []) (hg : Gl X x)
    (hm : X.mg x = some (.ref f)) (hk : PySem.W.keepIn X.K (.ref f) = true) (hb : Binds X.K fd [] []) (hx : Passes CX X E)
    (d1 : (x == ("__debug__" : Str)) = false := by decide) : PE X (.Call (.Name x p) [] [] pos) (tCall sp [] E tNil) := by
  refine ⟨fun pins s σ H Q I h => wpAny_Call_Name_kw (ld_glob I hg hm ?_ d1)⟩
  exact PySem.W.callWith_K0 I.kIn hk (goG (ar := ⟨[], []⟩) F hr gd hx I (hb s [] I.kIn rfl) .nil h)
theorem pg_callK0 (F : FnG X.prog X.w X.K X.mg X.base CX k f fd ps sp) (hr : Room k X.A) (gd : X.A.guards = some []) (hg : Gl X x)
    (hm : X.mg x = some (.ref f)) (hk : PySem.W.keepIn X.K (.ref f) = true) (hb : KBinds X.K fd ps ks g gV) (hx : Passes CX X E)
    (hkw : PK X kws tk) (c1 : (backToKw pos (keywordEach kws X.env)).all (·.1.isSome) = true := by rfl)
    (c2 : (backToKw pos (keywordEach kws X.env)).filterMap (·.1) = ks := by rfl) (d1 : (x == ("__debug__" : Str)) = false := by decide)
    (c3 : ((backTo pos (starEach [] X.env)).any (·.1) || (backToKw pos (keywordEach kws X.env)).any (·.1.isNone)) = false := by rfl) :
    PE X (.Call (.Name x p) [] kws pos) (tCallK sp gV E tNil tk) := by
  refine ⟨fun pins s σ H Q I h => wpAny_Call_Name_kw (ld_glob I hg hm ?_ d1)⟩
  refine PySem.W.callWith_KW0 (h₀ := X.base) I.ok.mod.kin hk c1 (thn (hkw.run pos pins s σ H _ I h) ?_) c3
  rintro ws s2 ⟨zs, H2, I2, rz, q2⟩
  refine ⟨I2.kIn, ?_⟩
  rw [c2]
  have r2 : Vals (gV [] zs) (g [] ws) := hb.rel .nil rz
  have hl : (g [] ws).length = ps.length := by
    rw [← r2.length]
    exact F.len _ _ _ _ q2
  exact goG (ar := ⟨[], ks.zip ws⟩) F hr gd hx I2 (hb.to s2 [] ws I2.kIn hl) r2 q2
end
/-! the end over such a promise -/
theorem law_callG {P : Program} {w : World} {K : PySem.W.Frag} {mg mb : Str → Option Value} {CX : CXT} {k : Nat} {fa a : Addr} {fd : FuncData}
    {x : Str} {sp : Sp} {s : Shared} {vs : List Value} {ns : List Int} (kin : K.In s.heap) (gl : s.heap.Ns mainGlobals mg)
    (bn : s.heap.Ns builtinsNs mb) (bb : ∀ x : Str, x ≠ "__name__" → mb x = bootBuiltins x) (nol : s.heap.NoLimit) (ge : s.gens = #[])
    (ha : s.heap.get? a = some ⟨.type "list", none, .seq vs.toArray 0, #[]⟩) (hi : IntsAre vs ns) (hl : ns.length ≤ sizeLine)
    (hr : Room k callerA) (F : ∀ base : Heap, K.In base → base.Ns mainGlobals mg → FnG P w K mg base CX k fa fd [x] sp)
    (bd : ∀ (s : Shared) (u : Value), BindsTo s fd ⟨[u], []⟩ [(x, u)])
    (ask : ∀ H : Hp, SqL K H a (ns.map V.int) → sp [.ref a] H (fun v _ => v = .bl true) fun _ _ _ => False)
    (noX : ∀ H e s', CX [] H s (fun _ _ _ => False) e s' → False) :
    codeAny (model P w) callerA (.call (.ref fa) ⟨[.ref a], []⟩)
      (fun r s' => r = .ok (.ret (.bool true)) ∧ OldK s.heap s'.heap ∧ s'.os = s.os ∧ AllBare s'.gens) s := by
  have rv := vals_ints hi
  -- what is tracked: the script alone, locked; nothing where it is the module's own
  have main : ∀ H : Hp, (∀ b u, H b = some u → b = a ∧ K.lookup a = none ∧ u = .frz ⟨.type "list", none, .seq vs.toArray 0, #[]⟩ (.lst (ns.map V.int))) →
      SqL K H a (ns.map V.int) →
      codeAny (model P w) callerA (.call (.ref fa) ⟨[.ref a], []⟩)
        (fun r s' => r = .ok (.ret (.bool true)) ∧ OldK s.heap s'.heap ∧ s'.os = s.os ∧ AllBare s'.gens) s := by
    intro H only sq
    have free : ∀ {b : Addr}, b ≠ a → H b = none := fun {b} ne => by
      cases z : H b with
      | none => rfl
      | some u => exact absurd (only b u z).1 ne
    have off : ∀ {b : Addr} {o : Obj}, s.heap.get? b = some o → o.data ≠ .seq vs.toArray 0 → H b = none := fun {b o} z d => by
      refine free fun e => d ?_
      rw [e, ha] at z
      rw [← Option.some.inj z]
    have ns2 : ∀ {b : Addr} {m : Str → Option Value}, s.heap.Ns b m → (hidT s.heap H).Ns b m := by
      rintro b m ⟨o, es, ep, z, d, r⟩
      exact ⟨o, es, ep, hidT_get z (off z (by rw [d]; intro q; cases q)), d, r⟩
    have kin2 : K.In (hidT s.heap H) := fun b o z => hidT_get (kin b o z) (by
      cases q : H b with
      | none => rfl
      | some u =>
        obtain ⟨e, n, _⟩ := only b u q
        rw [e, n] at z
        cases z)
    have ok : HOk P w H s.heap := fun b u z => by
      obtain ⟨e, _, rfl⟩ := only b u z
      subst e
      exact ⟨ha, by rw [List.length_map]; exact hl, vs, _, rv, ha⟩
    obtain ⟨mc, c1, c2⟩ := nol
    have env : Env0 P w K mg (hidT s.heap H) callerA [] s H :=
      { frames := rfl, mod := ⟨kin2, ns2 gl, ⟨mb, ns2 bn, bb⟩, ⟨mc, ns2 c1, c2⟩⟩, bs := fun b o z => of_hidT z,
        bsz := Nat.le_of_eq (hidT_size _ _), funs := trivial, frf := fun b hb => (List.not_mem_nil hb).elim, hok := ok, bare := .of_eq ge }
    refine codeAny_mono ((F _ kin2 (ns2 gl)).go callerA [] s H ⟨[.ref a], []⟩ [.ref a] [.ref a] _ _ hr rfl env (bd s _) (.cons rfl .nil) (ask H sq)) ?_
    intro res s' z
    match res, z with
    | .error e, z => exact (noX H e s' z).elim
    | .ok .next, z => exact False.elim z
    | .ok .brk, z => exact False.elim z
    | .ok .cont, z => exact False.elim z
    | .ok (.ret u), ⟨v, H', os, bare, un, ok', r', q⟩ =>
      have q' : v = .bl true := q
      subst q'
      obtain rfl : u = Value.bool true := r'
      refine ⟨rfl, OldK.of_keep fun b o z => ?_, os, bare⟩
      cases y : H b with
      | none => exact un.keep b o z y (fun h => (List.not_mem_nil h).elim) (List.not_mem_nil)
      | some u =>
        obtain ⟨e, _, rfl⟩ := only b u y
        have y2 := un.frzs b _ _ y
        obtain ⟨e2, _⟩ := ok' b _ y2
        rw [e] at z e2 ⊢
        rw [ha] at z
        cases z
        exact e2
  cases hk : K.lookup a with
  | some o =>
    have z := kin a o hk
    rw [ha] at z
    cases z
    refine main (fun _ => none) (fun b u q => nomatch q) (.inr ⟨_, vs.toArray, _, hk, rfl, rfl, rfl, ?_, by simpa using rv⟩)
    rw [List.size_toArray, hi.length]
    exact hl
  | none =>
    refine main (fun b => if b = a then some (.frz ⟨.type "list", none, .seq vs.toArray 0, #[]⟩ (.lst (ns.map V.int))) else none) ?_ (.inl (.inr ⟨_, if_pos rfl⟩))
    intro b u q
    by_cases e : b = a
    · rw [if_pos e] at q
      exact ⟨e, hk, (Option.some.inj q).symm⟩
    · rw [if_neg e] at q
      cases q
theorem walkG {l : PySem.W.OpenLaw} {n k : Nat} {q : Program} {loose : List Str} {XP : (Str → Option Value) → Heap → Prop}
    {YP : World → Heap → Prop} {d : DefRec} {K : Params → PySem.W.Frag} {sp : World → Sp} {x : Str} (hn : l.most = some n) (hz : n ≤ sizeLine)
    (hdf : d.params.defaults = []) (hr : Room k callerA) (hY : ∀ (w : World) (h : Heap), YP w h → (K w.params).In h)
    (F : ∀ (w : World) (mg : Str → Option Value) (fa : Addr) (h : Heap), (K w.params).In h → h.Ns mainGlobals mg → mg d.name = some (.ref fa) →
      ∃ fd : FuncData, (∀ (s : Shared) (u : Value), BindsTo s fd ⟨[u], []⟩ [(x, u)]) ∧
        ∀ base : Heap, (K w.params).In base → base.Ns mainGlobals mg → FnG l.prog w (K w.params) mg base CX0 k fa fd [x] (sp w))
    (ask : ∀ (w : World) (H : Hp) (a : Addr) (ns : List Int), ns.length ≤ n → SqL (K w.params) H a (ns.map V.int) →
      sp w [.ref a] H (fun v _ => v = .bl true) fun _ _ _ => False) :
    PySem.W.WalkO q loose XP YP l.row.toRowW d [] (fun f vs => PySem.call f vs) := by
  refine Att.attach_call hn hdf ?_
  intro w s₀ s₁ mg mb fa o pm cd doc a vs ns G Y ho hd hcd hmg hobj hints hlen hg
  have kin := hY w _ Y
  obtain ⟨fd, hb, hF⟩ := F w mg fa _ kin G.T.g hmg
  exact law_callG kin G.T.g G.T.b G.T.builtins G.T.nolimit hg hobj hints (Nat.le_trans hlen hz) hr hF hb (fun H hS => ask w H a ns hlen hS) fun _ _ _ z => z

/-! ### repr of data, where no repr is under way -/
def Shows (K : PySem.W.Frag) (H : Hp) (x : V) (d : PyData) : Prop :=
  (Dp K H x d ∧ d.showable = true ∧ SeqAt.shaped d = true ∧ d.shown.length ≤ sizeLine) ∨ (∃ a, x = .ref a ∧ H a = some (.dK []) ∧ d = .dict [])
def rRepr (K : PySem.W.Frag) : List V → Hp → VK → Prop := fun xs H Q =>
  ∃ (x : V) (d : PyData), xs = [x] ∧ Shows K H x d ∧ Q (.str d.shown) H
theorem k_repr {X : Cx} (K : PySem.W.Frag) (gd : X.A.guards = some []) (hu : X.A.units + 70 < cLine) (hK : X.K = K := by rfl) :
    CallR X (.builtin "repr") (rRepr K) := by
  subst hK
  intro pins s σ H xs us Q I r h
  obtain ⟨x, d, rfl, sh, q⟩ := h
  cases r with
  | cons r rr =>
    cases rr
    rename_i u
    rcases sh with ⟨dp, hs, hsh, hz⟩ | ⟨a, rfl, ha, rfl⟩
    · have hd := SeqAt.depth_of_shaped hsh
      have nd := PyData.hasDict_of_canLay d (SeqAt.canLay_of_shaped hsh)
      obtain ⟨as, rd⟩ := dp.reads I d x u r
      cases rd with
      | none => exact PySem.P.repr_of_none ⟨.str _, H, I.tok _, ⟨_, rfl⟩, q⟩
      | bool b => exact PySem.P.repr_of_bool ⟨.str _, H, I.tok _, ⟨_, rfl⟩, q⟩
      | int i t => exact PySem.P.repr_of_int (of_decide_eq_true hs) ⟨.str _, H, I.tok _, ⟨_, rfl⟩, q⟩
      | str y t => exact PySem.P.repr_of_str ⟨.str _, H, I.tok _, ⟨_, rfl⟩, q⟩ hz
      | list h1 h2 h3 h4 =>
        refine repr_of_reads' (h₀ := s.heap) (Reads.list h1 h2 h3 h4) hs (PyData.noDict_hsm nd) gd (by omega) (fun _ _ e => e) (fun h' v tk hk => ?_) hz
        exact ⟨.str _, H, I.kept (t' := tk) hk, ⟨_, rfl⟩, q⟩
      | tuple h1 h2 h3 h4 =>
        refine repr_of_reads' (h₀ := s.heap) (Reads.tuple h1 h2 h3 h4) hs (PyData.noDict_hsm nd) gd (by omega) (fun _ _ e => e) (fun h' v tk hk => ?_) hz
        exact ⟨.str _, H, I.kept (t' := tk) hk, ⟨_, rfl⟩, q⟩
      | dict => cases nd
    · cases r
      obtain ⟨_, sm, vs, kv, o, es, ep, h1, h2, h3, h4⟩ := I.hok a _ ha
      cases kv
      have e0 : es = #[] := by
        obtain ⟨_, h5, _⟩ := h4
        have z : es.toList = [] := by
          cases hz : es.toList with
          | nil => rfl
          | cons y r =>
            rw [hz] at h5
            cases h5
        exact Array.toList_eq_nil_iff.mp z
      subst e0
      have dd : PyData.depth (.dict []) ≤ 3 := by decide +kernel
      refine repr_of_reads' (h₀ := s.heap) (d := .dict []) (Reads.dict h1 h2.1 h3 .nil .nil) rfl (fun _ => ?_) gd (by omega) (fun _ _ e => e) (fun h' v tk hk => ?_) (by decide +kernel)
      · intro z
        have z2 : sysModules = a := by simpa using z
        rw [z2] at sm
        simp at sm
      · exact ⟨.str _, H, I.kept (t' := tk) hk, ⟨_, rfl⟩, q⟩

/-! ### t[::-1], t a tuple -/
section
variable {prog : Program} {w : World} {A : Around} {E : Value → Shared → Prop} {s : Shared}
theorem rev_bounds (n : Nat) : Builtin.Slice.sliceAdjust none none (-1) (n : Int) = ((n : Int) - 1, -1) := by
  unfold Builtin.Slice.sliceAdjust
  rfl
theorem rev_places (n : Nat) : Builtin.Slice.slicePlaces ((n : Int) - 1) (-1) (-1) = n := by
  unfold Builtin.Slice.slicePlaces
  rw [if_neg (by decide)]
  by_cases h : (-1 : Int) < (n : Int) - 1
  · first
      | (rw [if_pos h]; omega)
      | (simp; omega)
  · first
      | (rw [if_neg h]; omega)
      | (simp; omega)
theorem fm_some {α β : Type} {f : α → Option β} {g : α → β} : ∀ l : List α, (∀ m ∈ l, f m = some (g m)) → l.filterMap f = l.map g
  | [], _ => rfl
  | x :: l, h => by
    rw [List.filterMap_cons, h x List.mem_cons_self, List.map_cons, fm_some l fun m hm => h m (List.mem_cons_of_mem _ hm)]
theorem rev_pick (xs : Array Value) : ((List.range xs.size).filterMap fun (m : Nat) => xs[((xs.size : Int) - 1 + (m : Int) * (-1)).toNat]?).toArray = xs.toList.reverse.toArray := by
  congr 1
  apply List.ext_getElem?
  intro i
  by_cases hi : i < xs.size
  · have full : ((List.range xs.size).filterMap fun (m : Nat) => xs[((xs.size : Int) - 1 + (m : Int) * (-1)).toNat]?) = (List.range xs.size).map fun m => xs.toList.getD (xs.size - 1 - m) .none := by
      apply fm_some
      intro m hm
      have := List.mem_range.mp hm
      have e : ((xs.size : Int) - 1 + (m : Int) * (-1)).toNat = xs.size - 1 - m := by omega
      rw [e, ← Array.getElem?_toList, List.getD_eq_getElem?_getD]
      rw [List.getElem?_eq_getElem (by rw [Array.length_toList]; omega)]
      rfl
    rw [full, List.getElem?_map, List.getElem?_range hi, List.getElem?_reverse (by rw [Array.length_toList]; exact hi), Array.length_toList]
    show some (xs.toList.getD (xs.size - 1 - i) Value.none) = _
    rw [List.getD_eq_getElem?_getD, List.getElem?_eq_getElem (by rw [Array.length_toList]; omega)]
    rfl
  · have l1 := List.length_filterMap_le (fun (m : Nat) => xs[((xs.size : Int) - 1 + (m : Int) * (-1)).toNat]?) (List.range xs.size)
    rw [List.length_range] at l1
    rw [List.getElem?_eq_none (by omega), List.getElem?_eq_none (by rw [List.length_reverse, Array.length_toList]; omega)]
theorem rev_applied {sl : Addr} {t : Tok} {n : Nat} {Q : Int × Int × Nat → Shared → Prop} (hs : s.heap.IsSliceOf sl .none .none (.int (-1) t))
    (h : Q ((n : Int) - 1, -1, n) s) : wpAny (model prog w) A (Builtin.Slice.sliceApplied (.ref sl) (pure (n : Int))) Q E s := by
  obtain ⟨os, hos, hcs, hds⟩ := id hs
  unfold Builtin.Slice.sliceApplied Builtin.Slice.sliceFields
  refine wpAny_bind (wpAny_bind ?_)
  refine wpAny_field hos hds (x := .none) rfl (wpAny_bind ?_)
  refine wpAny_field hos hds (x := .none) rfl (wpAny_bind ?_)
  refine wpAny_field hos hds (x := .int (-1) t) rfl (wpAny_pure ?_)
  refine wpAny_bind (slicePart_int ?_)
  show wpAny _ _ (if ((-1 : Int) == 0) = true then _ else _) _ _ s
  rw [if_neg (by decide)]
  refine wpAny_bind (slicePart_none (wpAny_bind (slicePart_none (wpAny_bind (wpAny_pure ?_)))))
  show wpAny _ _ (match Builtin.Slice.sliceAdjust none none (-1) (n : Int) with | (lo, hi) => pure (lo, (-1 : Int), Builtin.Slice.slicePlaces lo hi (-1))) _ _ s
  rw [rev_bounds]
  show wpAny _ _ (pure ((n : Int) - 1, (-1 : Int), Builtin.Slice.slicePlaces ((n : Int) - 1) (-1) (-1))) _ _ s
  rw [rev_places]
  exact wpAny_pure h
theorem rev_item {t sl : Addr} {items : Array Value} {tk : Tok} {Q : Value → Shared → Prop} (ht : IsTup s.heap t items)
    (hs : s.heap.IsSliceOf sl .none .none (.int (-1) tk))
    (h : Q (.ref s.heap.objs.size) { s with heap := s.heap.push { cls := .type "tuple", data := .seq items.toList.reverse.toArray } })
    (hz : items.size ≤ sizeLine) : wpAny (model prog w) A (getItem (.ref t) (.ref sl)) Q E s := by
  have small : sizeOk (.seq items.toList.reverse.toArray) := by
    show items.toList.reverse.toArray.size ≤ sizeLine
    rw [List.size_toArray, List.length_reverse, Array.length_toList]
    exact hz
  obtain ⟨os, hos, hcs, hds⟩ := id hs
  have isS : s.TypeIs (.ref sl) "slice" := ⟨os, hos, hcs⟩
  unfold getItem
  try with_reducible refine wpAny_holding ?_
  first | refine wpAny_bind (wpAny_pure ?_) | skip
  refine wpAny_bind (wpAny_sequenceKey ht.typeIs (by decide) ?_)
  refine wpAny_bind (wpAny_callSpecial?_slot (name := Str.ofString "__getitem__") ht.typeIs PyProof.Rows.slot_tuple_getitem ?_)
  refine wpAny_call_entry PyProof.Rows.slot_tuple_getitem ht.typeIs entry_tuple_getitem ?_ (args_tuple_getitem _ _)
  show wpAny _ _ (Builtin.Tuple.tupleItemsOf (.ref t) >>= _) _ _ s
  refine wpAny_bind (tupleItemsOf_ ht ?_)
  refine wpAny_bind (wpAny_typeOf isS ?_)
  rw [if_pos (by decide)]
  refine wpAny_bind (rev_applied hs ?_)
  show wpAny _ _ (if ((((items.size : Int) - 1) == 0 && (-1 : Int) == 1 && items.size == items.size) = true) then _ else _) _ _ s
  rw [if_neg (by simp), rev_pick]
  first
    | exact wpAny_bind (m := Builtin.Tuple.tupleExact _) (wpAny_newObj_type (wpAny_pure ⟨_, rfl, wpAny_pure h⟩) small)
    | exact wpAny_bind (m := Builtin.Tuple.tupleExact _) (wpAny_newObj_type (wpAny_bind (wpAny_pure (wpAny_pure ⟨_, rfl, wpAny_pure h⟩))) small)
    | exact wpAny_bind (wpAny_bind (m := Builtin.Tuple.tupleExact _) (wpAny_newObj_type (wpAny_pure (wpAny_pure ⟨_, rfl, wpAny_pure h⟩)) small))
    | exact wpAny_bind (wpAny_bind (m := Builtin.Tuple.tupleExact _) (wpAny_newObj_type (wpAny_pure ⟨_, rfl, wpAny_pure h⟩) small))
end
def tRevT (K : PySem.W.Frag) (te : TE) : TE := fun σ H Q =>
  te σ H fun x H1 => ∃ a xs, x = .ref a ∧ SqT K H1 a xs ∧ ∀ p, H1 p = none → Q (.ref p) (upd H1 p (.tup xs.reverse))
theorem pe_revT (K : PySem.W.Frag) {X : Cx} {e : Expr} {te : TE} {k : Nat} {p1 p2 p3 pos : Pos} (he : PE X e te) (hK : X.K = K := by rfl) :
    PE X (.Subscript e (.Slice none none (some (.UnaryOp .USub (.Constant (.int 1) k p1) p2)) p3) pos) (tRevT K te) := by
  subst hK
  refine ⟨fun pins s σ H Q I h => Subscript_ (thn (he.run pins s σ H _ I h) ?_)⟩
  rintro v s1 ⟨x, H1, I1, r1, a, xs, rfl, hx, q⟩
  cases r1
  have step : PO X (some (.UnaryOp .USub (.Constant (.int 1) k p1) p2)) (tPart (tUn (rU fun i => .int (-i)) (tC (.int 1)))) := po_some (pe_un un_neg pe_int)
  refine wpAny_Slice (thn (po_none.run pins s1 σ H1 (fun o H2 => o = none ∧ H2 = H1) I1 ⟨rfl, rfl⟩) ?_)
  rintro vl s2 ⟨l, H2, I2, pl, rfl, rfl⟩
  refine thn (po_none.run pins s2 σ H2 (fun o H3 => o = none ∧ H3 = H2) I2 ⟨rfl, rfl⟩) ?_
  rintro vu s3 ⟨u, H3, I3, pu, rfl, rfl⟩
  refine thn (step.run pins s3 σ H3 (fun o H4 => o = some (-1) ∧ H4 = H3) I3 ⟨1, rfl, -1, rfl, rfl, rfl⟩) ?_
  rintro vs s4 ⟨o, H4, I4, ps, rfl, rfl⟩
  have I5 : Inv X pins σ H4 { s4 with heap := s4.heap.push { cls := .type "slice", data := .fields #[vl, vu, vs] } } :=
    I4.kept (t' := s4.toks) fun b ob z => Heap.get?_push_of_some _ z
  obtain ⟨its, r, ht, hz⟩ := I5.tuple hx
  have hlen := r.length
  cases pl
  cases pu
  cases ps
  show wpAny (model X.prog X.w) X.A (subscriptTail e (.Slice none none (some (.UnaryOp .USub (.Constant (.int 1) k p1) p2)) p3) (.ref a) (.ref s4.heap.objs.size)) (EP X pins σ Q) X.xe _
  refine tail_any (ops := [.ref a, .ref s4.heap.objs.size]) ht.typeIs PyProof.Rows.slot_tuple_getitem.lookup ?_ (by with_unfolding_all rfl)
  refine rev_item ht (Heap.IsSliceOf.new _ _ _ _) ?_ (by rw [List.size_toArray]; omega)
  refine ⟨.ref _, _, I5.laid (t' := s4.toks) (o := .tup xs.reverse) (fun b ob z => Heap.get?_push_of_some _ z) (Nat.le_refl _) ?_, rfl, q _ (I5.hok.fresh (Nat.le_refl _))⟩
  exact ⟨by rw [List.length_reverse]; exact hz, _, r.reverse, IsTup.new _ _⟩

/-! ### things of any kind, apart from the pot -/
/-- the heap without the objects at M -/
def Hm (M : List Addr) (H : Hp) : Hp := fun b => if b ∈ M then none else H b
theorem hm_ne {M : List Addr} {b : Addr} {H : Hp} (h : b ∉ M) : Hm M H b = H b := if_neg h
theorem hm_some {M : List Addr} {b : Addr} {H : Hp} {o : HO} (h : Hm M H b = some o) : b ∉ M ∧ H b = some o := by
  unfold Hm at h
  split at h
  · cases h
  · rename_i n
    exact ⟨n, h⟩
theorem hm_same (M : List Addr) (H : Hp) : Same (Hm M H) H := fun _ _ h => (hm_some h).2
theorem SameB.hm {a : Addr} {M : List Addr} {H H' : Hp} (m : a ∈ M) (e : SameB a H H') : Same (Hm M H) (Hm M H') := fun b o h => by
  obtain ⟨n, z⟩ := hm_some h
  rw [hm_ne n]
  exact e b o (fun q => n (q ▸ m)) z
theorem same_hm {H H' : Hp} {M : List Addr} (e : Same H H') : Same (Hm M H) (Hm M H') := fun b o h => by
  obtain ⟨n, z⟩ := hm_some h
  rw [hm_ne n]
  exact e b o z
/-- all of M stands -/
def Live (M : List Addr) (H : Hp) : Prop := ∀ x ∈ M, H x ≠ none
theorem live {H H' : Hp} {M : List Addr} (e : Same H H') (h : Live M H) : Live M H' := fun x hx z => h x hx (e.free z)
theorem liveB {H H' : Hp} {a : Addr} {M : List Addr} (e : SameB a H H') (ha : H' a ≠ none) (h : Live M H) : Live M H' := fun x hx z => by
  by_cases q : x = a
  · exact ha (q ▸ z)
  · cases y : H x with
    | none => exact h x hx y
    | some o =>
      rw [e x o q y] at z
      cases z
theorem Live.new {H : Hp} {M : List Addr} {p : Addr} (h : Live M H) (np : H p = none) : p ∉ M := fun hm => h p hm np
mutual
theorem Dp.stays {K : PySem.W.Frag} {H H' : Hp} (e : Same H H') : ∀ {v : V} {d : PyData}, Dp K H v d → Dp K H' v d
  | _, _, .non => .non
  | _, _, .bl b => .bl b
  | _, _, .int i => .int i
  | _, _, .str x => .str x
  | _, _, .lst s r => .lst (e.seq s) (DpAll.stays e r)
  | _, _, .tup s r => .tup (seqT e s) (DpAll.stays e r)
theorem DpAll.stays {K : PySem.W.Frag} {H H' : Hp} (e : Same H H') : ∀ {vs : List V} {ds : List PyData}, DpAll K H vs ds → DpAll K H' vs ds
  | _, _, .nil => .nil
  | _, _, .cons h r => .cons (Dp.stays e h) (DpAll.stays e r)
end
theorem Shows.stays {K : PySem.W.Frag} {H H' : Hp} (e : Same H H') {v : V} {d : PyData} (h : Shows K H v d) : Shows K H' v d := by
  rcases h with ⟨h1, h2⟩ | ⟨a, h1, h2, h3⟩
  · exact .inl ⟨Dp.stays e h1, h2⟩
  · exact .inr ⟨a, h1, e _ _ h2, h3⟩
/-! the lengths of texts -/
theorem textFrom_le : ∀ (ts : List Str) (k : Nat) (acc : Str), (textFrom k acc ts).length ≤ acc.length + (ts.map fun t => t.length + 2).sum
  | [], k, acc => by
    show acc.length ≤ acc.length + 0
    omega
  | t :: ts, k, acc => by
    have ih := textFrom_le ts (k + 1) (acc ++ (if k > 0 then ", " else "" : String) ++ t)
    have e : (acc ++ Str.ofString (if k > 0 then ", " else "" : String) ++ t).length ≤ acc.length + 2 + t.length := by
      rw [Str.length_append, Str.length_append]
      have : (Str.ofString (if k > 0 then ", " else "" : String)).length ≤ 2 := by
        split <;> decide +kernel
      omega
    have ih2 : (textFrom k acc (t :: ts)).length ≤ (acc ++ Str.ofString (if k > 0 then ", " else "" : String) ++ t).length + (ts.map fun t => t.length + 2).sum := ih
    rw [List.map_cons, List.sum_cons]
    omega
theorem sum_le_mul : ∀ (ts : List Str) (m : Nat), (∀ t ∈ ts, t.length ≤ m) → (ts.map fun t => t.length + 2).sum ≤ ts.length * (m + 2)
  | [], _, _ => Nat.zero_le _
  | t :: ts, m, h => by
    have ih := sum_le_mul ts m fun t ht => h t (List.mem_cons_of_mem _ ht)
    have h1 := h t List.mem_cons_self
    rw [List.map_cons, List.sum_cons, List.length_cons, Nat.succ_mul]
    omega
theorem listText_le {ts : List Str} {m : Nat} (h : ∀ t ∈ ts, t.length ≤ m) : (listText ts).length ≤ 2 + ts.length * (m + 2) := by
  have h1 := textFrom_le ts 0 "["
  have h2 := sum_le_mul ts m h
  have e : (listText ts).length = (textFrom 0 "[" ts).length + 1 := by
    unfold listText
    rw [Str.length_append]
    rfl
  have e1 : (Str.ofString "[").length = 1 := by decide +kernel
  have h1' : (textFrom 0 (Str.ofString "[") ts).length ≤ (Str.ofString "[").length + (ts.map fun t => t.length + 2).sum := h1
  rw [e1] at h1'
  have e' : (listText ts).length = (textFrom 0 (Str.ofString "[") ts).length + 1 := e
  omega
theorem tupleText_le {ts : List Str} {m : Nat} (h : ∀ t ∈ ts, t.length ≤ m) : (tupleText ts).length ≤ 4 + ts.length * (m + 2) := by
  have h1 := listText_le h
  have e : (listText ts).length = 1 + (Str.join ", " ts).length + 1 := by
    rw [listText_eq_join, Str.length_append, Str.length_append]
    rfl
  have e2 : (tupleText ts).length ≤ 1 + (Str.join ", " ts).length + 2 := by
    unfold tupleText
    rw [Str.length_append, Str.length_append]
    have : (Str.ofString (if ts.length == 1 then ",)" else ")" : String)).length ≤ 2 := by
      split <;> decide +kernel
    have e1 : (Str.ofString "(").length = 1 := by decide +kernel
    show (Str.ofString "(").length + _ + (Str.ofString (if ts.length == 1 then ",)" else ")" : String)).length ≤ _
    omega
  omega
/-! small data, rows of small data -/
structure Small (d : PyData) (n m : Nat) : Prop where
  sh : d.showable = true
  lay : d.canLay0 = true
  dep : d.depth ≤ m
  len : d.shown.length ≤ n
theorem Small.le {d : PyData} {n m n' m' : Nat} (h : Small d n m) (a : n ≤ n') (b : m ≤ m') : Small d n' m' := ⟨h.sh, h.lay, Nat.le_trans h.dep b, Nat.le_trans h.len a⟩
theorem Small.shaped {d : PyData} {n m : Nat} (h : Small d n m) (hm : m ≤ 64) : SeqAt.shaped d = true := by
  show (d.canLay0 && decide (d.depth ≤ 64)) = true
  rw [Bool.and_eq_true]
  exact ⟨h.lay, decide_eq_true (Nat.le_trans h.dep hm)⟩
theorem small_int {i : Int} (h : i.natAbs < 10 ^ 40) : Small (.int i) 60 1 := by
  refine ⟨?_, rfl, by simp [PyData.depth], ?_⟩
  · show decide (i.natAbs.log2 < 1920) = true
    refine decide_eq_true ?_
    by_cases h0 : i.natAbs = 0
    · rw [h0]
      decide
    · rw [Nat.log2_lt h0]
      exact Nat.lt_of_lt_of_le h (by decide +kernel)
  · have z := int_text_length_le10 (a := i) (k := 40) (by decide) h
    show (Str.ofString (toString i)).length ≤ 60
    have e : (Str.ofString (toString i)).length = (toString i).length := PySem.ofString_length _
    omega
theorem small_bl (b : Bool) : Small (.bool b) 60 1 := by cases b <;> exact ⟨rfl, rfl, by simp [PyData.depth], by decide +kernel⟩
theorem small_non : Small .none 60 1 := ⟨rfl, rfl, by simp [PyData.depth], by decide +kernel⟩
theorem showAll_of : ∀ (ds : List PyData), (∀ d ∈ ds, d.showable = true) → PyData.showableAll ds = true
  | [], _ => rfl
  | d :: ds, h => by
    show (d.showable && PyData.showableAll ds) = true
    rw [h d List.mem_cons_self, showAll_of ds fun x hx => h x (List.mem_cons_of_mem _ hx)]
    rfl
theorem layAll_of : ∀ (ds : List PyData), (∀ d ∈ ds, d.canLay0 = true) → PyData.canLayAll0 ds = true
  | [], _ => by simp [PyData.canLayAll0]
  | d :: ds, h => by
    have h1 := h d List.mem_cons_self
    have h2 := layAll_of ds fun x hx => h x (List.mem_cons_of_mem _ hx)
    simp only [PyData.canLayAll0, h1, h2, Bool.and_self]
theorem depAll_of {m : Nat} : ∀ (ds : List PyData), (∀ d ∈ ds, d.depth ≤ m) → PyData.depthAll ds ≤ m
  | [], _ => by simp [PyData.depthAll]
  | d :: ds, h => by
    have h1 := h d List.mem_cons_self
    have h2 := depAll_of ds fun x hx => h x (List.mem_cons_of_mem _ hx)
    simp only [PyData.depthAll]
    omega
theorem shownAll_mem {n : Nat} : ∀ (ds : List PyData), (∀ d ∈ ds, d.shown.length ≤ n) → ∀ t ∈ PyData.shownAll ds, t.length ≤ n
  | d :: ds, h, t, ht => by
    have ht' : t ∈ d.shown :: PyData.shownAll ds := ht
    rcases List.mem_cons.mp ht' with rfl | ht2
    · exact h d List.mem_cons_self
    · exact shownAll_mem ds (fun x hx => h x (List.mem_cons_of_mem _ hx)) t ht2
theorem shownAll_len : ∀ ds : List PyData, (PyData.shownAll ds).length = ds.length
  | [] => rfl
  | d :: ds => congrArg (· + 1) (shownAll_len ds)
theorem small_tuple {ds : List PyData} {n m : Nat} (h : ∀ d ∈ ds, Small d n m) : Small (.tuple ds) (4 + ds.length * (n + 2)) (m + 1) := by
  refine ⟨showAll_of ds fun d hd => (h d hd).sh, ?_, ?_, ?_⟩
  · simp only [PyData.canLay0]
    exact layAll_of ds fun d hd => (h d hd).lay
  · have := depAll_of ds fun d hd => (h d hd).dep
    simp only [PyData.depth]
    omega
  · have z := tupleText_le (shownAll_mem ds fun d hd => (h d hd).len)
    rw [shownAll_len] at z
    exact z
theorem small_list {ds : List PyData} {n m : Nat} (h : ∀ d ∈ ds, Small d n m) : Small (.list ds) (4 + ds.length * (n + 2)) (m + 1) := by
  refine ⟨showAll_of ds fun d hd => (h d hd).sh, ?_, ?_, ?_⟩
  · simp only [PyData.canLay0]
    exact layAll_of ds fun d hd => (h d hd).lay
  · have := depAll_of ds fun d hd => (h d hd).dep
    simp only [PyData.depth]
    omega
  · have z := listText_le (shownAll_mem ds fun d hd => (h d hd).len)
    rw [shownAll_len] at z
    show (listText (PyData.shownAll ds)).length ≤ _
    omega
/-- an item of a row -/
def Itm (K : PySem.W.Frag) (H : Hp) (v : V) : Prop := ∃ d, Dp K H v d ∧ Small d 100 3
theorem Itm.stays {K : PySem.W.Frag} {H H' : Hp} (e : Same H H') {v : V} (h : Itm K H v) : Itm K H' v := by
  obtain ⟨d, h1, h2⟩ := h
  exact ⟨d, Dp.stays e h1, h2⟩
theorem itm_int {K : PySem.W.Frag} {H : Hp} {i : Int} (h : i.natAbs < 10 ^ 40) : Itm K H (.int i) := ⟨_, .int i, (small_int h).le (by decide) (by decide)⟩
theorem itms {K : PySem.W.Frag} {H : Hp} : ∀ (xs : List V), (∀ x ∈ xs, Itm K H x) → ∃ ds, DpAll K H xs ds ∧ ds.length = xs.length ∧ ∀ d ∈ ds, Small d 100 3
  | [], _ => ⟨[], .nil, rfl, fun _ h => by cases h⟩
  | x :: xs, h => by
    obtain ⟨d, d1, d2⟩ := h x List.mem_cons_self
    obtain ⟨ds, e1, e2, e3⟩ := itms xs fun y hy => h y (List.mem_cons_of_mem _ hy)
    refine ⟨d :: ds, .cons d1 e1, congrArg (· + 1) e2, fun y hy => ?_⟩
    rcases List.mem_cons.mp hy with rfl | hy
    · exact d2
    · exact e3 y hy
theorem shows_small {K : PySem.W.Frag} {H : Hp} {v : V} {d : PyData} {n m : Nat} (h : Dp K H v d) (s : Small d n m) (hn : n ≤ 100000) (hm : m ≤ 60) : Shows K H v d :=
  .inl ⟨h, s.sh, s.shaped (by omega), Nat.le_trans s.len (Nat.le_trans hn (by decide))⟩
theorem shows_row {K : PySem.W.Frag} {H : Hp} {p : Addr} {xs : List V} (hT : SqT K H p xs) (h : ∀ x ∈ xs, Itm K H x) (hl : xs.length ≤ 200) : ∃ d, Shows K H (.ref p) d := by
  obtain ⟨ds, e1, e2, e3⟩ := itms xs h
  refine ⟨.tuple ds, shows_small (.tup hT e1) (small_tuple e3) ?_ (by decide)⟩
  rw [e2]
  have : xs.length * 102 ≤ 200 * 102 := Nat.mul_le_mul_right _ hl
  omega
theorem shows_rowL {K : PySem.W.Frag} {H : Hp} {p : Addr} {xs : List V} (hT : SqL K H p xs) (h : ∀ x ∈ xs, Itm K H x) (hl : xs.length ≤ 200) : ∃ d, Shows K H (.ref p) d := by
  obtain ⟨ds, e1, e2, e3⟩ := itms xs h
  refine ⟨.list ds, shows_small (.lst hT e1) (small_list e3) ?_ (by decide)⟩
  rw [e2]
  have : xs.length * 102 ≤ 200 * 102 := Nat.mul_le_mul_right _ hl
  omega
/-! tuples put together, whichever object it is -/
theorem catU {K : PySem.W.Frag} {H : Hp} {a : List Addr} {p q : Addr} {xs ys : List V} {Q : VK} (ha : Live a H) (h1 : SqT K (Hm a H) p xs) (h2 : SqT K (Hm a H) q ys) (hl : xs.length + ys.length ≤ 1000)
    (h : ∀ r H', Same H H' → SqT K (Hm a H') r (xs ++ ys) → Q (.ref r) H') : rCatA K (.ref p) (.ref q) H Q := by
  refine ⟨p, q, xs, ys, rfl, rfl, seqT (hm_same a H) h1, seqT (hm_same a H) h2, Nat.le_trans hl (by decide), fun e => ?_, fun _ e => ?_, fun _ _ r nr => ?_⟩
  · subst e
    exact h q H (Same.refl _) h2
  · subst e
    refine h p H (Same.refl _) ?_
    rw [List.append_nil]
    exact h1
  · refine h r _ (same_upd nr) (SqT.of ?_)
    rw [hm_ne (ha.new nr), upd_same]
theorem cut_whole {xs : List V} {lo hi : Option Int} (h : HT.sIx xs.length 0 lo = 0 ∧ HT.sIx xs.length xs.length hi = xs.length) : cutV xs lo hi = xs := by
  unfold cutV
  rw [h.1, h.2]
  exact List.take_length
theorem cutU {K : PySem.W.Frag} {H : Hp} {a : List Addr} {p : Addr} {xs : List V} {lo hi : Option Int} {Q : VK} (ha : Live a H) (h1 : SqT K (Hm a H) p xs)
    (h : ∀ r H', Same H H' → SqT K (Hm a H') r (cutV xs lo hi) → Q (.ref r) H') : rSlA K (.ref p) lo hi H Q := by
  refine ⟨p, xs, rfl, seqT (hm_same a H) h1, fun e => ?_, fun _ r nr => ?_⟩
  · refine h p H (Same.refl _) ?_
    rw [cut_whole e]
    exact h1
  · refine h r _ (same_upd nr) (SqT.of ?_)
    rw [hm_ne (ha.new nr), upd_same]
theorem cut_mem {xs : List V} {lo hi : Option Int} {x : V} (h : x ∈ cutV xs lo hi) : x ∈ xs := by
  unfold cutV at h
  exact List.mem_of_mem_drop (List.mem_of_mem_take h)
theorem all_cons {α : Type} {Pr : α → Prop} {x : α} {xs : List α} (h : Pr x) (t : ∀ y ∈ xs, Pr y) : ∀ y ∈ x :: xs, Pr y := fun y hy => by
  rcases List.mem_cons.mp hy with rfl | hy
  · exact h
  · exact t y hy
theorem all_nil {α : Type} {Pr : α → Prop} : ∀ y ∈ ([] : List α), Pr y := fun _ h => by cases h
theorem all_app {α : Type} {Pr : α → Prop} {xs ys : List α} (h : ∀ y ∈ xs, Pr y) (t : ∀ y ∈ ys, Pr y) : ∀ y ∈ xs ++ ys, Pr y := fun y hy => by
  rcases List.mem_append.mp hy with hy | hy
  · exact h y hy
  · exact t y hy
theorem new_row {K : PySem.W.Frag} {H : Hp} {a : List Addr} {p : Addr} {xs : List V} (ha : Live a H) (np : H p = none) : SqT K (Hm a (upd H p (.tup xs))) p xs := by
  refine SqT.of ?_
  rw [hm_ne (ha.new np), upd_same]
theorem new_rowL {K : PySem.W.Frag} {H : Hp} {a : List Addr} {p : Addr} {xs : List V} (ha : Live a H) (np : H p = none) : SqL K (Hm a (upd H p (.lst xs))) p xs := by
  refine SqL.of ?_
  rw [hm_ne (ha.new np), upd_same]
theorem PotAt.live {H : Hp} {a : Addr} {n : Nat} (h : PotAt H a n) : H a ≠ none := fun z => by
  obtain ⟨o, e⟩ := h.some
  rw [e] at z
  cases z
theorem itm_bl {K : PySem.W.Frag} {H : Hp} (b : Bool) : Itm K H (.bl b) := ⟨_, .bl b, (small_bl b).le (by decide) (by decide)⟩
theorem itm_non {K : PySem.W.Frag} {H : Hp} : Itm K H .non := ⟨_, .non, small_non.le (by decide) (by decide)⟩
theorem itm_str {K : PySem.W.Frag} {H : Hp} {x : Str} (c : (PyData.str x).canLay0 = true) (h : (reprText x).length ≤ 60) : Itm K H (.str x) := ⟨_, .str x, ⟨rfl, c, by simp [PyData.depth], Nat.le_trans h (by decide)⟩⟩
theorem itm_tup1 {K : PySem.W.Frag} {H : Hp} {p : Addr} {i : Int} (h : SqT K H p [.int i]) (hi : i.natAbs < 10 ^ 30) : Itm K H (.ref p) :=
  ⟨.tuple [.int i], .tup h (.cons (.int i) .nil), (small_tuple (n := 60) (m := 1) (all_cons (small_int (Nat.lt_of_lt_of_le hi (by decide +kernel))) all_nil)).le (by show 4 + 1 * (60 + 2) ≤ 100; decide) (by decide)⟩
theorem itm_lst1 {K : PySem.W.Frag} {H : Hp} {p : Addr} {i : Int} (h : SqL K H p [.int i]) (hi : i.natAbs < 10 ^ 30) : Itm K H (.ref p) :=
  ⟨.list [.int i], .lst h (.cons (.int i) .nil), (small_list (n := 60) (m := 1) (all_cons (small_int (Nat.lt_of_lt_of_le hi (by decide +kernel))) all_nil)).le (by show 4 + 1 * (60 + 2) ≤ 100; decide) (by decide)⟩
theorem itm_ints {K : PySem.W.Frag} {H : Hp} {l : List Int} (h : ∀ x ∈ l, x.natAbs < 10 ^ 30) : ∀ x ∈ l.map V.int, Itm K H x := fun x hx => by
  obtain ⟨i, hi, rfl⟩ := List.mem_map.mp hx
  exact itm_int (Nat.lt_of_lt_of_le (h i hi) (by decide +kernel))
theorem shows_itm {K : PySem.W.Frag} {H : Hp} {v : V} (h : Itm K H v) : ∃ d, Shows K H v d := by
  obtain ⟨d, h1, h2⟩ := h
  exact ⟨d, shows_small h1 h2 (by decide) (by decide)⟩
theorem Ex.stays {K : PySem.W.Frag} {H H' : Hp} (e : Same H H') {v : V} (h : ∃ d, Shows K H v d) : ∃ d, Shows K H' v d := by
  obtain ⟨d, h⟩ := h
  exact ⟨d, h.stays e⟩

/-! ### rising rows -/
def Ris (n : Int) : Int → List Int → Prop
  | _, [] => True
  | h, x :: t => h ≤ x ∧ x < n ∧ Ris n (x + 1) t
theorem Ris.le {n : Int} : ∀ {l : List Int} {h h' : Int}, Ris n h l → h' ≤ h → Ris n h' l
  | [], _, _, _, _ => trivial
  | _ :: _, _, _, r, e => ⟨Int.le_trans e r.1, r.2⟩
theorem Ris.up {n h x : Int} {t : List Int} (r : Ris n h (x :: t)) (e : ¬ x = h) : Ris n (h + 1) (x :: t) := ⟨by have := r.1; omega, r.2⟩
theorem Ris.at {n : Int} : ∀ {l : List Int} {h : Int} {i : Nat} {x : Int}, Ris n h l → l[i]? = some x → h ≤ x ∧ x < n
  | y :: t, h, 0, x, r, e => by
    cases e
    exact ⟨r.1, r.2.1⟩
  | y :: t, h, i + 1, x, r, e => by
    have z := Ris.at (i := i) r.2.2 e
    have := r.1
    exact ⟨by omega, z.2⟩
theorem Ris.len {n : Int} : ∀ {l : List Int} {h : Int}, Ris n h l → h ≤ n → (l.length : Int) ≤ n - h
  | [], h, _, e => by
    show (0 : Int) ≤ n - h
    omega
  | x :: t, h, r, _ => by
    have z := Ris.len r.2.2 (by have := r.2.1; omega)
    have := r.1
    show ((t.length + 1 : Nat) : Int) ≤ n - h
    omega

/-! ### the law's draws -/
def spTake : Sp := fun vs H Q _ => ∃ (a : Addr) (n : Int) (b : Nat), vs = [.ref a, .int n] ∧ PotAt H a b ∧ 0 < n ∧ n < 2 ^ 64 ∧ b < 1000000 ∧
  ∀ v H', 0 ≤ v → v < n → PotAt H' a (b + 1) → SameB a H H' → Q (.int v) H'
theorem ok_take {f : Addr} {fd : FuncData} (F : Fun K "_law_take" "_law_take" s__law_take f fd) (T : Txt K mg) : FnOk P w K mg base CX0 1 f fd ["_law_pot_here", "_law_room"] spTake := by
  refine F.ok sc__law_take (fun vs H Q E h => ?_) (fun cdv A outer s H vs Q E hr h => ?_)
  · obtain ⟨a, n, b, rfl, _⟩ := h
    rfl
  · obtain ⟨a, n, b, rfl, ⟨g, s, c, h0, hg, hs, hs2, hc, hcb, hb⟩, hn, hn2, hb2, q⟩ := h
    have hL := SqL.of (K := K) h0
    refine ⟨_, (pss_cons (ps_if (pt_cmpR op_gt (pe_ix (k_ixL K) (pv 0) pe_int (fun _ _ => rfl)) pe_int (nomark _))
 (pss_cons (ps_set (i := 2) sc__law_take.nd rfl (by first | exact Or.inl rfl | exact Or.inr rfl) (pe_op op_mod (pe_ix (k_ixL K) (pv 0) pe_int (fun _ _ => rfl)) (pv 1)))
 (pss_cons (ps_asg (pe_op op_fdivW (pe_ix (k_ixL K) (pv 0) pe_int (fun _ _ => rfl)) (pv 1)) (pg_sub (pv 0) pe_int set_list))
 (pss_one (ps_ret (pv 2)))))
 pss_nil)
 (pss_cons (ps_asg (pe_op op_add (pe_ix (k_ixL K) (pv 0) pe_int (fun _ _ => rfl)) pe_int) (pg_sub (pv 0) pe_int set_list))
 (pss_cons (ps_set (i := 3) sc__law_take.nd rfl (by first | exact Or.inl rfl | exact Or.inr rfl) (pe_op op_add (pe_ix (k_ixL K) (pv 0) pe_int (fun _ _ => rfl)) (pe_op op_mulW pe_int (pe_ix (k_ixL K) (pv 0) pe_int (fun _ _ => rfl)))))
 (pss_cons (ps_set (i := 4) sc__law_take.nd rfl (by first | exact Or.inl rfl | exact Or.inr rfl) (pe_op op_add (pe_op op_add (pe_op op_mod (pe_ix (k_ixL K) (pv 0) pe_int (fun _ _ => rfl)) pe_int) (pe_op op_mulW pe_int (pe_ix (k_ixL K) (pv 0) pe_int (fun _ _ => rfl)))) pe_int))
 (pss_cons (ps_set (i := 5) sc__law_take.nd rfl (by first | exact Or.inl rfl | exact Or.inr rfl) (pe_op op_mod (pe_op op_mulW (pv 3) (pv 4)) pe_int))
 (pss_cons (ps_set (i := 6) sc__law_take.nd rfl (by first | exact Or.inl rfl | exact Or.inr rfl) (pe_op op_add (pe_op op_add (pe_op op_mod (pv 5) pe_int) (pe_op op_mulW pe_int (pe_ix (k_ixL K) (pv 0) pe_int (fun _ _ => rfl)))) pe_int))
 (pss_one (ps_ret (pe_op op_mod (pe_op op_fdivW (pe_op op_mod (pe_op op_mulW (pe_op op_add (pv 5) pe_int) (pv 6)) pe_int) pe_int) (pv 1)))))))))), ?_⟩
    refine ⟨_, rfl, a, _, 0, .int g, rfl, rfl, hL, atI_nat (j := 0) rfl, _, _, rfl, rfl, _, rfl, ite2 (fun e => ?_) (fun e => ?_)⟩
    · refine ⟨_, rfl, a, _, 0, .int g, rfl, rfl, hL, atI_nat (j := 0) rfl, _, rfl, _, _, rfl, rfl, hn, ?_⟩
      refine ⟨_, rfl, a, _, 0, .int g, rfl, rfl, hL, atI_nat (j := 0) rfl, _, rfl, _, _, rfl, rfl, wide_div (b := 64) hn (by omega) (by decide) (by decide), ?_⟩
      refine ⟨_, rfl, a, _, 0, 0, rfl, rfl, h0, rfl, ?_⟩
      refine ⟨_, rfl, q _ _ (Int.emod_nonneg _ (by omega)) (Int.emod_lt_of_pos _ hn) ?_ SameB.upd⟩
      exact ⟨g / n, s, c, upd_same, Int.ediv_nonneg hg (by omega), hs, hs2, hc, by omega, by omega⟩
    · refine ⟨_, rfl, a, _, 2, .int c, rfl, rfl, hL, atI_nat (j := 2) rfl, _, _, rfl, rfl, ?_⟩
      refine ⟨_, rfl, a, _, 2, 2, rfl, rfl, h0, rfl, ?_⟩
      have h1 : (upd H a (.lst [.int g, .int s, .int (c + 1)])) a = some (.lst [.int g, .int s, .int (c + 1)]) := upd_same
      have hM := SqL.of (K := K) h1
      refine ⟨_, rfl, a, _, 1, .int s, rfl, rfl, hM, atI_nat (j := 1) rfl, _, rfl, a, _, 2, .int (c + 1), rfl, rfl, hM, atI_nat (j := 2) rfl, _, _, rfl, rfl, wide_mul (a := 24) (b := 21) (by decide) (by omega) (by decide) (by decide) (by decide), _, _, rfl, rfl, ?_⟩
      refine ⟨_, rfl, a, _, 1, .int s, rfl, rfl, hM, atI_nat (j := 1) rfl, _, _, rfl, rfl, (by show (0 : Int) < 7919; decide), _, rfl, a, _, 2, .int (c + 1), rfl, rfl, hM, atI_nat (j := 2) rfl, _, _, rfl, rfl, wide_mul (a := 25) (b := 21) (by decide) (by omega) (by decide) (by decide) (by decide), _, _, rfl, rfl, _, _, rfl, rfl, ?_⟩
      refine ⟨_, rfl, _, rfl, _, _, rfl, rfl, wide_mul (a := 62) (b := 47) (by omega) (by omega) (by decide) (by decide) (by decide), _, _, rfl, rfl, (by show (0 : Int) < 2305843009213693951; decide), ?_⟩
      generalize hm : (s + 15485863 * (c + 1)) * (s % 7919 + 32452867 * (c + 1) + 17) % 2305843009213693951 = m
      have m0 : 0 ≤ m := by
        rw [← hm]
        exact Int.emod_nonneg _ (by decide)
      have m1 : m < 2305843009213693951 := by
        rw [← hm]
        exact Int.emod_lt_of_pos _ (by decide)
      refine ⟨_, rfl, _, _, rfl, rfl, (by show (0 : Int) < 1000003; decide), _, rfl, a, _, 2, .int (c + 1), rfl, rfl, hM, atI_nat (j := 2) rfl, _, _, rfl, rfl, wide_mul (a := 24) (b := 21) (by decide) (by omega) (by decide) (by decide) (by decide), _, _, rfl, rfl, _, _, rfl, rfl, ?_⟩
      refine ⟨_, rfl, _, _, rfl, rfl, _, rfl, _, _, rfl, rfl, wide_mul (a := 62) (b := 47) (by omega) (by omega) (by decide) (by decide) (by decide), _, _, rfl, rfl, (by show (0 : Int) < 2305843009213693907; decide), _, _, rfl, rfl, wide_div (b := 64) (by decide) (by decide) (by decide) (by decide), _, rfl, _, _, rfl, rfl, hn, ?_⟩
      refine q _ _ (Int.emod_nonneg _ (by omega)) (Int.emod_lt_of_pos _ hn) ?_ SameB.upd
      exact ⟨g, s, c + 1, h1, hg, hs, hs2, by omega, by omega, by omega⟩

/-! ### the pot made -/
theorem pw_pos : (0 : Int) < ((10 : Int) ^ (60 : Int).toNat) ^ (4 : Int).toNat := by decide +kernel
theorem pw_ok : CPowW ((10 : Int) ^ (60 : Int).toNat) 4 := by
  refine ⟨by decide, ?_⟩
  decide +kernel
def spPot (K : PySem.W.Frag) : Sp := fun vs H Q _ => ∃ (a : Addr) (j : Int) (ns : List Int), vs = [.ref a, .int j] ∧ SqL K H a (ns.map V.int) ∧ 0 ≤ j ∧ j ≤ 1000 ∧
  ∀ p H', H p = none → Same H H' → PotAt H' p 0 → Q (.ref p) H'
theorem pot_fin {H : Hp} {p : Addr} {g s : Int} (hg : 0 ≤ g) : PotAt (upd H p (.lst [.int g, .int (s % 2305843009213693921), .int 0])) p 0 :=
  ⟨g, _, 0, upd_same, hg, Int.emod_nonneg _ (by decide), Int.lt_of_lt_of_le (Int.emod_lt_of_pos _ (by decide)) (by decide), by decide, by decide, by decide⟩
theorem ok_pot {f : Addr} {fd : FuncData} (F : Fun K "_law_pot" "_law_pot" s__law_pot f fd) (T : Txt K mg) : FnOk P w K mg base CX0 1 f fd ["_law_script", "_law_k"] (spPot K) := by
  refine F.ok sc__law_pot (fun vs H Q E h => ?_) (fun cdv A outer s H vs Q E hr h => ?_)
  · obtain ⟨a, j, ns, rfl, _⟩ := h
    rfl
  · obtain ⟨a, j, ns, rfl, hS, hj, hj2, q⟩ := h
    refine ⟨_, (pss_cons (ps_set (i := 2) sc__law_pot.nd rfl (by first | exact Or.inl rfl | exact Or.inr rfl) (pe_ifExp (pt_cmpR op_lt (pv 1) (pe_callB (k_len K) (by rfl) T.z_len (by decide +kernel) (pa_cons (pv 0) pa_nil)) (nomark _)) (pe_ix (k_ixL K) (pv 0) (pv 1) (fun _ _ => rfl)) pe_int))
 (pss_cons (ps_set (i := 3) sc__law_pot.nd rfl (by first | exact Or.inl rfl | exact Or.inr rfl) (pe_ifExp (pt_cmpR op_ge (pe_callB call_abs (by rfl) T.z_abs (by decide +kernel) (pa_cons (pv 2) pa_nil)) (pe_op op_pow pe_int pe_int) (nomark _)) (pe_op op_mod (pe_callB call_abs (by rfl) T.z_abs (by decide +kernel) (pa_cons (pv 2) pa_nil)) (pe_op op_powW (pe_op op_pow pe_int pe_int) pe_int)) pe_int))
 (pss_one (ps_ret (pe_lst (pa_cons (pv 3) (pa_cons (pe_op op_mod (pe_op op_add (pe_op op_add (pe_op op_mulW (pe_op op_mod (pv 2) pe_int) pe_int) (pe_op op_mulW (pe_op op_mulW pe_int (pv 1)) (pv 1))) pe_int) pe_int) (pa_cons pe_int pa_nil)))))))), ?_⟩
    refine ⟨_, rfl, _, rfl, a, _, rfl, .inl hS, _, _, rfl, rfl, _, rfl, ?_⟩
    refine ite2 (fun e => ?_) (fun e => ?_)
    · have hl : j < ((ns.map V.int).length : Int) := of_decide_eq_true e
      rw [List.length_map] at hl
      obtain ⟨m, rfl⟩ : ∃ m : Nat, j = (m : Int) := ⟨j.toNat, by omega⟩
      have hm : m < ns.length := by omega
      have g1 : (ns.map V.int)[m]? = some (.int ns[m]) := by
        rw [List.getElem?_map, List.getElem?_eq_getElem hm]
        rfl
      refine ⟨_, rfl, _, rfl, a, _, (m : Int), .int ns[m], rfl, rfl, hS, atI_nat g1, ?_⟩
      generalize ns[m] = c
      refine ⟨_, rfl, _, rfl, _, _, rfl, rfl, ⟨by decide, by decide, by decide⟩, _, _, rfl, rfl, _, rfl, ite2 (fun e2 => ?_) (fun e2 => ?_)⟩
      · refine ⟨_, rfl, _, rfl, _, _, rfl, rfl, ⟨by decide, by decide, by decide⟩, _, _, rfl, rfl, pw_ok, _, _, rfl, rfl, pw_pos, ?_⟩
        refine ⟨_, rfl, _, rfl, _, _, rfl, rfl, (by show (0 : Int) < 2305843009213693951; decide), _, _, rfl, rfl, wide_mul (a := 64) (b := 21) (by omega) (by decide) (by decide) (by decide) (by decide), _, rfl, _, _, rfl, rfl, wide_mul (a := 21) (b := 21) (by decide) (by omega) (by decide) (by decide) (by decide), _, rfl, _, _, rfl, rfl, wide_mul (a := 64) (b := 21) (by omega) (by omega) (by decide) (by decide) (by decide), _, _, rfl, rfl, _, _, rfl, rfl, _, _, rfl, rfl, (by show (0 : Int) < 2305843009213693921; decide), (by show 3 ≤ sizeLine; decide), fun p hp => q p _ hp (same_upd hp) (pot_fin (Int.emod_nonneg _ (Int.ne_of_gt pw_pos)))⟩
      · refine ⟨_, rfl, _, rfl, _, _, rfl, rfl, (by show (0 : Int) < 2305843009213693951; decide), _, _, rfl, rfl, wide_mul (a := 64) (b := 21) (by omega) (by decide) (by decide) (by decide) (by decide), _, rfl, _, _, rfl, rfl, wide_mul (a := 21) (b := 21) (by decide) (by omega) (by decide) (by decide) (by decide), _, rfl, _, _, rfl, rfl, wide_mul (a := 64) (b := 21) (by omega) (by omega) (by decide) (by decide) (by decide), _, _, rfl, rfl, _, _, rfl, rfl, _, _, rfl, rfl, (by show (0 : Int) < 2305843009213693921; decide), (by show 3 ≤ sizeLine; decide), fun p hp => q p _ hp (same_upd hp) (pot_fin (Int.le_refl 0))⟩
    · refine ⟨_, rfl, _, rfl, _, _, rfl, rfl, ⟨by decide, by decide, by decide⟩, _, _, rfl, rfl, _, rfl, ite2 (fun e2 => ?_) (fun e2 => ?_)⟩
      · exact absurd e2 (by decide)
      · refine ⟨_, rfl, _, rfl, _, _, rfl, rfl, (by show (0 : Int) < 2305843009213693951; decide), _, _, rfl, rfl, wide_mul (a := 64) (b := 21) (by omega) (by decide) (by decide) (by decide) (by decide), _, rfl, _, _, rfl, rfl, wide_mul (a := 21) (b := 21) (by decide) (by omega) (by decide) (by decide) (by decide), _, rfl, _, _, rfl, rfl, wide_mul (a := 64) (b := 21) (by omega) (by omega) (by decide) (by decide) (by decide), _, _, rfl, rfl, _, _, rfl, rfl, _, _, rfl, rfl, (by show (0 : Int) < 2305843009213693921; decide), (by show 3 ≤ sizeLine; decide), fun p hp => q p _ hp (same_upd hp) (pot_fin (Int.le_refl 0))⟩

/-! ### is_whole, is_below -/
def wholeV : V → Bool
  | .int _ => true
  | _ => false
def boolV : V → Bool
  | .bl _ => true
  | _ => false
def belowV (b : Int) : V → Bool
  | .int i => decide (0 ≤ i) && decide (i < b)
  | _ => false
/-- its kind is known, and whether it is an int, a bool -/
def Kd (K : PySem.W.Frag) (H : Hp) (v : V) : Prop := ∃ n : String, TyX K H v (.type n) ∧ kitB n "int" = some (wholeV v || boolV v) ∧ kitB n "bool" = some (boolV v)
theorem kd_int {K : PySem.W.Frag} {H : Hp} (i : Int) : Kd K H (.int i) := ⟨"int", .base (.int i), by show kitB "int" "int" = some true; decide +kernel, by show kitB "int" "bool" = some false; decide +kernel⟩
theorem kd_bl {K : PySem.W.Frag} {H : Hp} (b : Bool) : Kd K H (.bl b) := ⟨"bool", .base (.bl b), by show kitB "bool" "int" = some true; decide +kernel, by show kitB "bool" "bool" = some true; decide +kernel⟩
theorem kd_non {K : PySem.W.Frag} {H : Hp} : Kd K H .non := ⟨"NoneType", .base .non, by decide +kernel, by decide +kernel⟩
theorem kd_str {K : PySem.W.Frag} {H : Hp} (x : Str) : Kd K H (.str x) := ⟨"str", .base (.str x), by show kitB "str" "int" = some false; decide +kernel, by show kitB "str" "bool" = some false; decide +kernel⟩
theorem kd_lst {K : PySem.W.Frag} {H : Hp} {a : Addr} {xs : List V} (e : H a = some (.lst xs)) : Kd K H (.ref a) := ⟨"list", .base (.lst e), by show kitB "list" "int" = some false; decide +kernel, by show kitB "list" "bool" = some false; decide +kernel⟩
theorem kd_tup {K : PySem.W.Frag} {H : Hp} {a : Addr} {xs : List V} (e : H a = some (.tup xs)) : Kd K H (.ref a) := ⟨"tuple", .base (.tup e), by show kitB "tuple" "int" = some false; decide +kernel, by show kitB "tuple" "bool" = some false; decide +kernel⟩
theorem kd_dK {K : PySem.W.Frag} {H : Hp} {a : Addr} {xs : List (Key × V)} (e : H a = some (.dK xs)) : Kd K H (.ref a) := ⟨"dict", .base (.dK e), by show kitB "dict" "int" = some false; decide +kernel, by show kitB "dict" "bool" = some false; decide +kernel⟩
def spWhole (K : PySem.W.Frag) : Sp := fun vs H Q _ => ∃ v, vs = [v] ∧ Kd K H v ∧ Q (.bl (wholeV v)) H
theorem ok_is_whole {f : Addr} {fd : FuncData} (F : Fun K "is_whole" "is_whole" s_is_whole f fd) (T : Txt K mg) : FnOk P w K mg base CX0 1 f fd ["thing"] (spWhole K) := by
  refine F.ok sc_is_whole (fun vs H Q E h => ?_) (fun cdv A outer s H vs Q E hr h => ?_)
  · obtain ⟨v, rfl, _⟩ := h
    rfl
  · obtain ⟨v, rfl, ⟨n, ty, k1, k2⟩, q⟩ := h
    refine ⟨_, (pss_one (ps_ret (pe_and (pe_callB (k_isi K) (by rfl) T.z_isinstance (by decide +kernel) (pa_cons (pv 0) (pa_cons (pe_bltn (v := .ty "int") (by rfl) T.z_int (by decide +kernel) rfl) pa_nil))) (pe_one (pe_not (pe_callB (k_isi K) (by rfl) T.z_isinstance (by decide +kernel) (pa_cons (pv 0) (pa_cons (pe_bltn (v := .ty "bool") (by rfl) T.z_bool (by decide +kernel) rfl) pa_nil)))))))), ?_⟩
    refine ⟨_, rfl, _, _, _, _, _, rfl, .ty _, ty, kit_ty k1, _, rfl, ?_⟩
    cases hw : wholeV v || boolV v with
    | false =>
      refine iteF ?_
      have : wholeV v = false := by
        cases h1 : wholeV v with
        | false => rfl
        | true =>
          rw [h1] at hw
          cases hw
      rw [this] at q
      exact q
    | true =>
      refine iteT ?_
      refine ⟨_, rfl, _, _, _, _, _, rfl, .ty _, ty, kit_ty k2, _, rfl, ?_⟩
      have : wholeV v = !boolV v := by
        cases v <;> first | rfl | cases hw
      rw [← this]
      exact q
def spBelow (K : PySem.W.Frag) : Sp := fun vs H Q _ => ∃ b v, vs = [.int b, v] ∧ Kd K H v ∧ Q (.bl (belowV b v)) H
theorem ok_is_below {f : Addr} {fd : FuncData} (F : Fun K "is_below" "is_below" s_is_below f fd) (T : Txt K mg) : FnOk P w K mg base CX0 2 f fd ["bound", "thing"] (spBelow K) := by
  obtain ⟨fW, fdW, D_is_whole⟩ := T.d_is_whole
  have G_is_whole : FnOk P w K mg base CX0 1 fW fdW _ _ := ok_is_whole D_is_whole.F T
  refine F.ok sc_is_below (fun vs H Q E h => ?_) (fun cdv A outer s H vs Q E hr h => ?_)
  · obtain ⟨b, v, rfl, _⟩ := h
    rfl
  · obtain ⟨b, v, rfl, kd, q⟩ := h
    refine ⟨_, (pss_one (ps_ret (pe_and (pe_call G_is_whole (hr.mono (by decide)) (by rfl) D_is_whole.g D_is_whole.F.kp D_is_whole.b .nil pass0 (pa_cons (pv 1) pa_nil)) (pe_one (pe_chain op_le op_lt pe_int (pv 1) (pv 0)))))), ?_⟩
    refine ⟨_, rfl, v, rfl, kd, _, rfl, ?_⟩
    cases v with
    | int i =>
      refine iteT ?_
      refine ⟨_, rfl, _, _, rfl, rfl, _, rfl, ite2 (fun e => ?_) (fun e => ?_)⟩
      · refine ⟨_, rfl, _, _, rfl, rfl, ?_⟩
        have e1 : belowV b (.int i) = decide (i < b) := by
          show (decide (0 ≤ i) && decide (i < b)) = decide (i < b)
          rw [e]
          rfl
        rw [e1] at q
        exact q
      · have e1 : belowV b (.int i) = false := by
          show (decide (0 ≤ i) && decide (i < b)) = false
          rw [show decide (0 ≤ i) = false from Bool.eq_false_iff.mpr e]
          rfl
        rw [e1] at q
        exact q
    | _ => exact iteF q

/-! ### one of some -/
def spPick (K : PySem.W.Frag) : Sp := fun vs H Q _ => ∃ (a s : Addr) (b : Nat) (xs : List V), vs = [.ref a, .ref s] ∧ PotAt H a b ∧ SqL K H s xs ∧ s ≠ a ∧ xs ≠ [] ∧ xs.length ≤ 1000 ∧ b < 1000000 ∧
  ∀ v H', v ∈ xs → PotAt H' a (b + 1) → SameB a H H' → Q v H'
theorem ok_pick {f : Addr} {fd : FuncData} (F : Fun K "_law_pick" "_law_pick" s__law_pick f fd) (T : Txt K mg) : FnOk P w K mg base CX0 2 f fd ["_law_pot_here", "_law_some"] (spPick K) := by
  obtain ⟨fT, fdT, D_take⟩ := T.d_take
  have G_take : FnOk P w K mg base CX0 1 fT fdT _ _ := ok_take D_take.F T
  refine F.ok sc__law_pick (fun vs H Q E h => ?_) (fun cdv A outer s H vs Q E hr h => ?_)
  · obtain ⟨a, s, b, xs, rfl, _⟩ := h
    rfl
  · obtain ⟨a, s, b, xs, rfl, hP, hS, hne, hx, hl, hb, q⟩ := h
    have h0 : 0 < xs.length := List.length_pos_iff.mpr hx
    refine ⟨_, (pss_one (ps_ret (pe_ix (k_ixL K) (pv 1) (pe_call G_take (hr.mono (by decide)) (by rfl) D_take.g D_take.F.kp D_take.b .nil pass0 (pa_cons (pv 0) (pa_cons (pe_callB (k_len K) (by rfl) T.z_len (by decide +kernel) (pa_cons (pv 1) pa_nil)) pa_nil))) (fun _ _ => rfl)))), ?_⟩
    refine ⟨_, rfl, _, rfl, _, rfl, s, _, rfl, .inl hS, a, (xs.length : Int), b, rfl, hP, by omega, by omega, hb, fun v H' v0 v1 P' S' => ?_⟩
    obtain ⟨m, rfl⟩ : ∃ m : Nat, v = (m : Int) := ⟨v.toNat, by omega⟩
    have hm : m < xs.length := by omega
    exact ⟨s, _, _, xs[m], rfl, rfl, S'.seq hne hS, atI_nat (List.getElem?_eq_getElem hm), q _ _ (List.getElem_mem hm) P' S'⟩

/-! ### a drawn lot -/
theorem erase_map {α β : Type} (f : α → β) : ∀ (l : List α) (m : Nat), (l.map f).eraseIdx m = (l.eraseIdx m).map f
  | [], _ => rfl
  | _ :: _, 0 => rfl
  | x :: l, m + 1 => congrArg (f x :: ·) (erase_map f l m)
theorem erase_perm {α : Type} : ∀ (l : List α) (m : Nat) (h : m < l.length), (l[m] :: l.eraseIdx m).Perm l
  | x :: l, 0, _ => List.Perm.refl _
  | x :: l, m + 1, h => by
    have hm : m < l.length := Nat.lt_of_succ_lt_succ h
    have ih := erase_perm l m hm
    show (l[m] :: x :: l.eraseIdx m).Perm (x :: l)
    exact (List.Perm.swap x l[m] _).trans (ih.cons x)
theorem ris_of {n : Int} : ∀ {l : List Int} {h : Int}, l.Pairwise (· ≤ ·) → l.Nodup → (∀ x ∈ l, h ≤ x ∧ x < n) → Ris n h l
  | [], _, _, _, _ => trivial
  | x :: t, h, p, d, m => by
    have hx := m x List.mem_cons_self
    refine ⟨hx.1, hx.2, ris_of (List.pairwise_cons.mp p).2 (List.nodup_cons.mp d).2 fun y hy => ?_⟩
    have h1 := (List.pairwise_cons.mp p).1 y hy
    have h2 : x ≠ y := fun e => (List.nodup_cons.mp d).1 (e ▸ hy)
    exact ⟨by omega, (m y (List.mem_cons_of_mem _ hy)).2⟩
theorem ris_mem {n : Int} : ∀ {l : List Int} {h : Int}, Ris n h l → ∀ x ∈ l, h ≤ x ∧ x < n
  | y :: t, h, r, x, hx => by
    rcases List.mem_cons.mp hx with rfl | hx
    · exact ⟨r.1, r.2.1⟩
    · have z := ris_mem r.2.2 x hx
      have := r.1
      exact ⟨by omega, z.2⟩
theorem ris_nodup {n : Int} : ∀ {l : List Int} {h : Int}, Ris n h l → l.Nodup
  | [], _, _ => List.nodup_nil
  | y :: t, h, r => List.nodup_cons.mpr ⟨fun hm => by have z := ris_mem r.2.2 y hm; omega, ris_nodup r.2.2⟩
def hs (n : Nat) : List Int := (List.range n).map fun (i : Nat) => (i : Int)
theorem rgV_hs (n : Nat) : rgV 0 (n : Int) = (hs n).map V.int := by
  unfold rgV hs
  rw [List.map_map, show ((n : Int) - 0).toNat = n by omega]
  apply List.map_congr_left
  intro i _
  show V.int (0 + (i : Int)) = V.int (i : Int)
  rw [Int.zero_add]
theorem hs_mem {n : Nat} {x : Int} : x ∈ hs n ↔ 0 ≤ x ∧ x < n := by
  unfold hs
  rw [List.mem_map]
  constructor
  · rintro ⟨i, hi, rfl⟩
    have := List.mem_range.mp hi
    omega
  · intro h
    exact ⟨x.toNat, List.mem_range.mpr (by omega), by omega⟩
theorem hs_nodup (n : Nat) : (hs n).Nodup := by
  unfold hs
  refine List.Pairwise.map _ ?_ List.nodup_range
  intro a b h e
  exact h (by omega)
theorem hs_len (n : Nat) : (hs n).length = n := by
  unfold hs
  rw [List.length_map, List.length_range]
def spSomeLot : Sp := fun vs H Q _ => ∃ (a : Addr) (n k b : Nat), vs = [.ref a, .int n, .int k] ∧ PotAt H a b ∧ k ≤ n ∧ n ≤ 60 ∧ b + 100 ≤ 1000000 ∧
  ∀ p H' l, PotAt H' a (b + k) → SameB a H H' → H p = none → H' p = some (.tup (l.map V.int)) → Ris n 0 l → l.length = k → Q (.ref p) H'
theorem ok_some_lot {f : Addr} {fd : FuncData} (F : Fun K "_law_some_lot" "_law_some_lot" s__law_some_lot f fd) (T : Txt K mg) : FnOk P w K mg base CX0 2 f fd ["_law_pot_here", "_law_many", "_law_room"] spSomeLot := by
  obtain ⟨fT, fdT, D_take⟩ := T.d_take
  have G_take : FnOk P w K mg base CX0 1 fT fdT _ _ := ok_take D_take.F T
  refine F.ok sc__law_some_lot (fun vs H Q E h => ?_) (fun cdv A outer s H vs Q E hr h => ?_)
  · obtain ⟨a, n, k, b, rfl, _⟩ := h
    rfl
  · obtain ⟨a, n, k, b, rfl, hP, hk, hn, hb, q⟩ := h
    refine ⟨_, (pss_cons (ps_par (by rfl) sc__law_some_lot.nd (i := 3) (j := 4) rfl rfl (by decide) rfl rfl (pa_cons (pe_listRg rfl (by rfl) T.z_list (prg_1 (by rfl) T.z_range (pv 1))) (pa_cons (pe_lst pa_nil) pa_nil)) (by rfl))
 (pss_cons (ps_for PassesOwn.never rfl (pi_range1 (by rfl) T.z_range (pa_cons (pv 2) pa_nil)) (pg_name (i := 5) sc__law_some_lot.nd rfl (by first | exact Or.inl rfl | exact Or.inr rfl))
 (pss_one (ps_expr (pe_bm PySem.F.plainAttrs_list PySem.F.slot_list_append PySem.F.type_list_append mt_append (pv 4) (pa_cons (pe_bm PySem.F.plainAttrs_list PySem.F.slot_list_pop PySem.F.type_list_pop mt_popAt (pv 3) (pa_cons (pe_call G_take (hr.mono (by decide)) (by rfl) D_take.g D_take.F.kp D_take.b .nil pass0 (pa_cons (pv 0) (pa_cons (pe_callB (k_len K) (by rfl) T.z_len (by decide +kernel) (pa_cons (pv 3) pa_nil)) pa_nil))) pa_nil)) pa_nil)))))
 (pss_one (ps_ret (pe_callTy (k_tuple K) (by rfl) T.z_tuple (by decide +kernel) (pa_cons (pe_callB (k_sorted K) (by rfl) T.z_sorted (by decide +kernel) (pa_cons (pv 4) pa_nil)) pa_nil)))))), ?_⟩
    refine ⟨_, rfl, _, rfl, RgOk.of_le (by omega) (by omega) (by omega) (by omega), fun L nL => ⟨Nat.zero_le _, fun D nD => ⟨_, _, rfl, ?_⟩⟩⟩
    rw [rgV_hs] at nD ⊢
    have s1 := same_upd (o := .lst ((hs n).map V.int)) nL
    have s2 := same_upd (o := .lst []) nD
    have nD0 : H D = none := s1.free nD
    have hDL : D ≠ L := fun e => by
      rw [e, upd_same] at nD
      cases nD
    have aL : L ≠ a := fun e => (hP.ne nL) e.symm
    have aD : D ≠ a := fun e => (hP.ne nD0) e.symm
    refine ⟨_, rfl, _, rfl, by omega, by omega, for_range (lo := 0) (fun i σ H' => ∃ left found v5, σ = [some (.ref a), some (.int n), some (.int k), some (.ref L), some (.ref D), v5] ∧ SameB a H H' ∧ PotAt H' a (b + i) ∧ H' L = some (.lst (left.map V.int)) ∧ H' D = some (.lst (found.map V.int)) ∧ (left ++ found).Perm (hs n) ∧ found.length = i)
      ⟨hs n, [], none, rfl, sameb (s1.trans s2), hP.same (s1.trans s2), s2 _ _ upd_same, upd_same, by rw [List.append_nil], rfl⟩ ?_ ?_⟩
    · rintro i σ H1 hi ⟨left, found, v5, rfl, sm, P1, hL, hD, pm, fl⟩
      have hlen : left.length + found.length = n := by
        have z := pm.length_eq
        rw [List.length_append, hs_len] at z
        exact z
      refine ⟨_, rfl, .inl ⟨rfl, _, SqL.of hD⟩, _, rfl, .inl ⟨rfl, _, SqL.of hL⟩, _, rfl, _, rfl, L, _, rfl, .inl (SqL.of hL), a, _, b + i, rfl, P1, ?_, ?_, by omega, fun v H2 v0 v1 P2 S2 => ?_⟩
      · rw [List.length_map]
        omega
      · rw [List.length_map]
        omega
      rw [List.length_map] at v1
      obtain ⟨m, rfl⟩ : ∃ m : Nat, v = (m : Int) := ⟨v.toNat, by omega⟩
      have hm : m < left.length := by omega
      have hL2 := S2 _ _ aL hL
      have hD2 := S2 _ _ aD hD
      have ix : seqIndex? (m : Int) (left.map V.int).length = some m := by
        unfold seqIndex?
        rw [List.length_map]
        simp only [show ¬ ((m : Int) < 0) by omega, if_false]
        rw [if_pos (by simp; omega)]
        simp
      have gx : (left.map V.int)[m]? = some (.int left[m]) := by
        rw [List.getElem?_map, List.getElem?_eq_getElem hm]
        rfl
      refine ⟨L, _, _, m, _, rfl, rfl, hL2, by omega, by omega, ix, gx, ?_⟩
      refine ⟨D, _, _, rfl, rfl, Eq.trans (upd_ne hDL) hD2, ?_, ?_⟩
      · rw [List.length_map]
        exact small1000 (by omega)
      refine ⟨left.eraseIdx m, found ++ [left[m]], some (.int (0 + (i : Int))), rfl, fun x o ne e => ?_, ?_, ?_, ?_, ?_, ?_⟩
      · rw [upd_ne (ne_of_none e nD0), upd_ne (ne_of_none e nL)]
        exact S2 _ _ ne (sm _ _ ne e)
      · obtain ⟨g, s, c, z1, z2⟩ := P2
        exact ⟨g, s, c, by rw [upd_ne aD.symm, upd_ne aL.symm]; exact z1, z2⟩
      · rw [upd_ne hDL.symm, upd_same, erase_map]
      · rw [upd_same, List.map_append]
        rfl
      · refine List.Perm.trans ?_ pm
        rw [← List.append_assoc]
        have e1 : (left[m] :: left.eraseIdx m).Perm left := erase_perm left m hm
        refine List.Perm.trans List.perm_append_comm ?_
        exact List.Perm.append_right found e1
      · rw [List.length_append, fl]
        rfl
    · rintro σ H1 ⟨left, found, v5, rfl, sm, P1, hL, hD, pm, fl⟩
      refine ⟨_, rfl, D, found, rfl, SqL.of hD, fun ns p perm rising np => ?_⟩
      refine ⟨p, _, rfl, .inl ⟨SqL.of upd_same, fun t nt => ?_⟩⟩
      have s3 := same_upd (o := .lst (ns.map V.int)) np
      have s4 := same_upd (o := .tup (ns.map V.int)) nt
      have nd : (left ++ found).Nodup := pm.nodup_iff.mpr (hs_nodup n)
      have nf : found.Nodup := (List.nodup_append.mp nd).2.1
      have fk : found.length = k := by omega
      have nt1 : H1 t = none := s3.free nt
      have nt0 : H t = none := by
        cases ht : H t with
        | none => rfl
        | some o =>
          have ne : t ≠ a := fun e => by
            rw [e] at nt1
            obtain ⟨o', z⟩ := P1.some
            rw [z] at nt1
            cases nt1
          rw [sm _ _ ne ht] at nt1
          cases nt1
      refine q t _ ns ?_ (sm.trans (sameb (s3.trans s4))) nt0 upd_same ?_ ?_
      · have z := P1.same (s3.trans s4)
        rw [show (k : Int).toNat = k by omega] at z
        exact z
      · refine ris_of rising (perm.nodup_iff.mpr nf) fun x hx => ?_
        have m1 : x ∈ hs n := pm.mem_iff.mp (List.mem_append_right _ (perm.mem_iff.mp hx))
        exact hs_mem.mp m1
      · rw [perm.length_eq]
        exact fk

/-! ### is_lot, and the law's own look -/
def lotDs (n : Int) : Int → List PyData → Bool
  | _, [] => true
  | m, .int i :: r => decide (m ≤ i) && (decide (i < n) && lotDs n (i + 1) r)
  | _, _ :: _ => false
def lotD (n k : Int) : PyData → Bool
  | .tuple ds => decide ((ds.length : Int) = k) && lotDs n 0 ds
  | _ => false
def isTupD : PyData → Bool
  | .tuple _ => true
  | _ => false
theorem dp_len {K : PySem.W.Frag} {H : Hp} : ∀ {xs : List V} {ds : List PyData}, DpAll K H xs ds → xs.length = ds.length
  | _, _, .nil => rfl
  | _, _, .cons _ r => congrArg (· + 1) (dp_len r)
theorem dp_get {K : PySem.W.Frag} {H : Hp} : ∀ {xs : List V} {ds : List PyData} {i : Nat} {x : V}, DpAll K H xs ds → xs[i]? = some x → ∃ d, ds[i]? = some d ∧ Dp K H x d
  | _, _, _, _, .nil, e => by simp at e
  | _, _, 0, _, .cons h _, e => by
    cases e
    exact ⟨_, rfl, h⟩
  | _, _, i + 1, x, .cons _ r, e => by
    obtain ⟨d, h1, h2⟩ := dp_get (i := i) (x := x) r e
    exact ⟨d, h1, h2⟩
/-- of anything: its kind -/
theorem dp_ty {K : PySem.W.Frag} {H : Hp} {v : V} {d : PyData} (h : Dp K H v d) : ∃ n : String, TyX K H v (.type n) ∧ kitB n "int" = some (wholeV v || boolV v) ∧ kitB n "bool" = some (boolV v) ∧ kitB n "tuple" = some (isTupD d) := by
  cases h with
  | non => exact ⟨"NoneType", .base .non, by decide +kernel, by decide +kernel, by show kitB "NoneType" "tuple" = some false; decide +kernel⟩
  | bl b => exact ⟨"bool", .base (.bl b), by show kitB "bool" "int" = some true; decide +kernel, by show kitB "bool" "bool" = some true; decide +kernel, by show kitB "bool" "tuple" = some false; decide +kernel⟩
  | int i => exact ⟨"int", .base (.int i), by show kitB "int" "int" = some true; decide +kernel, by show kitB "int" "bool" = some false; decide +kernel, by show kitB "int" "tuple" = some false; decide +kernel⟩
  | str x => exact ⟨"str", .base (.str x), by show kitB "str" "int" = some false; decide +kernel, by show kitB "str" "bool" = some false; decide +kernel, by show kitB "str" "tuple" = some false; decide +kernel⟩
  | @lst a xs ds s r =>
    have ty : TyX K H (.ref a) (.type "list") := by
      rcases s with (s | ⟨o, s⟩) | s
      · exact .base (.lst s)
      · exact .base (.frz s)
      · obtain ⟨o, its, n, e, c, _⟩ := s
        exact .kList e c
    exact ⟨"list", ty, by show kitB "list" "int" = some false; decide +kernel, by show kitB "list" "bool" = some false; decide +kernel, by show kitB "list" "tuple" = some false; decide +kernel⟩
  | @tup a xs ds s r =>
    have ty : TyX K H (.ref a) (.type "tuple") := by
      rcases s with (s | ⟨o, s⟩) | s
      · exact .base (.tup s)
      · exact .fTuple s
      · obtain ⟨o, its, n, e, c, _⟩ := s
        exact .kTuple e c
    exact ⟨"tuple", ty, by show kitB "tuple" "int" = some false; decide +kernel, by show kitB "tuple" "bool" = some false; decide +kernel, by show kitB "tuple" "tuple" = some true; decide +kernel⟩
theorem shows_ty {K : PySem.W.Frag} {H : Hp} {v : V} {d : PyData} (h : Shows K H v d) : ∃ n : String, TyX K H v (.type n) ∧ kitB n "tuple" = some (isTupD d) := by
  rcases h with ⟨h, _⟩ | ⟨a, rfl, h, rfl⟩
  · obtain ⟨n, h1, _, _, h2⟩ := dp_ty h
    exact ⟨n, h1, h2⟩
  · exact ⟨"dict", .base (.dK h), by show kitB "dict" "tuple" = some false; decide +kernel⟩
theorem shows_tup {K : PySem.W.Frag} {H : Hp} {v : V} {d : PyData} (h : Shows K H v d) (t : isTupD d = true) : ∃ a xs ds, v = .ref a ∧ d = .tuple ds ∧ SqT K H a xs ∧ DpAll K H xs ds := by
  rcases h with ⟨h, _⟩ | ⟨a, rfl, h, rfl⟩
  · cases h with
    | @tup a xs ds s r => exact ⟨a, xs, ds, rfl, rfl, s, r⟩
    | non => cases t
    | bl => cases t
    | int => cases t
    | str => cases t
    | lst => cases t
  · cases t
theorem lotD_no {n k : Int} {d : PyData} (h : isTupD d = false) : lotD n k d = false := by
  cases d <;> first | rfl | cases h
theorem lotDs_no {n m : Int} {d : PyData} {ds : List PyData} (h : ∀ i, d ≠ .int i) : lotDs n m (d :: ds) = false := by
  cases d with
  | int i => exact absurd rfl (h i)
  | _ => rfl
def spIsLot (K : PySem.W.Frag) : Sp := fun vs H Q _ => ∃ (n k : Int) (v : V) (d : PyData), vs = [.int n, .int k, v] ∧ Shows K H v d ∧ Q (.bl (lotD n k d)) H
theorem ok_is_lot {f : Addr} {fd : FuncData} (F : Fun K "is_lot" "is_lot" s_is_lot f fd) (T : Txt K mg) : FnOk P w K mg base CX0 3 f fd ["hands", "size", "thing"] (spIsLot K) := by
  obtain ⟨fB, fdB, D_is_below⟩ := T.d_is_below
  have G_is_below : FnOk P w K mg base CX0 2 fB fdB _ _ := ok_is_below D_is_below.F T
  refine F.ok sc_is_lot (fun vs H Q E h => ?_) (fun cdv A outer s H vs Q E hr h => ?_)
  · obtain ⟨n, k, v, d, rfl, _⟩ := h
    rfl
  · obtain ⟨n, k, v, d, rfl, sh, q⟩ := h
    obtain ⟨ty, h1, h2⟩ := shows_ty sh
    refine ⟨_, (pss_cons (ps_if (PW.pt (pw_or (pt_not (pt_val (pe_callB (k_isi K) (by rfl) T.z_isinstance (by decide +kernel) (pa_cons (pv 2) (pa_cons (pe_bltn (v := .ty "tuple") (by rfl) T.z_tuple (by decide +kernel) rfl) pa_nil))))) (pw_or1 (pt_cmpR op_ne (pe_callB (k_len K) (by rfl) T.z_len (by decide +kernel) (pa_cons (pv 2) pa_nil)) (pv 1) (nomark _)))))
 (pss_one (ps_ret pe_bl))
 pss_nil)
 (pss_cons (ps_set (i := 3) sc_is_lot.nd rfl (by first | exact Or.inl rfl | exact Or.inr rfl) pe_int)
 (pss_cons (ps_for PassesOwn.never rfl (pi_tup (pv 2)) (pg_name (i := 4) sc_is_lot.nd rfl (by first | exact Or.inl rfl | exact Or.inr rfl))
 (pss_cons (ps_if (PW.pt (pw_or (pt_not (pt_val (pe_call G_is_below (hr.mono (by decide)) (by rfl) D_is_below.g D_is_below.F.kp D_is_below.b .nil pass0 (pa_cons (pv 0) (pa_cons (pv 4) pa_nil))))) (pw_or1 (pt_cmpR op_lt (pv 4) (pv 3) (nomark _)))))
 (pss_one (ps_ret pe_bl))
 pss_nil)
 (pss_one (ps_set (i := 3) sc_is_lot.nd rfl (by first | exact Or.inl rfl | exact Or.inr rfl) (pe_op op_add (pv 4) pe_int)))))
 (pss_one (ps_ret pe_bl))))), ?_⟩
    refine ⟨_, rfl, _, _, _, _, _, rfl, .ty _, h1, kit_ty h2, _, rfl, ?_⟩
    cases ht : isTupD d with
    | false =>
      refine iteT ?_
      rw [lotD_no ht] at q
      exact q
    | true =>
      obtain ⟨a, xs, ds, rfl, rfl, hT, hD⟩ := shows_tup sh ht
      have el := dp_len hD
      refine ⟨_, rfl, a, _, rfl, .inr hT, _, rfl, rfl, _, rfl, ?_⟩
      rw [el]
      by_cases hk : (ds.length : Int) = k
      · subst hk
        rw [decide_eq_true rfl]
        refine iteF ?_
        have e0 : lotD n (ds.length : Int) (.tuple ds) = lotDs n 0 ds := by
          show (decide ((ds.length : Int) = (ds.length : Int)) && lotDs n 0 ds) = _
          rw [decide_eq_true rfl]
          rfl
        rw [e0] at q
        refine ⟨_, rfl, a, rfl, ⟨_, hT⟩, for_tup (K := K) (a := a) (xs := xs) (fun i σ H' => ∃ m v4, σ = [some (.int n), some (.int (ds.length : Int)), some (.ref a), some (.int m), v4] ∧ H' = H ∧ 0 ≤ m ∧ lotDs n 0 ds = lotDs n m (ds.drop i)) ⟨0, none, rfl, rfl, Int.le_refl 0, rfl⟩ (fun i σ H' _ h => ?_) ?_ ?_⟩
        · obtain ⟨_, _, _, rfl, _⟩ := h
          exact hT
        · rintro i x σ H' hx ⟨m, v4, rfl, rfl, m0, em⟩
          obtain ⟨dx, hd, dp⟩ := dp_get hD hx
          have hi := (List.getElem?_eq_some_iff.mp hd).1
          have dr : ds.drop i = dx :: ds.drop (i + 1) := by
            rw [List.drop_eq_getElem_cons hi]
            congr 1
            exact Option.some.inj ((List.getElem?_eq_getElem hi).symm.trans hd)
          obtain ⟨tn, t1, t2, t3, _⟩ := dp_ty dp
          refine ⟨_, rfl, _, rfl, n, x, rfl, ⟨tn, t1, t2, t3⟩, _, rfl, ?_⟩
          cases hb : belowV n x with
          | false =>
            refine iteT ?_
            refine iteT ?_
            have z : lotDs n 0 ds = false := by
              rw [em, dr]
              cases dp with
              | int j =>
                show (decide (m ≤ j) && (decide (j < n) && lotDs n (j + 1) (ds.drop (i + 1)))) = false
                have hb' : (decide (0 ≤ j) && decide (j < n)) = false := hb
                cases h1 : decide (m ≤ j) with
                | false => rfl
                | true =>
                  have h1' : m ≤ j := of_decide_eq_true h1
                  rw [decide_eq_true (show 0 ≤ j by omega), Bool.true_and] at hb'
                  rw [hb']
                  rfl
              | _ => exact lotDs_no (fun i e => by cases e)
            rw [z] at q
            exact q
          | true =>
            refine iteF ?_
            cases dp with
            | int j =>
              have hb' : (decide (0 ≤ j) && decide (j < n)) = true := hb
              have hjn : j < n := of_decide_eq_true (Bool.and_eq_true_iff.mp hb').2
              have hj0 : 0 ≤ j := of_decide_eq_true (Bool.and_eq_true_iff.mp hb').1
              refine ⟨_, rfl, _, rfl, _, _, rfl, rfl, _, rfl, ite2 (fun e => ?_) (fun e => ?_)⟩
              · have e' : j < m := of_decide_eq_true e
                have z : lotDs n 0 ds = false := by
                  rw [em, dr]
                  show (decide (m ≤ j) && (decide (j < n) && lotDs n (j + 1) (ds.drop (i + 1)))) = false
                  rw [decide_eq_false (by omega)]
                  rfl
                rw [z] at q
                exact q
              · have e' : ¬ j < m := fun z => e (decide_eq_true z)
                refine ⟨_, rfl, _, _, rfl, rfl, j + 1, some (.int j), rfl, rfl, by omega, ?_⟩
                rw [em, dr]
                show (decide (m ≤ j) && (decide (j < n) && lotDs n (j + 1) (ds.drop (i + 1)))) = lotDs n (j + 1) (ds.drop (i + 1))
                rw [decide_eq_true (show m ≤ j by omega), decide_eq_true hjn]
                rfl
            | non => cases hb
            | bl => cases hb
            | str => cases hb
            | lst => cases hb
            | tup => cases hb
        · rintro σ H' ⟨m, v4, rfl, rfl, m0, em⟩
          have e2 : ds.drop xs.length = [] := by
            rw [el]
            exact List.drop_length
          rw [e2] at em
          rw [em] at q
          exact q
      · rw [decide_eq_false (fun z => hk (V.int.inj z))]
        refine iteT ?_
        have e0 : lotD n k (.tuple ds) = false := by
          show (decide ((ds.length : Int) = k) && lotDs n 0 ds) = false
          rw [decide_eq_false hk]
          rfl
        rw [e0] at q
        exact q
theorem ok_due {f : Addr} {fd : FuncData} (F : Fun K "_law_due" "_law_due" s__law_due f fd) (T : Txt K mg) : FnOk P w K mg base CX0 1 f fd ["_law_many", "_law_wide", "_law_thing_here"] (spIsLot K) := by
  refine F.ok sc__law_due (fun vs H Q E h => ?_) (fun cdv A outer s H vs Q E hr h => ?_)
  · obtain ⟨n, k, v, d, rfl, _⟩ := h
    rfl
  · obtain ⟨n, k, v, d, rfl, sh, q⟩ := h
    obtain ⟨ty, h1, h2⟩ := shows_ty sh
    refine ⟨_, (pss_cons (ps_if (PW.pt (pw_or (pt_not (pt_val (pe_callB (k_isi K) (by rfl) T.z_isinstance (by decide +kernel) (pa_cons (pv 2) (pa_cons (pe_bltn (v := .ty "tuple") (by rfl) T.z_tuple (by decide +kernel) rfl) pa_nil))))) (pw_or1 (pt_cmpR op_ne (pe_callB (k_len K) (by rfl) T.z_len (by decide +kernel) (pa_cons (pv 2) pa_nil)) (pv 1) (nomark _)))))
 (pss_one (ps_ret pe_bl))
 pss_nil)
 (pss_cons (ps_set (i := 3) sc__law_due.nd rfl (by first | exact Or.inl rfl | exact Or.inr rfl) (pe_un un_neg pe_int))
 (pss_cons (ps_for PassesOwn.never rfl (pi_tup (pv 2)) (pg_name (i := 4) sc__law_due.nd rfl (by first | exact Or.inl rfl | exact Or.inr rfl))
 (pss_cons (ps_if (PW.pt (pw_or (pt_not (pt_val (pe_callB (k_isi K) (by rfl) T.z_isinstance (by decide +kernel) (pa_cons (pv 4) (pa_cons (pe_bltn (v := .ty "int") (by rfl) T.z_int (by decide +kernel) rfl) pa_nil))))) (pw_or (pt_val (pe_callB (k_isi K) (by rfl) T.z_isinstance (by decide +kernel) (pa_cons (pv 4) (pa_cons (pe_bltn (v := .ty "bool") (by rfl) T.z_bool (by decide +kernel) rfl) pa_nil)))) (pw_or1 (pt_not (pt_chain op_lt op_lt (pv 3) (pv 4) (pv 0)))))))
 (pss_one (ps_ret pe_bl))
 pss_nil)
 (pss_one (ps_set (i := 3) sc__law_due.nd rfl (by first | exact Or.inl rfl | exact Or.inr rfl) (pv 4)))))
 (pss_one (ps_ret pe_bl))))), ?_⟩
    refine ⟨_, rfl, _, _, _, _, _, rfl, .ty _, h1, kit_ty h2, _, rfl, ?_⟩
    cases ht : isTupD d with
    | false =>
      refine iteT ?_
      rw [lotD_no ht] at q
      exact q
    | true =>
      obtain ⟨a, xs, ds, rfl, rfl, hT, hD⟩ := shows_tup sh ht
      have el := dp_len hD
      refine ⟨_, rfl, a, _, rfl, .inr hT, _, rfl, rfl, _, rfl, ?_⟩
      rw [el]
      by_cases hk : (ds.length : Int) = k
      · subst hk
        rw [decide_eq_true rfl]
        refine iteF ?_
        have e0 : lotD n (ds.length : Int) (.tuple ds) = lotDs n 0 ds := by
          show (decide ((ds.length : Int) = (ds.length : Int)) && lotDs n 0 ds) = _
          rw [decide_eq_true rfl]
          rfl
        rw [e0] at q
        refine ⟨1, rfl, ?_⟩
        refine ⟨_, rfl, a, rfl, ⟨_, hT⟩, for_tup (K := K) (a := a) (xs := xs) (fun i σ H' => ∃ m v4, σ = [some (.int n), some (.int (ds.length : Int)), some (.ref a), some (.int m), v4] ∧ H' = H ∧ -1 ≤ m ∧ lotDs n 0 ds = lotDs n (m + 1) (ds.drop i)) ⟨-1, none, rfl, rfl, Int.le_refl _, rfl⟩ (fun i σ H' _ h => ?_) ?_ ?_⟩
        · obtain ⟨_, _, _, rfl, _⟩ := h
          exact hT
        · rintro i x σ H' hx ⟨m, v4, rfl, rfl, m0, em⟩
          obtain ⟨dx, hd, dp⟩ := dp_get hD hx
          have hi := (List.getElem?_eq_some_iff.mp hd).1
          have dr : ds.drop i = dx :: ds.drop (i + 1) := by
            rw [List.drop_eq_getElem_cons hi]
            congr 1
            exact Option.some.inj ((List.getElem?_eq_getElem hi).symm.trans hd)
          obtain ⟨tn, t1, t2, t3, _⟩ := dp_ty dp
          refine ⟨_, rfl, _, _, _, _, _, rfl, .ty _, t1, kit_ty t2, _, rfl, ?_⟩
          cases hw : wholeV x || boolV x with
          | false =>
            refine iteT ?_
            refine iteT ?_
            have z : lotDs n 0 ds = false := by
              rw [em, dr]
              cases dp with
              | int j => cases hw
              | _ => exact lotDs_no (fun i e => by cases e)
            rw [z] at q
            exact q
          | true =>
            refine iteF ?_
            refine ⟨_, rfl, _, _, _, _, _, rfl, .ty _, t1, kit_ty t3, _, rfl, ?_⟩
            cases dp with
            | int j =>
              refine iteF ?_
              refine ⟨_, rfl, _, rfl, _, _, rfl, rfl, _, rfl, ite2 (fun e => ?_) (fun e => ?_)⟩
              · have e1 : m < j := of_decide_eq_true e
                refine ⟨_, rfl, _, _, rfl, rfl, _, rfl, ?_⟩
                by_cases e2 : j < n
                · show if (!decide (j < n)) = true then _ else _
                  rw [decide_eq_true e2]
                  refine iteF ?_
                  refine ⟨_, rfl, j, some (.int j), rfl, rfl, by omega, ?_⟩
                  rw [em, dr]
                  show (decide (m + 1 ≤ j) && (decide (j < n) && lotDs n (j + 1) (ds.drop (i + 1)))) = lotDs n (j + 1) (ds.drop (i + 1))
                  rw [decide_eq_true (show m + 1 ≤ j by omega), decide_eq_true e2]
                  rfl
                · show if (!decide (j < n)) = true then _ else _
                  rw [decide_eq_false e2]
                  refine iteT ?_
                  have z : lotDs n 0 ds = false := by
                    rw [em, dr]
                    show (decide (m + 1 ≤ j) && (decide (j < n) && lotDs n (j + 1) (ds.drop (i + 1)))) = false
                    rw [decide_eq_false e2, Bool.false_and, Bool.and_false]
                  rw [z] at q
                  exact q
              · have e1 : ¬ m < j := fun z => e (decide_eq_true z)
                refine ⟨_, rfl, iteT ?_⟩
                have z : lotDs n 0 ds = false := by
                  rw [em, dr]
                  show (decide (m + 1 ≤ j) && (decide (j < n) && lotDs n (j + 1) (ds.drop (i + 1)))) = false
                  rw [decide_eq_false (by omega)]
                  rfl
                rw [z] at q
                exact q
            | bl b =>
              refine iteT ?_
              refine iteT ?_
              have z : lotDs n 0 ds = false := by
                rw [em, dr]
                rfl
              rw [z] at q
              exact q
            | non => cases hw
            | str => cases hw
            | lst => cases hw
            | tup => cases hw
        · rintro σ H' ⟨m, v4, rfl, rfl, m0, em⟩
          have e2 : ds.drop xs.length = [] := by
            rw [el]
            exact List.drop_length
          rw [e2] at em
          rw [em] at q
          exact q
      · rw [decide_eq_false (fun z => hk (V.int.inj z))]
        refine iteT ?_
        have e0 : lotD n k (.tuple ds) = false := by
          show (decide ((ds.length : Int) = k) && lotDs n 0 ds) = false
          rw [decide_eq_false hk]
          rfl
        rw [e0] at q
        exact q

/-! ### a thing bent -/
def spBent (K : PySem.W.Frag) : Sp := fun vs H Q _ => ∃ (a t : Addr) (n b : Nat) (l : List Int) (M : List Addr), vs = [.ref a, .int n, .ref t] ∧ a ∈ M ∧ t ∉ M ∧ Live M H ∧ PotAt H a b ∧ H t = some (.tup (l.map V.int)) ∧ Ris n 0 l ∧ 1 ≤ n ∧ n ≤ 60 ∧ b + 100 ≤ 1000000 ∧
  ∀ v d H', PotAt H' a (b + 4) → SameB a H H' → Shows K (Hm M H') v d → Q v H'
theorem ok_bent {f : Addr} {fd : FuncData} (F : Fun K "_law_bent" "_law_bent" s__law_bent f fd) (T : Txt K mg) : FnOk P w K mg base CX0 3 f fd ["_law_pot_here", "_law_many", "_law_lot"] (spBent K) := by
  obtain ⟨fT, fdT, D_take⟩ := T.d_take
  have G_take : FnOk P w K mg base CX0 1 fT fdT _ _ := ok_take D_take.F T
  obtain ⟨fP, fdP, D_pick⟩ := T.d_pick
  have G_pick : FnOk P w K mg base CX0 2 fP fdP _ _ := ok_pick D_pick.F T
  refine F.ok sc__law_bent (fun vs H Q E h => ?_) (fun cdv A outer s H vs Q E hr h => ?_)
  · obtain ⟨a, t, n, b, l, M, rfl, _⟩ := h
    rfl
  · obtain ⟨a, t, n, b, l, M, rfl, aM, tM, hM, hP, ht, r, hn1, hn, hb, q⟩ := h
    have ta : t ≠ a := by
      obtain ⟨_, _, _, z, _⟩ := id hP
      exact ne_of ht z (by intro e; cases e)
    have ll : l.length ≤ 60 := by
      have z := r.len (by omega)
      omega
    have lm : (l.map V.int).length = l.length := List.length_map _
    have lI : ∀ x ∈ l, x.natAbs < 10 ^ 30 := fun x hx => by
      have z := ris_mem r x hx
      omega
    refine ⟨_, (pss_cons (ps_par (by rfl) sc__law_bent.nd (i := 3) (j := 4) rfl rfl (by decide) rfl rfl (pa_cons (pe_call G_take (hr.mono (by decide)) (by rfl) D_take.g D_take.F.kp D_take.b .nil pass0 (pa_cons (pv 0) (pa_cons pe_int pa_nil))) (pa_cons (pe_call G_take (hr.mono (by decide)) (by rfl) D_take.g D_take.F.kp D_take.b .nil pass0 (pa_cons (pv 0) (pa_cons (pe_callB (call_max2 rfl) (by rfl) T.z_max (by decide +kernel) (pa_cons pe_int (pa_cons (pe_callB (k_len K) (by rfl) T.z_len (by decide +kernel) (pa_cons (pv 2) pa_nil)) pa_nil))) pa_nil))) pa_nil)) (by rfl))
 (pss_cons (ps_set (i := 5) sc__law_bent.nd rfl (by first | exact Or.inl rfl | exact Or.inr rfl) (pe_call G_pick (hr.mono (by decide)) (by rfl) D_pick.g D_pick.F.kp D_pick.b .nil pass0 (pa_cons (pv 0) (pa_cons (pe_lst (pa_cons pe_int (pa_cons pe_int (pa_cons (pe_op op_sub (pv 1) pe_int) (pa_cons (pv 1) (pa_cons (pe_un un_neg pe_int) (pa_cons pe_bl (pa_cons pe_bl (pa_cons pe_non (pa_cons pe_str (pa_cons (pe_tup (pa_cons pe_int pa_nil)) (pa_cons (pe_lst (pa_cons pe_int pa_nil)) (pa_cons (pe_op op_pow pe_int pe_int) (pa_cons (pe_call G_take (hr.mono (by decide)) (by rfl) D_take.g D_take.F.kp D_take.b .nil pass0 (pa_cons (pv 0) (pa_cons (pv 1) pa_nil))) pa_nil)))))))))))))) pa_nil))))
 (pss_cons (ps_set (i := 6) sc__law_bent.nd rfl (by first | exact Or.inl rfl | exact Or.inr rfl) (pe_lst (pa_cons (pe_op (k_catA K) (pe_op (k_catA K) (pe_slice (k_slT K) (pv 2) po_none (po_some (pv 4))) (pe_tup (pa_cons (pv 5) pa_nil))) (pe_slice (k_slT K) (pv 2) (po_some (pe_op op_add (pv 4) pe_int)) po_none)) (pa_cons (pe_op (k_catA K) (pe_slice (k_slT K) (pv 2) po_none (po_some (pv 4))) (pe_slice (k_slT K) (pv 2) (po_some (pe_op op_add (pv 4) pe_int)) po_none)) (pa_cons (pe_op (k_catA K) (pv 2) (pe_tup (pa_cons (pv 5) pa_nil))) (pa_cons (pe_op (k_catA K) (pe_tup (pa_cons (pv 5) pa_nil)) (pv 2)) (pa_cons (pe_revT K (pv 2)) pa_nil)))))))
 (pss_one (ps_ret (pe_ix (k_ixL K) (pe_op op_cat (pv 6) (pe_lst (pa_cons (pe_op (k_catA K) (pe_op (k_catA K) (pe_slice (k_slT K) (pv 2) po_none (po_some (pv 4))) (pe_slice (k_slT K) (pv 2) (po_some (pv 4)) (po_some (pe_op op_add (pv 4) pe_int)))) (pe_slice (k_slT K) (pv 2) (po_some (pv 4)) po_none)) (pa_cons (pe_callTy (k_list K) (by rfl) T.z_list (by decide +kernel) (pa_cons (pv 2) pa_nil)) (pa_cons (pe_tup (pa_cons (pv 2) pa_nil)) (pa_cons (pe_op (k_catA K) (pe_slice (k_slT K) (pv 2) po_none (po_some (pv 4))) (pe_revT K (pe_slice (k_slT K) (pv 2) (po_some (pv 4)) (po_some (pe_op op_add (pv 4) pe_int))))) pa_nil)))))) (pv 3) (fun _ _ => rfl))))))), ?_⟩
    -- way, at
    refine ⟨_, rfl, a, 9, b, rfl, hP, by decide, by decide, by omega, fun wy H1 w0 w1 P1 S1 => ?_⟩
    have t1 := S1 _ _ ta ht
    refine ⟨_, rfl, _, rfl, t, _, rfl, .inr (SqT.of t1), _, _, rfl, a, _, b + 1, rfl, P1, ?_, ?_, by omega, fun aw H2 a0 a1 P2 S2 => ⟨_, _, rfl, ?_⟩⟩
    · split <;> omega
    · rw [lm]
      split <;> omega
    have t2 := S2 _ _ ta t1
    have S2a := S1.trans S2
    have la2 : Live M H2 := liveB S2a P2.live hM
    clear S1 S2 P1 t1 a1
    -- odd
    refine ⟨_, rfl, _, rfl, _, _, rfl, rfl, _, rfl, 1, rfl, by show 1 ≤ sizeLine; decide, fun u nu => ⟨by show 1 ≤ sizeLine; decide, fun y ny => ?_⟩⟩
    have su := same_upd (o := .tup [.int 0]) nu
    have sy := same_upd (o := .lst [.int 1]) ny
    refine ⟨_, _, rfl, rfl, ⟨by decide, by decide, by decide⟩, _, rfl, _, rfl, a, n, b + 2, rfl, P2.same (su.trans sy), by omega, by omega, by omega, fun z H3 z0 z1 P3 S3 => ⟨by show 13 ≤ sizeLine; decide, fun L nL => ?_⟩⟩
    have sL := same_upd (o := .lst [.int 0, .int 1, .int ((n : Int) - 1), .int n, .int (-1), .bl true, .bl false, .non, .str (Str.ofString "0"), .ref u, .ref y, .int (10 ^ (30 : Int).toNat), .int z]) nL
    have iu : Itm K (Hm M (upd H3 L (.lst [.int 0, .int 1, .int ((n : Int) - 1), .int n, .int (-1), .bl true, .bl false, .non, .str (Str.ofString "0"), .ref u, .ref y, .int (10 ^ (30 : Int).toNat), .int z]))) (.ref u) :=
      (itm_tup1 (new_row la2 nu) (by decide)).stays ((same_hm sy).trans ((S3.hm aM).trans (same_hm sL)))
    have iy : Itm K (Hm M (upd H3 L (.lst [.int 0, .int 1, .int ((n : Int) - 1), .int n, .int (-1), .bl true, .bl false, .non, .str (Str.ofString "0"), .ref u, .ref y, .int (10 ^ (30 : Int).toNat), .int z]))) (.ref y) :=
      (itm_lst1 (new_rowL (live su la2) ny) (by decide)).stays ((S3.hm aM).trans (same_hm sL))
    refine ⟨a, L, b + 3, _, rfl, P3.same sL, SqL.of upd_same, fun e => (P3.ne nL) e.symm, by simp, by show 13 ≤ 1000; decide, by omega, fun o H4 ho P4 S4 => ?_⟩
    have io : Itm K (Hm M H4) o := by
      refine (all_cons (itm_int (by decide)) (all_cons (itm_int (by decide)) (all_cons (itm_int (by omega)) (all_cons (itm_int (by omega)) (all_cons (itm_int (by decide)) (all_cons (itm_bl _) (all_cons (itm_bl _) (all_cons itm_non (all_cons (itm_str (by decide +kernel) (by decide +kernel)) (all_cons iu (all_cons iy (all_cons (itm_int (by decide +kernel)) (all_cons (itm_int (by omega)) all_nil)))))))))))) o ho).stays (S4.hm aM)
    have t4 : SqT K (Hm M H4) t (l.map V.int) := SqT.of (by rw [hm_ne tM]; exact S4 _ _ ta (sL _ _ (S3 _ _ ta (sy _ _ (su _ _ t2)))))
    have S4a : SameB a H H4 := S2a.trans ((sameb (su.trans sy)).trans (S3.trans ((sameb sL).trans S4)))
    have la4 : Live M H4 := liveB S4a P4.live hM
    clear iu iy sL nL S4 S3 P3 ho su sy nu ny P2 t2 S2a z0 z1
    obtain ⟨at_, rfl⟩ : ∃ m : Nat, aw = (m : Int) := ⟨aw.toNat, by omega⟩
    have iL : ∀ (H' : Hp), ∀ x ∈ l.map V.int, Itm K H' x := fun H' => itm_ints lI
    have cl : ∀ lo hi, (cutV (l.map V.int) lo hi).length ≤ 60 := fun lo hi => by
      have z := cutV_length (l.map V.int) lo hi
      omega
    have ic : ∀ (H' : Hp) lo hi, ∀ x ∈ cutV (l.map V.int) lo hi, Itm K H' x := fun H' lo hi x hx => iL H' x (cut_mem hx)
    -- A
    refine ⟨_, rfl, _, rfl, _, rfl, cutU la4 t4 fun r1 G1 s1 c1 => ?_⟩
    refine ⟨_, rfl, by show 1 ≤ sizeLine; decide, fun u2 nu2 => ?_⟩
    have su2 := same_upd (o := .tup [o]) nu2
    have S2 := s1.trans su2
    refine catU (live S2 la4) (seqT (same_hm su2) c1) (new_row (live s1 la4) nu2) (by have := cl none (some (at_ : Int)); show _ + 1 ≤ 1000; omega) fun r3 G3 s3 c3 => ?_
    have S3 := S2.trans s3
    refine ⟨_, rfl, _, rfl, _, _, rfl, rfl, _, rfl, ?_⟩
    dsimp only [tNoPart]
    refine cutU (live S3 la4) (seqT (same_hm S3) t4) fun r4 G4 s4 c4 => ?_
    have S4 := S3.trans s4
    refine catU (live S4 la4) (seqT (same_hm s4) c3) c4 ?_ fun rA GA sA cA => ?_
    · have z1 := cl none (some (at_ : Int))
      have z2 := cl (some ((at_ : Int) + 1)) none
      rw [List.length_append]
      show _ + 1 + _ ≤ 1000
      omega
    have SA := S4.trans sA
    have eA : ∃ d, Shows K (Hm M GA) (.ref rA) d := shows_row cA (all_app (all_app (ic _ _ _) (all_cons (io.stays (same_hm SA)) all_nil)) (ic _ _ _)) (by
      have z1 := cl none (some (at_ : Int))
      have z2 := cl (some ((at_ : Int) + 1)) none
      rw [List.length_append, List.length_append]
      show _ + 1 + _ ≤ 200
      omega)
    clear c3 c4 s3 s4 S2 S3 S4 s1 su2 c1 sA cA nu2
    -- B
    refine ⟨_, rfl, _, rfl, _, rfl, cutU (live SA la4) (seqT (same_hm SA) t4) fun r1 G1 s1 c1 => ?_⟩
    have S1 := SA.trans s1
    refine ⟨_, rfl, _, rfl, _, _, rfl, rfl, _, rfl, ?_⟩
    dsimp only [tNoPart]
    refine cutU (live S1 la4) (seqT (same_hm S1) t4) fun r2 G2 s2 c2 => ?_
    have S2 := S1.trans s2
    refine catU (live S2 la4) (seqT (same_hm s2) c1) c2 ?_ fun rB GB sB cB => ?_
    · have z1 := cl none (some (at_ : Int))
      have z2 := cl (some ((at_ : Int) + 1)) none
      omega
    have SB := S2.trans sB
    have eB : ∃ d, Shows K (Hm M GB) (.ref rB) d := shows_row cB (all_app (ic _ _ _) (ic _ _ _)) (by
      have z1 := cl none (some (at_ : Int))
      have z2 := cl (some ((at_ : Int) + 1)) none
      rw [List.length_append]
      omega)
    have eA := Ex.stays (same_hm (s1.trans (s2.trans sB))) eA
    clear S1 S2 s1 s2 c1 c2 sB cB SA
    -- C
    refine ⟨_, rfl, _, rfl, by show 1 ≤ sizeLine; decide, fun u2 nu2 => ?_⟩
    have su2 := same_upd (o := .tup [o]) nu2
    have S2 := SB.trans su2
    refine catU (live S2 la4) (seqT (same_hm S2) t4) (new_row (live SB la4) nu2) (by show _ + 1 ≤ 1000; omega) fun rC GC sC cC => ?_
    have SC := S2.trans sC
    have eC : ∃ d, Shows K (Hm M GC) (.ref rC) d := shows_row cC (all_app (iL _) (all_cons (io.stays (same_hm SC)) all_nil)) (by
      rw [List.length_append]
      show _ + 1 ≤ 200
      omega)
    have eA := Ex.stays (same_hm (su2.trans sC)) eA
    have eB := Ex.stays (same_hm (su2.trans sC)) eB
    clear su2 S2 nu2 sC cC SB
    -- D
    refine ⟨_, rfl, by show 1 ≤ sizeLine; decide, fun u2 nu2 => ⟨_, rfl, ?_⟩⟩
    have su2 := same_upd (o := .tup [o]) nu2
    have S2 := SC.trans su2
    refine catU (live S2 la4) (new_row (live SC la4) nu2) (seqT (same_hm S2) t4) (by show 1 + _ ≤ 1000; omega) fun rD GD sD cD => ?_
    have SD := S2.trans sD
    have eD : ∃ d, Shows K (Hm M GD) (.ref rD) d := shows_row cD (all_app (all_cons (io.stays (same_hm SD)) all_nil) (iL _)) (by
      rw [List.length_append]
      show 1 + _ ≤ 200
      omega)
    have eA := Ex.stays (same_hm (su2.trans sD)) eA
    have eB := Ex.stays (same_hm (su2.trans sD)) eB
    have eC := Ex.stays (same_hm (su2.trans sD)) eC
    clear su2 S2 nu2 sD cD SC
    -- E
    refine ⟨_, rfl, t, _, rfl, seqT (hm_same M GD) (seqT (same_hm SD) t4), fun rE nE => ?_⟩
    have sE := same_upd (o := .tup (l.map V.int).reverse) nE
    have SE := SD.trans sE
    have eE : ∃ d, Shows K (Hm M (upd GD rE (.tup (l.map V.int).reverse))) (.ref rE) d := shows_row (new_row (live SD la4) nE) (fun x hx => iL _ x (List.mem_reverse.mp hx)) (by rw [List.length_reverse]; omega)
    have eA := Ex.stays (same_hm sE) eA
    have eB := Ex.stays (same_hm sE) eB
    have eC := Ex.stays (same_hm sE) eC
    have eD := Ex.stays (same_hm sE) eD
    generalize upd GD rE (.tup (l.map V.int).reverse) = GE at SE eA eB eC eD eE
    clear sE nE SD
    refine ⟨by show 5 ≤ sizeLine; decide, fun L1 nL1 => ?_⟩
    have sL1 := same_upd (o := .lst [.ref rA, .ref rB, .ref rC, .ref rD, .ref rE]) nL1
    have SL := SE.trans sL1
    have all5 : ∀ x ∈ [V.ref rA, .ref rB, .ref rC, .ref rD, .ref rE], ∃ d, Shows K (Hm M (upd GE L1 (.lst [.ref rA, .ref rB, .ref rC, .ref rD, .ref rE]))) x d :=
      fun x hx => Ex.stays (same_hm sL1) ((all_cons (Pr := fun y => ∃ d, Shows K (Hm M GE) y d) eA (all_cons eB (all_cons eC (all_cons eD (all_cons eE all_nil))))) x hx)
    have hL1 : (upd GE L1 (.lst [.ref rA, .ref rB, .ref rC, .ref rD, .ref rE])) L1 = some (.lst [.ref rA, .ref rB, .ref rC, .ref rD, .ref rE]) := upd_same
    generalize upd GE L1 (.lst [.ref rA, .ref rB, .ref rC, .ref rD, .ref rE]) = GL at SL all5 hL1
    clear eA eB eC eD eE sL1 nL1 SE
    -- F
    refine ⟨_, rfl, _, rfl, _, rfl, _, rfl, cutU (live SL la4) (seqT (same_hm SL) t4) fun r1 G1 s1 c1 => ?_⟩
    have S1 := SL.trans s1
    refine ⟨_, rfl, _, rfl, _, rfl, _, rfl, _, _, rfl, rfl, _, rfl, cutU (live S1 la4) (seqT (same_hm S1) t4) fun r2 G2 s2 c2 => ?_⟩
    have S2 := S1.trans s2
    refine catU (live S2 la4) (seqT (same_hm s2) c1) c2 ?_ fun r3 G3 s3 c3 => ?_
    · have z1 := cl none (some (at_ : Int))
      have z2 := cl (some (at_ : Int)) (some ((at_ : Int) + 1))
      omega
    have S3 := S2.trans s3
    refine ⟨_, rfl, _, rfl, _, rfl, ?_⟩
    dsimp only [tNoPart]
    refine cutU (live S3 la4) (seqT (same_hm S3) t4) fun r4 G4 s4 c4 => ?_
    have S4 := S3.trans s4
    refine catU (live S4 la4) (seqT (same_hm s4) c3) c4 ?_ fun rF GF sF cF => ?_
    · have z1 := cl none (some (at_ : Int))
      have z2 := cl (some (at_ : Int)) (some ((at_ : Int) + 1))
      have z3 := cl (some (at_ : Int)) none
      rw [List.length_append]
      omega
    have SF := S4.trans sF
    have eF : ∃ d, Shows K (Hm M GF) (.ref rF) d := shows_row cF (all_app (all_app (ic _ _ _) (ic _ _ _)) (ic _ _ _)) (by
      have z1 := cl none (some (at_ : Int))
      have z2 := cl (some (at_ : Int)) (some ((at_ : Int) + 1))
      have z3 := cl (some (at_ : Int)) none
      rw [List.length_append, List.length_append]
      omega)
    have toF := s1.trans (s2.trans (s3.trans (s4.trans sF)))
    have all5 := fun x hx => Ex.stays (same_hm toF) (all5 x hx)
    have hL1 := toF _ _ hL1
    clear S1 S2 S3 S4 s1 s2 s3 s4 c1 c2 c3 c4 sF cF SL toF
    -- G
    refine ⟨_, rfl, t, _, rfl, .inr (seqT (hm_same M GF) (seqT (same_hm SF) t4)), fun rG nG => ?_⟩
    have sG := same_upd (o := .lst (l.map V.int)) nG
    have SG := SF.trans sG
    have eG : ∃ d, Shows K (Hm M (upd GF rG (.lst (l.map V.int)))) (.ref rG) d := shows_rowL (new_rowL (live SF la4) nG) (iL _) (by omega)
    have eF := Ex.stays (same_hm sG) eF
    have all5 := fun x hx => Ex.stays (same_hm sG) (all5 x hx)
    have hL1 := sG _ _ hL1
    generalize upd GF rG (.lst (l.map V.int)) = GG at SG eG eF all5 hL1
    clear sG nG SF
    -- J
    refine ⟨_, rfl, by show 1 ≤ sizeLine; decide, fun rJ nJ => ?_⟩
    have sJ := same_upd (o := .tup [.ref t]) nJ
    have SJ := SG.trans sJ
    have eJ : ∃ d, Shows K (Hm M (upd GG rJ (.tup [.ref t]))) (.ref rJ) d := by
      obtain ⟨ds, e1, e2, e3⟩ := itms (K := K) (H := Hm M (upd GG rJ (.tup [.ref t]))) (l.map V.int) (iL _)
      have sm := small_tuple e3
      rw [e2, lm] at sm
      have sm2 : Small (.tuple ds) 7000 4 := sm.le (by
        have : l.length * (100 + 2) ≤ 60 * 102 := Nat.mul_le_mul_right _ ll
        omega) (by decide)
      exact ⟨.tuple [.tuple ds], shows_small (.tup (new_row (live SG la4) nJ) (.cons (.tup (seqT (same_hm SJ) t4) e1) .nil)) (small_tuple (all_cons sm2 all_nil)) (by show 4 + 1 * (7000 + 2) ≤ 100000; decide) (by decide)⟩
    have eF := Ex.stays (same_hm sJ) eF
    have eG := Ex.stays (same_hm sJ) eG
    have all5 := fun x hx => Ex.stays (same_hm sJ) (all5 x hx)
    have hL1 := sJ _ _ hL1
    generalize upd GG rJ (.tup [.ref t]) = GJ at SJ eJ eG eF all5 hL1
    clear sJ nJ SG
    -- K
    refine ⟨_, rfl, _, rfl, _, rfl, cutU (live SJ la4) (seqT (same_hm SJ) t4) fun r1 G1 s1 c1 => ?_⟩
    have S1 := SJ.trans s1
    refine ⟨_, rfl, _, rfl, _, rfl, _, rfl, _, _, rfl, rfl, _, rfl, cutU (live S1 la4) (seqT (same_hm S1) t4) fun r2 G2 s2 c2 => ?_⟩
    have S2 := S1.trans s2
    refine ⟨r2, _, rfl, seqT (hm_same M G2) c2, fun r3 n3 => ?_⟩
    have s3 := same_upd (o := .tup (cutV (l.map V.int) (some (at_ : Int)) (some ((at_ : Int) + 2))).reverse) n3
    have S3 := S2.trans s3
    refine catU (live S3 la4) (seqT (same_hm (s2.trans s3)) c1) (new_row (live S2 la4) n3) ?_ fun rK GK sK cK => ?_
    · have z1 := cl none (some (at_ : Int))
      have z2 := cl (some (at_ : Int)) (some ((at_ : Int) + 2))
      rw [List.length_reverse]
      omega
    have SK := S3.trans sK
    have eK : ∃ d, Shows K (Hm M GK) (.ref rK) d := shows_row cK (all_app (ic _ _ _) (fun x hx => ic _ _ _ x (List.mem_reverse.mp hx))) (by
      have z1 := cl none (some (at_ : Int))
      have z2 := cl (some (at_ : Int)) (some ((at_ : Int) + 2))
      rw [List.length_append, List.length_reverse]
      omega)
    have toK := s1.trans (s2.trans (s3.trans sK))
    have eF := Ex.stays (same_hm toK) eF
    have eG := Ex.stays (same_hm toK) eG
    have eJ := Ex.stays (same_hm toK) eJ
    have all5 := fun x hx => Ex.stays (same_hm toK) (all5 x hx)
    have hL1 := toK _ _ hL1
    clear S1 S2 S3 s1 s2 s3 c1 c2 n3 sK cK SJ toK
    refine ⟨by show 4 ≤ sizeLine; decide, fun L2' nL2 => ?_⟩
    have sL2 := same_upd (o := .lst [.ref rF, .ref rG, .ref rJ, .ref rK]) nL2
    refine ⟨L1, L2', _, _, rfl, rfl, sL2 _ _ hL1, upd_same, by show 5 + 4 ≤ sizeLine; decide, fun p np => ?_⟩
    have sp := same_upd (o := .lst ([.ref rA, .ref rB, .ref rC, .ref rD, .ref rE] ++ [.ref rF, .ref rG, .ref rJ, .ref rK])) np
    obtain ⟨wn, rfl⟩ : ∃ m : Nat, wy = (m : Int) := ⟨wy.toNat, by omega⟩
    have hw : wn < ([V.ref rA, V.ref rB, V.ref rC, V.ref rD, V.ref rE] ++ [V.ref rF, V.ref rG, V.ref rJ, V.ref rK]).length := by
      show wn < 9
      omega
    refine ⟨_, rfl, p, _, _, _, rfl, rfl, SqL.of upd_same, atI_nat (List.getElem?_eq_getElem hw), ?_⟩
    obtain ⟨d, hd⟩ := Ex.stays (same_hm (sL2.trans sp)) ((all_app (Pr := fun y => ∃ d, Shows K (Hm M GK) y d) all5 (all_cons eF (all_cons eG (all_cons eJ (all_cons eK all_nil))))) _ (List.getElem_mem hw))
    exact q _ d _ (P4.same (SK.trans (sL2.trans sp))) (S4a.trans (sameb (SK.trans (sL2.trans sp)))) hd

/-! ### one pot's turn -/
theorem lotDs_ris {n : Int} : ∀ (l : List Int) (m : Int), Ris n m l → lotDs n m (intsD l) = true
  | [], _, _ => rfl
  | x :: t, m, r => by
    show (decide (m ≤ x) && (decide (x < n) && lotDs n (x + 1) (intsD t))) = true
    rw [decide_eq_true r.1, decide_eq_true r.2.1, lotDs_ris t (x + 1) r.2.2]
    rfl
theorem shows_bl {K : PySem.W.Frag} {H : Hp} (b : Bool) : Shows K H (.bl b) (.bool b) := shows_small (.bl b) (small_bl b) (by decide) (by decide)
theorem hs_small {n : Nat} (h : n ≤ 100) : ∀ x ∈ hs n, x.natAbs < 10 ^ 30 := fun x hx => by
  have z := hs_mem.mp hx
  omega
def kg_is_lot (_ : List Value) : List Value → List Value
  | [a0, a1, a2] => [a2, a1, a0]
  | _ => []
def kv_is_lot (_ : List V) : List V → List V
  | [a0, a1, a2] => [a2, a1, a0]
  | _ => []
theorem kb_is_lot {K : PySem.W.Frag} {f : Addr} {fd : FuncData} (F : Fun K "is_lot" "is_lot" s_is_lot f fd) : KBinds K fd ["hands", "size", "thing"] ["thing", "size", "hands"] (fun us ws => match us with | [] => kg_is_lot us ws | _ => []) (fun us ws => match us with | [] => kv_is_lot us ws | _ => []) := by
  obtain ⟨oc, od, kV, doc, pm, an, cdv, ct, osl, rfl, lk, hcd⟩ := F.ex
  refine ⟨fun s us ws _ hl => ?_, fun r z => ?_⟩
  · match us, ws, hl with
    | [], [a0, a1, a2], _ => exact .of_eq rfl
  · cases r with
    | cons _ _ => exact .nil
    | nil =>
      cases z with
      | nil => exact .nil
      | cons r0 z =>
        cases z with
        | nil => exact .nil
        | cons r1 z =>
          cases z with
          | nil => exact .nil
          | cons r2 z =>
            cases z with
            | nil => exact (.cons r2 (.cons r1 (.cons r0 .nil)))
            | cons _ _ => exact .nil

def spRight (K : PySem.W.Frag) : Sp := fun vs H Q _ => ∃ (a : Addr), vs = [.ref a] ∧ PotAt H a 0 ∧ ∀ H', SameB a H H' → Q (.bl true) H'
theorem ok_right {f : Addr} {fd : FuncData} (F : Fun K "_law_right" "_law_right" s__law_right f fd) (T : Txt K mg) : FnG P w K mg base CX0 4 f fd ["_law_pot_here"] (spRight K) := by
  obtain ⟨fT, fdT, D_take⟩ := T.d_take
  have G_take : FnOk P w K mg base CX0 1 fT fdT _ _ := ok_take D_take.F T
  obtain ⟨fP, fdP, D_pick⟩ := T.d_pick
  have G_pick : FnOk P w K mg base CX0 2 fP fdP _ _ := ok_pick D_pick.F T
  obtain ⟨fS, fdS, D_some_lot⟩ := T.d_some_lot
  have G_some_lot : FnOk P w K mg base CX0 2 fS fdS _ _ := ok_some_lot D_some_lot.F T
  obtain ⟨fN, fdN, D_bent⟩ := T.d_bent
  have G_bent : FnOk P w K mg base CX0 3 fN fdN _ _ := ok_bent D_bent.F T
  obtain ⟨fI, fdI, D_is_lot⟩ := T.d_is_lot
  have G_is_lot : FnOk P w K mg base CX0 3 fI fdI _ _ := ok_is_lot D_is_lot.F T
  obtain ⟨fU, fdU, D_due⟩ := T.d_due
  have G_due : FnOk P w K mg base CX0 1 fU fdU _ _ := ok_due D_due.F T
  refine FnG.by0 F sc__law_right (fun vs H Q E h => ?_) (fun cdv A outer s H vs Q E hr gd h => ?_)
  · obtain ⟨a, rfl, _⟩ := h
    rfl
  · obtain ⟨a, rfl, hP, q⟩ := h
    have hu := room70 hr
    refine ⟨_, (pss_cons (ps_set (i := 1) sc__law_right.nd rfl (by first | exact Or.inl rfl | exact Or.inr rfl) (pe_op op_add pe_int (pe_call G_pick (hr.mono (by decide)) (by rfl) D_pick.g D_pick.F.kp D_pick.b .nil pass0 (pa_cons (pv 0) (pa_cons (pe_lst (pa_cons pe_int (pa_cons (pe_call G_take (hr.mono (by decide)) (by rfl) D_take.g D_take.F.kp D_take.b .nil pass0 (pa_cons (pv 0) (pa_cons pe_int pa_nil))) (pa_cons (pe_call G_take (hr.mono (by decide)) (by rfl) D_take.g D_take.F.kp D_take.b .nil pass0 (pa_cons (pv 0) (pa_cons pe_int pa_nil))) pa_nil)))) pa_nil)))))
 (pss_cons (ps_set (i := 2) sc__law_right.nd rfl (by first | exact Or.inl rfl | exact Or.inr rfl) (pe_call G_some_lot (hr.mono (by decide)) (by rfl) D_some_lot.g D_some_lot.F.kp D_some_lot.b .nil pass0 (pa_cons (pv 0) (pa_cons (pv 1) (pa_cons (pe_call G_take (hr.mono (by decide)) (by rfl) D_take.g D_take.F.kp D_take.b .nil pass0 (pa_cons (pv 0) (pa_cons (pe_op op_add (pv 1) pe_int) pa_nil))) pa_nil)))))
 (pss_cons (ps_set (i := 3) sc__law_right.nd rfl (by first | exact Or.inl rfl | exact Or.inr rfl) (pe_lst (pa_cons (pv 2) (pa_cons pe_non (pa_cons pe_bl (pa_cons pe_int (pa_cons pe_str (pa_cons (pe_tup pa_nil) (pa_cons (pe_lst pa_nil) (pa_cons pe_dnewK (pa_cons (pe_tupRg rfl (by rfl) T.z_tuple (prg_1 (by rfl) T.z_range (pv 1))) (pa_cons (pe_tupRg rfl (by rfl) T.z_tuple (prg_1 (by rfl) T.z_range (pe_op op_add (pv 1) pe_int))) (pa_cons (pe_op (k_catA K) (pv 2) (pv 2)) pa_nil)))))))))))))
 (pss_cons (ps_for PassesOwn.never rfl (pi_range1 (by rfl) T.z_range (pa_cons pe_int pa_nil)) (pg_name (i := 4) sc__law_right.nd rfl (by first | exact Or.inl rfl | exact Or.inr rfl))
 (pss_one (ps_expr (pe_bm PySem.F.plainAttrs_list PySem.F.slot_list_append PySem.F.type_list_append mt_append (pv 3) (pa_cons (pe_call G_bent (hr.mono (by decide)) (by rfl) D_bent.g D_bent.F.kp D_bent.b .nil pass0 (pa_cons (pv 0) (pa_cons (pv 1) (pa_cons (pv 2) pa_nil)))) pa_nil)))))
 (pss_cons (ps_for PassesOwn.never rfl (pi_list (pv 3)) (pg_name (i := 5) sc__law_right.nd rfl (by first | exact Or.inl rfl | exact Or.inr rfl))
 (pss_one (ps_for PassesOwn.never rfl (pi_list (pe_lst (pa_cons (pe_callB (k_len K) (by rfl) T.z_len (by decide +kernel) (pa_cons (pv 2) pa_nil)) (pa_cons (pe_callB (call_max2 rfl) (by rfl) T.z_max (by decide +kernel) (pa_cons pe_int (pa_cons (pe_op op_sub (pe_callB (k_len K) (by rfl) T.z_len (by decide +kernel) (pa_cons (pv 2) pa_nil)) pe_int) pa_nil))) (pa_cons (pe_callB (call_min2 rfl) (by rfl) T.z_min (by decide +kernel) (pa_cons (pv 1) (pa_cons (pe_op op_add (pe_callB (k_len K) (by rfl) T.z_len (by decide +kernel) (pa_cons (pv 2) pa_nil)) pe_int) pa_nil))) pa_nil))))) (pg_name (i := 6) sc__law_right.nd rfl (by first | exact Or.inl rfl | exact Or.inr rfl))
 (pss_cons (ps_par (by rfl) sc__law_right.nd (i := 7) (j := 8) rfl rfl (by decide) rfl rfl (pa_cons (pe_callB (k_repr K gd hu) (by rfl) T.z_repr (by decide +kernel) (pa_cons (pe_call G_due (hr.mono (by decide)) (by rfl) D_due.g D_due.F.kp D_due.b .nil pass0 (pa_cons (pv 1) (pa_cons (pv 6) (pa_cons (pv 5) pa_nil)))) pa_nil)) (pa_cons (pe_callB (k_repr K gd hu) (by rfl) T.z_repr (by decide +kernel) (pa_cons (pv 5) pa_nil)) pa_nil)) (by rfl))
 (pss_cons (ps_if (PW.pt (pw_or (pt_cmpR op_ne (pe_callB (k_repr K gd hu) (by rfl) T.z_repr (by decide +kernel) (pa_cons (pe_call G_is_lot (hr.mono (by decide)) (by rfl) D_is_lot.g D_is_lot.F.kp D_is_lot.b .nil pass0 (pa_cons (pv 1) (pa_cons (pv 6) (pa_cons (pv 5) pa_nil)))) pa_nil)) (pv 7) (nomark _)) (pw_or1 (pt_cmpR op_ne (pe_callB (k_repr K gd hu) (by rfl) T.z_repr (by decide +kernel) (pa_cons (pe_callK0 G_is_lot (hr.mono (by decide)) (by rfl) D_is_lot.g D_is_lot.F.kp (kb_is_lot D_is_lot.F) pass0 (pk_cons (pv 5) (pk_cons (pv 6) (pk_cons (pv 1) pk_nil)))) pa_nil)) (pv 7) (nomark _)))))
 (pss_one (ps_ret pe_bl))
 pss_nil)
 (pss_one (ps_if (pt_cmpR op_ne (pe_callB (k_repr K gd hu) (by rfl) T.z_repr (by decide +kernel) (pa_cons (pv 5) pa_nil)) (pv 8) (nomark _))
 (pss_one (ps_ret pe_bl))
 pss_nil)))))))
 (pss_one (ps_ret (pe_and (pe_cmpR op_is_bl (pe_call G_is_lot (hr.mono (by decide)) (by rfl) D_is_lot.g D_is_lot.F.kp D_is_lot.b .nil pass0 (pa_cons (pv 1) (pa_cons pe_int (pa_cons (pe_tup pa_nil) pa_nil)))) pe_bl (nomark _)) (pe_one (pe_cmpR op_is_bl (pe_call G_is_lot (hr.mono (by decide)) (by rfl) D_is_lot.g D_is_lot.F.kp D_is_lot.b .nil pass0 (pa_cons (pv 1) (pa_cons (pe_callB (k_len K) (by rfl) T.z_len (by decide +kernel) (pa_cons (pv 2) pa_nil)) (pa_cons (pv 2) pa_nil)))) pe_bl (nomark _))))))))))), ?_⟩
    -- many
    refine ⟨_, rfl, _, rfl, a, 60, 0, rfl, hP, by decide, by decide, by decide, fun x H1 x0 x1 P1 S1 => ?_⟩
    refine ⟨_, rfl, a, 6, 1, rfl, P1, by decide, by decide, by decide, fun y H1b y0 y1 P1b S1b => ⟨by show 3 ≤ sizeLine; decide, fun L nL => ?_⟩⟩
    have sL := same_upd (o := .lst [.int 59, .int x, .int y]) nL
    refine ⟨a, L, 2, _, rfl, P1b.same sL, SqL.of upd_same, fun e => (P1b.ne nL) e.symm, by simp, by show 3 ≤ 1000; decide, by decide, fun v H2 hv P2 S2 => ?_⟩
    obtain ⟨m, rfl, m0, m1⟩ : ∃ m : Int, v = .int m ∧ 0 ≤ m ∧ m < 60 := by
      rcases List.mem_cons.mp hv with rfl | hv
      · exact ⟨59, rfl, by decide, by decide⟩
      rcases List.mem_cons.mp hv with rfl | hv
      · exact ⟨x, rfl, x0, x1⟩
      rcases List.mem_cons.mp hv with rfl | hv
      · exact ⟨y, rfl, y0, by omega⟩
      · cases hv
    have S2a : SameB a H H2 := S1.trans (S1b.trans ((sameb sL).trans S2))
    refine ⟨_, _, rfl, rfl, ?_⟩
    obtain ⟨n, hn⟩ : ∃ n : Nat, 1 + m = (n : Int) := ⟨(1 + m).toNat, by omega⟩
    have hn1 : 1 ≤ n := by omega
    have hn60 : n ≤ 60 := by omega
    show gName 1 (V.int (1 + m)) _ _ _
    rw [hn]
    clear hv S2 S1 P1 sL nL x0 x1 m0 m1 hn S1b P1b y0 y1
    -- lot
    refine ⟨_, rfl, _, rfl, _, rfl, _, rfl, _, _, rfl, rfl, a, (n : Int) + 1, _, rfl, P2, by omega, by omega, by decide, fun z H3 z0 z1 P3 S3 => ?_⟩
    obtain ⟨k, rfl⟩ : ∃ k : Nat, z = (k : Int) := ⟨z.toNat, by omega⟩
    refine ⟨a, n, k, _, rfl, P3, by omega, hn60, by decide, fun t H4 l P4 S4 nt ht r hl => ?_⟩
    have S4a := S2a.trans (S3.trans S4)
    have P4a : PotAt H4 a 100 := P4.mono (by omega) (by decide)
    have ta : t ≠ a := fun e => by
      obtain ⟨o, z⟩ := P3.some
      rw [e, z] at nt
      cases nt
    clear S3 S4 P3 P4 P2 S2a nt
    have lI : ∀ x ∈ l, x.natAbs < 10 ^ 30 := fun x hx => by
      have z := ris_mem r x hx
      omega
    have lm : (l.map V.int).length = k := by rw [List.length_map]; exact hl
    have hk60 : k ≤ 60 := by omega
    have la4 : Live [a] H4 := all_cons P4a.live all_nil
    have t4 : SqT K (Hm [a] H4) t (l.map V.int) := SqT.of (by rw [hm_ne (by simp [ta])]; exact ht)
    -- things
    refine ⟨_, rfl, Nat.zero_le _, fun e1 n1 => ⟨Nat.zero_le _, fun e2 n2 => ?_⟩⟩
    have s1 := same_upd (o := .tup []) n1
    have s2 := same_upd (o := .lst []) n2
    intro e3 n3
    have s3 := same_upd (o := .dK []) n3
    have S3 := s1.trans (s2.trans s3)
    refine ⟨_, rfl, _, rfl, RgOk.of_le (by omega) (by omega) (by omega) (by omega), fun e4 n4 => ?_⟩
    rw [rgV_hs] at *
    have s4 := same_upd (o := .tup ((hs n).map V.int)) n4
    have S4 := S3.trans s4
    refine ⟨_, rfl, _, _, rfl, rfl, _, rfl, RgOk.of_le (by omega) (by omega) (by omega) (by omega), fun e5 n5 => ?_⟩
    rw [show rgV 0 ((n : Int) + 1) = (hs (n + 1)).map V.int from rgV_hs (n + 1)]
    have s5 := same_upd (o := .tup ((hs (n + 1)).map V.int)) n5
    have S5 := S4.trans s5
    refine ⟨_, rfl, _, rfl, catU (live S5 la4) (seqT (same_hm S5) t4) (seqT (same_hm S5) t4) (by omega) fun e6 H6 s6 c6 => ?_⟩
    have S6 := S5.trans s6
    refine ⟨by show 11 ≤ sizeLine; decide, fun L nL => ?_⟩
    have sL := same_upd (o := .lst [.ref t, .non, .bl true, .int 0, .str (Str.ofString ""), .ref e1, .ref e2, .ref e3, .ref e4, .ref e5, .ref e6]) nL
    have S7 := S6.trans sL
    have LM : L ∉ [a] := (live S6 la4).new nL
    have La : L ≠ a := fun e => LM (by simp [e])
    have nLH : H L = none := by
      cases z : H L with
      | none => rfl
      | some o =>
        rw [(S4a.trans (sameb S6)) _ _ La z] at nL
        cases nL
    have all11 : ∀ x ∈ [V.ref t, .non, .bl true, .int 0, .str (Str.ofString ""), .ref e1, .ref e2, .ref e3, .ref e4, .ref e5, .ref e6], ∃ d, Shows K (Hm [a] H6) x d := by
      refine all_cons (Pr := fun x => ∃ d, Shows K (Hm [a] H6) x d) (shows_row (seqT (same_hm S6) t4) (itm_ints lI) (by omega)) (all_cons (shows_itm itm_non) (all_cons (shows_itm (itm_bl _)) (all_cons (shows_itm (itm_int (by decide))) (all_cons (shows_itm (itm_str (by decide +kernel) (by decide +kernel))) (all_cons ?_ (all_cons ?_ (all_cons ?_ (all_cons ?_ (all_cons ?_ (all_cons (shows_row c6 (all_app (itm_ints lI) (itm_ints lI)) (by rw [List.length_append]; omega)) all_nil))))))))))
      · exact shows_row (seqT (same_hm (s2.trans (s3.trans (s4.trans (s5.trans s6))))) (new_row la4 n1)) all_nil (by decide)
      · exact shows_rowL ((same_hm (s3.trans (s4.trans (s5.trans s6)))).seq (new_rowL (live s1 la4) n2)) all_nil (by decide)
      · refine ⟨.dict [], .inr ⟨e3, rfl, ?_, rfl⟩⟩
        rw [hm_ne ((live (s1.trans s2) la4).new n3)]
        exact (s4.trans (s5.trans s6)) _ _ upd_same
      · exact shows_row (seqT (same_hm (s5.trans s6)) (new_row (live S3 la4) n4)) (itm_ints (hs_small (by omega))) (by rw [List.length_map, hs_len]; omega)
      · exact shows_row (seqT (same_hm s6) (new_row (live S4 la4) n5)) (itm_ints (hs_small (by omega))) (by rw [List.length_map, hs_len]; omega)
    have aL : Live [a, L] (upd H6 L (.lst [.ref t, .non, .bl true, .int 0, .str (Str.ofString ""), .ref e1, .ref e2, .ref e3, .ref e4, .ref e5, .ref e6])) := all_cons (live S7 la4 a (by simp)) (all_cons (by rw [upd_same]; intro z; cases z) all_nil)
    have H6sub : Same (Hm [a] H6) (Hm [a, L] (upd H6 L (.lst [.ref t, .non, .bl true, .int 0, .str (Str.ofString ""), .ref e1, .ref e2, .ref e3, .ref e4, .ref e5, .ref e6]))) := fun b o h => by
      obtain ⟨z1, z2⟩ := hm_some h
      have bL : b ≠ L := ne_of_none z2 nL
      rw [hm_ne (by simp at z1 ⊢; exact ⟨z1, bL⟩), upd_ne bL]
      exact z2
    have all7 := fun x hx => Ex.stays H6sub (all11 x hx)
    have ht7 : (upd H6 L (.lst [.ref t, .non, .bl true, .int 0, .str (Str.ofString ""), .ref e1, .ref e2, .ref e3, .ref e4, .ref e5, .ref e6])) t = some (.tup (l.map V.int)) := S7 _ _ ht
    have P7 := P4a.same S7
    have S7a := S4a.trans (sameb S7)
    have hL7 : (upd H6 L (.lst [.ref t, .non, .bl true, .int 0, .str (Str.ofString ""), .ref e1, .ref e2, .ref e3, .ref e4, .ref e5, .ref e6])) L = some (.lst [.ref t, .non, .bl true, .int 0, .str (Str.ofString ""), .ref e1, .ref e2, .ref e3, .ref e4, .ref e5, .ref e6]) := upd_same
    have tM : t ∉ [a, L] := by
      have z : t ≠ L := ne_of ht7 hL7 (by intro e; cases e)
      simp [ta, z]
    generalize upd H6 L (.lst [.ref t, .non, .bl true, .int 0, .str (Str.ofString ""), .ref e1, .ref e2, .ref e3, .ref e4, .ref e5, .ref e6]) = H7 at all7 ht7 P7 S7a hL7 aL
    clear all11 H6sub S7 sL c6 s6 S5 S6 s5 s4 S4 s3 s2 s1 S3 nL n1 n2 n3 n4 n5 S4a P4a t4 la4 ht
    -- thirty more
    refine ⟨30, rfl, by decide, by decide, for_range (lo := 0) (fun i σ H' => ∃ xs v4 v5 v6 v7 v8, σ = [some (.ref a), some (.int n), some (.ref t), some (.ref L), v4, v5, v6, v7, v8] ∧ SameB a H H' ∧ PotAt H' a (100 + 4 * i) ∧ H' L = some (.lst xs) ∧ H' t = some (.tup (l.map V.int)) ∧ xs.length = 11 + i ∧ ∀ x ∈ xs, ∃ d, Shows K (Hm [a, L] H') x d) ⟨_, _, _, _, _, _, rfl, S7a, P7, hL7, ht7, rfl, all7⟩ ?_ ?_⟩
    · rintro i σ H' hi ⟨xs, v4, v5, v6, v7, v8, rfl, Sm, Pm, hL, htm, xl, hx⟩
      have hi30 : i < 30 := hi
      have lv : Live [a, L] H' := all_cons Pm.live (all_cons (by rw [hL]; intro z; cases z) all_nil)
      refine ⟨_, rfl, .inl ⟨rfl, _, SqL.of hL⟩, _, rfl, _, rfl, _, rfl, a, t, n, _, l, [a, L], rfl, by simp, tM, lv, Pm, htm, r, hn1, hn60, by omega, fun v d H8 P8 S8 sh => ?_⟩
      have hL8 := S8 _ _ La hL
      have ht8 := S8 _ _ ta htm
      refine ⟨L, _, _, rfl, rfl, hL8, ?_, ?_⟩
      · rw [xl]
        exact small1000 (by omega)
      have sub : Same (Hm [a, L] H8) (Hm [a, L] (upd H8 L (.lst (xs ++ [v])))) := fun b o h => by
        obtain ⟨z1, z2⟩ := hm_some h
        have bL : b ≠ L := fun e => z1 (by simp [e])
        rw [hm_ne z1, upd_ne bL]
        exact z2
      refine ⟨xs ++ [v], _, _, _, _, _, rfl, fun b o ne e => ?_, ?_, upd_same, ?_, ?_, ?_⟩
      · by_cases bL : b = L
        · rw [bL, nLH] at e
          cases e
        · rw [upd_ne bL]
          exact S8 _ _ ne (Sm _ _ ne e)
      · obtain ⟨g, s, c, z1, z2, z3, z4, z5, z6, z7⟩ := P8
        exact ⟨g, s, c, by rw [upd_ne La.symm]; exact z1, z2, z3, z4, z5, by omega, by omega⟩
      · rw [upd_ne (fun e => tM (by simp [e]))]
        exact ht8
      · rw [List.length_append, xl]
        rfl
      · exact all_app (fun x hxx => Ex.stays ((S8.hm (by simp)).trans sub) (hx x hxx)) (all_cons ⟨d, sh.stays sub⟩ all_nil)
    · rintro σ H' ⟨xs, v4, v5, v6, v7, v8, rfl, Sm, Pm, hL, htm, xl, hx⟩
      have hxs : ∀ x ∈ xs, ∃ d, Shows K H' x d := fun x hxx => Ex.stays (hm_same _ _) (hx x hxx)
      refine ⟨_, rfl, L, rfl, ⟨_, SqL.of hL⟩, for_list (K := K) (a := L) (xs := xs) (fun i σ H'' => ∃ v4 v5 v6 v7 v8, σ = [some (.ref a), some (.int n), some (.ref t), some (.ref L), v4, v5, v6, v7, v8] ∧ Same H' H'') ⟨_, _, _, _, _, rfl, Same.refl _⟩ (fun i σ H'' _ h => ?_) ?_ ?_⟩
      · obtain ⟨_, _, _, _, _, _, z⟩ := h
        exact SqL.of (z _ _ hL)
      · rintro i x σ H1 hxi ⟨w4, w5, w6, w7, w8, rfl, Sa⟩
        obtain ⟨d, sh⟩ := hxs x (List.mem_of_getElem? hxi)
        have tT := SqT.of (K := K) (Sa _ _ htm)
        refine ⟨_, rfl, t, _, rfl, .inr tT, _, rfl, t, _, rfl, .inr tT, _, _, rfl, rfl, _, _, rfl, _, rfl, _, rfl, t, _, rfl, .inr tT, _, _, rfl, rfl, _, _, rfl, by show 3 ≤ sizeLine; decide, fun W nW => ?_⟩
        rw [lm]
        generalize hws : ([V.int (k : Int), V.int (if ((k : Int) - 1) > 0 then (k : Int) - 1 else 0), V.int (if ((k : Int) + 1) < (n : Int) then (k : Int) + 1 else n)] : List V) = ws
        have hwi : ∀ y ∈ ws, ∃ j : Int, y = .int j := by
          rw [← hws]
          exact all_cons (Pr := fun y => ∃ j : Int, y = V.int j) ⟨_, rfl⟩ (all_cons ⟨_, rfl⟩ (all_cons ⟨_, rfl⟩ all_nil))
        have sW := same_upd (o := .lst ws) nW
        have Sb := Sa.trans sW
        have hW : (upd H1 W (.lst ws)) W = some (.lst ws) := upd_same
        generalize upd H1 W (.lst ws) = H2 at Sb hW
        refine ⟨W, rfl, ⟨_, SqL.of hW⟩, for_list (K := K) (a := W) (xs := ws) (fun i σ H'' => ∃ v6 v7 v8, σ = [some (.ref a), some (.int n), some (.ref t), some (.ref L), w4, some x, v6, v7, v8] ∧ H'' = H2) ⟨_, _, _, rfl, rfl⟩ (fun i σ H'' _ h => ?_) ?_ ?_⟩
        · obtain ⟨_, _, _, _, rfl⟩ := h
          exact SqL.of hW
        · rintro j y σ H3 hyj ⟨u6, u7, u8, rfl, rfl⟩
          obtain ⟨jw, rfl⟩ := hwi y (List.mem_of_getElem? hyj)
          have shx := sh.stays Sb
          refine ⟨_, rfl, _, rfl, _, rfl, n, jw, x, d, rfl, shx, _, _, rfl, shows_bl _, _, rfl, x, d, rfl, shx, _, _, rfl, ?_⟩
          refine ⟨_, rfl, _, rfl, _, rfl, n, jw, x, d, rfl, shx, _, _, rfl, shows_bl _, _, rfl, rfl, _, rfl, iteNS rfl ?_⟩
          refine ⟨_, rfl, _, rfl, _, rfl, n, jw, x, d, rfl, shx, _, _, rfl, shows_bl _, _, rfl, rfl, _, rfl, iteNS rfl ?_⟩
          refine ⟨_, rfl, x, d, rfl, shx, _, rfl, rfl, _, rfl, iteNS rfl ?_⟩
          exact ⟨_, _, _, rfl, rfl⟩
        · rintro σ H3 ⟨u6, u7, u8, rfl, rfl⟩
          exact ⟨_, _, _, _, _, rfl, Sb⟩
      · rintro σ H1 ⟨w4, w5, w6, w7, w8, rfl, Sa⟩
        have tT := SqT.of (K := K) (Sa _ _ htm)
        refine ⟨_, rfl, Nat.zero_le _, fun e ne => ?_⟩
        have se := same_upd (o := .tup []) ne
        refine ⟨n, 0, .ref e, .tuple [], rfl, shows_small (.tup (SqT.of upd_same) .nil) (small_tuple (n := 1) (m := 1) all_nil) (by decide) (by decide), _, _, rfl, rfl, _, rfl, ?_⟩
        rw [show lotD (n : Int) 0 (.tuple []) = true from rfl]
        refine iteT ?_
        have dl : Shows K (upd H1 e (.tup [])) (.ref t) (.tuple (intsD l)) := by
          refine shows_small (.tup (SqT.of (se _ _ (Sa _ _ htm))) (dp_ints l)) (small_tuple (n := 60) (m := 1) fun d hd => ?_) ?_ (by decide)
          · obtain ⟨i, hi, rfl⟩ := List.mem_map.mp hd
            exact small_int (Nat.lt_of_lt_of_le (lI i hi) (by decide +kernel))
          · have : (intsD l).length = k := by
              show (l.map PyData.int).length = k
              rw [List.length_map]
              exact hl
            rw [this]
            have : k * (60 + 2) ≤ 60 * 62 := Nat.mul_le_mul_right _ hk60
            omega
        refine ⟨_, rfl, _, rfl, t, _, rfl, .inr (SqT.of (se _ _ (Sa _ _ htm))), _, rfl, n, _, .ref t, _, rfl, dl, _, _, rfl, rfl, ?_⟩
        have e1 : lotD (n : Int) ((l.map V.int).length : Int) (.tuple (intsD l)) = true := by
          show (decide (((intsD l).length : Int) = ((l.map V.int).length : Int)) && lotDs n 0 (intsD l)) = true
          rw [lotDs_ris l 0 r, decide_eq_true (by show (((l.map PyData.int).length : Nat) : Int) = _; rw [List.length_map, List.length_map])]
          rfl
        rw [e1]
        exact q _ (Sm.trans (sameb (Sa.trans se)))

/-! ### the law -/
def spLaw (K : PySem.W.Frag) : Sp := fun vs H Q _ => ∃ (a : Addr) (ns : List Int), vs = [.ref a] ∧ SqL K H a (ns.map V.int) ∧ ns.length ≤ 63 ∧ ∀ H', Q (.bl true) H'
theorem ok_law {f : Addr} {fd : FuncData} (F : Fun K "law" "law" s_law f fd) (T : Txt K mg) : FnG P w K mg base CX0 5 f fd ["_law_script"] (spLaw K) := by
  obtain ⟨fP, fdP, D_pot⟩ := T.d_pot
  have G_pot : FnOk P w K mg base CX0 1 fP fdP _ _ := ok_pot D_pot.F T
  obtain ⟨fR, fdR, D_right⟩ := T.d_right
  have G_right : FnG P w K mg base CX0 4 fR fdR _ _ := ok_right D_right.F T
  refine FnG.by0 F sc_law (fun vs H Q E h => ?_) (fun cdv A outer s H vs Q E hr gd h => ?_)
  · obtain ⟨a, ns, rfl, _⟩ := h
    rfl
  · obtain ⟨a, ns, rfl, hS, hlen, q⟩ := h
    refine ⟨_, (pss_one (ps_ret (pe_callB (k_all K rfl) (by rfl) T.z_all (by decide +kernel) (pa_cons (pe_lc (own := [("_law_k", 1)]) (g := gName 1) (tt := tYes) rfl sc_law.nd (pi_range1 (by rfl) T.z_range (pa_cons (pe_callB (call_max2 rfl) (by rfl) T.z_max (by decide +kernel) (pa_cons pe_int (pa_cons (pe_callB (call_min2 rfl) (by rfl) T.z_min (by decide +kernel) (pa_cons (pe_callB (k_len K) (by rfl) T.z_len (by decide +kernel) (pa_cons (pv 0) pa_nil)) (pa_cons pe_int pa_nil))) pa_nil))) pa_nil)) (blkOk_by (own := [("_law_k", 1)]) (N := ["_law_script", "_law_k"]) (sc := defScope s_law) (by decide +kernel)) (fun _ _ _ _ _ => pg_name (i := 1) sc_law.nd rfl (Or.inl rfl)) (fun _ _ _ _ _ => pts_nil) (fun _ _ _ _ _ => (pg_call G_right (hr.mono (by decide)) gd (by rfl) D_right.g D_right.F.kp D_right.b pass0 (pa_cons (pe_call G_pot (hr.mono (by decide)) (by rfl) D_pot.g D_pot.F.kp D_pot.b .nil pass0 (pa_cons (pv 0) (pa_cons (pv 1) pa_nil))) pa_nil)))) pa_nil)))), ?_⟩
    refine ⟨_, rfl, a, _, rfl, .inl hS, _, _, rfl, _, _, rfl, _, rfl, ?_, ?_, fun D nD => lc_range (lo := 0) (fun i H' => Same H H' ∧ H' D = some (.lst ((List.replicate i true).map V.bl))) ⟨same_upd nD, upd_same⟩ ?_ ?_⟩
    · repeat' split
      all_goals omega
    · repeat' split
      all_goals omega
    · rintro i H' hi ⟨sm, hD⟩
      have hi3 : i < 4 := by
        revert hi
        repeat' split
        all_goals omega
      refine ⟨rfl, lcT ?_⟩
      refine ⟨_, rfl, _, rfl, a, _, ns, rfl, sm.seq hS, by omega, by omega, fun p H2 np s2 P2 => ?_⟩
      refine ⟨p, rfl, P2, fun H3 s3 => ?_⟩
      have Dp' : D ≠ p := ne_of_none hD np
      have hD3 := s3 _ _ Dp' (s2 _ _ hD)
      refine ⟨_, hD3, ?_, fun x o e => ?_, ?_⟩
      · rw [List.length_map, List.length_replicate]
        exact small1000 (by omega)
      · rw [upd_ne (ne_of_none e nD)]
        exact s3 _ _ (ne_of_none (sm _ _ e) np) (s2 _ _ (sm _ _ e))
      · rw [upd_same, List.replicate_succ', List.map_append]
        rfl
    · rintro H' ⟨sm, hD⟩
      refine ⟨D, _, rfl, SqL.of hD, ?_⟩
      have e : ∀ n, ((List.replicate n true).all id) = true := fun n => by simp
      rw [e]
      exact q _

end
theorem all_mk {l : PySem.W.OpenLaw} {w : World} {K : PySem.W.Frag} {h : Heap} {mg : Str → Option Value} {fa f0 f1 f2 f3 f4 f5 f6 f7 f8 f9 f10 : Addr} (X : K.In h) (G : h.Ns mainGlobals mg) (hfa : mg "law" = some (.ref fa))
    {od0 an0 : Option Addr} {sl0 : Array (Option Value)} {oc0 kV0 dc0 pm0 cd0 ct0 : Value}
    (a0 : PySem.W.nsIn K mainGlobals "is_whole" = some (some (.ref f0))) (l0 : K.lookup f0 = some ⟨oc0, od0, .func (PySem.W.fnOf "is_whole" "is_whole" (defArgs s_is_whole) (defBody s_is_whole) (defScope s_is_whole) .none kV0 dc0 pm0 an0 cd0 ct0), sl0⟩) (c0 : PySem.W.codeIn K cd0 "is_whole" = true) (k0 : PySem.W.keepIn K (.ref f0) = true)
    {od1 an1 : Option Addr} {sl1 : Array (Option Value)} {oc1 kV1 dc1 pm1 cd1 ct1 : Value}
    (a1 : PySem.W.nsIn K mainGlobals "is_below" = some (some (.ref f1))) (l1 : K.lookup f1 = some ⟨oc1, od1, .func (PySem.W.fnOf "is_below" "is_below" (defArgs s_is_below) (defBody s_is_below) (defScope s_is_below) .none kV1 dc1 pm1 an1 cd1 ct1), sl1⟩) (c1 : PySem.W.codeIn K cd1 "is_below" = true) (k1 : PySem.W.keepIn K (.ref f1) = true)
    {od2 an2 : Option Addr} {sl2 : Array (Option Value)} {oc2 kV2 dc2 pm2 cd2 ct2 : Value}
    (a2 : PySem.W.nsIn K mainGlobals "is_lot" = some (some (.ref f2))) (l2 : K.lookup f2 = some ⟨oc2, od2, .func (PySem.W.fnOf "is_lot" "is_lot" (defArgs s_is_lot) (defBody s_is_lot) (defScope s_is_lot) .none kV2 dc2 pm2 an2 cd2 ct2), sl2⟩) (c2 : PySem.W.codeIn K cd2 "is_lot" = true) (k2 : PySem.W.keepIn K (.ref f2) = true)
    {od3 an3 : Option Addr} {sl3 : Array (Option Value)} {oc3 kV3 dc3 pm3 cd3 ct3 : Value}
    (a3 : PySem.W.nsIn K mainGlobals "_law_pot" = some (some (.ref f3))) (l3 : K.lookup f3 = some ⟨oc3, od3, .func (PySem.W.fnOf "_law_pot" "_law_pot" (defArgs s__law_pot) (defBody s__law_pot) (defScope s__law_pot) .none kV3 dc3 pm3 an3 cd3 ct3), sl3⟩) (c3 : PySem.W.codeIn K cd3 "_law_pot" = true) (k3 : PySem.W.keepIn K (.ref f3) = true)
    {od4 an4 : Option Addr} {sl4 : Array (Option Value)} {oc4 kV4 dc4 pm4 cd4 ct4 : Value}
    (a4 : PySem.W.nsIn K mainGlobals "_law_take" = some (some (.ref f4))) (l4 : K.lookup f4 = some ⟨oc4, od4, .func (PySem.W.fnOf "_law_take" "_law_take" (defArgs s__law_take) (defBody s__law_take) (defScope s__law_take) .none kV4 dc4 pm4 an4 cd4 ct4), sl4⟩) (c4 : PySem.W.codeIn K cd4 "_law_take" = true) (k4 : PySem.W.keepIn K (.ref f4) = true)
    {od5 an5 : Option Addr} {sl5 : Array (Option Value)} {oc5 kV5 dc5 pm5 cd5 ct5 : Value}
    (a5 : PySem.W.nsIn K mainGlobals "_law_pick" = some (some (.ref f5))) (l5 : K.lookup f5 = some ⟨oc5, od5, .func (PySem.W.fnOf "_law_pick" "_law_pick" (defArgs s__law_pick) (defBody s__law_pick) (defScope s__law_pick) .none kV5 dc5 pm5 an5 cd5 ct5), sl5⟩) (c5 : PySem.W.codeIn K cd5 "_law_pick" = true) (k5 : PySem.W.keepIn K (.ref f5) = true)
    {od6 an6 : Option Addr} {sl6 : Array (Option Value)} {oc6 kV6 dc6 pm6 cd6 ct6 : Value}
    (a6 : PySem.W.nsIn K mainGlobals "_law_some_lot" = some (some (.ref f6))) (l6 : K.lookup f6 = some ⟨oc6, od6, .func (PySem.W.fnOf "_law_some_lot" "_law_some_lot" (defArgs s__law_some_lot) (defBody s__law_some_lot) (defScope s__law_some_lot) .none kV6 dc6 pm6 an6 cd6 ct6), sl6⟩) (c6 : PySem.W.codeIn K cd6 "_law_some_lot" = true) (k6 : PySem.W.keepIn K (.ref f6) = true)
    {od7 an7 : Option Addr} {sl7 : Array (Option Value)} {oc7 kV7 dc7 pm7 cd7 ct7 : Value}
    (a7 : PySem.W.nsIn K mainGlobals "_law_due" = some (some (.ref f7))) (l7 : K.lookup f7 = some ⟨oc7, od7, .func (PySem.W.fnOf "_law_due" "_law_due" (defArgs s__law_due) (defBody s__law_due) (defScope s__law_due) .none kV7 dc7 pm7 an7 cd7 ct7), sl7⟩) (c7 : PySem.W.codeIn K cd7 "_law_due" = true) (k7 : PySem.W.keepIn K (.ref f7) = true)
    {od8 an8 : Option Addr} {sl8 : Array (Option Value)} {oc8 kV8 dc8 pm8 cd8 ct8 : Value}
    (a8 : PySem.W.nsIn K mainGlobals "_law_bent" = some (some (.ref f8))) (l8 : K.lookup f8 = some ⟨oc8, od8, .func (PySem.W.fnOf "_law_bent" "_law_bent" (defArgs s__law_bent) (defBody s__law_bent) (defScope s__law_bent) .none kV8 dc8 pm8 an8 cd8 ct8), sl8⟩) (c8 : PySem.W.codeIn K cd8 "_law_bent" = true) (k8 : PySem.W.keepIn K (.ref f8) = true)
    {od9 an9 : Option Addr} {sl9 : Array (Option Value)} {oc9 kV9 dc9 pm9 cd9 ct9 : Value}
    (a9 : PySem.W.nsIn K mainGlobals "_law_right" = some (some (.ref f9))) (l9 : K.lookup f9 = some ⟨oc9, od9, .func (PySem.W.fnOf "_law_right" "_law_right" (defArgs s__law_right) (defBody s__law_right) (defScope s__law_right) .none kV9 dc9 pm9 an9 cd9 ct9), sl9⟩) (c9 : PySem.W.codeIn K cd9 "_law_right" = true) (k9 : PySem.W.keepIn K (.ref f9) = true)
    {od10 an10 : Option Addr} {sl10 : Array (Option Value)} {oc10 kV10 dc10 pm10 cd10 ct10 : Value}
    (a10 : PySem.W.nsIn K mainGlobals "law" = some (some (.ref f10))) (l10 : K.lookup f10 = some ⟨oc10, od10, .func (PySem.W.fnOf "law" "law" (defArgs s_law) (defBody s_law) (defScope s_law) .none kV10 dc10 pm10 an10 cd10 ct10), sl10⟩) (c10 : PySem.W.codeIn K cd10 "law" = true) (k10 : PySem.W.keepIn K (.ref f10) = true)
    (z_abs : PySem.W.nsIn K mainGlobals "abs" = some none)
    (z_all : PySem.W.nsIn K mainGlobals "all" = some none)
    (z_bool : PySem.W.nsIn K mainGlobals "bool" = some none)
    (z_int : PySem.W.nsIn K mainGlobals "int" = some none)
    (z_isinstance : PySem.W.nsIn K mainGlobals "isinstance" = some none)
    (z_len : PySem.W.nsIn K mainGlobals "len" = some none)
    (z_list : PySem.W.nsIn K mainGlobals "list" = some none)
    (z_max : PySem.W.nsIn K mainGlobals "max" = some none)
    (z_min : PySem.W.nsIn K mainGlobals "min" = some none)
    (z_range : PySem.W.nsIn K mainGlobals "range" = some none)
    (z_repr : PySem.W.nsIn K mainGlobals "repr" = some none)
    (z_sorted : PySem.W.nsIn K mainGlobals "sorted" = some none)
    (z_tuple : PySem.W.nsIn K mainGlobals "tuple" = some none) :
    ∃ fd : FuncData, (∀ (s : Shared) (v : Value), BindsTo s fd ⟨[v], []⟩ [("_law_script", v)]) ∧ ∀ base : Heap, K.In base → base.Ns mainGlobals mg → FnG l.prog w K mg base CX0 5 fa fd ["_law_script"] (spLaw K) := by
  have e := hfa.symm.trans (PySem.W.mg_of X G a10)
  cases e
  have T : Txt K mg := ⟨⟨_, _, ⟨fun_mk (st := s_is_whole) l0 c0 k0, PySem.W.mg_of X G a0, (fun_mk (st := s_is_whole) l0 c0 k0).binds (ps := ["thing"]) fun _ _ _ _ _ _ us hl => match us, hl with | [_], _ => rfl⟩⟩, ⟨_, _, ⟨fun_mk (st := s_is_below) l1 c1 k1, PySem.W.mg_of X G a1, (fun_mk (st := s_is_below) l1 c1 k1).binds (ps := ["bound", "thing"]) fun _ _ _ _ _ _ us hl => match us, hl with | [_, _], _ => rfl⟩⟩, ⟨_, _, ⟨fun_mk (st := s_is_lot) l2 c2 k2, PySem.W.mg_of X G a2, (fun_mk (st := s_is_lot) l2 c2 k2).binds (ps := ["hands", "size", "thing"]) fun _ _ _ _ _ _ us hl => match us, hl with | [_, _, _], _ => rfl⟩⟩, ⟨_, _, ⟨fun_mk (st := s__law_pot) l3 c3 k3, PySem.W.mg_of X G a3, (fun_mk (st := s__law_pot) l3 c3 k3).binds (ps := ["_law_script", "_law_k"]) fun _ _ _ _ _ _ us hl => match us, hl with | [_, _], _ => rfl⟩⟩, ⟨_, _, ⟨fun_mk (st := s__law_take) l4 c4 k4, PySem.W.mg_of X G a4, (fun_mk (st := s__law_take) l4 c4 k4).binds (ps := ["_law_pot_here", "_law_room"]) fun _ _ _ _ _ _ us hl => match us, hl with | [_, _], _ => rfl⟩⟩, ⟨_, _, ⟨fun_mk (st := s__law_pick) l5 c5 k5, PySem.W.mg_of X G a5, (fun_mk (st := s__law_pick) l5 c5 k5).binds (ps := ["_law_pot_here", "_law_some"]) fun _ _ _ _ _ _ us hl => match us, hl with | [_, _], _ => rfl⟩⟩, ⟨_, _, ⟨fun_mk (st := s__law_some_lot) l6 c6 k6, PySem.W.mg_of X G a6, (fun_mk (st := s__law_some_lot) l6 c6 k6).binds (ps := ["_law_pot_here", "_law_many", "_law_room"]) fun _ _ _ _ _ _ us hl => match us, hl with | [_, _, _], _ => rfl⟩⟩, ⟨_, _, ⟨fun_mk (st := s__law_due) l7 c7 k7, PySem.W.mg_of X G a7, (fun_mk (st := s__law_due) l7 c7 k7).binds (ps := ["_law_many", "_law_wide", "_law_thing_here"]) fun _ _ _ _ _ _ us hl => match us, hl with | [_, _, _], _ => rfl⟩⟩, ⟨_, _, ⟨fun_mk (st := s__law_bent) l8 c8 k8, PySem.W.mg_of X G a8, (fun_mk (st := s__law_bent) l8 c8 k8).binds (ps := ["_law_pot_here", "_law_many", "_law_lot"]) fun _ _ _ _ _ _ us hl => match us, hl with | [_, _, _], _ => rfl⟩⟩, ⟨_, _, ⟨fun_mk (st := s__law_right) l9 c9 k9, PySem.W.mg_of X G a9, (fun_mk (st := s__law_right) l9 c9 k9).binds (ps := ["_law_pot_here"]) fun _ _ _ _ _ _ us hl => match us, hl with | [_], _ => rfl⟩⟩, PySem.W.mg_none_of X G z_abs, PySem.W.mg_none_of X G z_all, PySem.W.mg_none_of X G z_bool, PySem.W.mg_none_of X G z_int, PySem.W.mg_none_of X G z_isinstance, PySem.W.mg_none_of X G z_len, PySem.W.mg_none_of X G z_list, PySem.W.mg_none_of X G z_max, PySem.W.mg_none_of X G z_min, PySem.W.mg_none_of X G z_range, PySem.W.mg_none_of X G z_repr, PySem.W.mg_none_of X G z_sorted, PySem.W.mg_none_of X G z_tuple⟩
  exact ⟨PySem.W.fnOf "law" "law" (defArgs s_law) (defBody s_law) (defScope s_law) .none kV10 dc10 pm10 an10 cd10 ct10, fun s v => .of_eq rfl, fun base _ _ => ok_law (fun_mk (st := s_law) l10 c10 k10) T⟩
end My
open PySem PySem.W PyProof.Rows
set_option maxRecDepth 100000 in
set_option maxHeartbeats 0 in
theorem PySem.Challenge.cw_lackcry_k02_lots_of_anything_holds : PySem.Challenge.rw_lackcry_k02_lots_of_anything.Holds := by
  w_on; o_law; k_head; (case hw => w_witness2)
  k_fill
  refine My.walkG (l := PySem.Challenge.rw_lackcry_k02_lots_of_anything) (n := 63) (k := 5) (x := "_law_script") (sp := fun w => My.spLaw _) rfl (by decide) rfl ⟨rfl, by decide, by decide⟩ (fun w h Y => PySem.W.kIn_of Y) ?F (fun _ _ a ns hl hS => ⟨a, ns, rfl, hS, hl, fun _ => rfl⟩)
  case F =>
    intro w mg fa h KX G hmg
    refine' My.all_mk KX G hmg ?a0 ?l0 ?c0 ?k0 ?a1 ?l1 ?c1 ?k1 ?a2 ?l2 ?c2 ?k2 ?a3 ?l3 ?c3 ?k3 ?a4 ?l4 ?c4 ?k4 ?a5 ?l5 ?c5 ?k5 ?a6 ?l6 ?c6 ?k6 ?a7 ?l7 ?c7 ?k7 ?a8 ?l8 ?c8 ?k8 ?a9 ?l9 ?c9 ?k9 ?a10 ?l10 ?c10 ?k10 ?z_abs ?z_all ?z_bool ?z_int ?z_isinstance ?z_len ?z_list ?z_max ?z_min ?z_range ?z_repr ?z_sorted ?z_tuple
    (case a0 => k_is); (case l0 => k_is); (case c0 => k_is); (case k0 => k_is); (case a1 => k_is); (case l1 => k_is); (case c1 => k_is); (case k1 => k_is); (case a2 => k_is); (case l2 => k_is); (case c2 => k_is); (case k2 => k_is); (case a3 => k_is); (case l3 => k_is); (case c3 => k_is); (case k3 => k_is); (case a4 => k_is); (case l4 => k_is); (case c4 => k_is); (case k4 => k_is); (case a5 => k_is); (case l5 => k_is); (case c5 => k_is); (case k5 => k_is); (case a6 => k_is); (case l6 => k_is); (case c6 => k_is); (case k6 => k_is); (case a7 => k_is); (case l7 => k_is); (case c7 => k_is); (case k7 => k_is); (case a8 => k_is); (case l8 => k_is); (case c8 => k_is); (case k8 => k_is); (case a9 => k_is); (case l9 => k_is); (case c9 => k_is); (case k9 => k_is); (case a10 => k_is); (case l10 => k_is); (case c10 => k_is); (case k10 => k_is); (case z_abs => k_is); (case z_all => k_is); (case z_bool => k_is); (case z_int => k_is); (case z_isinstance => k_is); (case z_len => k_is); (case z_list => k_is); (case z_max => k_is); (case z_min => k_is); (case z_range => k_is); (case z_repr => k_is); (case z_sorted => k_is); (case z_tuple => k_is)
