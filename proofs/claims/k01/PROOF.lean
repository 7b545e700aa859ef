import PyProof.Rows.All
import Wide.All
import OpenK.AllK
import Wide.FinOn
import HandS.ForMost
import HandS.Wide
import HandS.IsInst
import HandS.SortInts
import HandS.TupAny
import PySem.Challenge.RW_lackcry_k01_choose_as_rows_of_sums
set_option Elab.async false
set_option linter.all false
set_option maxRecDepth 100000
set_option maxHeartbeats 4000000
namespace My
open PySem PySem.Spec PyProof.Rows L2
/-! ### a def of the top, as callers use it -/
structure DefAt (K : PySem.W.Frag) (mg : Str → Option Value) (x : Str) (st : Stmt) (ps : List Str) (f : Addr) (fd : FuncData) : Prop where
  F : Fun K x x st f fd
  g : mg x = some (.ref f)
  b : Binds K fd ps []
section
variable {X : Cx} {CX : CXT} {k : Nat} {f : Addr} {fd : FuncData} {ps ks : List Str} {sp : Sp} {E : XK} {x : Str} {p pos : Pos} {kws : List Keyword} {tk : TA} {g : List Value → List Value → List Value} {gV : List V → List V → List V}
/-- f(k = v, ..), nothing by position -/
theorem pe_callK0 (F : FnOk X.prog X.w X.K X.mg X.base CX k f fd ps sp) (hr : Room k X.A) (hg : Gl X x) (hm : X.mg x = some (.ref f)) (hk : PySem.W.keepIn X.K (.ref f) = true) (hb : KBinds X.K fd ps ks g gV) (hx : Passes CX X E)
    (hkw : PK X kws tk) (hall : (backToKw pos (keywordEach kws X.env)).all (·.1.isSome) = true := by rfl) (hks : (backToKw pos (keywordEach kws X.env)).filterMap (·.1) = ks := by rfl)
    (hdb : (x == ("__debug__" : Str)) = false := by decide)
    (hpl : ((backTo pos (starEach [] X.env)).any (·.1) || (backToKw pos (keywordEach kws X.env)).any (·.1.isNone)) = false := by rfl) :
    PE X (.Call (.Name x p) [] kws pos) (tCallK sp gV E tNil tk) := by
  refine ⟨fun pins s σ H Q I h => ?_⟩
  refine wpAny_Call_Name_kw (ld_glob I hg hm ?_ hdb)
  refine PySem.W.callWith_KW0 (h₀ := X.base) I.ok.mod.kin hk hall (thn (hkw.run pos pins s σ H _ I h) fun ws s2 ⟨zs, H2, I2, rz, q2⟩ => ⟨I2.kIn, ?_⟩) hpl
  rw [hks]
  exact run_fnk (us := []) (vs := []) F hr hb hx I2 .nil rz q2
/-- a power of a great base -/
def CPowW (i j : Int) : Prop := 0 ≤ j ∧ (Builtin.Int.intBits i : Int) * j ≤ 2 ^ 27
theorem op_powW : OpR X (binaryOp .Pow) (rI CPowW fun i j => .int (i ^ j.toNat)) := opI fun _ _ _ _ _ _ _ hc q => pow_int hc.1 hc.2 q
end
/-! ### the rules that read K, with K named (within a comprehension the reading may not lean on the block) -/
section
variable {X : Cx} (K : PySem.W.Frag)
theorem k_ixL (h : X.K = K := by rfl) : IxR X (rIxL K) := h ▸ ix_list
theorem k_ixT (h : X.K = K := by rfl) : IxR X (rIxT K) := h ▸ ix_tup
def rLenS (K : PySem.W.Frag) : List V → Hp → VK → Prop := fun xs H Q => ∃ p ys, xs = [.ref p] ∧ (SqL K H p ys ∨ SqT K H p ys) ∧ Q (.int ys.length) H
theorem k_len (h : X.K = K := by rfl) : CallR X (.builtin "len") (rLenS K) := h ▸ call_len_seq
theorem k_in (h : X.K = K := by rfl) : OpR X (compareOp .In) (rIn K false) := h ▸ op_in_seq
theorem k_notIn (h : X.K = K := by rfl) : OpR X (compareOp .NotIn) (rIn K true) := h ▸ op_notIn_seq
theorem k_eqD (hu : X.A.units + 64 < cLine) (h : X.K = K := by rfl) : OpR X (compareOp .Eq) (rEqD K) := h ▸ op_eqD hu
theorem k_neD (hu : X.A.units + 64 < cLine) (h : X.K = K := by rfl) : OpR X (compareOp .NotEq) (rNeD K) := h ▸ op_neD hu
theorem k_catA (h : X.K = K := by rfl) : OpR X (binaryOp .Add) (rCatA K) := h ▸ op_catA
theorem k_sum (hc : X.calm = true) (h : X.K = K := by rfl) : CallR X (.builtin "sum") (rSum K) := h ▸ cr_sum hc
theorem k_all (hc : X.calm = true) (h : X.K = K := by rfl) : CallR X (.builtin "all") (rAll K) := h ▸ cr_all hc
theorem k_any (hc : X.calm = true) (h : X.K = K := by rfl) : CallR X (.builtin "any") (rAny K) := h ▸ cr_any hc
theorem k_sorted (h : X.K = K := by rfl) : CallR X (.builtin "sorted") (rSortedI K) := h ▸ cr_sortedI
def rTupOf (K : PySem.W.Frag) : List V → Hp → VK → Prop := fun xs H Q => ∃ p ys, xs = [.ref p] ∧ ((SqL K H p ys ∧ ∀ l, H l = none → Q (.ref l) (upd H l (.tup ys))) ∨ (SqT K H p ys ∧ Q (.ref p) H))
theorem k_tuple (h : X.K = K := by rfl) : CallR X (.type "tuple") (rTupOf K) := h ▸ call_tuple_of
def rLstOf (K : PySem.W.Frag) : List V → Hp → VK → Prop := fun xs H Q => ∃ p ys, xs = [.ref p] ∧ (SqL K H p ys ∨ SqT K H p ys) ∧ ∀ l, H l = none → Q (.ref l) (upd H l (.lst ys))
theorem k_list (h : X.K = K := by rfl) : CallR X (.type "list") (rLstOf K) := h ▸ call_list_of
theorem k_slL (h : X.K = K := by rfl) : SlR X (rSlL K) := h ▸ sl_list
theorem k_slT (h : X.K = K := by rfl) : SlR X (rSlA K) := h ▸ sl_tupA
theorem k_isi (h : X.K = K := by rfl) : CallR X (.builtin "isinstance") (rIsi K) := h ▸ call_isi
theorem k_ltT (hu : X.A.units < cLine) (h : X.K = K := by rfl) : OpR X (compareOp .Lt) (rLtT K) := h ▸ op_ltT hu
end
/-! ### heaps -/
theorem same_upd {H : Hp} {p : Addr} {o : HO} (h : H p = none) : Same H (upd H p o) := fun b x e => by
  rw [upd_ne (ne_of_none e h)]
  exact e
/-- all that was tracked but at a is as it was -/
def SameB (a : Addr) (H H' : Hp) : Prop := ∀ b o, b ≠ a → H b = some o → H' b = some o
theorem SameB.refl (a : Addr) (H : Hp) : SameB a H H := fun _ _ _ h => h
theorem SameB.trans {a : Addr} {H H1 H2 : Hp} (x : SameB a H H1) (y : SameB a H1 H2) : SameB a H H2 := fun b o n h => y b o n (x b o n h)
theorem SameB.upd {a : Addr} {H : Hp} {o : HO} : SameB a H (L2.upd H a o) := fun b _ n h => by
  rw [upd_ne n]
  exact h
theorem sameb {a : Addr} {H H' : Hp} (e : Same H H') : SameB a H H' := fun b o _ h => e b o h
theorem SameB.seq {K : PySem.W.Frag} {a l : Addr} {H H' : Hp} {xs : List V} (e : SameB a H H') (n : l ≠ a) (h : SqL K H l xs) : SqL K H' l xs := by
  rcases h with (h | ⟨o, h⟩) | h
  · exact .inl (.inl (e _ _ n h))
  · exact .inl (.inr ⟨o, e _ _ n h⟩)
  · exact .inr h
/-! ### the law's pot: three ints in a list -/
def PotAt (H : Hp) (a : Addr) (b : Nat) : Prop := ∃ g s c : Int, H a = some (.lst [.int g, .int s, .int c]) ∧ 0 ≤ g ∧ 0 ≤ s ∧ s < 2 ^ 61 ∧ 0 ≤ c ∧ c ≤ b ∧ b ≤ 1000000
theorem PotAt.same {H H' : Hp} {a : Addr} {b : Nat} (h : PotAt H a b) (e : Same H H') : PotAt H' a b := by
  obtain ⟨g, s, c, h1, h2⟩ := h
  exact ⟨g, s, c, e _ _ h1, h2⟩
theorem PotAt.ne {H : Hp} {a b : Addr} {n : Nat} (h : PotAt H a n) (q : H b = none) : a ≠ b := by
  obtain ⟨_, _, _, h1, _⟩ := h
  exact ne_of_none h1 q
/-! ### rows of ints as data -/
def intsD (ns : List Int) : List PyData := ns.map PyData.int
theorem dp_ints {K : PySem.W.Frag} {H : Hp} : ∀ ns : List Int, DpAll K H (ns.map V.int) (intsD ns)
  | [] => .nil
  | n :: ns => .cons (.int n) (dp_ints ns)
theorem ints_lay : ∀ ns : List Int, PyData.canLayAll0 (intsD ns) = true
  | [] => by simp [intsD, PyData.canLayAll0]
  | n :: ns => by
    have h := ints_lay ns
    simp only [intsD, List.map_cons, PyData.canLayAll0, PyData.canLay0] at h ⊢
    simpa using h
theorem ints_depth : ∀ ns : List Int, PyData.depthAll (intsD ns) ≤ 2
  | [] => by simp [intsD, PyData.depthAll]
  | n :: ns => by
    have h := ints_depth ns
    simp only [intsD, List.map_cons, PyData.depthAll, PyData.depth] at h ⊢
    omega
theorem ints_shaped (ns : List Int) : SeqAt.shaped (.list (intsD ns)) = true := by
  have h1 := ints_depth ns
  have h2 : PyData.depth (.list (intsD ns)) ≤ 64 := by
    simp only [PyData.depth]
    omega
  show (PyData.canLay0 (.list (intsD ns)) && decide (PyData.depth (.list (intsD ns)) ≤ 64)) = true
  rw [Bool.and_eq_true]
  exact ⟨by simp only [PyData.canLay0]; exact ints_lay ns, decide_eq_true h2⟩
theorem intsT_shaped (ns : List Int) : SeqAt.shaped (.tuple (intsD ns)) = true := by
  have h1 := ints_depth ns
  have h2 : PyData.depth (.tuple (intsD ns)) ≤ 64 := by
    simp only [PyData.depth]
    omega
  show (PyData.canLay0 (.tuple (intsD ns)) && decide (PyData.depth (.tuple (intsD ns)) ≤ 64)) = true
  rw [Bool.and_eq_true]
  exact ⟨by simp only [PyData.canLay0]; exact ints_lay ns, decide_eq_true h2⟩
theorem eqv_self {d : PyData} (h : SeqAt.shaped d = true) : PyData.eqv d d = true := SeqAt.eqv_refl d (SeqAt.canLay_of_shaped h)
theorem atI_neg1 {α : Type} {xs : List α} {v : α} (h : xs[xs.length - 1]? = some v) : atI xs (-1) = some v := by
  have hl : 0 < xs.length := by
    cases xs with
    | nil => simp at h
    | cons _ _ => simp
  unfold atI ixN
  rw [if_neg (by decide), if_pos (by omega)]
  show xs[(-1 + (xs.length : Int)).toNat]? = some v
  rw [show (-1 + (xs.length : Int)).toNat = xs.length - 1 by omega]
  exact h
theorem map_int_get {ns : List Int} {i : Nat} {y : V} (h : (ns.map V.int)[i]? = some y) : ∃ u, ns[i]? = some u ∧ y = .int u := by
  rw [List.getElem?_map] at h
  cases e : ns[i]? with
  | none =>
    rw [e] at h
    cases h
  | some u =>
    rw [e] at h
    exact ⟨u, rfl, (Option.some.inj h).symm⟩
theorem range_map_succ {α : Type} (f : Nat → α) (i : Nat) : (List.range (i + 1)).map f = (List.range i).map f ++ [f i] := by
  rw [List.range_succ, List.map_append]
  rfl
theorem lcT {A B : Hp → Prop} {σ : L2.St} {H : Hp} (h : A H) : tYes σ H (fun b H3 => if b = true then A H3 else B H3) := by
  show (if (true = true) then A H else B H)
  rw [if_pos rfl]
  exact h
theorem row_get {l : List Int} {i : Nat} (h : i < l.length) : (l.map V.int)[i]? = some (.int (l.getD i 0)) := by
  rw [List.getElem?_map, List.getElem?_eq_getElem h, List.getD_eq_getElem?_getD, List.getElem?_eq_getElem h]
  rfl
theorem flat_rep (n : Nat) : (List.replicate n [V.int 0]).flatten = (List.replicate n (0 : Int)).map V.int := by
  induction n with
  | zero => rfl
  | succ n ih =>
    rw [List.replicate_succ, List.flatten_cons, ih, List.replicate_succ, List.map_cons]
    rfl
def topS (i : Nat) : Stmt := PySem.Challenge.pw_lackcry_k01_choose_as_rows_of_sums.main.body.getD i (.Pass ⟨0, 0, 0, 0⟩)
abbrev s_choose : Stmt := topS 1
theorem sc_choose : FnScope ["n", "k", "many", "step"] ["n", "k"] (defScope s_choose) := ⟨rfl, rfl, rfl, by decide +kernel, rfl, by decide +kernel, by decide +kernel⟩
abbrev s__law_pot : Stmt := topS 3
theorem sc__law_pot : FnScope ["_law_script", "_law_j", "_law_cell", "_law_great"] ["_law_script", "_law_j"] (defScope s__law_pot) := ⟨rfl, rfl, rfl, by decide +kernel, rfl, by decide +kernel, by decide +kernel⟩
abbrev s__law_take : Stmt := topS 4
theorem sc__law_take : FnScope ["_law_pot_here", "_law_size", "_law_digit", "_law_low", "_law_high", "_law_mixed", "_law_last"] ["_law_pot_here", "_law_size"] (defScope s__law_take) := ⟨rfl, rfl, rfl, by decide +kernel, rfl, by decide +kernel, by decide +kernel⟩
abbrev s__law_rows : Stmt := topS 5
theorem sc__law_rows : FnScope ["_law_rows_here", "_law_last", "_law_j"] [] (defScope s__law_rows) := ⟨rfl, rfl, rfl, by decide +kernel, rfl, by decide +kernel, by decide +kernel⟩
abbrev s__law_right : Stmt := topS 6
theorem sc__law_right : FnScope ["_law_pot_here", "_law_rows_here", "_law_turn", "_law_wide", "_law_few", "_law_due"] ["_law_pot_here"] (defScope s__law_right) := ⟨rfl, rfl, rfl, by decide +kernel, rfl, by decide +kernel, by decide +kernel⟩
abbrev s_law : Stmt := topS 7
theorem sc_law : FnScope ["_law_script", "_law_j"] ["_law_script"] (defScope s_law) := ⟨rfl, rfl, rfl, by decide +kernel, rfl, by decide +kernel, by decide +kernel⟩
structure Txt (K : PySem.W.Frag) (mg : Str → Option Value) : Prop where
  d_choose : ∃ f fd, DefAt K mg "choose" s_choose ["n", "k"] f fd
  d_pot : ∃ f fd, DefAt K mg "_law_pot" s__law_pot ["_law_script", "_law_j"] f fd
  d_take : ∃ f fd, DefAt K mg "_law_take" s__law_take ["_law_pot_here", "_law_size"] f fd
  d_rows : ∃ f fd, DefAt K mg "_law_rows" s__law_rows [] f fd
  d_right : ∃ f fd, DefAt K mg "_law_right" s__law_right ["_law_pot_here"] f fd
  z_abs : mg "abs" = none
  z_all : mg "all" = none
  z_bool : mg "bool" = none
  z_isinstance : mg "isinstance" = none
  z_len : mg "len" = none
  z_max : mg "max" = none
  z_min : mg "min" = none
  z_range : mg "range" = none
section
variable {P : Program} {w : World} {K : PySem.W.Frag} {mg : Str → Option Value} {base : Heap}
/-! ### choose -/
def chF (n : Int) : Nat → Int
  | 0 => 1
  | i + 1 => chF n i * (n - i) / ((i : Int) + 1)
def chs (n k : Int) : Int := if k < 0 then 0 else if k > n then 0 else chF n (if n - k < k then n - k else k).toNat
def spChoose : Sp := fun vs H Q _ => ∃ n k : Int, vs = [.int n, .int k] ∧ n ≤ 1000 ∧ Q (.int (chs n k)) H
theorem ok_choose {f : Addr} {fd : FuncData} (F : Fun K "choose" "choose" s_choose f fd) (T : Txt K mg) : FnOk P w K mg base CX0 1 f fd ["n", "k"] spChoose := by
  refine F.ok sc_choose (fun vs H Q E h => ?_) (fun cdv A outer s H vs Q E hr h => ?_)
  · obtain ⟨n, k, rfl, _⟩ := h
    rfl
  · obtain ⟨n, k, rfl, hn, q⟩ := h
    refine ⟨_, (pss_cons (ps_if (PW.pt (pw_or (pt_cmpR op_lt (pv 1) pe_int (nomark _)) (pw_or1 (pt_cmpR op_gt (pv 1) (pv 0) (nomark _)))))
 (pss_one (ps_ret pe_int))
 pss_nil)
 (pss_cons (ps_set (i := 2) sc_choose.nd rfl (by first | exact Or.inl rfl | exact Or.inr rfl) pe_int)
 (pss_cons (ps_for PassesOwn.never rfl (pi_range1 (by rfl) T.z_range (pa_cons (pe_callB (call_min2 rfl) (by rfl) T.z_min (by decide +kernel) (pa_cons (pv 1) (pa_cons (pe_op op_sub (pv 0) (pv 1)) pa_nil))) pa_nil)) (pg_name (i := 3) sc_choose.nd rfl (by first | exact Or.inl rfl | exact Or.inr rfl))
 (pss_one (ps_set (i := 2) sc_choose.nd rfl (by first | exact Or.inl rfl | exact Or.inr rfl) (pe_op op_fdiv (pe_op op_mul (pv 2) (pe_op op_sub (pv 0) (pv 3))) (pe_op op_add (pv 3) pe_int)))))
 (pss_one (ps_ret (pv 2)))))), ?_⟩
    refine ⟨_, rfl, _, _, rfl, rfl, _, rfl, ite2 (fun e => ?_) (fun e => ?_)⟩
    · have e0 : k < 0 := of_decide_eq_true e
      refine iteT ?_
      have z : chs n k = 0 := by
        unfold chs
        rw [if_pos e0]
      rw [z] at q
      exact q
    · have e0 : ¬ k < 0 := fun z => e (decide_eq_true z)
      refine ⟨_, rfl, _, rfl, _, _, rfl, rfl, _, rfl, ite2 (fun e2 => ?_) (fun e2 => ?_)⟩
      · have e1 : k > n := of_decide_eq_true e2
        have z : chs n k = 0 := by
          unfold chs
          rw [if_neg e0, if_pos e1]
        rw [z] at q
        exact q
      · have e1 : ¬ k > n := fun z => e2 (decide_eq_true z)
        have z : chs n k = chF n (if n - k < k then n - k else k).toNat := by
          unfold chs
          rw [if_neg e0, if_neg e1]
        rw [z] at q
        refine ⟨_, rfl, _, rfl, _, rfl, _, _, rfl, rfl, _, _, rfl, _, rfl, ?_, ?_, for_range (lo := 0) (fun i σ H' => ∃ v, σ = [some (.int n), some (.int k), some (.int (chF n i)), v] ∧ H' = H) ⟨none, rfl, rfl⟩ ?_ ?_⟩
        · split <;> omega
        · split <;> omega
        · rintro i σ H' hi ⟨v, rfl, rfl⟩
          have hin : (i : Int) < n := by
            split at hi <;> omega
          refine ⟨_, rfl, _, rfl, _, rfl, _, _, rfl, rfl, _, _, rfl, rfl, .inr ⟨?_, ?_⟩, _, rfl, _, _, rfl, rfl, _, _, rfl, rfl, ⟨?_, ?_⟩, some (.int (0 + (i : Int))), ?_, rfl⟩
          · omega
          · omega
          · omega
          · omega
          · show _ = [some (V.int n), some (V.int k), some (V.int (chF n i * (n - (i : Int)) / ((i : Int) + 1))), some (V.int (0 + (i : Int)))]
            rw [Int.zero_add]
            rfl
        · rintro σ H' ⟨v, rfl, rfl⟩
          exact ⟨_, rfl, q⟩

/-! ### the law's draws -/
def spTake : Sp := fun vs H Q _ => ∃ (a : Addr) (n : Int) (b : Nat), vs = [.ref a, .int n] ∧ PotAt H a b ∧ 0 < n ∧ n < 2 ^ 64 ∧ b < 1000000 ∧
  ∀ v H', 0 ≤ v → v < n → PotAt H' a (b + 1) → SameB a H H' → Q (.int v) H'
theorem ok_take {f : Addr} {fd : FuncData} (F : Fun K "_law_take" "_law_take" s__law_take f fd) (T : Txt K mg) : FnOk P w K mg base CX0 1 f fd ["_law_pot_here", "_law_size"] spTake := by
  refine F.ok sc__law_take (fun vs H Q E h => ?_) (fun cdv A outer s H vs Q E hr h => ?_)
  · obtain ⟨a, n, b, rfl, _⟩ := h
    rfl
  · obtain ⟨a, n, b, rfl, ⟨g, s, c, h0, hg, hs, hs2, hc, hcb, hb⟩, hn, hn2, hb2, q⟩ := h
    have hL := SqL.of (K := K) h0
    refine ⟨_, (pss_cons (ps_if (pt_cmpR op_gt (pe_ix (k_ixL K) (pv 0) pe_int (fun _ _ => rfl)) pe_int (nomark _))
 (pss_cons (ps_set (i := 2) sc__law_take.nd rfl (by first | exact Or.inl rfl | exact Or.inr rfl) (pe_op op_mod (pe_ix (k_ixL K) (pv 0) pe_int (fun _ _ => rfl)) (pv 1)))
 (pss_cons (ps_asg (pe_op op_fdivW (pe_ix (k_ixL K) (pv 0) pe_int (fun _ _ => rfl)) (pv 1)) (pg_sub (pv 0) pe_int set_list))
 (pss_one (ps_ret (pv 2)))))
 pss_nil)
 (pss_cons (ps_asg (pe_op op_add (pe_ix (k_ixL K) (pv 0) pe_int (fun _ _ => rfl)) pe_int) (pg_sub (pv 0) pe_int set_list))
 (pss_cons (ps_set (i := 3) sc__law_take.nd rfl (by first | exact Or.inl rfl | exact Or.inr rfl) (pe_op op_add (pe_ix (k_ixL K) (pv 0) pe_int (fun _ _ => rfl)) (pe_op op_mulW pe_int (pe_ix (k_ixL K) (pv 0) pe_int (fun _ _ => rfl)))))
 (pss_cons (ps_set (i := 4) sc__law_take.nd rfl (by first | exact Or.inl rfl | exact Or.inr rfl) (pe_op op_add (pe_op op_add (pe_op op_mod (pe_ix (k_ixL K) (pv 0) pe_int (fun _ _ => rfl)) pe_int) (pe_op op_mulW pe_int (pe_ix (k_ixL K) (pv 0) pe_int (fun _ _ => rfl)))) pe_int))
 (pss_cons (ps_set (i := 5) sc__law_take.nd rfl (by first | exact Or.inl rfl | exact Or.inr rfl) (pe_op op_mod (pe_op op_mulW (pv 3) (pv 4)) pe_int))
 (pss_cons (ps_set (i := 6) sc__law_take.nd rfl (by first | exact Or.inl rfl | exact Or.inr rfl) (pe_op op_add (pe_op op_add (pe_op op_mod (pv 5) pe_int) (pe_op op_mulW pe_int (pe_ix (k_ixL K) (pv 0) pe_int (fun _ _ => rfl)))) pe_int))
 (pss_one (ps_ret (pe_op op_mod (pe_op op_fdivW (pe_op op_mod (pe_op op_mulW (pe_op op_add (pv 5) pe_int) (pv 6)) pe_int) pe_int) (pv 1)))))))))), ?_⟩
    refine ⟨_, rfl, a, _, 0, .int g, rfl, rfl, hL, atI_nat (j := 0) rfl, _, _, rfl, rfl, _, rfl, ite2 (fun e => ?_) (fun e => ?_)⟩
    · refine ⟨_, rfl, a, _, 0, .int g, rfl, rfl, hL, atI_nat (j := 0) rfl, _, rfl, _, _, rfl, rfl, hn, ?_⟩
      refine ⟨_, rfl, a, _, 0, .int g, rfl, rfl, hL, atI_nat (j := 0) rfl, _, rfl, _, _, rfl, rfl, wide_div (b := 64) hn (by omega) (by decide) (by decide), ?_⟩
      refine ⟨_, rfl, a, _, 0, 0, rfl, rfl, h0, rfl, ?_⟩
      refine ⟨_, rfl, q _ _ (Int.emod_nonneg _ (by omega)) (Int.emod_lt_of_pos _ hn) ?_ SameB.upd⟩
      exact ⟨g / n, s, c, upd_same, Int.ediv_nonneg hg (by omega), hs, hs2, hc, by omega, by omega⟩
    · refine ⟨_, rfl, a, _, 2, .int c, rfl, rfl, hL, atI_nat (j := 2) rfl, _, _, rfl, rfl, ?_⟩
      refine ⟨_, rfl, a, _, 2, 2, rfl, rfl, h0, rfl, ?_⟩
      have h1 : (upd H a (.lst [.int g, .int s, .int (c + 1)])) a = some (.lst [.int g, .int s, .int (c + 1)]) := upd_same
      have hM := SqL.of (K := K) h1
      refine ⟨_, rfl, a, _, 1, .int s, rfl, rfl, hM, atI_nat (j := 1) rfl, _, rfl, a, _, 2, .int (c + 1), rfl, rfl, hM, atI_nat (j := 2) rfl, _, _, rfl, rfl, wide_mul (a := 24) (b := 21) (by decide) (by omega) (by decide) (by decide) (by decide), _, _, rfl, rfl, ?_⟩
      refine ⟨_, rfl, a, _, 1, .int s, rfl, rfl, hM, atI_nat (j := 1) rfl, _, _, rfl, rfl, (by show (0 : Int) < 7919; decide), _, rfl, a, _, 2, .int (c + 1), rfl, rfl, hM, atI_nat (j := 2) rfl, _, _, rfl, rfl, wide_mul (a := 25) (b := 21) (by decide) (by omega) (by decide) (by decide) (by decide), _, _, rfl, rfl, _, _, rfl, rfl, ?_⟩
      refine ⟨_, rfl, _, rfl, _, _, rfl, rfl, wide_mul (a := 62) (b := 47) (by omega) (by omega) (by decide) (by decide) (by decide), _, _, rfl, rfl, (by show (0 : Int) < 2305843009213693951; decide), ?_⟩
      generalize hm : (s + 15485863 * (c + 1)) * (s % 7919 + 32452867 * (c + 1) + 17) % 2305843009213693951 = m
      have m0 : 0 ≤ m := by
        rw [← hm]
        exact Int.emod_nonneg _ (by decide)
      have m1 : m < 2305843009213693951 := by
        rw [← hm]
        exact Int.emod_lt_of_pos _ (by decide)
      refine ⟨_, rfl, _, _, rfl, rfl, (by show (0 : Int) < 1000003; decide), _, rfl, a, _, 2, .int (c + 1), rfl, rfl, hM, atI_nat (j := 2) rfl, _, _, rfl, rfl, wide_mul (a := 24) (b := 21) (by decide) (by omega) (by decide) (by decide) (by decide), _, _, rfl, rfl, _, _, rfl, rfl, ?_⟩
      refine ⟨_, rfl, _, _, rfl, rfl, _, rfl, _, _, rfl, rfl, wide_mul (a := 62) (b := 47) (by omega) (by omega) (by decide) (by decide) (by decide), _, _, rfl, rfl, (by show (0 : Int) < 2305843009213693907; decide), _, _, rfl, rfl, wide_div (b := 64) (by decide) (by decide) (by decide) (by decide), _, rfl, _, _, rfl, rfl, hn, ?_⟩
      refine q _ _ (Int.emod_nonneg _ (by omega)) (Int.emod_lt_of_pos _ hn) ?_ SameB.upd
      exact ⟨g, s, c + 1, h1, hg, hs, hs2, by omega, by omega, by omega⟩

/-! ### the pot made -/
theorem pw_pos : (0 : Int) < ((10 : Int) ^ (60 : Int).toNat) ^ (4 : Int).toNat := by decide +kernel
theorem pw_ok : CPowW ((10 : Int) ^ (60 : Int).toNat) 4 := by
  refine ⟨by decide, ?_⟩
  decide +kernel
def spPot (K : PySem.W.Frag) : Sp := fun vs H Q _ => ∃ (a : Addr) (j : Int) (ns : List Int), vs = [.ref a, .int j] ∧ SqL K H a (ns.map V.int) ∧ 0 ≤ j ∧ j ≤ 1000 ∧
  ∀ p H', H p = none → Same H H' → PotAt H' p 0 → Q (.ref p) H'
theorem pot_fin {H : Hp} {p : Addr} {g s : Int} (hg : 0 ≤ g) : PotAt (upd H p (.lst [.int g, .int (s % 2305843009213693921), .int 0])) p 0 :=
  ⟨g, _, 0, upd_same, hg, Int.emod_nonneg _ (by decide), Int.lt_of_lt_of_le (Int.emod_lt_of_pos _ (by decide)) (by decide), by decide, by decide, by decide⟩
theorem ok_pot {f : Addr} {fd : FuncData} (F : Fun K "_law_pot" "_law_pot" s__law_pot f fd) (T : Txt K mg) : FnOk P w K mg base CX0 1 f fd ["_law_script", "_law_j"] (spPot K) := by
  refine F.ok sc__law_pot (fun vs H Q E h => ?_) (fun cdv A outer s H vs Q E hr h => ?_)
  · obtain ⟨a, j, ns, rfl, _⟩ := h
    rfl
  · obtain ⟨a, j, ns, rfl, hS, hj, hj2, q⟩ := h
    refine ⟨_, (pss_cons (ps_set (i := 2) sc__law_pot.nd rfl (by first | exact Or.inl rfl | exact Or.inr rfl) (pe_ifExp (pt_cmpR op_lt (pv 1) (pe_callB (k_len K) (by rfl) T.z_len (by decide +kernel) (pa_cons (pv 0) pa_nil)) (nomark _)) (pe_ix (k_ixL K) (pv 0) (pv 1) (fun _ _ => rfl)) pe_int))
 (pss_cons (ps_set (i := 3) sc__law_pot.nd rfl (by first | exact Or.inl rfl | exact Or.inr rfl) (pe_ifExp (pt_cmpR op_ge (pe_callB call_abs (by rfl) T.z_abs (by decide +kernel) (pa_cons (pv 2) pa_nil)) (pe_op op_pow pe_int pe_int) (nomark _)) (pe_op op_mod (pe_callB call_abs (by rfl) T.z_abs (by decide +kernel) (pa_cons (pv 2) pa_nil)) (pe_op op_powW (pe_op op_pow pe_int pe_int) pe_int)) pe_int))
 (pss_one (ps_ret (pe_lst (pa_cons (pv 3) (pa_cons (pe_op op_mod (pe_op op_add (pe_op op_add (pe_op op_mulW (pe_op op_mod (pv 2) pe_int) pe_int) (pe_op op_mulW (pe_op op_mulW pe_int (pv 1)) (pv 1))) pe_int) pe_int) (pa_cons pe_int pa_nil)))))))), ?_⟩
    refine ⟨_, rfl, _, rfl, a, _, rfl, .inl hS, _, _, rfl, rfl, _, rfl, ?_⟩
    refine ite2 (fun e => ?_) (fun e => ?_)
    · have hl : j < ((ns.map V.int).length : Int) := of_decide_eq_true e
      rw [List.length_map] at hl
      obtain ⟨m, rfl⟩ : ∃ m : Nat, j = (m : Int) := ⟨j.toNat, by omega⟩
      have hm : m < ns.length := by omega
      have g1 : (ns.map V.int)[m]? = some (.int ns[m]) := by
        rw [List.getElem?_map, List.getElem?_eq_getElem hm]
        rfl
      refine ⟨_, rfl, _, rfl, a, _, (m : Int), .int ns[m], rfl, rfl, hS, atI_nat g1, ?_⟩
      generalize ns[m] = c
      refine ⟨_, rfl, _, rfl, _, _, rfl, rfl, ⟨by decide, by decide, by decide⟩, _, _, rfl, rfl, _, rfl, ite2 (fun e2 => ?_) (fun e2 => ?_)⟩
      · refine ⟨_, rfl, _, rfl, _, _, rfl, rfl, ⟨by decide, by decide, by decide⟩, _, _, rfl, rfl, pw_ok, _, _, rfl, rfl, pw_pos, ?_⟩
        refine ⟨_, rfl, _, rfl, _, _, rfl, rfl, (by show (0 : Int) < 2305843009213693951; decide), _, _, rfl, rfl, wide_mul (a := 64) (b := 21) (by omega) (by decide) (by decide) (by decide) (by decide), _, rfl, _, _, rfl, rfl, wide_mul (a := 21) (b := 21) (by decide) (by omega) (by decide) (by decide) (by decide), _, rfl, _, _, rfl, rfl, wide_mul (a := 64) (b := 21) (by omega) (by omega) (by decide) (by decide) (by decide), _, _, rfl, rfl, _, _, rfl, rfl, _, _, rfl, rfl, (by show (0 : Int) < 2305843009213693921; decide), (by show 3 ≤ sizeLine; decide), fun p hp => q p _ hp (same_upd hp) (pot_fin (Int.emod_nonneg _ (Int.ne_of_gt pw_pos)))⟩
      · refine ⟨_, rfl, _, rfl, _, _, rfl, rfl, (by show (0 : Int) < 2305843009213693951; decide), _, _, rfl, rfl, wide_mul (a := 64) (b := 21) (by omega) (by decide) (by decide) (by decide) (by decide), _, rfl, _, _, rfl, rfl, wide_mul (a := 21) (b := 21) (by decide) (by omega) (by decide) (by decide) (by decide), _, rfl, _, _, rfl, rfl, wide_mul (a := 64) (b := 21) (by omega) (by omega) (by decide) (by decide) (by decide), _, _, rfl, rfl, _, _, rfl, rfl, _, _, rfl, rfl, (by show (0 : Int) < 2305843009213693921; decide), (by show 3 ≤ sizeLine; decide), fun p hp => q p _ hp (same_upd hp) (pot_fin (Int.le_refl 0))⟩
    · refine ⟨_, rfl, _, rfl, _, _, rfl, rfl, ⟨by decide, by decide, by decide⟩, _, _, rfl, rfl, _, rfl, ite2 (fun e2 => ?_) (fun e2 => ?_)⟩
      · exact absurd e2 (by decide)
      · refine ⟨_, rfl, _, rfl, _, _, rfl, rfl, (by show (0 : Int) < 2305843009213693951; decide), _, _, rfl, rfl, wide_mul (a := 64) (b := 21) (by omega) (by decide) (by decide) (by decide) (by decide), _, rfl, _, _, rfl, rfl, wide_mul (a := 21) (b := 21) (by decide) (by omega) (by decide) (by decide) (by decide), _, rfl, _, _, rfl, rfl, wide_mul (a := 64) (b := 21) (by omega) (by omega) (by decide) (by decide) (by decide), _, _, rfl, rfl, _, _, rfl, rfl, _, _, rfl, rfl, (by show (0 : Int) < 2305843009213693921; decide), (by show 3 ≤ sizeLine; decide), fun p hp => q p _ hp (same_upd hp) (pot_fin (Int.le_refl 0))⟩

/-! ### the law's own rows -/
def nxt (l : List Int) : List Int := [1] ++ (List.range (l.length - 1)).map (fun j => l.getD j 0 + l.getD (j + 1) 0) ++ [1]
def prow : Nat → List Int
  | 0 => [1]
  | i + 1 => nxt (prow i)
theorem prow_len : ∀ i, (prow i).length = i + 1
  | 0 => rfl
  | i + 1 => by
    show (nxt (prow i)).length = i + 1 + 1
    unfold nxt
    rw [List.length_append, List.length_append, List.length_map, List.length_range, prow_len i]
    show 1 + (i + 1 - 1) + 1 = i + 1 + 1
    omega
def RowsAt (H0 H : Hp) (p : Addr) (n : Nat) : Prop := H0 p = none ∧ ∃ rs : List Addr, H p = some (.lst (rs.map V.ref)) ∧ rs.length = n ∧ ∀ i q, rs[i]? = some q → q ≠ p ∧ H0 q = none ∧ H q = some (.lst ((prow i).map V.int))
def spRows : Sp := fun vs H Q _ => vs = [] ∧ ∀ p H', Same H H' → RowsAt H H' p 61 → Q (.ref p) H'
theorem ok_rows {f : Addr} {fd : FuncData} (F : Fun K "_law_rows" "_law_rows" s__law_rows f fd) (T : Txt K mg) : FnOk P w K mg base CX0 1 f fd [] spRows := by
  refine F.ok sc__law_rows (fun vs H Q E h => ?_) (fun cdv A outer s H vs Q E hr h => ?_)
  · obtain ⟨rfl, _⟩ := h
    rfl
  · obtain ⟨rfl, q⟩ := h
    refine ⟨_, (pss_cons (ps_set (i := 0) sc__law_rows.nd rfl (by first | exact Or.inl rfl | exact Or.inr rfl) (pe_lst (pa_cons (pe_lst (pa_cons pe_int pa_nil)) pa_nil)))
 (pss_cons (ps_while PassesOwn.never (pt_cmpR op_lt (pe_callB (k_len K) (by rfl) T.z_len (by decide +kernel) (pa_cons (pv 0) pa_nil)) pe_int (nomark _))
 (pss_cons (ps_set (i := 1) sc__law_rows.nd rfl (by first | exact Or.inl rfl | exact Or.inr rfl) (pe_ix (k_ixL K) (pv 0) (pe_un un_neg pe_int) (fun _ _ => rfl)))
 (pss_one (ps_expr (pe_bm PySem.F.plainAttrs_list PySem.F.slot_list_append PySem.F.type_list_append mt_append (pv 0) (pa_cons (pe_op op_cat (pe_op op_cat (pe_lst (pa_cons pe_int pa_nil)) (pe_lc (own := [("_law_j", 2)]) (g := gName 2) (tt := tYes) rfl sc__law_rows.nd (pi_range1 (by rfl) T.z_range (pa_cons (pe_op op_sub (pe_callB (k_len K) (by rfl) T.z_len (by decide +kernel) (pa_cons (pv 1) pa_nil)) pe_int) pa_nil)) (blkOk_by (own := [("_law_j", 2)]) (N := ["_law_rows_here", "_law_last", "_law_j"]) (sc := defScope s__law_rows) (by decide +kernel)) (fun _ _ _ _ _ => pg_name (i := 2) sc__law_rows.nd rfl (Or.inl rfl)) (fun _ _ _ _ _ => pts_nil) (fun _ _ _ _ _ => (pe_op op_add (pe_ix (k_ixL K) (pv 1) (pv 2) (fun _ _ => rfl)) (pe_ix (k_ixL K) (pv 1) (pe_op op_add (pv 2) pe_int) (fun _ _ => rfl)))))) (pe_lst (pa_cons pe_int pa_nil))) pa_nil))))))
 (pss_one (ps_ret (pv 0))))), ?_⟩
    refine ⟨by show 1 ≤ sizeLine; decide, fun r nr => ⟨by show 1 ≤ sizeLine; decide, fun p np => ?_⟩⟩
    have hpr : p ≠ r := fun e => by
      rw [e, upd_same] at np
      cases np
    have np0 : H p = none := by
      rw [upd_ne hpr] at np
      exact np
    refine ⟨fun m σ H' => ∃ (n : Nat) (y1 y2 : Option V), σ = [some (.ref p), y1, y2] ∧ Same H H' ∧ RowsAt H H' p n ∧ 1 ≤ n ∧ n + m = 61, ⟨60, 1, none, none, rfl, ?_, ⟨np0, [r], upd_same, rfl, ?_⟩, by decide, by decide⟩, ?_⟩
    · exact (same_upd nr).trans (same_upd np)
    · intro i q hq
      match i, hq with
      | 0, hq =>
        cases hq
        refine ⟨hpr.symm, nr, ?_⟩
        rw [upd_ne hpr.symm, upd_same]
        rfl
    · rintro m σ H1 ⟨n, y1, y2, rfl, sm, ⟨_, rs, hp, hn, hrs⟩, n1, hm⟩
      have hlen : (rs.map V.ref).length = n := by
        rw [List.length_map]
        exact hn
      refine ⟨_, rfl, p, _, rfl, .inl (SqL.of hp), _, _, rfl, rfl, _, rfl, ite2 (fun e => ?_) (fun e => ?_)⟩
      · have hlt : n < 61 := by
          have z : ((rs.map V.ref).length : Int) < 61 := of_decide_eq_true e
          rw [hlen] at z
          omega
        refine ⟨fun σ' H' => ∃ (y1 y2 : Option V), σ' = [some (.ref p), y1, y2] ∧ Same H H' ∧ RowsAt H H' p (n + 1), fun σ' H' ⟨z1, z2, e1, e2, e3⟩ => ⟨m - 1, by omega, n + 1, z1, z2, e1, e2, e3, by omega, by omega⟩, ?_⟩
        obtain ⟨q0, hq0⟩ : ∃ q0, rs[n - 1]? = some q0 := ⟨rs[n - 1], List.getElem?_eq_getElem (by omega)⟩
        obtain ⟨qp, qn, hq⟩ := hrs _ _ hq0
        have hlast : atI (rs.map V.ref) (-1) = some (.ref q0) := by
          apply atI_neg1
          rw [hlen, List.getElem?_map, hq0]
          rfl
        -- last = rows[-1]
        refine ⟨_, rfl, 1, rfl, p, _, -1, _, rfl, rfl, SqL.of hp, hlast, ?_⟩
        -- rows.append(..)
        refine ⟨_, rfl, .inl ⟨rfl, _, SqL.of hp⟩, ?_⟩
        refine ⟨by show 1 ≤ sizeLine; decide, fun a na => ?_⟩
        have qa : q0 ≠ a := ne_of_none hq na
        have hqa : (upd H1 a (.lst [.int 1])) q0 = some (.lst ((prow (n - 1)).map V.int)) := by
          rw [upd_ne qa]
          exact hq
        have hl : ((prow (n - 1)).map V.int).length = n := by
          rw [List.length_map, prow_len]
          omega
        refine ⟨_, rfl, q0, _, rfl, .inl (SqL.of hqa), _, _, rfl, rfl, _, rfl, by omega, by omega, fun D nD => lc_range (lo := 0) (fun i H' => H' = upd (upd H1 a (.lst [.int 1])) D (.lst (((List.range i).map (fun j => (prow (n - 1)).getD j 0 + (prow (n - 1)).getD (j + 1) 0)).map V.int))) rfl ?_ ?_⟩
        · rintro i H' hi rfl
          have hi2 : i + 1 < n := by omega
          have sD := same_upd (o := .lst (((List.range i).map (fun j => (prow (n - 1)).getD j 0 + (prow (n - 1)).getD (j + 1) 0)).map V.int)) nD
          have hqD := sD _ _ hqa
          have pl := prow_len (n - 1)
          have g1 : ((prow (n - 1)).map V.int)[i]? = some (.int ((prow (n - 1)).getD i 0)) := row_get (by omega)
          have g2 : ((prow (n - 1)).map V.int)[i + 1]? = some (.int ((prow (n - 1)).getD (i + 1) 0)) := row_get (by omega)
          rw [show (0 : Int) + (i : Int) = (i : Int) by omega]
          refine ⟨rfl, lcT ?_⟩
          refine ⟨_, rfl, _, rfl, q0, _, _, _, rfl, rfl, SqL.of hqD, atI_nat g1, _, rfl, _, rfl, _, _, rfl, rfl, q0, _, ((i + 1 : Nat) : Int), _, rfl, rfl, SqL.of hqD, atI_nat g2, _, _, rfl, rfl, _, upd_same, ?_, ?_⟩
          · rw [List.length_map, List.length_map, List.length_range]
            exact small1000 (by omega)
          · rw [upd_upd, range_map_succ, List.map_append]
            rfl
        · rintro H' rfl
          rw [show (((prow (n - 1)).map V.int).length - 1 : Int).toNat = (prow (n - 1)).length - 1 by rw [List.length_map]; omega]
          generalize hmid : (List.range ((prow (n - 1)).length - 1)).map (fun j => (prow (n - 1)).getD j 0 + (prow (n - 1)).getD (j + 1) 0) = mid
          have hml : mid.length = n - 1 := by
            rw [← hmid, List.length_map, List.length_range, prow_len]
            omega
          have hnew : prow n = [1] ++ mid ++ [1] := by
            rw [← hmid]
            obtain ⟨n', rfl⟩ : ∃ n', n = n' + 1 := ⟨n - 1, by omega⟩
            rfl
          have sa := same_upd (o := .lst [.int 1]) na
          have sD := same_upd (o := .lst (mid.map V.int)) nD
          refine ⟨a, D, _, _, rfl, rfl, sD _ _ upd_same, upd_same, ?_, fun b nb => ?_⟩
          · rw [List.length_map, hml]
            show 1 + (n - 1) ≤ sizeLine
            exact Nat.le_of_lt (small1000 (by omega))
          have sb := same_upd (o := .lst ([.int 1] ++ mid.map V.int)) nb
          refine ⟨by show 1 ≤ sizeLine; decide, fun c nc => ?_⟩
          have sc := same_upd (o := .lst [.int 1]) nc
          refine ⟨b, c, _, _, rfl, rfl, sc _ _ upd_same, upd_same, ?_, fun d nd => ?_⟩
          · show ([V.int 1] ++ mid.map V.int).length + 1 ≤ sizeLine
            rw [List.length_append, List.length_map, hml]
            show 1 + (n - 1) + 1 ≤ sizeLine
            exact Nat.le_of_lt (small1000 (by omega))
          have sd := same_upd (o := .lst ([.int 1] ++ mid.map V.int ++ [.int 1])) nd
          have S := sa.trans (sD.trans (sb.trans (sc.trans sd)))
          have hp5 := S _ _ hp
          have nd1 : H1 d = none := sa.free (sD.free (sb.free (sc.free nd)))
          have dp : d ≠ p := fun e => by
            rw [e, hp] at nd1
            cases nd1
          refine ⟨p, _, _, rfl, rfl, hp5, ?_, ?_⟩
          · rw [hlen]
            exact small1000 (by omega)
          refine ⟨_, _, rfl, fun x o e => ?_, np0, rs ++ [d], ?_, ?_, ?_⟩
          · rw [upd_ne (ne_of_none e np0)]
            exact S _ _ (sm _ _ e)
          · rw [upd_same, List.map_append]
            rfl
          · rw [List.length_append, hn]
            rfl
          · intro i q hz
            by_cases hi : i < rs.length
            · rw [List.getElem?_append_left hi] at hz
              obtain ⟨h1, h2, h3⟩ := hrs _ _ hz
              refine ⟨h1, h2, ?_⟩
              rw [upd_ne h1]
              exact S _ _ h3
            · have ei : i = n := by
                have z := (List.getElem?_eq_some_iff.mp hz).1
                rw [List.length_append] at z
                have z2 : i < rs.length + 1 := z
                omega
              subst ei
              rw [List.getElem?_append_right (by omega), hn, Nat.sub_self] at hz
              have eq : d = q := Option.some.inj hz
              subst eq
              refine ⟨dp, sm.free nd1, ?_⟩
              rw [upd_ne dp, upd_same, hnew, List.map_append, List.map_append]
              rfl
      · have h61 : n = 61 := by
          have z : ¬ ((rs.map V.ref).length : Int) < 61 := fun z => e (decide_eq_true z)
          rw [hlen] at z
          omega
        subst h61
        exact ⟨_, rfl, q _ _ sm ⟨np0, rs, hp, hn, hrs⟩⟩

/-! ### one pot's turn -/
theorem rows_all : ((List.range 61).all fun w => decide ((List.range 61).map (fun f : Nat => chs (w : Int) (f : Int)) = prow w ++ List.replicate (60 - w) 0)) = true := by decide +kernel
theorem rows_are {w : Nat} (h : w < 61) : (List.range 61).map (fun f : Nat => chs (w : Int) (f : Int)) = prow w ++ List.replicate (60 - w) 0 :=
  of_decide_eq_true (List.all_eq_true.mp rows_all w (List.mem_range.mpr h))
theorem row_at {w f : Nat} (h : w < 61) (hf : f ≤ w) : (prow w).getD f 0 = chs (w : Int) (f : Int) := by
  have e : ((List.range 61).map (fun f : Nat => chs (w : Int) (f : Int)))[f]? = (prow w ++ List.replicate (60 - w) 0)[f]? := by rw [rows_are h]
  rw [List.getElem?_map, List.getElem?_range (by omega : f < 61), List.getElem?_append_left (by rw [prow_len]; omega)] at e
  rw [List.getD_eq_getElem?_getD, ← e]
  rfl
theorem row_off {w f : Int} (h : ¬ f ≤ w) (h0 : 0 ≤ w) : chs w f = 0 := by
  unfold chs
  rw [if_neg (by omega), if_pos (by omega)]
def kg_choose (_ : List Value) : List Value → List Value
  | [a0, a1] => [a1, a0]
  | _ => []
def kv_choose (_ : List V) : List V → List V
  | [a0, a1] => [a1, a0]
  | _ => []
theorem kb_choose {K : PySem.W.Frag} {f : Addr} {fd : FuncData} (F : Fun K "choose" "choose" s_choose f fd) : KBinds K fd ["n", "k"] ["k", "n"] (fun us ws => match us with | [] => kg_choose us ws | _ => []) (fun us ws => match us with | [] => kv_choose us ws | _ => []) := by
  obtain ⟨oc, od, kV, doc, pm, an, cdv, ct, osl, rfl, lk, hcd⟩ := F.ex
  refine ⟨fun s us ws _ hl => ?_, fun r z => ?_⟩
  · match us, ws, hl with
    | [], [a0, a1], _ => exact .of_eq rfl
  · cases r with
    | cons _ _ => exact .nil
    | nil =>
      cases z with
      | nil => exact .nil
      | cons r0 z =>
        cases z with
        | nil => exact .nil
        | cons r1 z =>
          cases z with
          | nil => exact (.cons r1 (.cons r0 .nil))
          | cons _ _ => exact .nil

theorem RowsAt.sameB {H0 H H' : Hp} {a p : Addr} {n : Nat} {o : HO} (h : RowsAt H0 H p n) (ha : H0 a = some o) (e : SameB a H H') : RowsAt H0 H' p n := by
  obtain ⟨h1, rs, h2, h3, h4⟩ := h
  refine ⟨h1, rs, e _ _ (fun z => ?_) h2, h3, fun i q hq => ?_⟩
  · rw [z, ha] at h1
    cases h1
  · obtain ⟨x1, x2, x3⟩ := h4 i q hq
    refine ⟨x1, x2, e _ _ (fun z => ?_) x3⟩
    rw [z, ha] at x2
    cases x2
def spRight : Sp := fun vs H Q _ => ∃ (a : Addr), vs = [.ref a] ∧ PotAt H a 0 ∧ ∀ H', SameB a H H' → Q (.bl true) H'
theorem ok_right {f : Addr} {fd : FuncData} (F : Fun K "_law_right" "_law_right" s__law_right f fd) (T : Txt K mg) : FnOk P w K mg base CX0 2 f fd ["_law_pot_here"] spRight := by
  obtain ⟨fC, fdC, D_choose⟩ := T.d_choose
  have G_choose : FnOk P w K mg base CX0 1 fC fdC _ _ := ok_choose D_choose.F T
  obtain ⟨fT, fdT, D_take⟩ := T.d_take
  have G_take : FnOk P w K mg base CX0 1 fT fdT _ _ := ok_take D_take.F T
  obtain ⟨fR, fdR, D_rows⟩ := T.d_rows
  have G_rows : FnOk P w K mg base CX0 1 fR fdR _ _ := ok_rows D_rows.F T
  refine F.ok sc__law_right (fun vs H Q E h => ?_) (fun cdv A outer s H vs Q E hr h => ?_)
  · obtain ⟨a, rfl, _⟩ := h
    rfl
  · obtain ⟨a, rfl, hP, q⟩ := h
    refine ⟨_, (pss_cons (ps_set (i := 1) sc__law_right.nd rfl (by first | exact Or.inl rfl | exact Or.inr rfl) (pe_call0 G_rows (hr.mono (by decide)) (by rfl) D_rows.g D_rows.F.kp D_rows.b .nil pass0))
 (pss_cons (ps_for PassesOwn.never rfl (pi_range1 (by rfl) T.z_range (pa_cons pe_int pa_nil)) (pg_name (i := 2) sc__law_right.nd rfl (by first | exact Or.inl rfl | exact Or.inr rfl))
 (pss_cons (ps_asg (pe_tup (pa_cons (pe_call G_take (hr.mono (by decide)) (by rfl) D_take.g D_take.F.kp D_take.b .nil pass0 (pa_cons (pv 0) (pa_cons pe_int pa_nil))) (pa_cons (pe_call G_take (hr.mono (by decide)) (by rfl) D_take.g D_take.F.kp D_take.b .nil pass0 (pa_cons (pv 0) (pa_cons pe_int pa_nil))) pa_nil))) (pg_tup rfl (pgs_cons (pg_name (i := 3) sc__law_right.nd rfl (by first | exact Or.inl rfl | exact Or.inr rfl)) (pgs_cons (pg_name (i := 4) sc__law_right.nd rfl (by first | exact Or.inl rfl | exact Or.inr rfl)) pgs_nil))))
 (pss_cons (ps_set (i := 5) sc__law_right.nd rfl (by first | exact Or.inl rfl | exact Or.inr rfl) (pe_ifExp (pt_cmpR op_le (pv 4) (pv 3) (nomark _)) (pe_ix (k_ixL K) (pe_ix (k_ixL K) (pv 1) (pv 3) (fun _ _ => rfl)) (pv 4) (fun _ _ => rfl)) pe_int))
 (pss_one (ps_if (PW.pt (pw_or (pt_cmpR op_ne (pe_callK0 G_choose (hr.mono (by decide)) (by rfl) D_choose.g D_choose.F.kp (kb_choose D_choose.F) pass0 (pk_cons (pv 4) (pk_cons (pv 3) pk_nil))) (pv 5) (nomark _)) (pw_or (pt_cmpR op_ne (pe_call G_choose (hr.mono (by decide)) (by rfl) D_choose.g D_choose.F.kp D_choose.b .nil pass0 (pa_cons (pv 3) (pa_cons (pv 4) pa_nil))) (pv 5) (nomark _)) (pw_or1 (pt_val (pe_callB (k_isi K) (by rfl) T.z_isinstance (by decide +kernel) (pa_cons (pe_call G_choose (hr.mono (by decide)) (by rfl) D_choose.g D_choose.F.kp D_choose.b .nil pass0 (pa_cons (pv 3) (pa_cons (pv 4) pa_nil))) (pa_cons (pe_bltn (v := .ty "bool") (by rfl) T.z_bool (by decide +kernel) rfl) pa_nil))))))))
 (pss_one (ps_ret pe_bl))
 pss_nil)))))
 (pss_cons (ps_for PassesOwn.never rfl (pi_range1 (by rfl) T.z_range (pa_cons pe_int pa_nil)) (pg_name (i := 3) sc__law_right.nd rfl (by first | exact Or.inl rfl | exact Or.inr rfl))
 (pss_one (ps_if (pt_cmpR (k_neD K hr.units) (pe_lc (own := [("_law_few", 4)]) (g := gName 4) (tt := tYes) rfl sc__law_right.nd (pi_range1 (by rfl) T.z_range (pa_cons pe_int pa_nil)) (blkOk_by (own := [("_law_few", 4)]) (N := ["_law_pot_here", "_law_rows_here", "_law_turn", "_law_wide", "_law_few", "_law_due"]) (sc := defScope s__law_right) (by decide +kernel)) (fun _ _ _ _ _ => pg_name (i := 4) sc__law_right.nd rfl (Or.inl rfl)) (fun _ _ _ _ _ => pts_nil) (fun _ _ _ _ _ => (pe_call G_choose (hr.mono (by decide)) (by rfl) D_choose.g D_choose.F.kp D_choose.b .nil pass0 (pa_cons (pv 3) (pa_cons (pv 4) pa_nil))))) (pe_op op_cat (pe_ix (k_ixL K) (pv 1) (pv 3) (fun _ _ => rfl)) (pe_op op_rep (pe_lst (pa_cons pe_int pa_nil)) (pe_op op_sub pe_int (pv 3)))) (nomark _))
 (pss_one (ps_ret pe_bl))
 pss_nil)))
 (pss_one (ps_ret pe_bl))))), ?_⟩
    obtain ⟨oa, hoa⟩ : ∃ o, H a = some o := by
      obtain ⟨_, _, _, z, _⟩ := id hP
      exact ⟨_, z⟩
    -- rows
    refine ⟨rfl, fun r H1 s1 R1 => ?_⟩
    -- eight turns
    refine ⟨8, rfl, by decide, by decide, for_range (lo := 0) (fun i σ H' => ∃ v2 v3 v4 v5, σ = [some (.ref a), some (.ref r), v2, v3, v4, v5] ∧ SameB a H H' ∧ RowsAt H H' r 61 ∧ PotAt H' a (2 * i)) ⟨none, none, none, none, rfl, sameb s1, R1, hP.same s1⟩ ?_ ?_⟩
    · rintro i σ H2 hi ⟨v2, v3, v4, v5, rfl, s2, R2, P2⟩
      have hi8 : i < 8 := hi
      refine ⟨_, rfl, a, 61, _, rfl, P2, by decide, by decide, by omega, fun x H3 x0 x1 P3 s3 => ?_⟩
      refine ⟨_, rfl, a, 61, _, rfl, P3, by decide, by decide, by omega, fun y H4 y0 y1 P4 s4 => ?_⟩
      refine ⟨by show 2 ≤ sizeLine; decide, fun t nt => ?_⟩
      have st := same_upd (o := .tup [.int x, .int y]) nt
      refine ⟨t, _, rfl, .inl (.inl upd_same), rfl, _, _, rfl, _, _, rfl, rfl, ?_⟩
      have s5 : SameB a H (upd H4 t (.tup [.int x, .int y])) := (s2.trans (s3.trans s4)).trans (sameb st)
      have R5 : RowsAt H (upd H4 t (.tup [.int x, .int y])) r 61 := R2.sameB hoa ((s3.trans s4).trans (sameb st))
      have P5 : PotAt (upd H4 t (.tup [.int x, .int y])) a (2 * (i + 1)) := P4.same st
      generalize upd H4 t (.tup [.int x, .int y]) = H5 at s5 R5 P5 ⊢
      obtain ⟨m, rfl⟩ : ∃ m : Nat, x = (m : Int) := ⟨x.toNat, by omega⟩
      obtain ⟨k, rfl⟩ : ∃ m : Nat, y = (m : Int) := ⟨y.toNat, by omega⟩
      obtain ⟨_, rs, hr1, hr2, hr3⟩ := id R5
      refine ⟨_, rfl, _, rfl, _, _, rfl, rfl, _, rfl, ite2 (fun e => ?_) (fun e => ?_)⟩
      · have hle : (k : Int) ≤ (m : Int) := of_decide_eq_true e
        have hm : m < 61 := by omega
        obtain ⟨q0, hq0⟩ : ∃ q0, rs[m]? = some q0 := ⟨rs[m], List.getElem?_eq_getElem (by omega)⟩
        obtain ⟨_, _, hq⟩ := hr3 _ _ hq0
        have g0 : (rs.map V.ref)[m]? = some (.ref q0) := by
          rw [List.getElem?_map, hq0]
          rfl
        have g1 : ((prow m).map V.int)[k]? = some (.int (chs (m : Int) (k : Int))) := by
          rw [← row_at hm (by omega)]
          exact row_get (by rw [prow_len]; omega)
        refine ⟨_, rfl, _, rfl, r, _, _, _, rfl, rfl, SqL.of hr1, atI_nat g0, _, rfl, q0, _, _, _, rfl, rfl, SqL.of hq, atI_nat g1, ?_⟩
        refine ⟨_, rfl, _, rfl, _, _, rfl, by omega, _, rfl, rfl, _, rfl, iteNS rfl ?_⟩
        refine ⟨_, rfl, _, rfl, _, _, rfl, by omega, _, rfl, rfl, _, rfl, iteNS rfl ?_⟩
        refine ⟨_, rfl, _, rfl, _, _, rfl, by omega, _, _, _, _, false, rfl, .ty _, .base (.int _), kit_ty (by decide +kernel), _, rfl, ?_⟩
        exact iteF ⟨_, _, _, _, rfl, s5, R5, P5⟩
      · have hle : ¬ (k : Int) ≤ (m : Int) := fun z => e (decide_eq_true z)
        have hz : chs (m : Int) (k : Int) = 0 := row_off hle (by omega)
        refine ⟨_, rfl, _, rfl, _, _, rfl, by omega, _, rfl, rfl, _, rfl, iteNS (by rw [hz]) ?_⟩
        refine ⟨_, rfl, _, rfl, _, _, rfl, by omega, _, rfl, rfl, _, rfl, iteNS (by rw [hz]) ?_⟩
        refine ⟨_, rfl, _, rfl, _, _, rfl, by omega, _, _, _, _, false, rfl, .ty _, .base (.int _), kit_ty (by decide +kernel), _, rfl, ?_⟩
        exact iteF ⟨_, _, _, _, rfl, s5, R5, P5⟩
    · rintro σ H2 ⟨v2, v3, v4, v5, rfl, s2, R2, P2⟩
      -- all rows
      refine ⟨61, rfl, by decide, by decide, for_range (lo := 0) (fun i σ H' => ∃ v2 v3 v4 v5, σ = [some (.ref a), some (.ref r), v2, v3, v4, v5] ∧ SameB a H H' ∧ RowsAt H H' r 61) ⟨_, _, _, _, rfl, s2, R2⟩ ?_ ?_⟩
      · rintro i σ H3 hi ⟨w2, w3, w4, w5, rfl, s3, R3⟩
        have hi61 : i < 61 := hi
        obtain ⟨_, rs, hr1, hr2, hr3⟩ := id R3
        obtain ⟨q0, hq0⟩ : ∃ q0, rs[i]? = some q0 := ⟨rs[i], List.getElem?_eq_getElem (by omega)⟩
        obtain ⟨_, _, hq⟩ := hr3 _ _ hq0
        have g0 : (rs.map V.ref)[i]? = some (.ref q0) := by
          rw [List.getElem?_map, hq0]
          rfl
        rw [show (0 : Int) + (i : Int) = (i : Int) by omega]
        refine ⟨61, rfl, by decide, by decide, fun D nD => lc_range (lo := 0) (fun j H' => H' = upd H3 D (.lst (((List.range j).map (fun f : Nat => chs (i : Int) (f : Int))).map V.int))) rfl ?_ ?_⟩
        · rintro j H' hj rfl
          have hj61 : j < 61 := hj
          rw [show (0 : Int) + (j : Int) = (j : Int) by omega]
          refine ⟨rfl, lcT ?_⟩
          refine ⟨_, rfl, _, rfl, _, _, rfl, by omega, _, upd_same, ?_, ?_⟩
          · rw [List.length_map, List.length_map, List.length_range]
            exact small1000 (by omega)
          · rw [upd_upd, range_map_succ, List.map_append]
            rfl
        · rintro H' rfl
          have sD := same_upd (o := .lst (((List.range 61).map (fun f : Nat => chs (i : Int) (f : Int))).map V.int)) nD
          refine ⟨_, rfl, _, rfl, r, _, _, _, rfl, rfl, SqL.of (sD _ _ hr1), atI_nat g0, ?_⟩
          refine ⟨by show 1 ≤ sizeLine; decide, fun z nz => ?_⟩
          have sz := same_upd (o := .lst [.int 0]) nz
          refine ⟨_, rfl, _, _, rfl, rfl, z, _, _, rfl, rfl, upd_same, by omega, by omega, ?_, fun u nu => ?_⟩
          · show 1 * (60 - (i : Int)).toNat ≤ sizeLine
            exact Nat.le_of_lt (small1000 (by omega))
          have su := same_upd (o := .lst (List.replicate (60 - (i : Int)).toNat [V.int 0]).flatten) nu
          have S := sD.trans (sz.trans su)
          refine ⟨q0, u, _, _, rfl, rfl, S _ _ hq, upd_same, ?_, fun v nv => ?_⟩
          · rw [flat_rep, List.length_map, List.length_map, List.length_replicate, prow_len]
            exact Nat.le_of_lt (small1000 (by omega))
          have sv := same_upd (o := .lst ((prow i).map V.int ++ (List.replicate (60 - (i : Int)).toNat [V.int 0]).flatten)) nv
          have e1 : (prow i).map V.int ++ (List.replicate (60 - (i : Int)).toNat [V.int 0]).flatten = (prow i ++ List.replicate (60 - i) 0).map V.int := by
            rw [flat_rep, List.map_append, show (60 - (i : Int)).toNat = 60 - i by omega]
          refine ⟨.list (intsD (prow i ++ List.replicate (60 - i) 0)), .list (intsD (prow i ++ List.replicate (60 - i) 0)), .lst (SqL.of ?_) (dp_ints _), .lst (SqL.of ?_) (dp_ints _), ints_shaped _, ints_shaped _, _, rfl, ?_⟩
          · rw [← rows_are hi61]
            exact sv _ _ (su _ _ (sz _ _ upd_same))
          · rw [upd_same, e1]
          · rw [eqv_self (ints_shaped _)]
            exact iteF ⟨_, _, _, _, rfl, s3.trans (sameb (S.trans sv)), R3.sameB hoa (sameb (S.trans sv))⟩
      · rintro σ H3 ⟨w2, w3, w4, w5, rfl, s3, R3⟩
        exact q _ s3

/-! ### the law -/
def spLaw (K : PySem.W.Frag) : Sp := fun vs H Q _ => ∃ (a : Addr) (ns : List Int), vs = [.ref a] ∧ SqL K H a (ns.map V.int) ∧ ns.length ≤ 63 ∧ ∀ H', Q (.bl true) H'
theorem ok_law {f : Addr} {fd : FuncData} (F : Fun K "law" "law" s_law f fd) (T : Txt K mg) : FnOk P w K mg base CX0 3 f fd ["_law_script"] (spLaw K) := by
  obtain ⟨fP, fdP, D_pot⟩ := T.d_pot
  have G_pot : FnOk P w K mg base CX0 1 fP fdP _ _ := ok_pot D_pot.F T
  obtain ⟨fR, fdR, D_right⟩ := T.d_right
  have G_right : FnOk P w K mg base CX0 2 fR fdR _ _ := ok_right D_right.F T
  refine F.ok sc_law (fun vs H Q E h => ?_) (fun cdv A outer s H vs Q E hr h => ?_)
  · obtain ⟨a, ns, rfl, _⟩ := h
    rfl
  · obtain ⟨a, ns, rfl, hS, hlen, q⟩ := h
    refine ⟨_, (pss_one (ps_ret (pe_callB (k_all K rfl) (by rfl) T.z_all (by decide +kernel) (pa_cons (pe_lc (own := [("_law_j", 1)]) (g := gName 1) (tt := tYes) rfl sc_law.nd (pi_range1 (by rfl) T.z_range (pa_cons (pe_callB (call_max2 rfl) (by rfl) T.z_max (by decide +kernel) (pa_cons pe_int (pa_cons (pe_callB (call_min2 rfl) (by rfl) T.z_min (by decide +kernel) (pa_cons (pe_callB (k_len K) (by rfl) T.z_len (by decide +kernel) (pa_cons (pv 0) pa_nil)) (pa_cons pe_int pa_nil))) pa_nil))) pa_nil)) (blkOk_by (own := [("_law_j", 1)]) (N := ["_law_script", "_law_j"]) (sc := defScope s_law) (by decide +kernel)) (fun _ _ _ _ _ => pg_name (i := 1) sc_law.nd rfl (Or.inl rfl)) (fun _ _ _ _ _ => pts_nil) (fun _ _ _ _ _ => (pe_call G_right (hr.mono (by decide)) (by rfl) D_right.g D_right.F.kp D_right.b .nil pass0 (pa_cons (pe_call G_pot (hr.mono (by decide)) (by rfl) D_pot.g D_pot.F.kp D_pot.b .nil pass0 (pa_cons (pv 0) (pa_cons (pv 1) pa_nil))) pa_nil)))) pa_nil)))), ?_⟩
    refine ⟨_, rfl, a, _, rfl, .inl hS, _, _, rfl, _, _, rfl, _, rfl, ?_, ?_, fun D nD => lc_range (lo := 0) (fun i H' => Same H H' ∧ H' D = some (.lst ((List.replicate i true).map V.bl))) ⟨same_upd nD, upd_same⟩ ?_ ?_⟩
    · repeat' split
      all_goals omega
    · repeat' split
      all_goals omega
    · rintro i H' hi ⟨sm, hD⟩
      have hi3 : i < 4 := by
        revert hi
        repeat' split
        all_goals omega
      refine ⟨rfl, lcT ?_⟩
      refine ⟨_, rfl, _, rfl, a, _, ns, rfl, sm.seq hS, by omega, by omega, fun p H2 np s2 P2 => ?_⟩
      refine ⟨p, rfl, P2, fun H3 s3 => ?_⟩
      have Dp' : D ≠ p := ne_of_none hD np
      have hD3 := s3 _ _ Dp' (s2 _ _ hD)
      refine ⟨_, hD3, ?_, fun x o e => ?_, ?_⟩
      · rw [List.length_map, List.length_replicate]
        exact small1000 (by omega)
      · rw [upd_ne (ne_of_none e nD)]
        exact s3 _ _ (ne_of_none (sm _ _ e) np) (s2 _ _ (sm _ _ e))
      · rw [upd_same, List.replicate_succ', List.map_append]
        rfl
    · rintro H' ⟨sm, hD⟩
      refine ⟨D, _, rfl, SqL.of hD, ?_⟩
      have e : ∀ n, ((List.replicate n true).all id) = true := fun n => by simp
      rw [e]
      exact q _

end
theorem all_mk {l : PySem.W.OpenLaw} {w : World} {K : PySem.W.Frag} {h : Heap} {mg : Str → Option Value} {fa f0 f1 f2 f3 f4 f5 : Addr} (X : K.In h) (G : h.Ns mainGlobals mg) (hfa : mg "law" = some (.ref fa))
    {od0 an0 : Option Addr} {sl0 : Array (Option Value)} {oc0 kV0 dc0 pm0 cd0 ct0 : Value}
    (a0 : PySem.W.nsIn K mainGlobals "choose" = some (some (.ref f0))) (l0 : K.lookup f0 = some ⟨oc0, od0, .func (PySem.W.fnOf "choose" "choose" (defArgs s_choose) (defBody s_choose) (defScope s_choose) .none kV0 dc0 pm0 an0 cd0 ct0), sl0⟩) (c0 : PySem.W.codeIn K cd0 "choose" = true) (k0 : PySem.W.keepIn K (.ref f0) = true)
    {od1 an1 : Option Addr} {sl1 : Array (Option Value)} {oc1 kV1 dc1 pm1 cd1 ct1 : Value}
    (a1 : PySem.W.nsIn K mainGlobals "_law_pot" = some (some (.ref f1))) (l1 : K.lookup f1 = some ⟨oc1, od1, .func (PySem.W.fnOf "_law_pot" "_law_pot" (defArgs s__law_pot) (defBody s__law_pot) (defScope s__law_pot) .none kV1 dc1 pm1 an1 cd1 ct1), sl1⟩) (c1 : PySem.W.codeIn K cd1 "_law_pot" = true) (k1 : PySem.W.keepIn K (.ref f1) = true)
    {od2 an2 : Option Addr} {sl2 : Array (Option Value)} {oc2 kV2 dc2 pm2 cd2 ct2 : Value}
    (a2 : PySem.W.nsIn K mainGlobals "_law_take" = some (some (.ref f2))) (l2 : K.lookup f2 = some ⟨oc2, od2, .func (PySem.W.fnOf "_law_take" "_law_take" (defArgs s__law_take) (defBody s__law_take) (defScope s__law_take) .none kV2 dc2 pm2 an2 cd2 ct2), sl2⟩) (c2 : PySem.W.codeIn K cd2 "_law_take" = true) (k2 : PySem.W.keepIn K (.ref f2) = true)
    {od3 an3 : Option Addr} {sl3 : Array (Option Value)} {oc3 kV3 dc3 pm3 cd3 ct3 : Value}
    (a3 : PySem.W.nsIn K mainGlobals "_law_rows" = some (some (.ref f3))) (l3 : K.lookup f3 = some ⟨oc3, od3, .func (PySem.W.fnOf "_law_rows" "_law_rows" (defArgs s__law_rows) (defBody s__law_rows) (defScope s__law_rows) .none kV3 dc3 pm3 an3 cd3 ct3), sl3⟩) (c3 : PySem.W.codeIn K cd3 "_law_rows" = true) (k3 : PySem.W.keepIn K (.ref f3) = true)
    {od4 an4 : Option Addr} {sl4 : Array (Option Value)} {oc4 kV4 dc4 pm4 cd4 ct4 : Value}
    (a4 : PySem.W.nsIn K mainGlobals "_law_right" = some (some (.ref f4))) (l4 : K.lookup f4 = some ⟨oc4, od4, .func (PySem.W.fnOf "_law_right" "_law_right" (defArgs s__law_right) (defBody s__law_right) (defScope s__law_right) .none kV4 dc4 pm4 an4 cd4 ct4), sl4⟩) (c4 : PySem.W.codeIn K cd4 "_law_right" = true) (k4 : PySem.W.keepIn K (.ref f4) = true)
    {od5 an5 : Option Addr} {sl5 : Array (Option Value)} {oc5 kV5 dc5 pm5 cd5 ct5 : Value}
    (a5 : PySem.W.nsIn K mainGlobals "law" = some (some (.ref f5))) (l5 : K.lookup f5 = some ⟨oc5, od5, .func (PySem.W.fnOf "law" "law" (defArgs s_law) (defBody s_law) (defScope s_law) .none kV5 dc5 pm5 an5 cd5 ct5), sl5⟩) (c5 : PySem.W.codeIn K cd5 "law" = true) (k5 : PySem.W.keepIn K (.ref f5) = true)
    (z_abs : PySem.W.nsIn K mainGlobals "abs" = some none)
    (z_all : PySem.W.nsIn K mainGlobals "all" = some none)
    (z_bool : PySem.W.nsIn K mainGlobals "bool" = some none)
    (z_isinstance : PySem.W.nsIn K mainGlobals "isinstance" = some none)
    (z_len : PySem.W.nsIn K mainGlobals "len" = some none)
    (z_max : PySem.W.nsIn K mainGlobals "max" = some none)
    (z_min : PySem.W.nsIn K mainGlobals "min" = some none)
    (z_range : PySem.W.nsIn K mainGlobals "range" = some none) :
    ∃ fd : FuncData, (∀ (s : Shared) (v : Value), BindsTo s fd ⟨[v], []⟩ [("_law_script", v)]) ∧ ∀ base : Heap, K.In base → base.Ns mainGlobals mg → FnOk l.prog w K mg base CX0 3 fa fd ["_law_script"] (spLaw K) := by
  have e := hfa.symm.trans (PySem.W.mg_of X G a5)
  cases e
  have T : Txt K mg := ⟨⟨_, _, ⟨fun_mk (st := s_choose) l0 c0 k0, PySem.W.mg_of X G a0, (fun_mk (st := s_choose) l0 c0 k0).binds (ps := ["n", "k"]) fun _ _ _ _ _ _ us hl => match us, hl with | [_, _], _ => rfl⟩⟩, ⟨_, _, ⟨fun_mk (st := s__law_pot) l1 c1 k1, PySem.W.mg_of X G a1, (fun_mk (st := s__law_pot) l1 c1 k1).binds (ps := ["_law_script", "_law_j"]) fun _ _ _ _ _ _ us hl => match us, hl with | [_, _], _ => rfl⟩⟩, ⟨_, _, ⟨fun_mk (st := s__law_take) l2 c2 k2, PySem.W.mg_of X G a2, (fun_mk (st := s__law_take) l2 c2 k2).binds (ps := ["_law_pot_here", "_law_size"]) fun _ _ _ _ _ _ us hl => match us, hl with | [_, _], _ => rfl⟩⟩, ⟨_, _, ⟨fun_mk (st := s__law_rows) l3 c3 k3, PySem.W.mg_of X G a3, (fun_mk (st := s__law_rows) l3 c3 k3).binds (ps := []) fun _ _ _ _ _ _ us hl => match us, hl with | [], _ => rfl⟩⟩, ⟨_, _, ⟨fun_mk (st := s__law_right) l4 c4 k4, PySem.W.mg_of X G a4, (fun_mk (st := s__law_right) l4 c4 k4).binds (ps := ["_law_pot_here"]) fun _ _ _ _ _ _ us hl => match us, hl with | [_], _ => rfl⟩⟩, PySem.W.mg_none_of X G z_abs, PySem.W.mg_none_of X G z_all, PySem.W.mg_none_of X G z_bool, PySem.W.mg_none_of X G z_isinstance, PySem.W.mg_none_of X G z_len, PySem.W.mg_none_of X G z_max, PySem.W.mg_none_of X G z_min, PySem.W.mg_none_of X G z_range⟩
  exact ⟨PySem.W.fnOf "law" "law" (defArgs s_law) (defBody s_law) (defScope s_law) .none kV5 dc5 pm5 an5 cd5 ct5, fun s v => .of_eq rfl, fun base _ _ => ok_law (fun_mk (st := s_law) l5 c5 k5) T⟩
end My
open PySem PySem.W PyProof.Rows
set_option maxRecDepth 100000 in
set_option maxHeartbeats 0 in
theorem PySem.Challenge.cw_lackcry_k01_choose_as_rows_of_sums_holds : PySem.Challenge.rw_lackcry_k01_choose_as_rows_of_sums.Holds := by
  w_on; o_law; k_head; (case hw => w_witness2)
  k_fill
  refine L2.walk_of (l := PySem.Challenge.rw_lackcry_k01_choose_as_rows_of_sums) (n := 63) (k := 3) (x := "_law_script") (CX := fun _ => L2.CX0) (sp := fun w => My.spLaw _) rfl (by decide) rfl ⟨rfl, by decide, by decide⟩ (fun w h Y => PySem.W.kIn_of Y) ?F (fun _ _ a ns hl _ hS => ⟨a, ns, rfl, hS, hl, fun _ => rfl⟩) (fun _ _ _ _ _ h => h)
  case F =>
    intro w mg fa h KX G hmg
    refine' My.all_mk KX G hmg ?a0 ?l0 ?c0 ?k0 ?a1 ?l1 ?c1 ?k1 ?a2 ?l2 ?c2 ?k2 ?a3 ?l3 ?c3 ?k3 ?a4 ?l4 ?c4 ?k4 ?a5 ?l5 ?c5 ?k5 ?z_abs ?z_all ?z_bool ?z_isinstance ?z_len ?z_max ?z_min ?z_range
    (case a0 => k_is); (case l0 => k_is); (case c0 => k_is); (case k0 => k_is); (case a1 => k_is); (case l1 => k_is); (case c1 => k_is); (case k1 => k_is); (case a2 => k_is); (case l2 => k_is); (case c2 => k_is); (case k2 => k_is); (case a3 => k_is); (case l3 => k_is); (case c3 => k_is); (case k3 => k_is); (case a4 => k_is); (case l4 => k_is); (case c4 => k_is); (case k4 => k_is); (case a5 => k_is); (case l5 => k_is); (case c5 => k_is); (case k5 => k_is); (case z_abs => k_is); (case z_all => k_is); (case z_bool => k_is); (case z_isinstance => k_is); (case z_len => k_is); (case z_max => k_is); (case z_min => k_is); (case z_range => k_is)
