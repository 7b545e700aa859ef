import PyProof.Rows.All
import Wide.All
import OpenK.AllK
import Wide.FinOn
import HandS.ForMost
import HandS.Wide
import HandS.IsInst
import HandS.SortInts
import HandS.TupAny
import HandS.Conv
import HandS.Zip
import KE.GoesEnum
import HandS.Style
import HandS.TupLe
import HandS.Deep
import HandS.Dict
import HandS.DictTup
import HandS.ExcValue
import PyProof.TupleOfGen
import HandS.EndTab
import HandS.JoinGen
import HandS.AnyAll
import HandS.Exc
import HandS.ExcInit
import HandS.ExcOwn
import HandS.ExcField
import HandS.WordsExc
import HandS.CallSlots
import HandS.ExcIs
import KE.KExcIs
import KE.KExcInit
import KE.KExcHand
import KE.KTryMore
import KE.KIsAll
import KE.KExcLine
import KE.KDictKeyed
import HandS.SetKeys
import PyProof.ReprReads
import HandS.TupMul
import HandS.GenList
import KE.GoesZip
import KE.GoesMore
import HandS.SetBool
import HandS.Strs
import HandS.TupLen
import KE.SortData
import KE.KDictCopyH
import KE.KDictSum
import HandS.DictTup
import PySem.Challenge.RW_lackcry_k12_whole_outer_sums_are_determi
set_option Elab.async false
set_option linter.all false
set_option maxRecDepth 100000
set_option maxHeartbeats 4000000
namespace My
open PySem PySem.Spec PyProof.Rows L2
/-! ### a def of the top, as callers use it -/
structure DefAt (K : PySem.W.Frag) (mg : Str → Option Value) (x : Str) (st : Stmt) (ps : List Str) (f : Addr) (fd : FuncData) : Prop where
  F : Fun K x x st f fd
  g : mg x = some (.ref f)
  b : Binds K fd ps []
section
variable {X : Cx} {CX : CXT} {k : Nat} {f : Addr} {fd : FuncData} {ps ks : List Str} {sp : Sp} {E : XK} {x : Str} {p pos : Pos} {kws : List Keyword} {tk : TA} {g : List Value → List Value → List Value} {gV : List V → List V → List V}
/-- f(k = v, ..), nothing by position -/
theorem pe_callK0 (F : FnOk X.prog X.w X.K X.mg X.base CX k f fd ps sp) (hr : Room k X.A) (hg : Gl X x) (hm : X.mg x = some (.ref f)) (hk : PySem.W.keepIn X.K (.ref f) = true) (hb : KBinds X.K fd ps ks g gV) (hx : Passes CX X E)
    (hkw : PK X kws tk) (hall : (backToKw pos (keywordEach kws X.env)).all (·.1.isSome) = true := by rfl) (hks : (backToKw pos (keywordEach kws X.env)).filterMap (·.1) = ks := by rfl)
    (hdb : (x == ("__debug__" : Str)) = false := by decide)
    (hpl : ((backTo pos (starEach [] X.env)).any (·.1) || (backToKw pos (keywordEach kws X.env)).any (·.1.isNone)) = false := by rfl) :
    PE X (.Call (.Name x p) [] kws pos) (tCallK sp gV E tNil tk) := by
  refine ⟨fun pins s σ H Q I h => ?_⟩
  refine wpAny_Call_Name_kw (ld_glob I hg hm ?_ hdb)
  refine PySem.W.callWith_KW0 (h₀ := X.base) I.ok.mod.kin hk hall (thn (hkw.run pos pins s σ H _ I h) fun ws s2 ⟨zs, H2, I2, rz, q2⟩ => ⟨I2.kIn, ?_⟩) hpl
  rw [hks]
  exact run_fnk (us := []) (vs := []) F hr hb hx I2 .nil rz q2
/-- a power of a great base -/
def CPowW (i j : Int) : Prop := 0 ≤ j ∧ (Builtin.Int.intBits i : Int) * j ≤ 2 ^ 27
theorem op_powW : OpR X (binaryOp .Pow) (rI CPowW fun i j => .int (i ^ j.toNat)) := opI fun _ _ _ _ _ _ _ hc q => pow_int hc.1 hc.2 q
end
/-! ### the rules that read K, with K named (within a comprehension the reading may not lean on the block) -/
section
variable {X : Cx} (K : PySem.W.Frag)
theorem k_ixL (h : X.K = K := by rfl) : IxR X (rIxL K) := h ▸ ix_list
theorem k_ixT (h : X.K = K := by rfl) : IxR X (rIxT K) := h ▸ ix_tup
def rLenS (K : PySem.W.Frag) : List V → Hp → VK → Prop := fun xs H Q => ∃ p ys, xs = [.ref p] ∧ (SqL K H p ys ∨ SqT K H p ys) ∧ Q (.int ys.length) H
theorem k_len (h : X.K = K := by rfl) : CallR X (.builtin "len") (rLenS K) := h ▸ call_len_seq
theorem k_in (h : X.K = K := by rfl) : OpR X (compareOp .In) (rIn K false) := h ▸ op_in_seq
theorem k_notIn (h : X.K = K := by rfl) : OpR X (compareOp .NotIn) (rIn K true) := h ▸ op_notIn_seq
theorem k_eqD (hu : X.A.units + 64 < cLine) (h : X.K = K := by rfl) : OpR X (compareOp .Eq) (rEqD K) := h ▸ op_eqD hu
theorem k_neD (hu : X.A.units + 64 < cLine) (h : X.K = K := by rfl) : OpR X (compareOp .NotEq) (rNeD K) := h ▸ op_neD hu
theorem k_catA (h : X.K = K := by rfl) : OpR X (binaryOp .Add) (rCatA K) := h ▸ op_catA
theorem k_sum (hc : X.calm = true) (h : X.K = K := by rfl) : CallR X (.builtin "sum") (rSum K) := h ▸ cr_sum hc
theorem k_all (hc : X.calm = true) (h : X.K = K := by rfl) : CallR X (.builtin "all") (rAll K) := h ▸ cr_all hc
theorem k_any (hc : X.calm = true) (h : X.K = K := by rfl) : CallR X (.builtin "any") (rAny K) := h ▸ cr_any hc
theorem k_sorted (h : X.K = K := by rfl) : CallR X (.builtin "sorted") (rSortedI K) := h ▸ cr_sortedI
def rTupOf (K : PySem.W.Frag) : List V → Hp → VK → Prop := fun xs H Q => ∃ p ys, xs = [.ref p] ∧ ((SqL K H p ys ∧ ∀ l, H l = none → Q (.ref l) (upd H l (.tup ys))) ∨ (SqT K H p ys ∧ Q (.ref p) H))
theorem k_tuple (h : X.K = K := by rfl) : CallR X (.type "tuple") (rTupOf K) := h ▸ call_tuple_of
def rLstOf (K : PySem.W.Frag) : List V → Hp → VK → Prop := fun xs H Q => ∃ p ys, xs = [.ref p] ∧ (SqL K H p ys ∨ SqT K H p ys) ∧ ∀ l, H l = none → Q (.ref l) (upd H l (.lst ys))
theorem k_list (h : X.K = K := by rfl) : CallR X (.type "list") (rLstOf K) := h ▸ call_list_of
theorem k_slL (h : X.K = K := by rfl) : SlR X (rSlL K) := h ▸ sl_list
theorem k_slT (h : X.K = K := by rfl) : SlR X (rSlA K) := h ▸ sl_tupA
theorem k_isi (h : X.K = K := by rfl) : CallR X (.builtin "isinstance") (rIsi K) := h ▸ call_isi
theorem k_pgT {es : List Expr} {k n : Nat} {t : TGs} {pos : Pos} (hc : X.calm = true) (h : PGs X es t) (hK : X.K = K := by rfl) (hn : (assignEach es X.env).length = n := by rfl) (hst : (assignEach es X.env).findIdx? (·.1) = none := by rfl) : PG X (.Tuple es k pos) (gTup K n t) := hK ▸ pg_tup hc h hn hst
theorem k_piL {tg l : Expr} {tl : TE} (hl : PE X l tl) (h : X.K = K := by rfl) : PI X tg l (iList K tl) := h ▸ pi_list hl
theorem k_piT {tg l : Expr} {tl : TE} (hl : PE X l tl) (h : X.K = K := by rfl) : PI X tg l (iTup K tl) := h ▸ pi_tup hl
theorem k_ltT (hu : X.A.units < cLine) (h : X.K = K := by rfl) : OpR X (compareOp .Lt) (rLtT K) := h ▸ op_ltT hu
end
/-! ### heaps -/
theorem same_upd {H : Hp} {p : Addr} {o : HO} (h : H p = none) : Same H (upd H p o) := fun b x e => by
  rw [upd_ne (ne_of_none e h)]
  exact e
/-- all that was tracked but at a is as it was -/
def SameB (a : Addr) (H H' : Hp) : Prop := ∀ b o, b ≠ a → H b = some o → H' b = some o
theorem SameB.refl (a : Addr) (H : Hp) : SameB a H H := fun _ _ _ h => h
theorem SameB.trans {a : Addr} {H H1 H2 : Hp} (x : SameB a H H1) (y : SameB a H1 H2) : SameB a H H2 := fun b o n h => y b o n (x b o n h)
theorem SameB.upd {a : Addr} {H : Hp} {o : HO} : SameB a H (L2.upd H a o) := fun b _ n h => by
  rw [upd_ne n]
  exact h
theorem sameb {a : Addr} {H H' : Hp} (e : Same H H') : SameB a H H' := fun b o _ h => e b o h
theorem SameB.seq {K : PySem.W.Frag} {a l : Addr} {H H' : Hp} {xs : List V} (e : SameB a H H') (n : l ≠ a) (h : SqL K H l xs) : SqL K H' l xs := by
  rcases h with (h | ⟨o, h⟩) | h
  · exact .inl (.inl (e _ _ n h))
  · exact .inl (.inr ⟨o, e _ _ n h⟩)
  · exact .inr h
/-! ### the law's pot: three ints in a list -/
def PotAt (H : Hp) (a : Addr) (b : Nat) : Prop := ∃ g s c : Int, H a = some (.lst [.int g, .int s, .int c]) ∧ 0 ≤ g ∧ 0 ≤ s ∧ s < 2 ^ 61 ∧ 0 ≤ c ∧ c ≤ b ∧ b ≤ 1000000
theorem PotAt.same {H H' : Hp} {a : Addr} {b : Nat} (h : PotAt H a b) (e : Same H H') : PotAt H' a b := by
  obtain ⟨g, s, c, h1, h2⟩ := h
  exact ⟨g, s, c, e _ _ h1, h2⟩
theorem PotAt.ne {H : Hp} {a b : Addr} {n : Nat} (h : PotAt H a n) (q : H b = none) : a ≠ b := by
  obtain ⟨_, _, _, h1, _⟩ := h
  exact ne_of_none h1 q
/-! ### rows of ints as data -/
def intsD (ns : List Int) : List PyData := ns.map PyData.int
theorem dp_ints {K : PySem.W.Frag} {H : Hp} : ∀ ns : List Int, DpAll K H (ns.map V.int) (intsD ns)
  | [] => .nil
  | n :: ns => .cons (.int n) (dp_ints ns)
theorem ints_lay : ∀ ns : List Int, PyData.canLayAll0 (intsD ns) = true
  | [] => by simp [intsD, PyData.canLayAll0]
  | n :: ns => by
    have h := ints_lay ns
    simp only [intsD, List.map_cons, PyData.canLayAll0, PyData.canLay0] at h ⊢
    simpa using h
theorem ints_depth : ∀ ns : List Int, PyData.depthAll (intsD ns) ≤ 2
  | [] => by simp [intsD, PyData.depthAll]
  | n :: ns => by
    have h := ints_depth ns
    simp only [intsD, List.map_cons, PyData.depthAll, PyData.depth] at h ⊢
    omega
theorem ints_shaped (ns : List Int) : SeqAt.shaped (.list (intsD ns)) = true := by
  have h1 := ints_depth ns
  have h2 : PyData.depth (.list (intsD ns)) ≤ 64 := by
    simp only [PyData.depth]
    omega
  show (PyData.canLay0 (.list (intsD ns)) && decide (PyData.depth (.list (intsD ns)) ≤ 64)) = true
  rw [Bool.and_eq_true]
  exact ⟨by simp only [PyData.canLay0]; exact ints_lay ns, decide_eq_true h2⟩
theorem intsT_shaped (ns : List Int) : SeqAt.shaped (.tuple (intsD ns)) = true := by
  have h1 := ints_depth ns
  have h2 : PyData.depth (.tuple (intsD ns)) ≤ 64 := by
    simp only [PyData.depth]
    omega
  show (PyData.canLay0 (.tuple (intsD ns)) && decide (PyData.depth (.tuple (intsD ns)) ≤ 64)) = true
  rw [Bool.and_eq_true]
  exact ⟨by simp only [PyData.canLay0]; exact ints_lay ns, decide_eq_true h2⟩
theorem eqv_self {d : PyData} (h : SeqAt.shaped d = true) : PyData.eqv d d = true := SeqAt.eqv_refl d (SeqAt.canLay_of_shaped h)
theorem atI_neg1 {α : Type} {xs : List α} {v : α} (h : xs[xs.length - 1]? = some v) : atI xs (-1) = some v := by
  have hl : 0 < xs.length := by
    cases xs with
    | nil => simp at h
    | cons _ _ => simp
  unfold atI ixN
  rw [if_neg (by decide), if_pos (by omega)]
  show xs[(-1 + (xs.length : Int)).toNat]? = some v
  rw [show (-1 + (xs.length : Int)).toNat = xs.length - 1 by omega]
  exact h
theorem map_int_get {ns : List Int} {i : Nat} {y : V} (h : (ns.map V.int)[i]? = some y) : ∃ u, ns[i]? = some u ∧ y = .int u := by
  rw [List.getElem?_map] at h
  cases e : ns[i]? with
  | none =>
    rw [e] at h
    cases h
  | some u =>
    rw [e] at h
    exact ⟨u, rfl, (Option.some.inj h).symm⟩
theorem range_map_succ {α : Type} (f : Nat → α) (i : Nat) : (List.range (i + 1)).map f = (List.range i).map f ++ [f i] := by
  rw [List.range_succ, List.map_append]
  rfl
theorem lcT {A B : Hp → Prop} {σ : L2.St} {H : Hp} (h : A H) : tYes σ H (fun b H3 => if b = true then A H3 else B H3) := by
  show (if (true = true) then A H else B H)
  rw [if_pos rfl]
  exact h
theorem row_get {l : List Int} {i : Nat} (h : i < l.length) : (l.map V.int)[i]? = some (.int (l.getD i 0)) := by
  rw [List.getElem?_map, List.getElem?_eq_getElem h, List.getD_eq_getElem?_getD, List.getElem?_eq_getElem h]
  rfl
theorem flat_rep (n : Nat) : (List.replicate n [V.int 0]).flatten = (List.replicate n (0 : Int)).map V.int := by
  induction n with
  | zero => rfl
  | succ n ih =>
    rw [List.replicate_succ, List.flatten_cons, ih, List.replicate_succ, List.map_cons]
    rfl
theorem seqT {K : PySem.W.Frag} {H H' : Hp} {a : Addr} {xs : List V} (e : Same H H') (h : SqT K H a xs) : SqT K H' a xs := by
  rcases h with (h | ⟨o, h⟩) | h
  · exact .inl (.inl (e _ _ h))
  · exact .inl (.inr ⟨o, e _ _ h⟩)
  · exact .inr h
theorem SameB.seqT {K : PySem.W.Frag} {a l : Addr} {H H' : Hp} {xs : List V} (e : SameB a H H') (n : l ≠ a) (h : SqT K H l xs) : SqT K H' l xs := by
  rcases h with (h | ⟨o, h⟩) | h
  · exact .inl (.inl (e _ _ n h))
  · exact .inl (.inr ⟨o, e _ _ n h⟩)
  · exact .inr h
/-- a comprehension over enumerate of a tuple is told by IteT: see enumT -/
theorem lc_noif {A B : Hp → Prop} {b : Bool} {H : Hp} (hb : b = true) (h : A H) : if b = true then A H else B H := by
  rw [if_pos hb]
  exact h
theorem PotAt.mono {H : Hp} {a : Addr} {b b' : Nat} (h : PotAt H a b) (l : b ≤ b') (m : b' ≤ 1000000) : PotAt H a b' := by
  obtain ⟨g, s, c, h1, h2, h3, h4, h5, h6, h7⟩ := h
  exact ⟨g, s, c, h1, h2, h3, h4, h5, by omega, m⟩
theorem PotAt.some {H : Hp} {a : Addr} {n : Nat} (h : PotAt H a n) : ∃ o, H a = some o := by
  obtain ⟨_, _, _, h1, _⟩ := h
  exact ⟨_, h1⟩
theorem PotAt.sameB {H H' : Hp} {a b : Addr} {n : Nat} (h : PotAt H a n) (e : SameB b H H') (ne : a ≠ b) : PotAt H' a n := by
  obtain ⟨g, s, c, h1, h2⟩ := h
  exact ⟨g, s, c, e _ _ ne h1, h2⟩
theorem eqv_ints : ∀ l m : List Int, PyData.eqvAll (intsD l) (intsD m) = decide (l = m)
  | [], [] => rfl
  | [], y :: m => rfl
  | x :: l, [] => rfl
  | x :: l, y :: m => by
    show (PyData.eqv (.int x) (.int y) && PyData.eqvAll (intsD l) (intsD m)) = decide (x :: l = y :: m)
    rw [eqv_ints l m]
    show ((x == y) && decide (l = m)) = decide (x :: l = y :: m)
    by_cases h : x = y
    · subst h
      by_cases h2 : l = m
      · subst h2
        simp
      · simp [h2]
    · simp [h]
theorem eqvL_ints (l m : List Int) : PyData.eqv (.list (intsD l)) (.list (intsD m)) = decide (l = m) := eqv_ints l m
theorem eqvT_ints (l m : List Int) : PyData.eqv (.tuple (intsD l)) (.tuple (intsD m)) = decide (l = m) := eqv_ints l m
theorem flat_ints (l : List Int) : (l.map V.int).all flatV = true := by
  rw [List.all_map]
  exact List.all_eq_true.mpr fun _ _ => rfl
theorem inV_ints (x : Int) : ∀ l : List Int, inV (.int x) (l.map V.int) = l.contains x
  | [] => rfl
  | y :: l => by
    have ih := inV_ints x l
    have e1 : inV (.int x) ((y :: l).map V.int) = (eqV (.int y) (.int x) || inV (.int x) (l.map V.int)) := rfl
    rw [e1, ih, List.contains_cons]
    congr 1
    show (y == x) = (x == y)
    exact BEq.comm
/-! ### promises that hold where no repr is under way (the layer's own promises say nothing of that, and repr of a tuple asks it) -/
structure FnG (P : Program) (w : World) (K : PySem.W.Frag) (mg : Str → Option Value) (base : Heap) (CX : CXT) (k : Nat) (f : Addr)
    (fd : FuncData) (ps : List Str) (sp : Sp) : Prop where
  len : ∀ vs H Q E, sp vs H Q E → vs.length = ps.length
  go : ∀ (A : Around) (fs : List Env) (s : Shared) (H : Hp) (ar : Args) (us : List Value) (vs : List V) (Q : VK) (E : XK),
    Room k A → A.guards = some [] → Env0 P w K mg base A fs s H → BindsTo s fd ar (ps.zip us) → Vals vs us → sp vs H Q E →
    codeAny (model P w) A (.call (.ref f) ar) (CR CX fs P w H s Q E) s
section
variable {P : Program} {w : World} {K : PySem.W.Frag} {mg : Str → Option Value} {base : Heap} {CX : CXT}
theorem FnG.of {k : Nat} {f : Addr} {fd : FuncData} {ps : List Str} {sp : Sp} (F : FnOk P w K mg base CX k f fd ps sp) :
    FnG P w K mg base CX k f fd ps sp :=
  ⟨F.len, fun A fs s H ar us vs Q E a _ => F.run A fs s H ar us vs Q E a⟩
/-- a def's promise from its body, where no repr is under way -/
theorem FnG.by {x qual : Str} {st : Stmt} {f : Addr} {fd : FuncData} {N ps : List Str} {k : Nat} {sp : Sp} (F : Fun K x qual st f fd)
    (S : FnScope N ps (defScope st)) (len : ∀ vs H Q E, sp vs H Q E → vs.length = ps.length)
    (body : ∀ (cdv : Value) (A : Around) (fs : List Env) (s : Shared) (H : Hp) (vs : List V) (Q : VK) (E : XK),
      Room k (A.deeper (envOfC qual (defScope st) s.heap.objs.size f cdv)) → A.guards = some [] → sp vs H Q E →
      ∃ t, PSs (cxOf CX P w K mg base N qual (defScope st) f cdv A fs s H E) (defBody st) t ∧
        t { nx := fun _ H' => Q .non H', rt := Q } (start N vs) H) :
    FnG P w K mg base CX (k + 1) f fd ps sp := by
  obtain ⟨oc, od, kV, doc, pm, an, cdv, ct, osl, rfl, lk, cdok⟩ := F.ex
  refine ⟨len, ?_⟩
  intro A fs s H ar us vs Q E room gd env bd rel ask
  have kin : K.In s.heap := env.mod.kin.keeps fun b o z => (env.bs b o z).1
  have nol : s.heap.NoLimit := env.mod.nolimit.keeps fun b o z => (env.bs b o z).1
  have parK : ∀ y ∈ ps.zip us, (defScope st).names.lookup y.1 = some .local ∨
      ((defScope st).names.lookup y.1 = some .cell ∧
        ((cellsFrom (s.heap.objs.size + 1) (defScope st).names []).lookup y.1).isSome = true) := by
    rintro ⟨m, v⟩ hy
    rcases S.par m (List.of_mem_zip hy).1 with z | z
    · exact .inl z
    · exact .inr ⟨z, PySem.W.cellsFrom_some _ _ _ (.inl z)⟩
  refine codeAny_call_function room.depth (kin _ _ lk) rfl S.co S.gen rfl (PySem.W.codeRec_of kin cdok) (bd _ _ _ _ ?_)
  refine wpAny_newFunctionEnv_cells S.kind parK ?_
  rintro _ rfl s1 x
  refine ⟨nol.keeps x.toInCall.keep, codeAny_func ?_⟩
  obtain ⟨t, der, rd⟩ := body cdv A fs s H vs Q E (room.deeper _) gd ask
  have I := inv_start (CX := CX) (E := E) S room.hd env (len _ _ _ _ ask) rel x
  refine wpAny_mono (der.run [] s1 (start N vs) H _ I rd) ?_ fun e s' z => z
  intro fl s' z
  match fl, z with
  | .ret u, ⟨v, σ', H', J, rv, q⟩ => exact ⟨v, H', J.os, J.bare, J.base, J.hok, rv, q⟩
  | .next, ⟨σ', H', J, q⟩ => exact ⟨V.non, H', J.os, J.bare, J.base, J.hok, rfl, q⟩
  | .brk, ⟨_, _, _, q⟩ => exact False.elim q
  | .cont, ⟨_, _, _, q⟩ => exact False.elim q
end
/-- the same of a def that no error leaves -/
theorem FnG.by0 {P : Program} {w : World} {K : PySem.W.Frag} {mg : Str → Option Value} {base : Heap} {x qual : Str} {st : Stmt} {f : Addr}
    {fd : FuncData} {N ps : List Str} {k : Nat} {sp : Sp} (F : Fun K x qual st f fd) (S : FnScope N ps (defScope st))
    (len : ∀ vs H Q E, sp vs H Q E → vs.length = ps.length)
    (body : ∀ (cdv : Value) (A : Around) (fs : List Env) (s : Shared) (H : Hp) (vs : List V) (Q : VK) (E : XK),
      Room k (A.deeper (envOfC qual (defScope st) s.heap.objs.size f cdv)) → A.guards = some [] → sp vs H Q E →
      ∃ t, PSs (cxOf CX0 P w K mg base N qual (defScope st) f cdv A fs s H E).nox (defBody st) t ∧
        t { nx := fun _ H' => Q .non H', rt := Q } (start N vs) H) :
    FnG P w K mg base CX0 (k + 1) f fd ps sp :=
  FnG.by F S len fun cdv A fs s H vs Q E hr gd ask => by
    obtain ⟨t, d, r⟩ := body cdv A fs s H vs Q E hr gd ask
    exact ⟨t, d.nox, r⟩
theorem room70 {k : Nat} {A : Around} (r : Room k A) : A.units + 70 < cLine := by
  have z := r.un
  omega
section
variable {X : Cx} {CX : CXT} {k : Nat} {f : Addr} {fd : FuncData} {ps ks : List Str} {sp : Sp} {dvs : List V} {ds : List Value} {E : XK}
  {x : Str} {p pos : Pos} {e : Expr} {es : List Expr} {t tk : TA} {kws : List Keyword} {g : List Value → List Value → List Value} {gV : List V → List V → List V}
theorem goG {pins : List (Addr × Obj)} {σ : L2.St} {H : Hp} {s : Shared} {Q : VK} {ar : Args} {us : List Value} {vs : List V}
    (F : FnG X.prog X.w X.K X.mg X.base CX k f fd ps sp) (hr : Room k X.A) (gd : X.A.guards = some []) (hx : Passes CX X E)
    (I : Inv X pins σ H s) (bd : BindsTo s fd ar (ps.zip us)) (r : Vals vs us) (h : sp vs H Q E) :
    wpAny (model X.prog X.w) X.A (call (.ref f) ar.pos ar.kw) (EP X pins σ Q) X.xe s := by
  refine wpAny_call (codeAny_mono (F.go X.A X.stack s H ar us vs Q E hr gd I.env0 bd r h) ?_)
  intro res s' z
  match res, z with
  | .error e, z => exact hx pins σ H s e s' I z
  | .ok (.ret u), z => exact I.after z
  | .ok .next, z => exact False.elim z
  | .ok .brk, z => exact False.elim z
  | .ok .cont, z => exact False.elim z
theorem pg_call (F : FnG X.prog X.w X.K X.mg X.base CX k f fd ps sp) (hr : Room k X.A) (gd : X.A.guards = some []) (hg : Gl X x)
    (hm : X.mg x = some (.ref f)) (hk : PySem.W.keepIn X.K (.ref f) = true) (hb : Binds X.K fd ps []) (hx : Passes CX X E)
    (ha : PA X (e :: es) t) (d1 : (x == ("__debug__" : Str)) = false := by decide)
    (d2 : starEach (e :: es) X.env = (false, eval e X.env) :: starEach es X.env := by rfl)
    (d3 : (backTo pos (starEach es X.env)).any (·.1) = false := by rfl) :
    PE X (.Call (.Name x p) (e :: es) [] pos) (tCall sp [] E t) := by
  refine ⟨fun pins s σ H Q I h => wpAny_Call_Name_kw (ld_glob I hg hm ?_ d1)⟩
  refine PySem.W.callWith_K (h₀ := X.base) I.ok.mod.kin hk (thn (ha.run pos pins s σ H _ I h) ?_) d2 d3
  rintro us s1 ⟨vs, H1, I1, r, q⟩
  have q' : sp vs H1 Q E := by
    have z := q
    rw [List.append_nil] at z
    exact z
  have hl : (us ++ []).length = ps.length := by
    rw [List.append_nil, ← r.length]
    exact F.len _ _ _ _ q'
  have b := hb s1 us I1.kIn hl
  rw [List.append_nil] at b
  exact ⟨I1.kIn, goG (ar := ⟨us, []⟩) F hr gd hx I1 b r q'⟩
theorem pg_call0 (F : FnG X.prog X.w X.K X.mg X.base CX k f fd [] sp) (hr : Room k X.A) (gd : X.A.guards = some []) (hg : Gl X x)
    (hm : X.mg x = some (.ref f)) (hk : PySem.W.keepIn X.K (.ref f) = true) (hb : Binds X.K fd [] []) (hx : Passes CX X E)
    (d1 : (x == ("__debug__" : Str)) = false := by decide) : PE X (.Call (.Name x p) [] [] pos) (tCall sp [] E tNil) := by
  refine ⟨fun pins s σ H Q I h => wpAny_Call_Name_kw (ld_glob I hg hm ?_ d1)⟩
  exact PySem.W.callWith_K0 I.kIn hk (goG (ar := ⟨[], []⟩) F hr gd hx I (hb s [] I.kIn rfl) .nil h)
theorem pg_callK0 (F : FnG X.prog X.w X.K X.mg X.base CX k f fd ps sp) (hr : Room k X.A) (gd : X.A.guards = some []) (hg : Gl X x)
    (hm : X.mg x = some (.ref f)) (hk : PySem.W.keepIn X.K (.ref f) = true) (hb : KBinds X.K fd ps ks g gV) (hx : Passes CX X E)
    (hkw : PK X kws tk) (c1 : (backToKw pos (keywordEach kws X.env)).all (·.1.isSome) = true := by rfl)
    (c2 : (backToKw pos (keywordEach kws X.env)).filterMap (·.1) = ks := by rfl) (d1 : (x == ("__debug__" : Str)) = false := by decide)
    (c3 : ((backTo pos (starEach [] X.env)).any (·.1) || (backToKw pos (keywordEach kws X.env)).any (·.1.isNone)) = false := by rfl) :
    PE X (.Call (.Name x p) [] kws pos) (tCallK sp gV E tNil tk) := by
  refine ⟨fun pins s σ H Q I h => wpAny_Call_Name_kw (ld_glob I hg hm ?_ d1)⟩
  refine PySem.W.callWith_KW0 (h₀ := X.base) I.ok.mod.kin hk c1 (thn (hkw.run pos pins s σ H _ I h) ?_) c3
  rintro ws s2 ⟨zs, H2, I2, rz, q2⟩
  refine ⟨I2.kIn, ?_⟩
  rw [c2]
  have r2 : Vals (gV [] zs) (g [] ws) := hb.rel .nil rz
  have hl : (g [] ws).length = ps.length := by
    rw [← r2.length]
    exact F.len _ _ _ _ q2
  exact goG (ar := ⟨[], ks.zip ws⟩) F hr gd hx I2 (hb.to s2 [] ws I2.kIn hl) r2 q2
end
/-! the end over such a promise -/
theorem law_callG {P : Program} {w : World} {K : PySem.W.Frag} {mg mb : Str → Option Value} {CX : CXT} {k : Nat} {fa a : Addr} {fd : FuncData}
    {x : Str} {sp : Sp} {s : Shared} {vs : List Value} {ns : List Int} (kin : K.In s.heap) (gl : s.heap.Ns mainGlobals mg)
    (bn : s.heap.Ns builtinsNs mb) (bb : ∀ x : Str, x ≠ "__name__" → mb x = bootBuiltins x) (nol : s.heap.NoLimit) (ge : s.gens = #[])
    (ha : s.heap.get? a = some ⟨.type "list", none, .seq vs.toArray 0, #[]⟩) (hi : IntsAre vs ns) (hl : ns.length ≤ sizeLine)
    (hr : Room k callerA) (F : ∀ base : Heap, K.In base → base.Ns mainGlobals mg → FnG P w K mg base CX k fa fd [x] sp)
    (bd : ∀ (s : Shared) (u : Value), BindsTo s fd ⟨[u], []⟩ [(x, u)])
    (ask : ∀ H : Hp, SqL K H a (ns.map V.int) → sp [.ref a] H (fun v _ => v = .bl true) fun _ _ _ => False)
    (noX : ∀ H e s', CX [] H s (fun _ _ _ => False) e s' → False) :
    codeAny (model P w) callerA (.call (.ref fa) ⟨[.ref a], []⟩)
      (fun r s' => r = .ok (.ret (.bool true)) ∧ OldK s.heap s'.heap ∧ s'.os = s.os ∧ AllBare s'.gens) s := by
  have rv := vals_ints hi
  -- what is tracked: the script alone, locked; nothing where it is the module's own
  have main : ∀ H : Hp, (∀ b u, H b = some u → b = a ∧ K.lookup a = none ∧ u = .frz ⟨.type "list", none, .seq vs.toArray 0, #[]⟩ (.lst (ns.map V.int))) →
      SqL K H a (ns.map V.int) →
      codeAny (model P w) callerA (.call (.ref fa) ⟨[.ref a], []⟩)
        (fun r s' => r = .ok (.ret (.bool true)) ∧ OldK s.heap s'.heap ∧ s'.os = s.os ∧ AllBare s'.gens) s := by
    intro H only sq
    have free : ∀ {b : Addr}, b ≠ a → H b = none := fun {b} ne => by
      cases z : H b with
      | none => rfl
      | some u => exact absurd (only b u z).1 ne
    have off : ∀ {b : Addr} {o : Obj}, s.heap.get? b = some o → o.data ≠ .seq vs.toArray 0 → H b = none := fun {b o} z d => by
      refine free fun e => d ?_
      rw [e, ha] at z
      rw [← Option.some.inj z]
    have ns2 : ∀ {b : Addr} {m : Str → Option Value}, s.heap.Ns b m → (hidT s.heap H).Ns b m := by
      rintro b m ⟨o, es, ep, z, d, r⟩
      exact ⟨o, es, ep, hidT_get z (off z (by rw [d]; intro q; cases q)), d, r⟩
    have kin2 : K.In (hidT s.heap H) := fun b o z => hidT_get (kin b o z) (by
      cases q : H b with
      | none => rfl
      | some u =>
        obtain ⟨e, n, _⟩ := only b u q
        rw [e, n] at z
        cases z)
    have ok : HOk P w H s.heap := fun b u z => by
      obtain ⟨e, _, rfl⟩ := only b u z
      subst e
      exact ⟨ha, by rw [List.length_map]; exact hl, vs, _, rv, ha⟩
    obtain ⟨mc, c1, c2⟩ := nol
    have env : Env0 P w K mg (hidT s.heap H) callerA [] s H :=
      { frames := rfl, mod := ⟨kin2, ns2 gl, ⟨mb, ns2 bn, bb⟩, ⟨mc, ns2 c1, c2⟩⟩, bs := fun b o z => of_hidT z,
        bsz := Nat.le_of_eq (hidT_size _ _), funs := trivial, frf := fun b hb => (List.not_mem_nil hb).elim, hok := ok, bare := .of_eq ge }
    refine codeAny_mono ((F _ kin2 (ns2 gl)).go callerA [] s H ⟨[.ref a], []⟩ [.ref a] [.ref a] _ _ hr rfl env (bd s _) (.cons rfl .nil) (ask H sq)) ?_
    intro res s' z
    match res, z with
    | .error e, z => exact (noX H e s' z).elim
    | .ok .next, z => exact False.elim z
    | .ok .brk, z => exact False.elim z
    | .ok .cont, z => exact False.elim z
    | .ok (.ret u), ⟨v, H', os, bare, un, ok', r', q⟩ =>
      have q' : v = .bl true := q
      subst q'
      obtain rfl : u = Value.bool true := r'
      refine ⟨rfl, OldK.of_keep fun b o z => ?_, os, bare⟩
      cases y : H b with
      | none => exact un.keep b o z y (fun h => (List.not_mem_nil h).elim) (List.not_mem_nil)
      | some u =>
        obtain ⟨e, _, rfl⟩ := only b u y
        have y2 := un.frzs b _ _ y
        obtain ⟨e2, _⟩ := ok' b _ y2
        rw [e] at z e2 ⊢
        rw [ha] at z
        cases z
        exact e2
  cases hk : K.lookup a with
  | some o =>
    have z := kin a o hk
    rw [ha] at z
    cases z
    refine main (fun _ => none) (fun b u q => nomatch q) (.inr ⟨_, vs.toArray, _, hk, rfl, rfl, rfl, ?_, by simpa using rv⟩)
    rw [List.size_toArray, hi.length]
    exact hl
  | none =>
    refine main (fun b => if b = a then some (.frz ⟨.type "list", none, .seq vs.toArray 0, #[]⟩ (.lst (ns.map V.int))) else none) ?_ (.inl (.inr ⟨_, if_pos rfl⟩))
    intro b u q
    by_cases e : b = a
    · rw [if_pos e] at q
      exact ⟨e, hk, (Option.some.inj q).symm⟩
    · rw [if_neg e] at q
      cases q
theorem walkG {l : PySem.W.OpenLaw} {n k : Nat} {q : Program} {loose : List Str} {XP : (Str → Option Value) → Heap → Prop}
    {YP : World → Heap → Prop} {d : DefRec} {K : Params → PySem.W.Frag} {sp : World → Sp} {x : Str} (hn : l.most = some n) (hz : n ≤ sizeLine)
    (hdf : d.params.defaults = []) (hr : Room k callerA) (hY : ∀ (w : World) (h : Heap), YP w h → (K w.params).In h)
    (F : ∀ (w : World) (mg : Str → Option Value) (fa : Addr) (h : Heap), (K w.params).In h → h.Ns mainGlobals mg → mg d.name = some (.ref fa) →
      ∃ fd : FuncData, (∀ (s : Shared) (u : Value), BindsTo s fd ⟨[u], []⟩ [(x, u)]) ∧
        ∀ base : Heap, (K w.params).In base → base.Ns mainGlobals mg → FnG l.prog w (K w.params) mg base CX0 k fa fd [x] (sp w))
    (ask : ∀ (w : World) (H : Hp) (a : Addr) (ns : List Int), ns.length ≤ n → SqL (K w.params) H a (ns.map V.int) →
      sp w [.ref a] H (fun v _ => v = .bl true) fun _ _ _ => False) :
    PySem.W.WalkO q loose XP YP l.row.toRowW d [] (fun f vs => PySem.call f vs) := by
  refine Att.attach_call hn hdf ?_
  intro w s₀ s₁ mg mb fa o pm cd doc a vs ns G Y ho hd hcd hmg hobj hints hlen hg
  have kin := hY w _ Y
  obtain ⟨fd, hb, hF⟩ := F w mg fa _ kin G.T.g hmg
  exact law_callG kin G.T.g G.T.b G.T.builtins G.T.nolimit hg hobj hints (Nat.le_trans hlen hz) hr hF hb (fun H hS => ask w H a ns hlen hS) fun _ _ _ z => z
/-! ### repr of data, where no repr is under way -/
def Shows (K : PySem.W.Frag) (H : Hp) (x : V) (d : PyData) : Prop :=
  (Dp K H x d ∧ d.showable = true ∧ SeqAt.shaped d = true ∧ d.shown.length ≤ sizeLine) ∨ (∃ a, x = .ref a ∧ (H a = some (.dK []) ∨ H a = some (.dT [])) ∧ d = .dict [])
def rRepr (K : PySem.W.Frag) : List V → Hp → VK → Prop := fun xs H Q =>
  ∃ (x : V) (d : PyData), xs = [x] ∧ Shows K H x d ∧ Q (.str d.shown) H
theorem k_repr {X : Cx} (K : PySem.W.Frag) (gd : X.A.guards = some []) (hu : X.A.units + 70 < cLine) (hK : X.K = K := by rfl) :
    CallR X (.builtin "repr") (rRepr K) := by
  subst hK
  intro pins s σ H xs us Q I r h
  obtain ⟨x, d, rfl, sh, q⟩ := h
  cases r with
  | cons r rr =>
    cases rr
    rename_i u
    rcases sh with ⟨dp, hs, hsh, hz⟩ | ⟨a, rfl, ha, rfl⟩
    · have hd := SeqAt.depth_of_shaped hsh
      have nd := PyData.hasDict_of_canLay d (SeqAt.canLay_of_shaped hsh)
      obtain ⟨as, rd⟩ := dp.reads I d x u r
      cases rd with
      | none => exact PySem.P.repr_of_none ⟨.str _, H, I.tok _, ⟨_, rfl⟩, q⟩
      | bool b => exact PySem.P.repr_of_bool ⟨.str _, H, I.tok _, ⟨_, rfl⟩, q⟩
      | int i t => exact PySem.P.repr_of_int (of_decide_eq_true hs) ⟨.str _, H, I.tok _, ⟨_, rfl⟩, q⟩
      | str y t => exact PySem.P.repr_of_str ⟨.str _, H, I.tok _, ⟨_, rfl⟩, q⟩ hz
      | list h1 h2 h3 h4 =>
        refine repr_of_reads' (h₀ := s.heap) (Reads.list h1 h2 h3 h4) hs (PyData.noDict_hsm nd) gd (by omega) (fun _ _ e => e) (fun h' v tk hk => ?_) hz
        exact ⟨.str _, H, I.kept (t' := tk) hk, ⟨_, rfl⟩, q⟩
      | tuple h1 h2 h3 h4 =>
        refine repr_of_reads' (h₀ := s.heap) (Reads.tuple h1 h2 h3 h4) hs (PyData.noDict_hsm nd) gd (by omega) (fun _ _ e => e) (fun h' v tk hk => ?_) hz
        exact ⟨.str _, H, I.kept (t' := tk) hk, ⟨_, rfl⟩, q⟩
      | dict => cases nd
    · cases r
      have ex : ∃ o ep, s.heap.get? a = some o ∧ o.ExactDict ∧ o.data = .dict #[] ep ∧ (a == sysModules) = false := by
        rcases ha with ha | ha
        · obtain ⟨_, sm, vs, kv, o, es, ep, h1, h2, h3, h4⟩ := I.hok a _ ha
          cases kv
          obtain ⟨_, h5, _⟩ := h4
          have z : es.toList = [] := by
            cases hz : es.toList with
            | nil => rfl
            | cons y r =>
              rw [hz] at h5
              cases h5
          rw [Array.toList_eq_nil_iff.mp z] at h3
          exact ⟨o, ep, h1, h2, h3, sm⟩
        · obtain ⟨_, sm, xs, kv, o, es, ep, h1, h2, h3, h4, _⟩ := I.hok a _ ha
          cases kv
          have z : es.toList = [] := h4
          rw [Array.toList_eq_nil_iff.mp z] at h3
          exact ⟨o, ep, h1, h2, h3, sm⟩
      obtain ⟨o, ep, h1, h2, h3, sm⟩ := ex
      have dd : PyData.depth (.dict []) ≤ 3 := by decide +kernel
      refine repr_of_reads' (h₀ := s.heap) (d := .dict []) (Reads.dict h1 h2.1 h3 .nil .nil) rfl (fun _ => ?_) gd (by omega) (fun _ _ e => e) (fun h' v tk hk => ?_) (by decide +kernel)
      · intro z
        have z2 : sysModules = a := by simpa using z
        rw [z2] at sm
        simp at sm
      · exact ⟨.str _, H, I.kept (t' := tk) hk, ⟨_, rfl⟩, q⟩
/-! ### enumerate of a tuple: the rule that the layer lacks -/
section
set_option maxHeartbeats 4000000
theorem enumT_new (t : Addr) (vals : Array Value) :
    Meets (Builtin.«enumerate.__new__» ⟨[.type "enumerate", .ref t], []⟩)
      (fun _ R s => s.heap.IsTuple t vals ∧
        R (.ok (.ret (.ref (s.heap.push ⟨.type "tuple_iterator", none, .fields #[.ref t, .int 0 0], #[]⟩).objs.size)))
          { s with heap := ((s.heap.push ⟨.type "tuple_iterator", none, .fields #[.ref t, .int 0 0], #[]⟩).push ⟨.type "enumerate", none, .fields #[.none, .bool false, .ref s.heap.objs.size, rawInt 0, .none, .none], #[]⟩) }) :=
  .of_wp fun prog w A R s hyp => by
    obtain ⟨hp, g, d, tk, os⟩ := s
    obtain ⟨hT, hyp⟩ := hyp
    have below := sub_enumerate
    have B := begins_tuple t vals
    have it : ∀ {A' : Around} {E' : Value → Shared → Prop} {Q' : Value → Shared → Prop},
        Q' (.ref hp.objs.size) ⟨hp.push ⟨.type "tuple_iterator", none, .fields #[.ref t, .int 0 0], #[]⟩, g, d, tk, os⟩ →
        wpAny (model prog w) A' (pyIter (.ref t)) Q' E' ⟨hp, g, d, tk, os⟩ :=
      fun z => B.iter prog w _ _ ⟨hp, g, d, tk, os⟩ _ hT z
    wp_walk using it
    refine wpAny_stack_any fun st => ?_
    refine wpAny_pure ?_
    split
    · rename_i c _ _ _ _ _
      cases (c == Value.type "enumerate") <;> (wp_walk using it) <;> exact ⟨_, rfl, hyp⟩
    · wp_walk using it
      exact ⟨_, rfl, hyp⟩
theorem enumT_call {prog : Program} {w : World} {A : Around} {E : Value → Shared → Prop} {s : Shared} {t : Addr} {vals : Array Value}
    {Q : Value → Shared → Prop} (hT : s.heap.IsTuple t vals)
    (k : ∀ h', IsEnum h' (s.heap.objs.size + 1) s.heap.objs.size 0 .none → h'.IsTupleIter s.heap.objs.size t 0 →
      h'.objs.size = s.heap.objs.size + 2 → (∀ b o, s.heap.get? b = some o → h'.get? b = some o) →
      Q (.ref (s.heap.objs.size + 1)) { s with heap := h' }) :
    wpAny (model prog w) A (call (.type "enumerate") [.ref t]) Q E s := by
  refine callType_new F.called_enumerate (by decide) (F.typeCall_enumerate_1 _) (F.newCall_enumerate_1 _)
    (fun ob => F.args_object_init_2 ob _) F.entry_enumerate_new (enumT_new t vals) ⟨hT, ?_⟩
  generalize hq1 : s.heap.push ⟨.type "tuple_iterator", none, .fields #[.ref t, .int 0 0], #[]⟩ = q1
  have sz1 : q1.objs.size = s.heap.objs.size + 1 := by
    rw [← hq1]
    exact Heap.size_push ..
  have g1 : q1.get? s.heap.objs.size = some ⟨.type "tuple_iterator", none, .fields #[.ref t, .int 0 0], #[]⟩ := by
    rw [← hq1]
    exact Heap.get?_push_size _ rfl
  have k1 : ∀ b o, s.heap.get? b = some o → q1.get? b = some o := fun b o e => by
    rw [← hq1]
    exact Heap.get?_push_of_some _ e
  show _ ∧ _
  have he : IsEnum (q1.push ⟨.type "enumerate", none, .fields #[.none, .bool false, .ref s.heap.objs.size, rawInt 0, .none, .none], #[]⟩)
      (s.heap.objs.size + 1) s.heap.objs.size 0 .none := by
    have z := Heap.get?_push_size q1
      (o := ⟨.type "enumerate", none, .fields #[.none, .bool false, .ref s.heap.objs.size, rawInt 0, .none, .none], #[]⟩) rfl
    rw [sz1] at z
    exact z
  rw [sz1]
  refine ⟨⟨_, he, rfl⟩, k _ he ?_ ?_ ?_⟩
  · exact ⟨⟨.type "tuple_iterator", none, .fields #[.ref t, .int 0 0], #[]⟩, Heap.get?_push_of_some _ g1, rfl, rfl⟩
  · rw [Heap.size_push, sz1]
  · intro b o e
    exact Heap.get?_push_of_some _ (k1 b o e)
/-- the tuple at a, each item in a new pair with its place -/
def IteT (K : PySem.W.Frag) (a : Addr) : It where
  go := fun i H => ∃ (xs : List V) (x : V), SqT K H a xs ∧ xs[i]? = some x
  yld := fun i H v H' => ∃ p x, v = .ref p ∧ H p = none ∧ H' = upd H p (.tup [.int (i : Nat), x]) ∧ ∀ xs, SqT K H a xs → xs[i]? = some x
  stop := fun i H => ∃ xs : List V, SqT K H a xs ∧ xs.length ≤ i
theorem turn_enumT {P : Program} {w : World} {K : PySem.W.Frag} {elts : List Expr} {kk : Nat} {tpos : Pos} (a e it : Addr) :
    Turn P w K (.Tuple elts kk tpos) (IteT K a) [e, it] e
      (fun i h => (∃ old, IsEnum h e it ((i : Nat) : Int) old) ∧ h.IsTupleIter it a i ∧ e ≠ it ∧ a ≠ it ∧ a ≠ e) where
  mem := by simp
  obj := by
    intro i h st b hb
    obtain ⟨⟨old, he⟩, ⟨o, ho, _, hd⟩, _⟩ := st
    rcases (show b = e ∨ b = it by simpa using hb) with rfl | rfl
    · exact ⟨_, he, fun v q => nomatch q⟩
    · refine ⟨o, ho, fun v q => ?_⟩
      rw [hd] at q
      cases q
  keep := by
    intro i h h' st k
    obtain ⟨⟨old, he⟩, hi, hne⟩ := st
    exact ⟨⟨old, k e (by simp) _ he⟩, hi.at (fun o q => k it (by simp) o q), hne⟩
  item := by
    intro X eP ew eK hc i pins s σ H E I hf st hg
    subst eP ew eK
    obtain ⟨⟨old, he⟩, hit, hne, hai, hae⟩ := st
    obtain ⟨xs, x, hq, hx⟩ := hg
    obtain ⟨its, rv, p, _⟩ := I.tuple hq
    obtain ⟨u, hu, ru⟩ := rv.get hx
    have le : e < s.heap.objs.size := Heap.lt_size he
    have li : it < s.heap.objs.size := by
      obtain ⟨_, z, _⟩ := hit
      exact Heap.lt_size z
    have D := Draws.tuple (prog := X.prog) (w := X.w) (A := X.A.in1) (I.ok.hd hc) it a hai its.toArray
    refine wpAny_pyNext_enum_itemC D he ⟨hit, p⟩ (i := i) ?_ hne (by simp [hne, Ne.symm hae]) fun y h' tk hy ho hst hT hsz hk => ?_
    · have z := (List.getElem?_eq_some_iff.mp hu).1
      simpa using z
    have ey : y = u := by
      have z : its.toArray[i]? = some u := by simpa using hu
      rw [z] at hy
      exact (Option.some.inj hy).symm
    subst ey
    refine ⟨_, rfl, wpAny_letOwnedTupleGo_enum (s := { s with heap := h', toks := tk + 1 }) ho fun h2 he2 sb => ?_⟩
    have hT2 : h2.get? s.heap.objs.size = some ⟨.type "tuple", none, .seq #[.int i tk, y], #[]⟩ :=
      (sb.2 _ (Nat.ne_of_gt le)).trans hT
    have new : ObjOk X.prog X.w (upd H s.heap.objs.size (.tup [.int (i : Nat), x])) h2 s.heap.objs.size (.tup [.int (i : Nat), x]) :=
      ⟨by show 2 ≤ sizeLine; decide, [.int i tk, y], .cons ⟨_, rfl⟩ (.cons ru .nil), ⟨_, hT2, rfl, _, rfl⟩⟩
    have keepB : ∀ b ob, b ∉ [e, it] → s.heap.get? b = some ob → h2.get? b = some ob := fun b ob hb z => by
      have be : b ≠ e := fun q => hb (by simp [q])
      have bi : b ≠ it := fun q => hb (by simp [q])
      exact (sb.2 b be).trans (hk b ob be bi z)
    have I1 : Inv X pins σ (upd H s.heap.objs.size (.tup [.int (i : Nat), x])) { s with heap := h2, toks := tk + 1 } :=
      I.turnedNew (ch := [e, it]) (fun b ob hb z => keepB b ob hb z) hf (Nat.le_refl _) new
    refine ⟨.ref s.heap.objs.size, _, I1, rfl, ⟨_, x, rfl, I.hok.fresh (Nat.le_refl _), rfl, fun ys hy2 => ?_⟩, ⟨⟨y, ?_⟩, ?_, hne, hai, hae⟩, fun b hb => ?_⟩
    · rw [I.tuple_inj hy2 hq]
      exact hx
    · rw [show ((i + 1 : Nat) : Int) = (i : Int) + 1 by omega]
      exact he2
    · exact hst.1.at fun o z => (sb.2 it (Ne.symm hne)).trans z
    · have lb : b < s.heap.objs.size := by
        rcases (show b = e ∨ b = it by simpa using hb) with rfl | rfl
        · exact le
        · exact li
      rw [upd_ne (Nat.ne_of_lt lb)]
      exact (hf b hb).1
  done := by
    intro X eP ew eK hc i pins s σ H E I hf st hg
    subst eP ew eK
    obtain ⟨⟨old, he⟩, hit, hne, hai, hae⟩ := st
    obtain ⟨xs, hq, hx⟩ := hg
    obtain ⟨its, rv, p, _⟩ := I.tuple hq
    obtain ⟨f0, f1, f2, f3, f4, f5⟩ := hf it (by simp)
    have hl := rv.length
    have D : Draws X.prog X.w X.A.in1 it [it, a] i (fun _ _ => False) (fun j h => j = i ∧ h.IsTupleIter it a i ∧ h.IsTuple a its.toArray) :=
      { live := fun _ _ z => by
          obtain ⟨_, ⟨o, ho, _⟩, _⟩ := z
          exact ⟨o, ho⟩
        frame := fun _ _ _ z k =>
          ⟨z.1, z.2.1.at fun o q => k it (by simp) o q, z.2.2.at fun o q => k a (by simp) o q⟩
        item := fun j _ _ _ hj z _ => absurd z.1 (Nat.ne_of_lt hj)
        done := fun _ _ _ z k => wpAny_nextOf_tuple_end (I.ok.hd hc) z.2.1 z.2.2 (by simp; omega) k }
    refine wpAny_pyNext_enum_endD D he ⟨rfl, hit, p⟩ fun h' eb => ⟨rfl, ?_⟩
    exact I.turned (t' := s.toks) (fun b o hb q => eb b o hb q) f0 f1 f3 f4 f5
  self := by
    intro A i s Q E st k
    obtain ⟨⟨_, he⟩, _⟩ := st
    exact wpAny_pyIter_enum he k
def iEnumT (K : PySem.W.Frag) (ta : TA) : TI := fun σ H R =>
  ta σ H fun vs H1 => ∃ a xs, vs = [.ref a] ∧ SqT K H1 a xs ∧ R (IteT K a) H1
/-- for i, x in enumerate(t), t a tuple -/
theorem pi_enumT (K : PySem.W.Frag) {X : Cx} {e : Expr} {ta : TA} {p pos tpos : Pos} {elts : List Expr} {kk : Nat} (hg : Gl X "enumerate")
    (hm : X.mg "enumerate" = none) (ha : PA X [e] ta) (hK : X.K = K := by rfl) (hs : starEach [e] X.env = [(false, eval e X.env)] := by rfl) :
    PI X (.Tuple elts kk tpos) (.Call (.Name "enumerate" p) [e] [] pos) (iEnumT K ta) := by
  subst hK
  refine ⟨fun pins s σ H R I h => ?_⟩
  refine Call_ (ld_blt I hg hm boot_enumerate (PyProof.Rows.callWith_type1 (thn (ha.run pos pins s σ H _ I h) ?_) hs rfl))
  rintro us s1 ⟨vs, H1, I1, r1, a, xs, rfl, hq, q⟩
  cases r1 with
  | cons r rr =>
    cases rr
    cases r
    obtain ⟨its, rv, pT, _⟩ := I1.tuple hq
    have la : a < s1.heap.objs.size := by
      obtain ⟨o, ho, _⟩ := (show s1.heap.IsTuple a its.toArray from pT)
      exact Heap.lt_size ho
    refine enumT_call (show s1.heap.IsTuple a its.toArray from pT) fun h' he hit hsz hk => wpAny_pyIter_enum he ?_
    have I2 : Inv X pins σ H1 { s1 with heap := h' } := I1.kept (t' := s1.toks) hk
    refine ⟨s1.heap.objs.size + 1, [s1.heap.objs.size + 1, s1.heap.objs.size], _, _, H1, rfl, I2, turn_enumT a _ _, ?_, fun b hb => ?_, q⟩
    · exact ⟨⟨.none, he⟩, hit, Nat.succ_ne_self _, Nat.ne_of_lt la, Nat.ne_of_lt (Nat.lt_succ_of_lt la)⟩
    · have lb : s1.heap.objs.size ≤ b := by
        rcases (show b = s1.heap.objs.size + 1 ∨ b = s1.heap.objs.size by simpa using hb) with rfl | rfl
        · exact Nat.le_succ _
        · exact Nat.le_refl _
      exact I1.fpOk lb (I1.hok.fresh lb)
end
theorem lc_enumT {K : PySem.W.Frag} {a : Addr} {xs : List V} {g : TG} {tt : TT} {te : TE} {vs : List Nat} {σ : L2.St} {H1 : Hp} {D : Addr} {Qd : Hp → Prop}
    (Pv : Nat → Hp → Prop) (h0 : Pv 0 (upd H1 D (.lst []))) (hl : ∀ i H, i ≤ xs.length → Pv i H → SqT K H a xs)
    (hs : ∀ i x H p, xs[i]? = some x → Pv i H → H p = none →
      g (.ref p) (wipe σ vs) (upd H p (.tup [.int (i : Nat), x])) fun σ2 H2 => wipe σ2 vs = wipe σ vs ∧ tt σ2 H2 fun b H3 =>
        if b = true then te σ2 H3 fun y H4 => ∃ acc, H4 D = some (.lst acc) ∧ acc.length < sizeLine ∧ Pv (i + 1) (upd H4 D (.lst (acc ++ [y])))
        else Pv (i + 1) H3)
    (hd : ∀ H, Pv xs.length H → Qd H) :
    ∃ W : Nat → Nat → Hp → Prop, (∃ m, W 0 m (upd H1 D (.lst []))) ∧ ∀ i m H, W i m H →
      ((IteT K a).stop i H ∧ Qd H) ∨
      ((IteT K a).go i H ∧ ∃ Nx : Hp → Prop, (∀ H', Nx H' → ∃ m', m' < m ∧ W (i + 1) m' H') ∧
        ∀ x H', (IteT K a).yld i H x H' → g x (wipe σ vs) H' fun σ2 H2 => wipe σ2 vs = wipe σ vs ∧ tt σ2 H2 fun b H3 =>
          if b = true then te σ2 H3 fun y H4 => ∃ acc, H4 D = some (.lst acc) ∧ acc.length < sizeLine ∧ Nx (upd H4 D (.lst (acc ++ [y])))
          else Nx H3) := by
  refine ⟨fun i m H => m + i = xs.length ∧ Pv i H, ⟨xs.length, rfl, h0⟩, ?_⟩
  rintro i m H ⟨hm, p⟩
  have q := hl i H (by omega) p
  by_cases lt : i < xs.length
  · refine .inr ⟨⟨xs, xs[i], q, List.getElem?_eq_getElem lt⟩, Pv (i + 1), fun H' p' => ⟨m - 1, by omega, by omega, p'⟩, ?_⟩
    rintro x H' ⟨t, y, rfl, ht, rfl, hy⟩
    exact hs i y H t (hy xs q) p ht
  · have e : i = xs.length := by omega
    subst e
    exact .inl ⟨⟨xs, q, Nat.le_refl _⟩, hd H p⟩
/-! ### sorted of a tuple of ints -/
section
variable {X : Cx}
def rSortedT (K : PySem.W.Frag) : List V → Hp → VK → Prop := fun vs H Q => ∃ (a : Addr) (ns : List Int), vs = [V.ref a] ∧ SqT K H a (ns.map V.int) ∧
  ∀ (ns' : List Int) (p : Addr), ns'.Perm ns → ns'.Pairwise (· ≤ ·) → H p = none → Q (.ref p) (upd H p (.lst (ns'.map V.int)))
theorem cr_sortedT : CallR X (.builtin "sorted") (rSortedT X.K) := by
  intro pins s σ H vs us Q I r h
  obtain ⟨a, ns, rfl, hs, q⟩ := h
  obtain ⟨its, rv, hl, hz⟩ := I.tuple hs
  rw [Vals.ref1 r]
  have hi := rv.ints
  have hz2 : its.length ≤ sizeLine := by rw [← rv.length]; exact hz
  obtain ⟨ot, ho, hc, nT, hd⟩ := id hl
  refine Calls.call_function_entry kind_sorted plain_sorted entry_sorted (args_sorted1 _) ?_
  unfold Builtin.«sorted»
  refine wpAny_bind (m := checkCount "sorted" 1 1 _) (wpAny_pure ?_)
  refine wpAny_bind (wpAny_collect_seq a (.inr rfl) ho hc hd (fun h' hk => ?_) (by rw [List.size_toArray]; exact hz2))
  refine wpAny_bind (wpAny_newList ?_ hz2)
  have hoL : (h'.push (seqObj "list" its.toArray 0)).get? h'.objs.size = some (seqObj "list" its.toArray 0) := Heap.get?_push_size _ rfl
  have keep : ∀ b o, s.heap.get? b = some o → b ≠ h'.objs.size ∧ (h'.push (seqObj "list" its.toArray 0)).get? b = some o := fun b o q => by
    have z := hk b o q
    exact ⟨Nat.ne_of_lt (Heap.lt_size z), Heap.get?_push_of_some _ z⟩
  show wpAny _ _ _ _ _ { s with heap := h'.push (seqObj "list" its.toArray 0) }
  refine wpAny_bind (wpAny_holding (wpAny_call_entry PyProof.Rows.slot_list_sort ⟨_, hoL, rfl⟩ PyProof.Rows.entry_list_sort (SrtO.list_sort_ord SrtO.swo_int hoL hz2 (fun h2 => SrtO.ints_sortable hi h2) fun out h1 h2 => ⟨_, rfl, ?_⟩) (PyProof.Rows.args_list_sort _)))
  refine wpAny_pure ?_
  obtain ⟨k1, k2, k3⟩ := SrtO.ints_out hi h1 h2
  obtain ⟨ep, he'⟩ := PyProof.Rows.sortedHeap_at (vs := its) (out := out.toArray) hoL
  have hlen : ((out.map SrtO.iv).map V.int).length ≤ sizeLine := by
    rw [List.length_map, k2.length_eq]
    rw [List.length_map] at hz
    exact hz
  have hn : H h'.objs.size = none := (I.hok.kept hk).fresh (Nat.le_refl _)
  have hp : s.heap.get? h'.objs.size = none := by
    cases e : s.heap.get? h'.objs.size with
    | none => rfl
    | some u => exact absurd rfl (keep _ _ e).1
  refine ⟨_, rfl, .ref _, upd H h'.objs.size (.lst ((out.map SrtO.iv).map V.int)), I.laidN (t' := s.toks) (fun b u hu => ?_) hp hn ⟨hlen, out, ep, vals_of_ints k1, he'⟩, rfl, q _ _ k2 k3 hn⟩
  obtain ⟨n1, n2⟩ := keep b u hu
  rw [PyProof.Rows.sortedHeap_old n1 (Heap.lt_size n2)]
  exact n2
theorem k_sortedT (K : PySem.W.Frag) (h : X.K = K := by rfl) : CallR X (.builtin "sorted") (rSortedT K) := h ▸ cr_sortedT
end


def gxNames : List Str := ["gathered"]

/-! ### an exception held as a value: at a, of the class cls, its own dict d -/
def exv (a : Addr) (cls : Value) (d : Option Addr) : HO := .ext fun h => ∃ (oe : Obj) (vs : Array Value), h.get? a = some oe ∧ Zc cls d oe ∧ oe.data = .fields vs
theorem exv_ok {P : Program} {w : World} {H : Hp} {h : Heap} {a : Addr} {cls : Value} {d : Option Addr} {oe : Obj} {vs : Array Value} (e : h.get? a = some oe) (z : Zc cls d oe) (y : oe.data = .fields vs) : ObjOk P w H h a (exv a cls d) := by
  refine ⟨⟨oe, vs, e, z, y⟩, ⟨oe, e⟩, ?_⟩
  rintro h1 h2 ⟨o, v, q1, q2, q3⟩ k
  exact ⟨o, v, k _ q1, q2, q3⟩
theorem exv_at {P : Program} {w : World} {H : Hp} {h : Heap} {a : Addr} {cls : Value} {d : Option Addr} (ok : HOk P w H h) (e : H a = some (exv a cls d)) : ∃ (oe : Obj) (vs : Array Value), h.get? a = some oe ∧ Zc cls d oe ∧ oe.data = .fields vs := by
  have z : ObjOk P w H h a (.ext _) := ok a _ e
  exact z.1
section
variable {X : Cx} {pins : List (Addr × Obj)} {σ : L2.St} {H : Hp} {s : Shared}
/-- from now on it is tracked -/
theorem inv_track {a : Addr} {cls : Value} {d : Option Addr} {oe : Obj} {vs : Array Value} (I : Inv X pins σ H s) (e : s.heap.get? a = some oe) (z : Zc cls d oe) (y : oe.data = .fields vs)
    (na : H a = none) (n0 : X.s_0.heap.get? a = none) (nl : a ≠ X.env.locals) (np : ∀ p ∈ X.pn ++ pins, p.1 ≠ a) : Inv X pins σ (upd H a (exv a cls d)) s where
  ok := I.ok
  os := I.os
  bare := I.bare
  base := by
    have apart : ∀ {b : Addr} {u : HO}, H b = some u → b ≠ a := fun q => ne_of_none q na
    constructor
    · exact I.base.keep
    · exact I.base.slot
    · intro b o q1 q2 q3
      have ne : b ≠ a := by
        rintro rfl
        rw [n0] at q1
        cases q1
      rw [upd_ne ne]
      exact I.base.free b o q1 q2 q3
    · exact I.base.there
    · intro b xs q
      have r := I.base.tups b xs q
      rw [upd_ne (apart r)]
      exact r
    · intro b o u q
      have r := I.base.frzs b o u q
      rw [upd_ne (apart r)]
      exact r
    · intro b ps q
      obtain ⟨m, r⟩ := I.base.tbls b ps q
      exact ⟨m, (upd_ne (apart r)).trans r⟩
  loc := I.loc
  cell := I.cell
  free := (upd_ne (Ne.symm nl)).trans I.free
  freeC := by
    intro x c q
    obtain ⟨v, o, r1, r2⟩ := I.cell x c q
    have ne : c ≠ a := by
      rintro rfl
      rw [e] at r1
      cases r1
      rw [y] at r2
      cases r2
    exact (upd_ne ne).trans (I.freeC x c q)
  pin := by
    intro p hp
    obtain ⟨r1, r2, r3⟩ := I.pin p hp
    exact ⟨r1, (upd_ne (np p hp)).trans r2, r3⟩
  hok := by
    intro b u q
    by_cases hb : b = a
    · subst hb
      rw [upd_same] at q
      cases q
      exact exv_ok e z y
    · rw [upd_ne hb] at q
      refine (I.hok b u q).stay (fun _ _ _ r => r) ?_ ?_
      · intro c r
        exact (upd_ne (ne_of_none r na)).trans r
      · intro c xs r
        exact (upd_ne (ne_of_none r na)).trans r
  len := I.len
end
/-- what a class says, so that an exception of it can be asked -/
structure XvC (K : PySem.W.Frag) (C : Addr) : Prop where
  ga : PySem.W.findIn K (.ref C) "__getattribute__" = some (some (.builtin "BaseException.__getattribute__"))
  gg : PySem.W.findIn K (.ref C) "__getattr__" = some none
  bx : PySem.W.subIn K (.ref C) (.type "BaseException") = some true
  hd : PySem.W.hasDictIn K C = true
  ca : PySem.W.findIn K (.ref C) "__class__" = some (some (.builtin "object.__class__"))
  cg : PySem.W.specialIn K (.builtin "object.__class__") "__get__" = some (some (.builtin "getset_descriptor.__get__"))
  ct : PySem.W.takesIn K (.builtin "object.__class__") = some true
  mo : PySem.W.mroIn K C (.type "object") = some true
section
variable {X : Cx} (K : PySem.W.Frag)
theorem inst_of {pins : List (Addr × Obj)} {σ : L2.St} {H : Hp} {s : Shared} {a C : Addr} {d : Option Addr} (I : Inv X pins σ H s) (e : H a = some (exv a (.ref C) d)) (hd : ∀ dd, d = some dd → ∃ o, s.heap.get? dd = some o) :
    ∃ (oe : Obj) (od : Option Obj), PySem.W.InstAt s.heap a oe C od ∧ (∀ dd, d = some dd → ∃ o, od = some o ∧ s.heap.get? dd = some o) := by
  obtain ⟨oe, vs, q1, ⟨q2, q3⟩, q4⟩ := exv_at I.hok e
  have nc : PySem.W.notCls oe = true := by
    unfold PySem.W.notCls
    rw [q4] <;> rfl
  cases d with
  | none => exact ⟨oe, none, ⟨q1, q2, nc, by rw [q3]; trivial⟩, fun dd z => by cases z⟩
  | some dd =>
    obtain ⟨o, ho⟩ := hd dd rfl
    exact ⟨oe, some o, ⟨q1, q2, nc, by rw [q3]; exact ho⟩, fun d' z => by cases z; exact ⟨o, rfl, ho⟩⟩
/-- isinstance(e, c): e such an exception -/
def rIsX (K : PySem.W.Frag) : List V → Hp → VK → Prop := fun xs H Q => ∃ (a C : Addr) (d : Option Addr) (c : V) (cv : Value) (b : Bool), xs = [.ref a, c] ∧ H a = some (exv a (.ref C) d) ∧ XvC K C ∧
  (∀ dd, d = some dd → ∃ fs, H dd = some (.xd fs)) ∧ (∀ u, RelV c u → u = cv) ∧ PySem.W.kitOne K (.ref C) cv = some b ∧ Q (.bl b) H
theorem xd_there {P : Program} {w : World} {H : Hp} {h : Heap} {dd : Addr} {fs : List (Str × V)} (ok : HOk P w H h) (e : H dd = some (.xd fs)) : ∃ o, h.get? dd = some o := by
  have z : ObjOk P w H h dd (.xd fs) := ok dd _ e
  obtain ⟨m, ⟨o, _, _, q, _⟩, _⟩ := z
  exact ⟨o, q⟩
theorem k_isX (h : X.K = K := by rfl) : CallR X (.builtin "isinstance") (rIsX K) := by
  subst h
  intro pins s σ H xs us Q I r hh
  obtain ⟨a, C, d, c, cv, b, rfl, e, T, hd, hc, e2, q⟩ := hh
  match us, r with
  | [_, _], .cons rx (.cons rt .nil) =>
    cases rx
    have z := hc _ rt
    subst z
    obtain ⟨oe, od, J, _⟩ := inst_of I e fun dd z => by
      obtain ⟨fs, y⟩ := hd dd z
      exact xd_there I.hok y
    obtain ⟨cd, y, _⟩ := PySem.W.any_some T.hd
    refine PySem.W.kia_one (PySem.W.kitx_exc (by rw [y]; rfl) T.ga T.gg T.bx T.ca T.cg T.ct T.mo) I.kIn J e2 (fun z => nomatch z) ?_
    intro tk
    exact ⟨.bl b, H, I.kept (t' := tk) fun _ _ z => z, rfl, q⟩
/-- e.f: e such an exception -/
def tXv (K : PySem.W.Frag) (f : Str) (te : TE) : TE := fun σ H Q => te σ H fun x H1 => ∃ (a C dd : Addr) (fs : List (Str × V)) (v : V), x = .ref a ∧ H1 a = some (exv a (.ref C) (some dd)) ∧ XvC K C ∧ PySem.W.findIn K (.ref C) f = some none ∧ H1 dd = some (.xd fs) ∧ fs.lookup f = some v ∧ Q v H1
theorem pe_xv {e : Expr} {te : TE} {pos : Pos} {f : Str} (he : PE X e te) (h : X.K = K := by rfl) (hb : attributeBase e f X.env (eval e X.env) = eval e X.env := by rfl) : PE X (.Attribute e f pos) (tXv K f te) := by
  subst h
  constructor
  intro pins s σ H Q I hh
  refine attr_of hb (thn (he.run pins s σ H _ I hh) ?_)
  rintro u s1 ⟨x, H1, I1, rx, a, C, dd, fs, v, rfl, e1, T, hno, e2, l, q⟩
  obtain rfl : u = Value.ref a := rx
  have ok : ObjOk X.prog X.w H1 s1.heap dd (.xd fs) := I1.hok dd _ e2
  obtain ⟨mA, ns, rel⟩ := ok
  obtain ⟨od, ho, look⟩ := lookIn_ns ns
  have rf := rel f
  rw [l] at rf
  obtain ⟨u, hu, ru⟩ := RelO.some_of (v := v) (o := mA f) rf
  obtain ⟨oe, od', J, more⟩ := inst_of I1 e1 fun d' z => by
    cases z
    exact ⟨od, ho⟩
  obtain ⟨o', z1, z2⟩ := more dd rfl
  rw [ho] at z2
  cases z2
  subst z1
  refine HandSPX.exc_get I1.kIn J T.ga T.gg T.bx (PySem.W.findObj_own T.hd hno rfl ?_) (handed_of ru) ⟨v, H1, I1.tok _, ru, q⟩
  rw [look, hu]
end

/-! ### the mirror: data as trees, in a heap that stays (F), and the lists that a def owns -/
abbrev Dt := PyData
def kD : Key → Dt
  | .inl i => .int i
  | .inr x => .str x
/-- an exception's own dict -/
def XdAt (F : Hp) (dd : Option Addr) (fs : List (Str × V)) : Prop := (dd = none ∧ fs = []) ∨ ∃ q, dd = some q ∧ F q = some (.xd fs)
theorem XdAt.mono {F G : Hp} {dd : Option Addr} {fs : List (Str × V)} (s : Same F G) (h : XdAt F dd fs) : XdAt G dd fs := by
  rcases h with h | ⟨q, h1, h2⟩
  · exact .inl h
  · exact .inr ⟨q, h1, s _ _ h2⟩
mutual
/-- the value v is the data d, by what stands in F -/
def Rp (K : PySem.W.Frag) (F : Hp) : Dt → V → Prop
  | .none, v => v = .non
  | .bool b, v => v = .bl b
  | .int i, v => v = .int i
  | .str x, v => v = .str x
  | .list ds, v => ∃ a xs, v = .ref a ∧ F a = some (.lst xs) ∧ RpA K F ds xs
  | .tuple ds, v => ∃ a xs, v = .ref a ∧ F a = some (.tup xs) ∧ RpA K F ds xs
  | .dict kvs, v => ∃ a, v = .ref a ∧ ((∃ vs, F a = some (.dK vs) ∧ RpK K F kvs vs) ∨ (∃ vs, F a = some (.dT vs) ∧ RpM K F kvs vs) ∨ (∃ ns : List Int, kvs = [(.none, .list (ns.map PyData.int))] ∧ SqL K F a (ns.map V.int)) ∨ (∃ o vs, F a = some (.frz o (.dK vs)) ∧ RpL K F kvs vs) ∨ ∃ c C fs dd, F a = some (exv a (.ref C) dd) ∧ PySem.W.nsIn K mainGlobals c = some (some (.ref C)) ∧ XdAt F dd fs ∧ RpX K F kvs c fs)
def RpA (K : PySem.W.Frag) (F : Hp) : List Dt → List V → Prop
  | [], xs => xs = []
  | d :: ds, xs => ∃ x r, xs = x :: r ∧ Rp K F d x ∧ RpA K F ds r
def RpK (K : PySem.W.Frag) (F : Hp) : List (Dt × Dt) → List (Key × V) → Prop
  | [], xs => xs = []
  | (k, d) :: ds, xs => ∃ x y r, xs = (x, y) :: r ∧ k = kD x ∧ Rp K F d y ∧ RpK K F ds r
def RpT (K : PySem.W.Frag) (F : Hp) : List (Dt × Dt) → List (List Key × V) → Prop
  | [], xs => xs = []
  | (k, d) :: ds, xs => ∃ x y r, xs = (x, y) :: r ∧ k = .tuple (x.map kD) ∧ Rp K F d y ∧ RpT K F ds r
/-- the things of an exception that was caught, by their names -/
def RpF (K : PySem.W.Frag) (F : Hp) : List (Dt × Dt) → List (Str × V) → Prop
  | [], fs => fs = []
  | (k, d) :: ds, fs => ∃ f y r, fs = (f, y) :: r ∧ k = .str f ∧ Rp K F d y ∧ RpF K F ds r
/-- its class's name stands ahead -/
def RpX (K : PySem.W.Frag) (F : Hp) : List (Dt × Dt) → Str → List (Str × V) → Prop
  | [], _, _ => False
  | (k, d) :: ds, c, fs => k = .bool false ∧ d = .str c ∧ RpF K F ds fs
/-- a locked dict has a mark ahead -/
def RpL (K : PySem.W.Frag) (F : Hp) : List (Dt × Dt) → List (Key × V) → Prop
  | [], _ => False
  | (k, d) :: ds, xs => k = .bool true ∧ d = .none ∧ RpK K F ds xs
/-- a dict by tuples has a mark ahead -/
def RpM (K : PySem.W.Frag) (F : Hp) : List (Dt × Dt) → List (List Key × V) → Prop
  | [], _ => False
  | (k, d) :: ds, xs => k = .none ∧ d = .tuple [] ∧ RpT K F ds xs
end
theorem Rd.mono {F G : Hp} {a : Addr} {o : HO} (s : Same F G) (h : Rd F a o) : Rd G a o := by
  rcases h with h | ⟨ob, h⟩
  · exact .inl (s _ _ h)
  · exact .inr ⟨ob, s _ _ h⟩
theorem SqL.mono {K : PySem.W.Frag} {F G : Hp} {a : Addr} {xs : List V} (s : Same F G) (h : SqL K F a xs) : SqL K G a xs := by
  rcases h with h | h
  · exact .inl (Rd.mono s h)
  · exact .inr h
theorem SqT.mono {K : PySem.W.Frag} {F G : Hp} {a : Addr} {xs : List V} (s : Same F G) (h : SqT K F a xs) : SqT K G a xs := by
  rcases h with h | h
  · exact .inl (Rd.mono s h)
  · exact .inr h
mutual
theorem Rp.mono {K : PySem.W.Frag} {F G : Hp} (s : Same F G) : ∀ (d : Dt) (v : V), Rp K F d v → Rp K G d v
  | .none, _, h => h
  | .bool _, _, h => h
  | .int _, _, h => h
  | .str _, _, h => h
  | .list ds, _, h => by
    obtain ⟨a, xs, e, h1, h2⟩ := h
    exact ⟨a, xs, e, s _ _ h1, RpA.mono s ds xs h2⟩
  | .tuple ds, _, h => by
    obtain ⟨a, xs, e, h1, h2⟩ := h
    exact ⟨a, xs, e, s _ _ h1, RpA.mono s ds xs h2⟩
  | .dict kvs, _, h => by
    obtain ⟨a, e, h⟩ := h
    refine ⟨a, e, ?_⟩
    rcases h with ⟨vs, h1, h2⟩ | ⟨vs, h1, h2⟩ | ⟨ns, h1, h2⟩ | ⟨o, vs, h1, h2⟩ | ⟨c, C, fs, dd, h1, h2, h3, h4⟩
    · exact .inl ⟨vs, s _ _ h1, RpK.mono s kvs vs h2⟩
    · exact .inr (.inl ⟨vs, s _ _ h1, RpM.mono s kvs vs h2⟩)
    · exact .inr (.inr (.inl ⟨ns, h1, SqL.mono s h2⟩))
    · exact .inr (.inr (.inr (.inl ⟨o, vs, s _ _ h1, RpL.mono s kvs vs h2⟩)))
    · exact .inr (.inr (.inr (.inr ⟨c, C, fs, dd, s _ _ h1, h2, h3.mono s, RpX.mono s kvs c fs h4⟩)))
theorem RpA.mono {K : PySem.W.Frag} {F G : Hp} (s : Same F G) : ∀ (ds : List Dt) (xs : List V), RpA K F ds xs → RpA K G ds xs
  | [], _, h => h
  | d :: ds, _, h => by
    obtain ⟨x, r, e, h1, h2⟩ := h
    exact ⟨x, r, e, Rp.mono s d x h1, RpA.mono s ds r h2⟩
theorem RpK.mono {K : PySem.W.Frag} {F G : Hp} (s : Same F G) : ∀ (ds : List (Dt × Dt)) (xs : List (Key × V)), RpK K F ds xs → RpK K G ds xs
  | [], _, h => h
  | (k, d) :: ds, _, h => by
    obtain ⟨x, y, r, e, h0, h1, h2⟩ := h
    exact ⟨x, y, r, e, h0, Rp.mono s d y h1, RpK.mono s ds r h2⟩
theorem RpT.mono {K : PySem.W.Frag} {F G : Hp} (s : Same F G) : ∀ (ds : List (Dt × Dt)) (xs : List (List Key × V)), RpT K F ds xs → RpT K G ds xs
  | [], _, h => h
  | (k, d) :: ds, _, h => by
    obtain ⟨x, y, r, e, h0, h1, h2⟩ := h
    exact ⟨x, y, r, e, h0, Rp.mono s d y h1, RpT.mono s ds r h2⟩
theorem RpF.mono {K : PySem.W.Frag} {F G : Hp} (s : Same F G) : ∀ (ds : List (Dt × Dt)) (xs : List (Str × V)), RpF K F ds xs → RpF K G ds xs
  | [], _, h => h
  | (k, d) :: ds, _, h => by
    obtain ⟨x, y, r, e, h0, h1, h2⟩ := h
    exact ⟨x, y, r, e, h0, Rp.mono s d y h1, RpF.mono s ds r h2⟩
theorem RpX.mono {K : PySem.W.Frag} {F G : Hp} (s : Same F G) : ∀ (ds : List (Dt × Dt)) (c : Str) (xs : List (Str × V)), RpX K F ds c xs → RpX K G ds c xs
  | [], _, _, h => h
  | (k, d) :: ds, c, xs, h => ⟨h.1, h.2.1, RpF.mono s ds xs h.2.2⟩
theorem RpL.mono {K : PySem.W.Frag} {F G : Hp} (s : Same F G) : ∀ (ds : List (Dt × Dt)) (xs : List (Key × V)), RpL K F ds xs → RpL K G ds xs
  | [], _, h => h
  | (k, d) :: ds, xs, h => ⟨h.1, h.2.1, RpK.mono s ds xs h.2.2⟩
theorem RpM.mono {K : PySem.W.Frag} {F G : Hp} (s : Same F G) : ∀ (ds : List (Dt × Dt)) (xs : List (List Key × V)), RpM K F ds xs → RpM K G ds xs
  | [], _, h => h
  | (k, d) :: ds, xs, h => ⟨h.1, h.2.1, RpT.mono s ds xs h.2.2⟩
end
section
variable {K : PySem.W.Frag} {F : Hp}
theorem RpA.len : ∀ {ds : List Dt} {xs : List V}, RpA K F ds xs → ds.length = xs.length
  | [], _, h => by
    have e : _ = [] := h
    rw [e]
    rfl
  | d :: ds, _, h => by
    obtain ⟨x, r, rfl, _, h2⟩ := h
    simp [RpA.len h2]
theorem RpA.get : ∀ {ds : List Dt} {xs : List V} {i : Nat} {d : Dt}, RpA K F ds xs → ds[i]? = some d → ∃ x, xs[i]? = some x ∧ Rp K F d x
  | [], _, _, _, _, e => by simp at e
  | d :: ds, _, 0, _, h, e => by
    obtain ⟨x, r, rfl, h1, _⟩ := h
    simp at e
    subst e
    exact ⟨x, rfl, h1⟩
  | d :: ds, _, i + 1, _, h, e => by
    obtain ⟨x, r, rfl, _, h2⟩ := h
    obtain ⟨y, h3, h4⟩ := RpA.get (i := i) h2 (by simpa using e)
    exact ⟨y, by simpa using h3, h4⟩
theorem RpA.get' {ds : List Dt} {xs : List V} {i : Nat} {x : V} (h : RpA K F ds xs) (e : xs[i]? = some x) : ∃ d, ds[i]? = some d ∧ Rp K F d x := by
  have l := h.len
  have hi : i < xs.length := (List.getElem?_eq_some_iff.mp e).1
  obtain ⟨y, h1, h2⟩ := h.get (i := i) (d := ds[i]'(by omega)) (List.getElem?_eq_getElem (by omega))
  rw [e] at h1
  cases h1
  exact ⟨_, List.getElem?_eq_getElem (by omega), h2⟩
theorem RpA.of : ∀ {ds : List Dt} {xs : List V}, ds.length = xs.length → (∀ (i : Nat) (d : Dt) (x : V), ds[i]? = some d → xs[i]? = some x → Rp K F d x) → RpA K F ds xs
  | [], [], _, _ => rfl
  | [], _ :: _, h, _ => by simp at h
  | _ :: _, [], h, _ => by simp at h
  | d :: ds, x :: xs, h, f => ⟨x, xs, rfl, f 0 d x rfl rfl, RpA.of (by simpa using h) fun i d' x' h1 h2 => f (i + 1) d' x' (by simpa using h1) (by simpa using h2)⟩
theorem RpA.append : ∀ {ds es : List Dt} {xs ys : List V}, RpA K F ds xs → RpA K F es ys → RpA K F (ds ++ es) (xs ++ ys)
  | [], _, _, _, h, h' => by
    have e : _ = [] := h
    subst e
    exact h'
  | d :: ds, _, _, _, h, h' => by
    obtain ⟨x, r, rfl, h1, h2⟩ := h
    exact ⟨x, _, rfl, h1, RpA.append h2 h'⟩
theorem RpA.nil : RpA K F [] [] := rfl
theorem RpA.cons {d : Dt} {ds : List Dt} {x : V} {xs : List V} (h : Rp K F d x) (h' : RpA K F ds xs) : RpA K F (d :: ds) (x :: xs) := ⟨x, xs, rfl, h, h'⟩
theorem RpA.one {d : Dt} {x : V} (h : Rp K F d x) : RpA K F [d] [x] := .cons h .nil
theorem RpA.ix {ds : List Dt} {xs : List V} {i : Nat} (h : RpA K F ds xs) {d : Dt} {x : V} (e : ds[i]? = some d) (e' : xs[i]? = some x) : Rp K F d x := by
  obtain ⟨y, h1, h2⟩ := h.get e
  rw [e'] at h1
  cases h1
  exact h2
theorem RpA.set {ds : List Dt} {xs : List V} {d : Dt} {x : V} (h : RpA K F ds xs) (i : Nat) (hx : Rp K F d x) : RpA K F (ds.set i d) (xs.set i x) := by
  refine RpA.of (by simp [h.len]) fun j d' x' h1 h2 => ?_
  rw [List.getElem?_set] at h1 h2
  by_cases e : i = j
  · rw [if_pos e] at h1 h2
    split at h1 <;> split at h2 <;> simp at h1 h2
    subst h1 h2
    exact hx
  · rw [if_neg e] at h1 h2
    exact h.ix h1 h2
theorem RpA.take {ds : List Dt} {xs : List V} (h : RpA K F ds xs) (n : Nat) : RpA K F (ds.take n) (xs.take n) := by
  refine RpA.of (by simp [h.len]) fun j d' x' h1 h2 => ?_
  rw [List.getElem?_take] at h1 h2
  split at h1
  · rename_i c
    rw [if_pos c] at h2
    exact h.ix h1 h2
  · cases h1
theorem RpA.drop {ds : List Dt} {xs : List V} (h : RpA K F ds xs) (n : Nat) : RpA K F (ds.drop n) (xs.drop n) := by
  refine RpA.of (by simp [h.len]) fun j d' x' h1 h2 => ?_
  rw [List.getElem?_drop] at h1 h2
  exact h.ix h1 h2
theorem RpA.reverse {ds : List Dt} {xs : List V} (h : RpA K F ds xs) : RpA K F ds.reverse xs.reverse := by
  have l := h.len
  refine RpA.of (by simp [l]) fun j d' x' h1 h2 => ?_
  have hj : j < ds.length := by
    have := (List.getElem?_eq_some_iff.mp h1).1
    simpa using this
  rw [List.getElem?_reverse hj] at h1
  rw [List.getElem?_reverse (by omega), ← l] at h2
  exact h.ix h1 h2
theorem RpA.erase : ∀ {ds : List Dt} {xs : List V} (i : Nat), RpA K F ds xs → RpA K F (ds.eraseIdx i) (xs.eraseIdx i)
  | [], _, i, h => by
    have e : _ = [] := h
    subst e
    simp
    rfl
  | d :: ds, _, 0, h => by
    obtain ⟨x, r, rfl, _, h2⟩ := h
    simpa using h2
  | d :: ds, _, i + 1, h => by
    obtain ⟨x, r, rfl, h1, h2⟩ := h
    simp only [List.eraseIdx_cons_succ]
    exact ⟨x, _, rfl, h1, RpA.erase i h2⟩
theorem RpA.dropLast {ds : List Dt} {xs : List V} (h : RpA K F ds xs) : RpA K F ds.dropLast xs.dropLast := by
  rw [List.dropLast_eq_take, List.dropLast_eq_take, h.len]
  exact h.take _
theorem RpA.ints : ∀ {ns : List Int} {xs : List V}, RpA K F (ns.map PyData.int) xs → xs = ns.map V.int
  | [], _, h => h
  | n :: ns, _, h => by
    obtain ⟨x, r, rfl, h1, h2⟩ := h
    have e : x = .int n := h1
    rw [e, RpA.ints h2]
    rfl
theorem RpA.bools : ∀ {bs : List Bool} {xs : List V}, RpA K F (bs.map PyData.bool) xs → xs = bs.map V.bl
  | [], _, h => h
  | n :: ns, _, h => by
    obtain ⟨x, r, rfl, h1, h2⟩ := h
    have e : x = .bl n := h1
    rw [e, RpA.bools h2]
    rfl
theorem RpA.of_ints : ∀ ns : List Int, RpA K F (ns.map PyData.int) (ns.map V.int)
  | [] => rfl
  | n :: ns => ⟨_, _, rfl, rfl, RpA.of_ints ns⟩
end
/-! ### slots -/
inductive Sl where
  | un | fz (d : Dt) | ow (d : Dt) | bo (d : Dt)
abbrev Evs := List Sl
/-- what a def's frame leans on: the heap that stayed at the entry, the whole heap there, what was lent (by the slot), what is being made beside (a comprehension's list) -/
structure Fm where
  F : Hp
  H : Hp
  B : Nat → Option Addr
  P : Addr → Option HO
/-- the tables of the defs that hold a generator expression -/
def tabs (K : PySem.W.Frag) : List Addr := gxNames.filterMap fun x => (PySem.W.tabIn K x).map (·.2)
/-- a code object's table -/
def TbO (o : Option HO) : Prop := ∃ ps : Array Value, o = some (.tbl ps) ∧ TriplesOk ps.toList
/-- an owned object -/
def OwOk (K : PySem.W.Frag) (F : Hp) (o : Option HO) (d : Dt) : Prop :=
  (∃ xs ds, o = some (.lst xs) ∧ d = .list ds ∧ RpA K F ds xs) ∨ (∃ vs kvs, o = some (.dK vs) ∧ d = .dict kvs ∧ RpK K F kvs vs) ∨ ∃ vs kvs, o = some (.dT vs) ∧ d = .dict kvs ∧ RpM K F kvs vs
theorem OwOk.mono {K : PySem.W.Frag} {F G : Hp} {o : Option HO} {d : Dt} (s : Same F G) (h : OwOk K F o d) : OwOk K G o d := by
  rcases h with ⟨xs, ds, h1, h2, h3⟩ | ⟨xs, ds, h1, h2, h3⟩ | ⟨xs, ds, h1, h2, h3⟩
  · exact .inl ⟨xs, ds, h1, h2, h3.mono s _ _⟩
  · exact .inr (.inl ⟨xs, ds, h1, h2, h3.mono s _ _⟩)
  · exact .inr (.inr ⟨xs, ds, h1, h2, h3.mono s _ _⟩)
theorem OwOk.tb {K : PySem.W.Frag} {F : Hp} {o : Option HO} {d : Dt} (h : OwOk K F o d) (t : TbO o) : False := by
  obtain ⟨ps, t, _⟩ := t
  rcases h with ⟨xs, ds, h1, _⟩ | ⟨xs, ds, h1, _⟩ | ⟨xs, ds, h1, _⟩ <;> (rw [h1] at t; cases t)
theorem OwOk.notup {K : PySem.W.Frag} {F : Hp} {o : HO} {d : Dt} (h : OwOk K F (some o) d) (xs : List V) : o ≠ .tup xs := by
  rintro rfl
  rcases h with ⟨_, _, h1, _⟩ | ⟨_, _, h1, _⟩ | ⟨_, _, h1, _⟩ <;> cases h1
theorem OwOk.some {K : PySem.W.Frag} {F : Hp} {o : Option HO} {d : Dt} (h : OwOk K F o d) : ∃ u, o = some u := by
  rcases h with ⟨xs, ds, h1, _⟩ | ⟨xs, ds, h1, _⟩ | ⟨xs, ds, h1, _⟩ <;> exact ⟨_, h1⟩
/-- the content of a slot that may be changed -/
def Sl.own : Sl → Option Dt
  | .ow d => some d
  | .bo d => some d
  | _ => none
structure Sn (K : PySem.W.Frag) (M : Fm) (env : Evs) (F : Hp) (σ : L2.St) (H : Hp) : Prop where
  sub : Same F H
  old : ∀ a o, M.H a = some o → (∀ i, M.B i ≠ some a) → a ∉ tabs K → H a = some o
  dom : ∀ a o, M.H a = some o → ∃ o', H a = some o'
  mon : Same M.F F
  new : ∀ a o, F a = some o → M.F a = some o ∨ M.H a = none ∨ ∃ xs, o = .tup xs
  fzS : ∀ (i : Nat) (d : Dt), env[i]? = some (Sl.fz d) → ∃ v : V, σ[i]? = some (some v) ∧ Rp K F d v
  owS : ∀ (i : Nat) (s : Sl) (d : Dt), env[i]? = some s → s.own = some d → ∃ a : Addr, σ[i]? = some (some (V.ref a)) ∧ F a = none ∧ OwOk K F (H a) d
  owF : ∀ (i : Nat) (d : Dt) (a : Addr), env[i]? = some (Sl.ow d) → σ[i]? = some (some (V.ref a)) → M.H a = none
  boF : ∀ (i : Nat) (d : Dt), env[i]? = some (Sl.bo d) → ∃ a : Addr, M.B i = some a ∧ σ[i]? = some (some (V.ref a))
  apt : ∀ (i j : Nat) (s t : Sl) (d e : Dt) (a : Addr), i ≠ j → env[i]? = some s → env[j]? = some t → s.own = some d → t.own = some e → σ[i]? = some (some (V.ref a)) → σ[j]? ≠ some (some (V.ref a))
  prt : ∀ (p : Addr) (o : HO), M.P p = some o → H p = some o ∧ F p = none ∧ M.H p = none ∧ ∀ (i : Nat) (s : Sl) (d : Dt), env[i]? = some s → s.own = some d → σ[i]? ≠ some (some (V.ref p))
  tab : ∀ t, t ∈ tabs K → TbO (H t) ∧ F t = none ∧ ∃ o, M.H t = some o
  len : env.length = σ.length
  pnt : ∀ (p : Addr) (o : HO) (xs : List V), M.P p = some o → o ≠ .tup xs
section
variable {K : PySem.W.Frag} {M : Fm} {env : Evs} {F : Hp} {σ : L2.St} {H : Hp}
theorem Sn.free (S : Sn K M env F σ H) {p : Addr} (h : H p = none) : M.H p = none ∧ F p = none := by
  constructor
  · cases e : M.H p with
    | none => rfl
    | some o =>
      obtain ⟨o', z⟩ := S.dom p o e
      rw [h] at z
      cases z
  · cases e : F p with
    | none => rfl
    | some o =>
      rw [S.sub p o e] at h
      cases h
/-- a new thing that stays -/
theorem Sn.lay (S : Sn K M env F σ H) {p : Addr} (h : H p = none) (o : HO) : Sn K M env (upd F p o) σ (upd H p o) ∧ Same F (upd F p o) := by
  obtain ⟨h1, h2⟩ := S.free h
  have sF : Same F (upd F p o) := same_upd h2
  refine ⟨⟨fun a u e => ?_, fun a u e n nt => ?_, fun a u e => ?_, fun a u e => sF a u (S.mon a u e), fun a u e => ?_, fun i d e => ?_, fun i s d e q => ?_, S.owF, S.boF, S.apt, fun c u e => ?_, fun t ht => ?_, S.len, S.pnt⟩, sF⟩
  · by_cases q : a = p
    · subst q
      rw [upd_same] at e ⊢
      exact e
    · rw [upd_ne q] at e ⊢
      exact S.sub a u e
  · exact same_upd h a u (S.old a u e n nt)
  · obtain ⟨o', z⟩ := S.dom a u e
    exact ⟨o', same_upd h a o' z⟩
  · by_cases q : a = p
    · subst q
      exact .inr (.inl h1)
    · rw [upd_ne q] at e
      exact S.new a u e
  · obtain ⟨v, z1, z2⟩ := S.fzS i d e
    exact ⟨v, z1, z2.mono sF _ _⟩
  · obtain ⟨a, z1, z2, z3⟩ := S.owS i s d e q
    have ne : a ≠ p := by
      rintro rfl
      rw [h] at z3
      obtain ⟨u, z⟩ := z3.some
      cases z
    refine ⟨a, z1, ?_, ?_⟩
    · rw [upd_ne ne]
      exact z2
    · rw [upd_ne ne]
      exact z3.mono sF
  · obtain ⟨y1, y2, y3⟩ := S.prt c u e
    have ne : c ≠ p := ne_of_none y1 h
    rw [upd_ne ne, upd_ne ne]
    exact ⟨y1, y2, y3⟩
  · obtain ⟨y1, y2, y3⟩ := S.tab t ht
    have ne : t ≠ p := by
      rintro rfl
      obtain ⟨ps, z, _⟩ := y1
      rw [h] at z
      cases z
    rw [upd_ne ne, upd_ne ne]
    exact ⟨y1, y2, y3⟩
/-- a new thing that nobody holds yet -/
theorem Sn.raw (S : Sn K M env F σ H) {p : Addr} (h : H p = none) (o : HO) : Sn K M env F σ (upd H p o) := by
  obtain ⟨h1, h2⟩ := S.free h
  refine ⟨fun a u e => same_upd h a u (S.sub a u e), fun a u e n nt => same_upd h a u (S.old a u e n nt), fun a u e => ?_, S.mon, S.new, S.fzS, fun i s d e q => ?_, S.owF, S.boF, S.apt, fun c u e => ?_, fun t ht => ?_, S.len, S.pnt⟩
  · obtain ⟨o', z⟩ := S.dom a u e
    exact ⟨o', same_upd h a o' z⟩
  · obtain ⟨a, z1, z2, z3⟩ := S.owS i s d e q
    have ne : a ≠ p := by
      rintro rfl
      rw [h] at z3
      obtain ⟨u, z⟩ := z3.some
      cases z
    refine ⟨a, z1, z2, ?_⟩
    rw [upd_ne ne]
    exact z3
  · obtain ⟨y1, y2, y3⟩ := S.prt c u e
    rw [upd_ne (ne_of_none y1 h)]
    exact ⟨y1, y2, y3⟩
  · obtain ⟨y1, y2, y3⟩ := S.tab t ht
    have ne : t ≠ p := by
      rintro rfl
      obtain ⟨ps, z, _⟩ := y1
      rw [h] at z
      cases z
    rw [upd_ne ne]
    exact ⟨y1, y2, y3⟩
/-- a thing apart from all that is held: new since the entry, in no owned slot -/
structure Loose (M : Fm) (env : Evs) (F : Hp) (σ : L2.St) (p : Addr) : Prop where
  fresh : M.H p = none
  nF : F p = none
  nP : M.P p = none
  apart : ∀ (i : Nat) (s : Sl) (d : Dt), env[i]? = some s → s.own = some d → σ[i]? ≠ some (some (V.ref p))
theorem Sn.loose (S : Sn K M env F σ H) {p : Addr} (h : H p = none) : Loose M env F σ p := by
  obtain ⟨h1, h2⟩ := S.free h
  refine ⟨h1, h2, ?_, fun i s d e q z => ?_⟩
  · cases e : M.P p with
    | none => rfl
    | some o =>
      rw [(S.prt p o e).1] at h
      cases h
  obtain ⟨a, z1, z2, z3⟩ := S.owS i s d e q
  rw [z] at z1
  cases z1
  rw [h] at z3
  obtain ⟨u, z⟩ := z3.some
  cases z
/-- such a thing is changed -/
theorem Sn.put (S : Sn K M env F σ H) {p : Addr} (L : Loose M env F σ p) (o : HO) : Sn K M env F σ (upd H p o) := by
  refine ⟨fun a u e => ?_, fun a u e n nt => ?_, fun a u e => ?_, S.mon, S.new, S.fzS, fun i s d e q => ?_, S.owF, S.boF, S.apt, fun c u e => ?_, fun t ht => ?_, S.len, S.pnt⟩
  · have ne : a ≠ p := by
      rintro rfl
      rw [L.nF] at e
      cases e
    rw [upd_ne ne]
    exact S.sub a u e
  · have ne : a ≠ p := by
      rintro rfl
      rw [L.fresh] at e
      cases e
    rw [upd_ne ne]
    exact S.old a u e n nt
  · by_cases q : a = p
    · subst q
      exact ⟨o, upd_same⟩
    · obtain ⟨o', z⟩ := S.dom a u e
      exact ⟨o', by rw [upd_ne q]; exact z⟩
  · obtain ⟨a, z1, z2, z3⟩ := S.owS i s d e q
    have ne : a ≠ p := by
      rintro rfl
      exact L.apart i s d e q z1
    refine ⟨a, z1, z2, ?_⟩
    rw [upd_ne ne]
    exact z3
  · have ne : c ≠ p := by
      rintro rfl
      rw [L.nP] at e
      cases e
    rw [upd_ne ne]
    exact S.prt c u e
  · obtain ⟨y1, y2, y3⟩ := S.tab t ht
    have ne : t ≠ p := by
      rintro rfl
      obtain ⟨o', z⟩ := y3
      rw [L.fresh] at z
      cases z
    rw [upd_ne ne]
    exact ⟨y1, y2, y3⟩
/-- .. and stays from now on -/
theorem Sn.ice (S : Sn K M env F σ H) {p : Addr} {o : HO} (L : Loose M env F σ p) (h : H p = some o) : Sn K M env (upd F p o) σ H ∧ Same F (upd F p o) := by
  have sF : Same F (upd F p o) := same_upd L.nF
  refine ⟨⟨fun a u e => ?_, S.old, S.dom, fun a u e => sF a u (S.mon a u e), fun a u e => ?_, fun i d e => ?_, fun i s d e q => ?_, S.owF, S.boF, S.apt, fun c u e => ?_, fun t ht => ?_, S.len, S.pnt⟩, sF⟩
  · by_cases q : a = p
    · subst q
      rw [upd_same] at e
      cases e
      exact h
    · rw [upd_ne q] at e
      exact S.sub a u e
  · by_cases q : a = p
    · subst q
      exact .inr (.inl L.fresh)
    · rw [upd_ne q] at e
      exact S.new a u e
  · obtain ⟨v, z1, z2⟩ := S.fzS i d e
    exact ⟨v, z1, z2.mono sF _ _⟩
  · obtain ⟨a, z1, z2, z3⟩ := S.owS i s d e q
    have ne : a ≠ p := by
      rintro rfl
      exact L.apart i s d e q z1
    refine ⟨a, z1, ?_, z3.mono sF⟩
    rw [upd_ne ne]
    exact z2
  · have ne : c ≠ p := by
      rintro rfl
      rw [L.nP] at e
      cases e
    rw [upd_ne ne]
    exact S.prt c u e
  · obtain ⟨y1, y2, y3⟩ := S.tab t ht
    have ne : t ≠ p := by
      rintro rfl
      obtain ⟨o', z⟩ := y3
      rw [L.fresh] at z
      cases z
    rw [upd_ne ne]
    exact ⟨y1, y2, y3⟩
theorem Loose.ow {p : Addr} {F' : Hp} (L : Loose M env F σ p) (h : F' p = none) : Loose M env F' σ p := ⟨L.fresh, h, L.nP, L.apart⟩
/-- a name gets data -/
theorem Sn.setF (S : Sn K M env F σ H) {i : Nat} {d : Dt} {v : V} (h : Rp K F d v) (hb : ∀ e, env[i]? ≠ some (.bo e)) (hi : i < env.length) : Sn K M (env.set i (.fz d)) F (σ.set i (some v)) H := by
  have li : i < σ.length := by
    rw [← S.len]
    exact hi
  refine ⟨S.sub, S.old, S.dom, S.mon, S.new, fun j e q => ?_, fun j s e q r => ?_, fun j e a q r => ?_, fun j e q => ?_, fun j k s t e e' a n q q' r r' z => ?_, fun c u e => ?_, S.tab, by simp [S.len], S.pnt⟩
  · by_cases c : i = j
    · subst c
      rw [List.getElem?_set_self hi] at q
      cases q
      exact ⟨v, List.getElem?_set_self li, h⟩
    · rw [List.getElem?_set_ne c] at q ⊢
      exact S.fzS j e q
  · by_cases c : i = j
    · subst c
      rw [List.getElem?_set_self hi] at q
      cases q
      cases r
    · rw [List.getElem?_set_ne c] at q ⊢
      exact S.owS j s e q r
  · by_cases c : i = j
    · subst c
      rw [List.getElem?_set_self hi] at q
      cases q
    · rw [List.getElem?_set_ne c] at q r
      exact S.owF j e a q r
  · by_cases c : i = j
    · subst c
      rw [List.getElem?_set_self hi] at q
      cases q
    · rw [List.getElem?_set_ne c] at q ⊢
      exact S.boF j e q
  · by_cases c : i = j
    · subst c
      rw [List.getElem?_set_self hi] at q
      cases q
      cases r
    · by_cases c' : i = k
      · subst c'
        rw [List.getElem?_set_self hi] at q'
        cases q'
        cases r'
      · rw [List.getElem?_set_ne c] at q z
        rw [List.getElem?_set_ne c'] at q'
        rw [List.getElem?_set_ne c']
        exact S.apt j k s t e e' a n q q' r r' z
  · obtain ⟨y1, y2, y3, y4⟩ := S.prt c u e
    refine ⟨y1, y2, y3, fun j s e' q r => ?_⟩
    by_cases c' : i = j
    · subst c'
      rw [List.getElem?_set_self hi] at q
      cases q
      cases r
    · rw [List.getElem?_set_ne c'] at q ⊢
      exact y4 j s e' q r
/-- a name gets a thing of its own -/
theorem Sn.setO (S : Sn K M env F σ H) {i : Nat} {d : Dt} {p : Addr} (L : Loose M env F σ p) (h : OwOk K F (H p) d) (hb : ∀ e, env[i]? ≠ some (.bo e)) (hi : i < env.length) : Sn K M (env.set i (.ow d)) F (σ.set i (some (.ref p))) H := by
  have li : i < σ.length := by
    rw [← S.len]
    exact hi
  refine ⟨S.sub, S.old, S.dom, S.mon, S.new, fun j e q => ?_, fun j s e q r => ?_, fun j e a q r => ?_, fun j e q => ?_, fun j k s t e e' a n q q' r r' z => ?_, fun c u e => ?_, S.tab, by simp [S.len], S.pnt⟩
  · by_cases c : i = j
    · subst c
      rw [List.getElem?_set_self hi] at q
      cases q
    · rw [List.getElem?_set_ne c] at q ⊢
      exact S.fzS j e q
  · by_cases c : i = j
    · subst c
      rw [List.getElem?_set_self hi] at q
      cases q
      cases r
      exact ⟨p, List.getElem?_set_self li, L.nF, h⟩
    · rw [List.getElem?_set_ne c] at q ⊢
      exact S.owS j s e q r
  · by_cases c : i = j
    · subst c
      rw [List.getElem?_set_self li] at r
      cases r
      exact L.fresh
    · rw [List.getElem?_set_ne c] at q r
      exact S.owF j e a q r
  · by_cases c : i = j
    · subst c
      rw [List.getElem?_set_self hi] at q
      cases q
    · rw [List.getElem?_set_ne c] at q ⊢
      exact S.boF j e q
  · by_cases c : i = j
    · subst c
      rw [List.getElem?_set_self li] at z
      cases z
      rw [List.getElem?_set_ne n] at q' ⊢
      exact L.apart k t e' q' r'
    · by_cases c' : i = k
      · subst c'
        rw [List.getElem?_set_self li]
        rw [List.getElem?_set_ne c] at q z
        intro y
        cases y
        exact L.apart j s e q r z
      · rw [List.getElem?_set_ne c] at q z
        rw [List.getElem?_set_ne c'] at q'
        rw [List.getElem?_set_ne c']
        exact S.apt j k s t e e' a n q q' r r' z
  · obtain ⟨y1, y2, y3, y4⟩ := S.prt c u e
    refine ⟨y1, y2, y3, fun j s e' q r => ?_⟩
    by_cases c' : i = j
    · subst c'
      rw [List.getElem?_set_self li]
      intro z
      cases z
      rw [L.nP] at e
      cases e
    · rw [List.getElem?_set_ne c'] at q ⊢
      exact y4 j s e' q r
/-- an owned thing is changed -/
def Sl.with : Sl → Dt → Sl
  | .bo _, d => .bo d
  | _, d => .ow d
theorem Sn.chg (S : Sn K M env F σ H) {i : Nat} {s : Sl} {d d' : Dt} {p : Addr} {o : HO} (hs : env[i]? = some s) (ho : s.own = some d) (hp : σ[i]? = some (some (.ref p))) (h : OwOk K F (some o) d') :
    Sn K M (env.set i (s.with d')) F σ (upd H p o) := by
  obtain ⟨p', z1, z2, z3⟩ := S.owS i s d hs ho
  rw [hp] at z1
  cases z1
  have hi : i < env.length := (List.getElem?_eq_some_iff.mp hs).1
  have bor : s = .bo d ∨ s = .ow d := by
    cases s with
    | un => cases ho
    | fz _ => cases ho
    | ow _ => cases ho; exact .inr rfl
    | bo _ => cases ho; exact .inl rfl
  have wo : (s.with d').own = some d' := by rcases bor with rfl | rfl <;> rfl
  refine ⟨fun a u e => ?_, fun a u e n nt => ?_, fun a u e => ?_, S.mon, S.new, fun j e q => ?_, fun j t e q r => ?_, fun j e a q r => ?_, fun j e q => ?_, fun j k t t' e e' a n q q' r r' z => ?_, fun c u e => ?_, fun t ht => ?_, by simp [S.len], S.pnt⟩
  · have ne : a ≠ p := by
      rintro rfl
      rw [z2] at e
      cases e
    rw [upd_ne ne]
    exact S.sub a u e
  · have ne : a ≠ p := by
      rintro rfl
      rcases bor with rfl | rfl
      · obtain ⟨b, y1, y2⟩ := S.boF i d hs
        rw [hp] at y2
        cases y2
        exact n i y1
      · rw [S.owF i d _ hs hp] at e
        cases e
    rw [upd_ne ne]
    exact S.old a u e n nt
  · by_cases q : a = p
    · subst q
      exact ⟨o, upd_same⟩
    · obtain ⟨o', z⟩ := S.dom a u e
      exact ⟨o', by rw [upd_ne q]; exact z⟩
  · by_cases c : i = j
    · subst c
      rw [List.getElem?_set_self hi] at q
      rcases bor with rfl | rfl <;> cases q
    · rw [List.getElem?_set_ne c] at q
      exact S.fzS j e q
  · by_cases c : i = j
    · subst c
      rw [List.getElem?_set_self hi] at q
      cases q
      rw [wo] at r
      cases r
      exact ⟨p, hp, z2, by rw [upd_same]; exact h⟩
    · rw [List.getElem?_set_ne c] at q
      obtain ⟨b, y1, y2, y3⟩ := S.owS j t e q r
      refine ⟨b, y1, y2, ?_⟩
      rw [upd_ne fun w => by subst w; exact S.apt i j s t d e b c hs q ho r hp y1]
      exact y3
  · by_cases c : i = j
    · subst c
      rw [List.getElem?_set_self hi] at q
      rcases bor with rfl | rfl
      · cases q
      · exact S.owF i d a hs r
    · rw [List.getElem?_set_ne c] at q
      exact S.owF j e a q r
  · by_cases c : i = j
    · subst c
      rw [List.getElem?_set_self hi] at q
      rcases bor with rfl | rfl
      · exact S.boF i d hs
      · cases q
    · rw [List.getElem?_set_ne c] at q
      exact S.boF j e q
  · by_cases c : i = j
    · subst c
      rw [List.getElem?_set_ne n] at q'
      exact S.apt i k s t' d e' a n hs q' ho r' z
    · rw [List.getElem?_set_ne c] at q
      by_cases c' : i = k
      · subst c'
        exact S.apt j i t s e d a n q hs r ho z
      · rw [List.getElem?_set_ne c'] at q'
        exact S.apt j k t t' e e' a n q q' r r' z
  · obtain ⟨y1, y2, y3, y4⟩ := S.prt c u e
    have ne : c ≠ p := by
      rintro rfl
      exact y4 i s d hs ho hp
    rw [upd_ne ne]
    refine ⟨y1, y2, y3, fun j t e' q r => ?_⟩
    by_cases c' : i = j
    · subst c'
      exact y4 i s d hs ho
    · rw [List.getElem?_set_ne c'] at q
      exact y4 j t e' q r
  · obtain ⟨y1, y2, y3⟩ := S.tab t ht
    have ne : t ≠ p := by
      rintro rfl
      exact z3.tb y1
    rw [upd_ne ne]
    exact ⟨y1, y2, y3⟩
/-- an owned slot of ours is iced -/
theorem Sn.still (S : Sn K M env F σ H) {i : Nat} {d : Dt} (hs : env[i]? = some (.ow d)) : ∃ F' v, Sn K M (env.set i (.fz d)) F' σ H ∧ Same F F' ∧ σ[i]? = some (some v) ∧ Rp K F' d v := by
  obtain ⟨p, z1, z2, z3⟩ := S.owS i _ d hs rfl
  obtain ⟨o, ho⟩ := z3.some
  have hi : i < env.length := (List.getElem?_eq_some_iff.mp hs).1
  have li : i < σ.length := by
    rw [← S.len]
    exact hi
  have sF : Same F (upd F p o) := same_upd z2
  have fr := S.owF i d p hs z1
  have rp : Rp K (upd F p o) d (.ref p) := by
    rw [ho] at z3
    rcases z3.mono sF with ⟨xs, ds, h1, rfl, h3⟩ | ⟨xs, ds, h1, rfl, h3⟩ | ⟨xs, ds, h1, rfl, h3⟩
    · cases h1
      exact ⟨p, xs, rfl, upd_same, h3⟩
    · cases h1
      exact ⟨p, rfl, .inl ⟨xs, upd_same, h3⟩⟩
    · cases h1
      exact ⟨p, rfl, .inr (.inl ⟨xs, upd_same, h3⟩)⟩
  refine ⟨upd F p o, .ref p, ⟨fun a u e => ?_, S.old, S.dom, fun a u e => sF a u (S.mon a u e), fun a u e => ?_, fun j e q => ?_, fun j s e q r => ?_, fun j e a q r => ?_, fun j e q => ?_, fun j k s t e e' a n q q' r r' z => ?_, fun c u e => ?_, fun t ht => ?_, by simp [S.len], S.pnt⟩, sF, z1, rp⟩
  · by_cases q : a = p
    · subst q
      rw [upd_same] at e
      cases e
      exact ho
    · rw [upd_ne q] at e
      exact S.sub a u e
  · by_cases q : a = p
    · subst q
      exact .inr (.inl fr)
    · rw [upd_ne q] at e
      exact S.new a u e
  · by_cases c : i = j
    · subst c
      rw [List.getElem?_set_self hi] at q
      cases q
      exact ⟨_, z1, rp⟩
    · rw [List.getElem?_set_ne c] at q
      obtain ⟨v, y1, y2⟩ := S.fzS j e q
      exact ⟨v, y1, y2.mono sF _ _⟩
  · by_cases c : i = j
    · subst c
      rw [List.getElem?_set_self hi] at q
      cases q
      cases r
    · rw [List.getElem?_set_ne c] at q
      obtain ⟨b, y1, y2, y3⟩ := S.owS j s e q r
      refine ⟨b, y1, ?_, y3.mono sF⟩
      rw [upd_ne fun w => by subst w; exact S.apt i j _ s d e b c hs q rfl r z1 y1]
      exact y2
  · by_cases c : i = j
    · subst c
      rw [List.getElem?_set_self hi] at q
      cases q
    · rw [List.getElem?_set_ne c] at q
      exact S.owF j e a q r
  · by_cases c : i = j
    · subst c
      rw [List.getElem?_set_self hi] at q
      cases q
    · rw [List.getElem?_set_ne c] at q
      exact S.boF j e q
  · by_cases c : i = j
    · subst c
      rw [List.getElem?_set_self hi] at q
      cases q
      cases r
    · by_cases c' : i = k
      · subst c'
        rw [List.getElem?_set_self hi] at q'
        cases q'
        cases r'
      · rw [List.getElem?_set_ne c] at q
        rw [List.getElem?_set_ne c'] at q'
        exact S.apt j k s t e e' a n q q' r r' z
  · obtain ⟨y1, y2, y3, y4⟩ := S.prt c u e
    have ne : c ≠ p := by
      rintro rfl
      exact y4 i _ d hs rfl z1
    rw [upd_ne ne]
    refine ⟨y1, y2, y3, fun j s e' q r => ?_⟩
    by_cases c' : i = j
    · subst c'
      rw [List.getElem?_set_self hi] at q
      cases q
      cases r
    · rw [List.getElem?_set_ne c'] at q
      exact y4 j s e' q r
  · obtain ⟨y1, y2, y3⟩ := S.tab t ht
    have ne : t ≠ p := by
      rintro rfl
      exact z3.tb y1
    rw [upd_ne ne]
    exact ⟨y1, y2, y3⟩
/-- what is made beside -/
theorem Sn.ward (S : Sn K M env F σ H) {p : Addr} {o : HO} (L : Loose M env F σ p) (h : H p = some o) (ht : ∀ xs, o ≠ .tup xs := by (intro xs z; cases z)) : Sn K { M with P := fun b => if b = p then some o else M.P b } env F σ H := by
  refine ⟨S.sub, S.old, S.dom, S.mon, S.new, S.fzS, S.owS, S.owF, S.boF, S.apt, fun c u e => ?_, S.tab, S.len, fun c u xs e => ?_⟩
  · dsimp only at e
    by_cases q : c = p
    · rw [if_pos q] at e
      cases e
      subst q
      exact ⟨h, L.nF, L.fresh, L.apart⟩
    · rw [if_neg q] at e
      exact S.prt c u e
  · dsimp only at e
    by_cases q : c = p
    · rw [if_pos q] at e
      cases e
      exact ht xs
    · rw [if_neg q] at e
      exact S.pnt c u xs e
theorem Sn.unward {p : Addr} {o : HO} (S : Sn K { M with P := fun b => if b = p then some o else M.P b } env F σ H) (n : M.P p = none) : Sn K M env F σ H ∧ Loose M env F σ p ∧ H p = some o := by
  have z := S.prt p o (if_pos rfl)
  refine ⟨⟨S.sub, S.old, S.dom, S.mon, S.new, S.fzS, S.owS, S.owF, S.boF, S.apt, fun c u e => S.prt c u ?_, S.tab, S.len, fun c u xs e => S.pnt c u xs ?_⟩, ⟨z.2.2.1, z.2.1, n, z.2.2.2⟩, z.1⟩
  all_goals
    dsimp only
    by_cases q : c = p
    · subst q
      rw [n] at e
      cases e
    · rw [if_neg q]
      exact e
/-- a tuple that is there stays -/
theorem Sn.iceT (S : Sn K M env F σ H) {p : Addr} {xs : List V} (h : H p = some (.tup xs)) : Sn K M env (upd F p (.tup xs)) σ H ∧ Same F (upd F p (.tup xs)) := by
  have sF : Same F (upd F p (.tup xs)) := fun a u e => by
    by_cases q : a = p
    · subst q
      have z := S.sub a u e
      rw [h] at z
      rw [upd_same]
      exact z
    · rw [upd_ne q]
      exact e
  refine ⟨⟨fun a u e => ?_, S.old, S.dom, fun a u e => sF a u (S.mon a u e), fun a u e => ?_, fun i d e => ?_, fun i s d e q => ?_, S.owF, S.boF, S.apt, fun c u e => ?_, fun t ht => ?_, S.len, S.pnt⟩, sF⟩
  · by_cases q : a = p
    · subst q
      rw [upd_same] at e
      cases e
      exact h
    · rw [upd_ne q] at e
      exact S.sub a u e
  · by_cases q : a = p
    · subst q
      rw [upd_same] at e
      cases e
      exact .inr (.inr ⟨xs, rfl⟩)
    · rw [upd_ne q] at e
      exact S.new a u e
  · obtain ⟨v, z1, z2⟩ := S.fzS i d e
    exact ⟨v, z1, z2.mono sF _ _⟩
  · obtain ⟨a, z1, z2, z3⟩ := S.owS i s d e q
    have ne : a ≠ p := by
      rintro rfl
      rw [h] at z3
      exact z3.notup xs rfl
    refine ⟨a, z1, ?_, z3.mono sF⟩
    rw [upd_ne ne]
    exact z2
  · have ne : c ≠ p := by
      rintro rfl
      have z := (S.prt c u e).1
      rw [h] at z
      cases z
      exact S.pnt c _ xs e rfl
    rw [upd_ne ne]
    exact S.prt c u e
  · obtain ⟨y1, y2, y3⟩ := S.tab t ht
    have ne : t ≠ p := by
      rintro rfl
      obtain ⟨ps, z, _⟩ := y1
      rw [h] at z
      cases z
    rw [upd_ne ne]
    exact ⟨y1, y2, y3⟩
/-- the slots of a block's own names are let go -/
def wipeE (env : Evs) : List Nat → Evs
  | [] => env
  | v :: vs => (wipeE env vs).set v .un
theorem wipeE_len (env : Evs) : ∀ vs, (wipeE env vs).length = env.length
  | [] => rfl
  | v :: vs => by
    unfold wipeE
    rw [List.length_set, wipeE_len env vs]
theorem wipeE_get {env : Evs} {i : Nat} {s : Sl} (ns : s ≠ .un) : ∀ {vs : List Nat}, (wipeE env vs)[i]? = some s → env[i]? = some s ∧ i ∉ vs
  | [], h => ⟨h, by simp⟩
  | v :: vs, h => by
    unfold wipeE at h
    rw [List.getElem?_set] at h
    split at h
    · split at h
      · cases h
        exact absurd rfl ns
      · cases h
    · rename_i c
      obtain ⟨h1, h2⟩ := wipeE_get ns h
      exact ⟨h1, by simp only [List.mem_cons, not_or]; exact ⟨fun e => c e.symm, h2⟩⟩
theorem Sn.wipe (S : Sn K M env F σ H) {σ' : L2.St} (vs : List Nat) (h : ∀ j, j ∉ vs → σ'[j]? = σ[j]?) (l : σ'.length = σ.length) : Sn K M (wipeE env vs) F σ' H := by
  have own : ∀ {s : Sl} {d : Dt}, s.own = some d → s ≠ .un := fun h z => by subst z; cases h
  refine ⟨S.sub, S.old, S.dom, S.mon, S.new, fun j e q => ?_, fun j s e q r => ?_, fun j e a q r => ?_, fun j e q => ?_, fun j k s t e e' a n q q' r r' z => ?_, fun c u e => ?_, S.tab, by rw [wipeE_len, l, S.len], S.pnt⟩
  · obtain ⟨q1, q2⟩ := wipeE_get (by simp) q
    rw [h j q2]
    exact S.fzS j e q1
  · obtain ⟨q1, q2⟩ := wipeE_get (own r) q
    rw [h j q2]
    exact S.owS j s e q1 r
  · obtain ⟨q1, q2⟩ := wipeE_get (by simp) q
    rw [h j q2] at r
    exact S.owF j e a q1 r
  · obtain ⟨q1, q2⟩ := wipeE_get (by simp) q
    rw [h j q2]
    exact S.boF j e q1
  · obtain ⟨q1, q2⟩ := wipeE_get (own r) q
    obtain ⟨q3, q4⟩ := wipeE_get (own r') q'
    rw [h j q2] at z
    rw [h k q4]
    exact S.apt j k s t e e' a n q1 q3 r r' z
  · obtain ⟨y1, y2, y3, y4⟩ := S.prt c u e
    refine ⟨y1, y2, y3, fun j s e' q r => ?_⟩
    obtain ⟨q1, q2⟩ := wipeE_get (own r) q
    rw [h j q2]
    exact y4 j s e' q1 r
end

/-! ### what a reading comes to, by data -/
abbrev Mx := Evs → Option (Evs × Dt)
def RE (K : PySem.W.Frag) (t : TE) (m : Mx) : Prop := ∀ (M : Fm) (env : Evs) (F : Hp) (σ : L2.St) (H : Hp) (env' : Evs) (d : Dt) (Q : VK), Sn K M env F σ H → m env = some (env', d) →
  (∀ v F' H', Sn K M env' F' σ H' → Same F F' → Rp K F' d v → Q v H') → t σ H Q
/-- the value is a new list or dict that nobody else holds -/
def RO (K : PySem.W.Frag) (t : TE) (m : Mx) : Prop := ∀ (M : Fm) (env : Evs) (F : Hp) (σ : L2.St) (H : Hp) (env' : Evs) (d : Dt) (Q : VK), Sn K M env F σ H → m env = some (env', d) →
  (∀ p F' H', Sn K M env' F' σ H' → Same F F' → Loose M env' F' σ p → OwOk K F' (H' p) d → Q (.ref p) H') → t σ H Q
def RT (K : PySem.W.Frag) (t : TT) (m : Evs → Option (Evs × Bool)) : Prop := ∀ (M : Fm) (env : Evs) (F : Hp) (σ : L2.St) (H : Hp) (env' : Evs) (b : Bool) (Q : Bool → Hp → Prop), Sn K M env F σ H → m env = some (env', b) →
  (∀ F' H', Sn K M env' F' σ H' → Same F F' → Q b H') → t σ H Q
def RA (K : PySem.W.Frag) (t : TA) (m : Evs → Option (Evs × List Dt)) : Prop := ∀ (M : Fm) (env : Evs) (F : Hp) (σ : L2.St) (H : Hp) (env' : Evs) (ds : List Dt) (Q : List V → Hp → Prop), Sn K M env F σ H → m env = some (env', ds) →
  (∀ vs F' H', Sn K M env' F' σ H' → Same F F' → RpA K F' ds vs → Q vs H') → t σ H Q
/-- the value is this data just now: it stays so, or it is a thing that somebody owns -/
def Now (K : PySem.W.Frag) (F H : Hp) (d : Dt) (v : V) : Prop := Rp K F d v ∨ ∃ a, v = .ref a ∧ OwOk K F (H a) d
/-- a reading whose value is taken at once -/
def RQ (K : PySem.W.Frag) (t : TE) (m : Mx) : Prop := ∀ (M : Fm) (env : Evs) (F : Hp) (σ : L2.St) (H : Hp) (env' : Evs) (d : Dt) (Q : VK), Sn K M env F σ H → m env = some (env', d) →
  (∀ v F' H', Sn K M env' F' σ H' → Same F F' → Now K F' H' d v → Q v H') → t σ H Q
def R2k (K : PySem.W.Frag) (r : R2) (f : Dt → Dt → Option Dt) : Prop := ∀ (M : Fm) (env : Evs) (F : Hp) (σ : L2.St) (H : Hp) (x y : V) (d e z : Dt) (Q : VK), Sn K M env F σ H → Now K F H d x → Now K F H e y → f d e = some z →
  (∀ v F' H', Sn K M env F' σ H' → Same F F' → Rp K F' z v → Q v H') → r x y H Q
/-- the same, the value new and loose -/
def R2o (K : PySem.W.Frag) (r : R2) (f : Dt → Dt → Option Dt) : Prop := ∀ (M : Fm) (env : Evs) (F : Hp) (σ : L2.St) (H : Hp) (x y : V) (d e z : Dt) (Q : VK), Sn K M env F σ H → Now K F H d x → Now K F H e y → f d e = some z →
  (∀ p F' H', Sn K M env F' σ H' → Same F F' → Loose M env F' σ p → OwOk K F' (H' p) z → Q (.ref p) H') → r x y H Q
/-- a call of one thing; of several -/
def RC1 (K : PySem.W.Frag) (r : List V → Hp → VK → Prop) (f : Dt → Option Dt) : Prop := ∀ (M : Fm) (env : Evs) (F : Hp) (σ : L2.St) (H : Hp) (x : V) (d z : Dt) (Q : VK), Sn K M env F σ H → Now K F H d x → f d = some z →
  (∀ v F' H', Sn K M env F' σ H' → Same F F' → Rp K F' z v → Q v H') → r [x] H Q
def RC1o (K : PySem.W.Frag) (r : List V → Hp → VK → Prop) (f : Dt → Option Dt) : Prop := ∀ (M : Fm) (env : Evs) (F : Hp) (σ : L2.St) (H : Hp) (x : V) (d z : Dt) (Q : VK), Sn K M env F σ H → Now K F H d x → f d = some z →
  (∀ p F' H', Sn K M env F' σ H' → Same F F' → Loose M env F' σ p → OwOk K F' (H' p) z → Q (.ref p) H') → r [x] H Q
def RCk (K : PySem.W.Frag) (r : List V → Hp → VK → Prop) (f : List Dt → Option Dt) : Prop := ∀ (M : Fm) (env : Evs) (F : Hp) (σ : L2.St) (H : Hp) (xs : List V) (ds : List Dt) (z : Dt) (Q : VK), Sn K M env F σ H → RpA K F ds xs → f ds = some z →
  (∀ v F' H', Sn K M env F' σ H' → Same F F' → Rp K F' z v → Q v H') → r xs H Q
section
variable {K : PySem.W.Frag} {F H : Hp} {x : V}
theorem Now.int {i : Int} (h : Now K F H (.int i) x) : x = .int i := by
  rcases h with h | ⟨a, _, h⟩
  · exact h
  · rcases h with ⟨_, _, _, h, _⟩ | ⟨_, _, _, h, _⟩ | ⟨_, _, _, h, _⟩ <;> cases h
theorem Now.bl {i : Bool} (h : Now K F H (.bool i) x) : x = .bl i := by
  rcases h with h | ⟨a, _, h⟩
  · exact h
  · rcases h with ⟨_, _, _, h, _⟩ | ⟨_, _, _, h, _⟩ | ⟨_, _, _, h, _⟩ <;> cases h
theorem Now.str {i : Str} (h : Now K F H (.str i) x) : x = .str i := by
  rcases h with h | ⟨a, _, h⟩
  · exact h
  · rcases h with ⟨_, _, _, h, _⟩ | ⟨_, _, _, h, _⟩ | ⟨_, _, _, h, _⟩ <;> cases h
theorem Now.non (h : Now K F H .none x) : x = .non := by
  rcases h with h | ⟨a, _, h⟩
  · exact h
  · rcases h with ⟨_, _, _, h, _⟩ | ⟨_, _, _, h, _⟩ | ⟨_, _, _, h, _⟩ <;> cases h
theorem Now.lst {ds : List Dt} (s : Same F H) (h : Now K F H (.list ds) x) : ∃ a xs, x = .ref a ∧ H a = some (.lst xs) ∧ RpA K F ds xs := by
  rcases h with ⟨a, xs, h1, h2, h3⟩ | ⟨a, h1, h⟩
  · exact ⟨a, xs, h1, s _ _ h2, h3⟩
  · rcases h with ⟨xs, _, h2, h, h3⟩ | ⟨_, _, _, h, _⟩ | ⟨_, _, _, h, _⟩
    · cases h
      exact ⟨a, xs, h1, h2, h3⟩
    · cases h
    · cases h
theorem Now.tup {ds : List Dt} (s : Same F H) (h : Now K F H (.tuple ds) x) : ∃ a xs, x = .ref a ∧ H a = some (.tup xs) ∧ RpA K F ds xs := by
  rcases h with ⟨a, xs, h1, h2, h3⟩ | ⟨a, h1, h⟩
  · exact ⟨a, xs, h1, s _ _ h2, h3⟩
  · rcases h with ⟨xs, _, h2, h, h3⟩ | ⟨_, _, _, h, _⟩ | ⟨_, _, _, h, _⟩ <;> cases h
end
theorem ow_rp {K : PySem.W.Frag} {F : Hp} {p : Addr} {o : HO} {d : Dt} (h : OwOk K F (some o) d) (e : F p = some o) : Rp K F d (.ref p) := by
  rcases h with ⟨xs, ds, h1, rfl, h3⟩ | ⟨xs, ds, h1, rfl, h3⟩ | ⟨xs, ds, h1, rfl, h3⟩
  · cases h1
    exact ⟨p, xs, rfl, e, h3⟩
  · cases h1
    exact ⟨p, rfl, .inl ⟨xs, e, h3⟩⟩
  · cases h1
    exact ⟨p, rfl, .inr (.inl ⟨xs, e, h3⟩)⟩
section
variable {K : PySem.W.Frag}
/-- what is loose is let be from now on -/
theorem RO.e {t : TE} {m : Mx} (h : RO K t m) : RE K t m := fun M env F σ H env' d Q S e q => by
  refine h M env F σ H env' d Q S e fun p F' H' S' s L o => ?_
  obtain ⟨u, hu⟩ := o.some
  obtain ⟨S2, s2⟩ := S'.ice L hu
  refine q _ _ _ S2 (s.trans s2) (ow_rp (o := u) ?_ upd_same)
  rw [← hu]
  exact o.mono s2
theorem R2o.k {r : R2} {f : Dt → Dt → Option Dt} (h : R2o K r f) : R2k K r f := fun M env F σ H x y d e z Q S hx hy hf q => by
  refine h M env F σ H x y d e z Q S hx hy hf fun p F' H' S' s L o => ?_
  obtain ⟨u, hu⟩ := o.some
  obtain ⟨S2, s2⟩ := S'.ice L hu
  refine q _ _ _ S2 (s.trans s2) (ow_rp (o := u) ?_ upd_same)
  rw [← hu]
  exact o.mono s2
/-! names, constants -/
def mVar (i : Nat) : Mx := fun env => match env[i]? with
  | some (.fz d) => some (env, d)
  | some (.ow d) => some (env.set i (.fz d), d)
  | _ => none
theorem r_var (i : Nat) : RE K (tVar i) (mVar i) := fun M env F σ H env' d Q S e q => by
  unfold mVar at e
  split at e
  · rename_i d' h
    cases e
    obtain ⟨v, h1, h2⟩ := S.fzS i d h
    exact ⟨v, h1, q v F H S (Same.refl F) h2⟩
  · rename_i d' h
    cases e
    obtain ⟨F', v, S', s, h1, h2⟩ := S.still h
    exact ⟨v, h1, q v F' H S' s h2⟩
  · cases e
/-- a name of a thing of its own, handed on: it is forgotten -/
def mMove (i : Nat) : Mx := fun env => match env[i]? with
  | some (.ow d) => some (env.set i .un, d)
  | _ => none
theorem Sn.unset {M : Fm} {env : Evs} {F : Hp} {σ : L2.St} {H : Hp} (S : Sn K M env F σ H) (i : Nat) : Sn K M (env.set i .un) F σ H := by
  have get : ∀ (j : Nat) (s : Sl), (env.set i .un)[j]? = some s → s ≠ .un → env[j]? = some s := fun j s h n => by
    rw [List.getElem?_set] at h
    split at h
    · split at h
      · cases h
        exact absurd rfl n
      · cases h
    · exact h
  refine ⟨S.sub, S.old, S.dom, S.mon, S.new, fun j e q => S.fzS j e (get j _ q (by simp)), fun j s e q r => S.owS j s e (get j s q ?_) r, fun j e a q r => S.owF j e a (get j _ q (by simp)) r, fun j e q => S.boF j e (get j _ q (by simp)), fun j k s t e e' a n q q' r r' z => S.apt j k s t e e' a n (get j s q ?_) (get k t q' ?_) r r' z, fun c u e => ?_, S.tab, by simp [S.len], S.pnt⟩
  · rintro rfl
    cases r
  · rintro rfl
    cases r
  · rintro rfl
    cases r'
  · obtain ⟨y1, y2, y3, y4⟩ := S.prt c u e
    refine ⟨y1, y2, y3, fun j s e' q r => y4 j s e' (get j s q ?_) r⟩
    rintro rfl
    cases r
theorem r_move (i : Nat) : RO K (tVar i) (mMove i) := fun M env F σ H env' d Q S e q => by
  unfold mMove at e
  split at e
  · rename_i d' h
    cases e
    obtain ⟨a, h1, h2, h3⟩ := S.owS i _ d h rfl
    have hi : i < env.length := (List.getElem?_eq_some_iff.mp h).1
    refine ⟨_, h1, q a F H (S.unset i) (Same.refl F) ⟨S.owF i d a h h1, h2, ?_, fun j s e' hj ho z => ?_⟩ h3⟩
    · cases ep : M.P a with
      | none => rfl
      | some o => exact absurd h1 ((S.prt a o ep).2.2.2 i _ d h rfl)
    by_cases c : i = j
    · subst c
      rw [List.getElem?_set_self hi] at hj
      cases hj
      cases ho
    · rw [List.getElem?_set_ne c] at hj
      exact S.apt i j _ s d e' a c h hj rfl ho h1 z
  · cases e
def mK (d : Dt) : Mx := fun env => some (env, d)
theorem r_int {n : Int} : RE K (tC (.int n)) (mK (.int n)) := fun M env F σ H env' d Q S e q => by
  cases e
  exact q _ F H S (Same.refl F) rfl
theorem r_bl {n : Bool} : RE K (tC (.bl n)) (mK (.bool n)) := fun M env F σ H env' d Q S e q => by
  cases e
  exact q _ F H S (Same.refl F) rfl
theorem r_str {n : Str} : RE K (tC (.str n)) (mK (.str n)) := fun M env F σ H env' d Q S e q => by
  cases e
  exact q _ F H S (Same.refl F) rfl
theorem r_non : RE K (tC .non) (mK .none) := fun M env F σ H env' d Q S e q => by
  cases e
  exact q _ F H S (Same.refl F) rfl
/-! two things -/
def mOp (f : Dt → Dt → Option Dt) (a b : Mx) : Mx := fun env => (a env).bind fun p => (b p.1).bind fun q => (f p.2 q.2).map fun z => (q.1, z)
theorem bindS {α β : Type} {o : Option α} {f : α → Option β} {z : β} (h : o.bind f = some z) : ∃ x, o = some x ∧ f x = some z := by
  cases o with
  | none => cases h
  | some x => exact ⟨x, rfl, h⟩
theorem mapS {α β : Type} {o : Option α} {f : α → β} {z : β} (h : o.map f = some z) : ∃ x, o = some x ∧ f x = z := by
  cases o with
  | none => cases h
  | some x => exact ⟨x, rfl, Option.some.inj h⟩
theorem RE.q {t : TE} {m : Mx} (h : RE K t m) : RQ K t m := fun M env F σ H env' d Q S e q => h M env F σ H env' d Q S e fun v F' H' S' s r => q v F' H' S' s (.inl r)
/-- an owned name, looked at -/
def mPeek (i : Nat) : Mx := fun env => (env[i]?).bind fun s => s.own.map fun d => (env, d)
theorem r_peek (i : Nat) : RQ K (tVar i) (mPeek i) := fun M env F σ H env' d Q S e q => by
  obtain ⟨s, h1, h2⟩ := bindS e
  obtain ⟨d', h3, h4⟩ := mapS h2
  cases h4
  obtain ⟨a, z1, z2, z3⟩ := S.owS i s d h1 h3
  exact ⟨_, z1, q _ F H S (Same.refl F) (.inr ⟨a, rfl, z3⟩)⟩
/-- an owned name looked at ahead of another thing: it counts as it is behind that -/
def mOpP (f : Dt → Dt → Option Dt) (i : Nat) (b : Mx) : Mx := fun env => (mPeek i env).bind fun _ => (b env).bind fun q => (mPeek i q.1).bind fun p => (f p.2 q.2).map fun z => (q.1, z)
theorem r_opP {r : R2} {f : Dt → Dt → Option Dt} {tb : TE} {i : Nat} {b : Mx} (hr : R2k K r f) (hb : RQ K tb b) : RE K (tOp r (tVar i) tb) (mOpP f i b) := fun M env F σ H env' d Q S e q => by
  obtain ⟨⟨e0, x0⟩, h0, h⟩ := bindS e
  obtain ⟨⟨e2, y⟩, h2, h⟩ := bindS h
  obtain ⟨⟨e3, x⟩, h3, h⟩ := bindS h
  obtain ⟨z, h4, h⟩ := mapS h
  cases h
  obtain ⟨s0, w1, w2⟩ := bindS h0
  obtain ⟨d0, w3, w4⟩ := mapS w2
  obtain ⟨a, z1, z2, z3⟩ := S.owS i s0 d0 w1 w3
  refine ⟨_, z1, hb M env F σ H e2 y _ S h2 fun u F2 H2 S2 s2 r2 => ?_⟩
  obtain ⟨s1, w5, w6⟩ := bindS h3
  obtain ⟨d1, w7, w8⟩ := mapS w6
  cases w8
  obtain ⟨a', y1, y2, y3⟩ := S2.owS i s1 _ w5 w7
  rw [z1] at y1
  cases y1
  exact hr M e2 F2 σ H2 _ u x y d Q S2 (.inr ⟨a, rfl, y3⟩) r2 h4 fun v' F3 H3 S3 s3 r3 => q v' F3 H3 S3 (s2.trans s3) r3
theorem r_op {r : R2} {f : Dt → Dt → Option Dt} {ta tb : TE} {a b : Mx} (hr : R2k K r f) (ha : RE K ta a) (hb : RQ K tb b) : RE K (tOp r ta tb) (mOp f a b) := fun M env F σ H env' d Q S e q => by
  obtain ⟨⟨e1, x⟩, h1, h⟩ := bindS e
  obtain ⟨⟨e2, y⟩, h2, h⟩ := bindS h
  obtain ⟨z, h3, h⟩ := mapS h
  cases h
  refine ha M env F σ H e1 x _ S h1 fun v F1 H1 S1 s1 r1 => ?_
  refine hb M e1 F1 σ H1 e2 y _ S1 h2 fun u F2 H2 S2 s2 r2 => ?_
  exact hr M e2 F2 σ H2 v u x y d Q S2 (.inl (r1.mono s2 _ _)) r2 h3 fun v' F3 H3 S3 s3 r3 => q v' F3 H3 S3 (s1.trans (s2.trans s3)) r3
theorem r_opO {r : R2} {f : Dt → Dt → Option Dt} {ta tb : TE} {a b : Mx} (hr : R2o K r f) (ha : RE K ta a) (hb : RQ K tb b) : RO K (tOp r ta tb) (mOp f a b) := fun M env F σ H env' d Q S e q => by
  obtain ⟨⟨e1, x⟩, h1, h⟩ := bindS e
  obtain ⟨⟨e2, y⟩, h2, h⟩ := bindS h
  obtain ⟨z, h3, h⟩ := mapS h
  cases h
  refine ha M env F σ H e1 x _ S h1 fun v F1 H1 S1 s1 r1 => ?_
  refine hb M e1 F1 σ H1 e2 y _ S1 h2 fun u F2 H2 S2 s2 r2 => ?_
  exact hr M e2 F2 σ H2 v u x y d Q S2 (.inl (r1.mono s2 _ _)) r2 h3 fun v' F3 H3 S3 s3 r3 => q v' F3 H3 S3 (s1.trans (s2.trans s3)) r3
/-! ints -/
def fI (C : Int → Int → Bool) (g : Int → Int → Dt) : Dt → Dt → Option Dt
  | .int i, .int j => if C i j then some (g i j) else none
  | _, _ => none
theorem o_I {C : Int → Int → Bool} {C' : Int → Int → Prop} {g : Int → Int → Dt} {g' : Int → Int → V} (hC : ∀ i j, C i j = true → C' i j) (hg : ∀ F i j, Rp K F (g i j) (g' i j)) : R2k K (rI C' g') (fI C g) := fun M env F σ H x y d e z Q S hx hy hf q => by
  unfold fI at hf
  split at hf
  · rename_i i j
    split at hf
    · rename_i c
      cases hf
      exact ⟨i, j, hx.int, hy.int, hC i j c, q _ F H S (Same.refl F) (hg F i j)⟩
    · cases hf
  · cases hf
def fI0 (g : Int → Int → Dt) : Dt → Dt → Option Dt
  | .int i, .int j => some (g i j)
  | _, _ => none
theorem o_I0 {g : Int → Int → Dt} {g' : Int → Int → V} (hg : ∀ F i j, Rp K F (g i j) (g' i j)) : R2k K (rI0 g') (fI0 g) := fun M env F σ H x y d e z Q S hx hy hf q => by
  unfold fI0 at hf
  split at hf
  · rename_i i j
    cases hf
    exact ⟨i, j, hx.int, hy.int, q _ F H S (Same.refl F) (hg F i j)⟩
  · cases hf
abbrev fAdd := fI0 fun i j => .int (i + j)
abbrev fSub := fI0 fun i j => .int (i - j)
abbrev fMul := fI (fun i j => decide (i.natAbs.log2 + j.natAbs.log2 < 1000000)) fun i j => .int (i * j)
abbrev fMulS := fI (fun i j => (decide (-(2 ^ 64) < i) && decide (i < 2 ^ 64)) || (decide (-(2 ^ 64) < j) && decide (j < 2 ^ 64))) fun i j => .int (i * j)
abbrev fMod := fI (fun _ j => decide (0 < j)) fun i j => .int (i % j)
abbrev fDiv := fI (fun _ j => decide (0 < j) && decide (j.natAbs.log2 < 9000)) fun i j => .int (i / j)
abbrev fDivS := fI (fun _ j => decide (0 < j) && decide (j < 1073741824)) fun i j => .int (i / j)
abbrev fPow := fI (fun i j => decide (0 ≤ j) && (decide (j ≤ 1000000) && decide (i.natAbs < 2 ^ 64))) fun i j => .int (i ^ j.toNat)
abbrev fPowW := fI (fun i j => decide (0 ≤ j) && decide ((Builtin.Int.intBits i : Int) * j ≤ 2 ^ 27)) fun i j => .int (i ^ j.toNat)
abbrev fShl := fI (fun i j => decide (0 ≤ j) && (decide (j ≤ 1000000) && decide (i.natAbs < 2 ^ 64))) fun i j => .int (i * 2 ^ j.toNat)
abbrev fShr := fI (fun _ j => decide (0 ≤ j)) fun i j => .int (i / 2 ^ j.toNat)
abbrev fAnd := fI0 fun i j => .int (Builtin.bitAnd i j)
abbrev fLt := fI0 fun i j => .bool (decide (i < j))
abbrev fLe := fI0 fun i j => .bool (decide (i ≤ j))
abbrev fGt := fI0 fun i j => .bool (decide (j < i))
abbrev fGe := fI0 fun i j => .bool (decide (j ≤ i))
theorem o_add : R2k K (rI0 fun i j => .int (i + j)) fAdd := o_I0 fun _ _ _ => rfl
theorem o_sub : R2k K (rI0 fun i j => .int (i - j)) fSub := o_I0 fun _ _ _ => rfl
theorem o_and : R2k K (rI0 fun i j => .int (Builtin.bitAnd i j)) fAnd := o_I0 fun _ _ _ => rfl
theorem o_lt : R2k K (rI0 fun i j => .bl (decide (i < j))) fLt := o_I0 fun _ _ _ => rfl
theorem o_le : R2k K (rI0 fun i j => .bl (decide (i ≤ j))) fLe := o_I0 fun _ _ _ => rfl
theorem o_gt : R2k K (rI0 fun i j => .bl (decide (j < i))) fGt := o_I0 fun _ _ _ => rfl
theorem o_ge : R2k K (rI0 fun i j => .bl (decide (j ≤ i))) fGe := o_I0 fun _ _ _ => rfl
theorem o_mulW : R2k K (rI CMulW fun i j => .int (i * j)) fMul := o_I (fun i j h => (of_decide_eq_true h : i.natAbs.log2 + j.natAbs.log2 < 1000000)) fun _ _ _ => rfl
theorem o_mul : R2k K (rI CMul fun i j => .int (i * j)) fMulS := o_I (fun i j h => by
  simp only [Bool.or_eq_true, Bool.and_eq_true, decide_eq_true_eq] at h
  exact h) fun _ _ _ => rfl
theorem o_mod : R2k K (rI (fun _ j => 0 < j) fun i j => .int (i % j)) fMod := o_I (fun _ _ h => of_decide_eq_true h) fun _ _ _ => rfl
theorem o_fdivW : R2k K (rI CDivW fun i j => .int (i / j)) fDiv := o_I (fun _ _ h => by
  simp only [Bool.and_eq_true, decide_eq_true_eq] at h
  exact h) fun _ _ _ => rfl
theorem o_fdiv : R2k K (rI CDiv fun i j => .int (i / j)) fDivS := o_I (fun _ _ h => by
  simp only [Bool.and_eq_true, decide_eq_true_eq] at h
  exact h) fun _ _ _ => rfl
theorem o_pow : R2k K (rI CPow fun i j => .int (i ^ j.toNat)) fPow := o_I (fun _ _ h => by
  simp only [Bool.and_eq_true, decide_eq_true_eq] at h
  exact h) fun _ _ _ => rfl
theorem o_powW : R2k K (rI CPowW fun i j => .int (i ^ j.toNat)) fPowW := o_I (fun _ _ h => by
  simp only [Bool.and_eq_true, decide_eq_true_eq] at h
  exact h) fun _ _ _ => rfl
theorem o_shl : R2k K (rI CPow fun i j => .int (i * 2 ^ j.toNat)) fShl := o_I (fun _ _ h => by
  simp only [Bool.and_eq_true, decide_eq_true_eq] at h
  exact h) fun _ _ _ => rfl
theorem o_shr : R2k K (rI (fun _ j => 0 ≤ j) fun i j => .int (i / 2 ^ j.toNat)) fShr := o_I (fun _ _ h => of_decide_eq_true h) fun _ _ _ => rfl
/-! == of any data without a dict -/
mutual
theorem Rp.dp {F H : Hp} (s : Same F H) : ∀ (d : Dt) (v : V), PyData.canLay0 d = true → Rp K F d v → Dp K H v d
  | .none, _, _, h => by
    cases (show _ = _ from h)
    exact .non
  | .bool b, _, _, h => by
    cases (show _ = _ from h)
    exact .bl b
  | .int i, _, _, h => by
    cases (show _ = _ from h)
    exact .int i
  | .str x, _, _, h => by
    cases (show _ = _ from h)
    exact .str x
  | .list ds, _, c, h => by
    obtain ⟨a, xs, rfl, h1, h2⟩ := h
    exact .lst (SqL.of (s _ _ h1)) (RpA.dp s ds xs (by simpa [PyData.canLay0] using c) h2)
  | .tuple ds, _, c, h => by
    obtain ⟨a, xs, rfl, h1, h2⟩ := h
    exact .tup (SqT.of (s _ _ h1)) (RpA.dp s ds xs (by simpa [PyData.canLay0] using c) h2)
  | .dict kvs, _, c, h => by simp [PyData.canLay0] at c
theorem RpA.dp {F H : Hp} (s : Same F H) : ∀ (ds : List Dt) (xs : List V), PyData.canLayAll0 ds = true → RpA K F ds xs → DpAll K H xs ds
  | [], _, _, h => by
    cases (show _ = _ from h)
    exact .nil
  | d :: ds, _, c, h => by
    obtain ⟨x, r, rfl, h1, h2⟩ := h
    have c' : d.canLay0 = true ∧ PyData.canLayAll0 ds = true := by simpa [PyData.canLayAll0] using c
    exact .cons (Rp.dp s d x c'.1 h1) (RpA.dp s ds r c'.2 h2)
end
theorem Now.dp {F H : Hp} {d : Dt} {v : V} (s : Same F H) (c : PyData.canLay0 d = true) (h : Now K F H d v) : Dp K H v d := by
  rcases h with h | ⟨a, rfl, h⟩
  · exact h.dp s _ _ c
  · rcases h with ⟨xs, ds, h1, rfl, h3⟩ | ⟨xs, ds, h1, rfl, h3⟩ | ⟨xs, ds, h1, rfl, h3⟩
    · exact .lst (SqL.of h1) (h3.dp s _ _ (by simpa [PyData.canLay0] using c))
    · simp [PyData.canLay0] at c
    · simp [PyData.canLay0] at c
theorem lay_of {d : Dt} (h : SeqAt.shaped d = true) : PyData.canLay0 d = true := SeqAt.canLay_of_shaped h
/-- the script, a list that is read alone, is told by this -/
abbrev scD (ns : List Int) : Dt := .dict [(.none, .list (ns.map PyData.int))]
def plainD : Dt → Dt
  | .dict [(.none, .list ds)] => .list ds
  | d => d
theorem rp_tag {F H : Hp} {ds : List Dt} {v : V} (s : Same F H) (h : Now K F H (.dict [(.none, .list ds)]) v) : ∃ (a : Addr) (ns : List Int), v = .ref a ∧ ds = ns.map PyData.int ∧ SqL K H a (ns.map V.int) := by
  have nk : ∀ x : Key, PyData.none ≠ kD x := fun x => by cases x <;> (intro z; cases z)
  rcases h with ⟨a, h1, ⟨vs, h2, h3⟩ | ⟨vs, h2, h3⟩ | ⟨ns, h2, h3⟩ | ⟨_, vs, h2, h3⟩ | ⟨_, _, _, _, _, _, _, h3⟩⟩ | ⟨a, h1, h⟩
  · obtain ⟨x, y, r, _, h4, _⟩ := h3
    exact absurd h4 (nk x)
  · obtain ⟨_, h4, _⟩ := h3
    cases h4
  · cases h2
    exact ⟨a, ns, h1, rfl, SqL.mono s h3⟩
  · obtain ⟨h4, _⟩ := h3
    cases h4
  · obtain ⟨h4, _⟩ := h3
    cases h4
  · rcases h with ⟨xs, _, h2, h, h3⟩ | ⟨_, _, _, h, h3⟩ | ⟨_, _, _, h, h3⟩
    · cases h
    · cases h
      obtain ⟨x, y, r, _, h4, _⟩ := h3
      exact absurd h4 (nk x)
    · cases h
      obtain ⟨_, h4, _⟩ := h3
      cases h4
theorem dp_plain {F H : Hp} {d : Dt} {v : V} (s : Same F H) (c : PyData.canLay0 (plainD d) = true) (h : Now K F H d v) : Dp K H v (plainD d) := by
  unfold plainD at c ⊢
  split at c
  · obtain ⟨a, ns, rfl, rfl, h2⟩ := rp_tag s h
    exact .lst h2 (dp_ints ns)
  · exact h.dp s c
def fEq (d e : Dt) : Option Dt := if SeqAt.shaped (plainD d) && SeqAt.shaped (plainD e) then some (.bool (PyData.eqv (plainD d) (plainD e))) else none
def fNe (d e : Dt) : Option Dt := if SeqAt.shaped (plainD d) && SeqAt.shaped (plainD e) then some (.bool (!PyData.eqv (plainD d) (plainD e))) else none
theorem o_eq : R2k K (rEqD K) fEq := fun M env F σ H x y d e z Q S hx hy hf q => by
  unfold fEq at hf
  split at hf
  · rename_i c
    cases hf
    rw [Bool.and_eq_true] at c
    exact ⟨_, _, dp_plain S.sub (lay_of c.1) hx, dp_plain S.sub (lay_of c.2) hy, c.1, c.2, q _ F H S (Same.refl F) rfl⟩
  · cases hf
theorem o_ne : R2k K (rNeD K) fNe := fun M env F σ H x y d e z Q S hx hy hf q => by
  unfold fNe at hf
  split at hf
  · rename_i c
    cases hf
    rw [Bool.and_eq_true] at c
    exact ⟨_, _, dp_plain S.sub (lay_of c.1) hx, dp_plain S.sub (lay_of c.2) hy, c.1, c.2, q _ F H S (Same.refl F) rfl⟩
  · cases hf
def isNon : Dt → Bool
  | .none => true
  | _ => false
theorem isNon_ok {F H : Hp} {d : Dt} {v : V} (h : Now K F H d v) : decide (v = .non) = isNon d := by
  rcases h with h | ⟨a, rfl, h⟩
  · cases d with
    | none => cases (show _ = _ from h); rfl
    | bool b => cases (show _ = _ from h); rfl
    | int b => cases (show _ = _ from h); rfl
    | str b => cases (show _ = _ from h); rfl
    | list b => obtain ⟨a, xs, rfl, _⟩ := h; rfl
    | tuple b => obtain ⟨a, xs, rfl, _⟩ := h; rfl
    | dict b => obtain ⟨a, rfl, _⟩ := h; rfl
  · rcases h with ⟨xs, ds, h1, rfl, h3⟩ | ⟨xs, ds, h1, rfl, h3⟩ | ⟨xs, ds, h1, rfl, h3⟩ <;> rfl
def fIsN : Dt → Dt → Option Dt
  | d, .none => some (.bool (isNon d))
  | _, _ => none
def fNotN : Dt → Dt → Option Dt
  | d, .none => some (.bool (!isNon d))
  | _, _ => none
theorem o_isN : R2k K (fun x y H Q => y = .non ∧ Q (.bl (decide (x = .non))) H) fIsN := fun M env F σ H x y d e z Q S hx hy hf q => by
  unfold fIsN at hf
  split at hf
  · cases hf
    refine ⟨hy.non, ?_⟩
    rw [isNon_ok hx]
    exact q _ F H S (Same.refl F) rfl
  · cases hf
theorem o_notN : R2k K (fun x y H Q => y = .non ∧ Q (.bl (!decide (x = .non))) H) fNotN := fun M env F σ H x y d e z Q S hx hy hf q => by
  unfold fNotN at hf
  split at hf
  · cases hf
    refine ⟨hy.non, ?_⟩
    rw [isNon_ok hx]
    exact q _ F H S (Same.refl F) rfl
  · cases hf
/-! in, of flat things -/
def flatD : Dt → Bool
  | .none => true
  | .bool _ => true
  | .int _ => true
  | .str _ => true
  | _ => false
def eqF : Dt → Dt → Bool
  | .none, .none => true
  | .bool a, .bool b => a == b
  | .bool a, .int b => (if a then 1 else 0) == b
  | .int a, .bool b => a == (if b then 1 else 0)
  | .int a, .int b => a == b
  | .str a, .str b => a == b
  | _, _ => false
def vOf : Dt → V
  | .none => .non
  | .bool b => .bl b
  | .int i => .int i
  | .str s => .str s
  | _ => .non
theorem flat_rp {F : Hp} {d : Dt} {v : V} (h : Rp K F d v) (f : flatD d = true) : v = vOf d ∧ flatV (vOf d) = true := by
  cases d with
  | none => exact ⟨h, rfl⟩
  | bool b => exact ⟨h, rfl⟩
  | int b => exact ⟨h, rfl⟩
  | str b => exact ⟨h, rfl⟩
  | list b => cases f
  | tuple b => cases f
  | dict b => cases f
theorem flat_ok {F H : Hp} {d : Dt} {v : V} (h : Now K F H d v) (f : flatD d = true) : v = vOf d ∧ flatV (vOf d) = true := by
  rcases h with h | ⟨a, rfl, h⟩
  · exact flat_rp h f
  · rcases h with ⟨xs, ds, h1, rfl, h3⟩ | ⟨xs, ds, h1, rfl, h3⟩ | ⟨xs, ds, h1, rfl, h3⟩ <;> cases f
theorem eqF_ok {d e : Dt} (f : flatD d = true) (g : flatD e = true) : eqV (vOf d) (vOf e) = eqF d e := by
  cases d <;> cases e <;> first | (cases f; done) | (cases g; done) | rfl
theorem flats_ok {F : Hp} : ∀ {ds : List Dt} {xs : List V}, RpA K F ds xs → ds.all flatD = true → xs.all flatV = true ∧ ∀ e, flatD e = true → inV (vOf e) xs = ds.any fun d => eqF d e
  | [], _, h, _ => by
    cases (show _ = _ from h)
    exact ⟨rfl, fun _ _ => rfl⟩
  | d :: ds, _, h, f => by
    obtain ⟨x, r, rfl, h1, h2⟩ := h
    rw [List.all_cons, Bool.and_eq_true] at f
    obtain ⟨rfl, h3⟩ := flat_rp h1 f.1
    obtain ⟨h4, h5⟩ := flats_ok h2 f.2
    refine ⟨by rw [List.all_cons, h3, h4]; rfl, fun e g => ?_⟩
    show (eqV (vOf d) (vOf e) || inV (vOf e) r) = _
    rw [eqF_ok f.1 g, h5 e g, List.any_cons]
/-- the items of a list or tuple -/
def items : Dt → Option (List Dt)
  | .list ds => some ds
  | .tuple ds => some ds
  | .dict [(.none, .list ds)] => some ds
  | _ => none
theorem items_ok {F H : Hp} {d : Dt} {v : V} {ds : List Dt} (s : Same F H) (h : Now K F H d v) (e : items d = some ds) : ∃ a xs, v = .ref a ∧ (SqL K H a xs ∨ SqT K H a xs) ∧ RpA K F ds xs := by
  unfold items at e
  split at e
  · cases e
    obtain ⟨a, xs, rfl, h1, h2⟩ := h.lst s
    exact ⟨a, xs, rfl, .inl (SqL.of h1), h2⟩
  · cases e
    obtain ⟨a, xs, rfl, h1, h2⟩ := h.tup s
    exact ⟨a, xs, rfl, .inr (SqT.of h1), h2⟩
  · cases e
    obtain ⟨a, ns, rfl, rfl, h2⟩ := rp_tag s h
    exact ⟨a, _, rfl, .inl h2, RpA.of_ints ns⟩
  · cases e
def fIn (neg : Bool) (d e : Dt) : Option Dt := (items e).bind fun ds => if flatD d && ds.all flatD then some (.bool (if neg then !(ds.any fun x => eqF x d) else ds.any fun x => eqF x d)) else none
theorem o_in {neg : Bool} : R2k K (rIn K neg) (fIn neg) := fun M env F σ H x y d e z Q S hx hy hf q => by
  obtain ⟨ds, h1, h2⟩ := bindS hf
  split at h2
  · rename_i c
    cases h2
    rw [Bool.and_eq_true] at c
    obtain ⟨a, xs, rfl, h3, h4⟩ := items_ok S.sub hy h1
    obtain ⟨rfl, h5⟩ := flat_ok hx c.1
    obtain ⟨h6, h7⟩ := flats_ok h4 c.2
    refine ⟨a, xs, rfl, h3, h5, h6, ?_⟩
    rw [h7 d c.1]
    exact q _ F H S (Same.refl F) rfl
  · cases h2
/-! items by place -/
def fIxL : Dt → Dt → Option Dt
  | .list ds, .int i => atI ds i
  | .dict [(.none, .list ds)], .int i => atI ds i
  | _, _ => none
def fIxT : Dt → Dt → Option Dt
  | .tuple ds, .int i => atI ds i
  | _, _ => none
theorem atI_ok {F : Hp} {ds : List Dt} {xs : List V} {i : Int} {z : Dt} (h : RpA K F ds xs) (e : atI ds i = some z) : ∃ x, atI xs i = some x ∧ Rp K F z x := by
  unfold atI at e ⊢
  rw [h.len] at e
  obtain ⟨j, h1, h2⟩ := bindS e
  rw [h1]
  exact h.get h2
theorem o_ixL : R2k K (rIxL K) fIxL := fun M env F σ H x y d e z Q S hx hy hf q => by
  unfold fIxL at hf
  split at hf
  · obtain ⟨a, xs, rfl, h1, h2⟩ := hx.lst S.sub
    obtain ⟨u, h3, h4⟩ := atI_ok h2 hf
    exact ⟨a, xs, _, u, rfl, hy.int, SqL.of h1, h3, q u F H S (Same.refl F) h4⟩
  · obtain ⟨a, ns, rfl, rfl, h2⟩ := rp_tag S.sub hx
    obtain ⟨u, h3, h4⟩ := atI_ok (RpA.of_ints (K := K) (F := F) ns) hf
    exact ⟨a, _, _, u, rfl, hy.int, h2, h3, q u F H S (Same.refl F) h4⟩
  · cases hf
theorem o_ixT : R2k K (rIxT K) fIxT := fun M env F σ H x y d e z Q S hx hy hf q => by
  unfold fIxT at hf
  split at hf
  · obtain ⟨a, xs, rfl, h1, h2⟩ := hx.tup S.sub
    obtain ⟨u, h3, h4⟩ := atI_ok h2 hf
    exact ⟨a, xs, _, u, rfl, hy.int, SqT.of h1, h3, q u F H S (Same.refl F) h4⟩
  · cases hf
end

section
variable {K : PySem.W.Frag}
/-! one thing -/
def mUn (f : Dt → Option Dt) (a : Mx) : Mx := fun env => (a env).bind fun p => (f p.2).map fun z => (p.1, z)
def fNeg : Dt → Option Dt
  | .int i => some (.int (-i))
  | _ => none
theorem r_neg {ta : TE} {a : Mx} (ha : RE K ta a) : RE K (tUn (rU fun i => .int (-i)) ta) (mUn fNeg a) := fun M env F σ H env' d Q S e q => by
  obtain ⟨⟨e1, x⟩, h1, h⟩ := bindS e
  obtain ⟨z, h3, h⟩ := mapS h
  cases h
  refine ha M env F σ H _ x _ S h1 fun v F1 H1 S1 s1 r1 => ?_
  cases x <;> first | (cases h3; done) | skip
  cases h3
  exact ⟨_, r1, q _ F1 H1 S1 s1 rfl⟩
/-! tests -/
abbrev Mb := Evs → Option (Evs × Bool)
def toB : Evs × Dt → Option (Evs × Bool)
  | (e, .bool b) => some (e, b)
  | _ => none
def mB (a : Mx) : Mb := fun env => (a env).bind toB
theorem r_tB {ta : TE} {a : Mx} (ha : RE K ta a) : RT K (tB ta) (mB a) := fun M env F σ H env' b Q S e q => by
  obtain ⟨⟨e1, x⟩, h1, h⟩ := bindS e
  refine ha M env F σ H e1 x _ S h1 fun v F1 H1 S1 s1 r1 => ?_
  cases x <;> first | (cases h; done) | skip
  cases h
  exact ⟨_, r1, q F1 H1 S1 s1⟩
theorem r_tTest {ta : TE} {a : Mx} (ha : RE K ta a) : RT K (tTest ta) (mB a) := r_tB ha
def mAnd (a b : Mb) : Mb := fun env => (a env).bind fun p => if p.2 = true then b p.1 else some (p.1, false)
def mOr (a b : Mb) : Mb := fun env => (a env).bind fun p => if p.2 = true then some (p.1, true) else b p.1
def mNot (a : Mb) : Mb := fun env => (a env).map fun p => (p.1, !p.2)
theorem r_and {ta tb : TT} {a b : Mb} (ha : RT K ta a) (hb : RT K tb b) : RT K (tAnd ta tb) (mAnd a b) := fun M env F σ H env' c Q S e q => by
  obtain ⟨⟨e1, x⟩, h1, h⟩ := bindS e
  refine ha M env F σ H e1 x _ S h1 fun F1 H1 S1 s1 => ?_
  cases x with
  | true => exact hb M e1 F1 σ H1 env' c Q S1 h fun F2 H2 S2 s2 => q F2 H2 S2 (s1.trans s2)
  | false =>
    cases h
    exact q F1 H1 S1 s1
theorem r_or {ta tb : TT} {a b : Mb} (ha : RT K ta a) (hb : RT K tb b) : RT K (tOr ta tb) (mOr a b) := fun M env F σ H env' c Q S e q => by
  obtain ⟨⟨e1, x⟩, h1, h⟩ := bindS e
  refine ha M env F σ H e1 x _ S h1 fun F1 H1 S1 s1 => ?_
  cases x with
  | false => exact hb M e1 F1 σ H1 env' c Q S1 h fun F2 H2 S2 s2 => q F2 H2 S2 (s1.trans s2)
  | true =>
    cases h
    exact q F1 H1 S1 s1
theorem r_not {ta : TT} {a : Mb} (ha : RT K ta a) : RT K (tNot ta) (mNot a) := fun M env F σ H env' c Q S e q => by
  obtain ⟨⟨e1, x⟩, h1, h⟩ := mapS e
  cases h
  exact ha M env F σ H _ x _ S h1 fun F1 H1 S1 s1 => q F1 H1 S1 s1
def mAndV (a b : Mx) : Mx := fun env => (mB a env).bind fun p => if p.2 = true then b p.1 else some (p.1, .bool false)
def mOrV (a b : Mx) : Mx := fun env => (mB a env).bind fun p => if p.2 = true then some (p.1, .bool true) else b p.1
def mNotV (a : Mx) : Mx := fun env => (mB a env).map fun p => (p.1, .bool (!p.2))
theorem r_andV {ta tb : TE} {a b : Mx} (ha : RE K ta a) (hb : RE K tb b) : RE K (tAndV ta tb) (mAndV a b) := fun M env F σ H env' c Q S e q => by
  obtain ⟨⟨e1, x⟩, h1, h⟩ := bindS e
  refine r_tB ha M env F σ H e1 x (fun c H1 => if c = true then tb σ H1 Q else Q (.bl false) H1) S h1 fun F1 H1 S1 s1 => ?_
  cases x with
  | true => exact hb M e1 F1 σ H1 env' c Q S1 h fun v F2 H2 S2 s2 => q v F2 H2 S2 (s1.trans s2)
  | false =>
    cases h
    exact q _ F1 H1 S1 s1 rfl
theorem r_orV {ta tb : TE} {a b : Mx} (ha : RE K ta a) (hb : RE K tb b) : RE K (tOrV ta tb) (mOrV a b) := fun M env F σ H env' c Q S e q => by
  obtain ⟨⟨e1, x⟩, h1, h⟩ := bindS e
  refine r_tB ha M env F σ H e1 x (fun c H1 => if c = true then Q (.bl true) H1 else tb σ H1 Q) S h1 fun F1 H1 S1 s1 => ?_
  cases x with
  | false => exact hb M e1 F1 σ H1 env' c Q S1 h fun v F2 H2 S2 s2 => q v F2 H2 S2 (s1.trans s2)
  | true =>
    cases h
    exact q _ F1 H1 S1 s1 rfl
theorem r_notV {ta : TE} {a : Mx} (ha : RE K ta a) : RE K (tNotV ta) (mNotV a) := fun M env F σ H env' c Q S e q => by
  obtain ⟨⟨e1, x⟩, h1, h⟩ := mapS e
  cases h
  exact r_tB ha M env F σ H _ x (fun c H1 => Q (.bl (!c)) H1) S h1 fun F1 H1 S1 s1 => q _ F1 H1 S1 s1 rfl
def mIf (c : Mb) (a b : Mx) : Mx := fun env => (c env).bind fun p => if p.2 = true then a p.1 else b p.1
theorem r_if {tc : TT} {ta tb : TE} {c : Mb} {a b : Mx} (hc : RT K tc c) (ha : RE K ta a) (hb : RE K tb b) : RE K (tIf tc ta tb) (mIf c a b) := fun M env F σ H env' d Q S e q => by
  obtain ⟨⟨e1, x⟩, h1, h⟩ := bindS e
  refine hc M env F σ H e1 x _ S h1 fun F1 H1 S1 s1 => ?_
  cases x with
  | true => exact ha M e1 F1 σ H1 env' d Q S1 h fun v F2 H2 S2 s2 => q v F2 H2 S2 (s1.trans s2)
  | false => exact hb M e1 F1 σ H1 env' d Q S1 h fun v F2 H2 S2 s2 => q v F2 H2 S2 (s1.trans s2)
theorem r_ifO {tc : TT} {ta tb : TE} {c : Mb} {a b : Mx} (hc : RT K tc c) (ha : RO K ta a) (hb : RO K tb b) : RO K (tIf tc ta tb) (mIf c a b) := fun M env F σ H env' d Q S e q => by
  obtain ⟨⟨e1, x⟩, h1, h⟩ := bindS e
  refine hc M env F σ H e1 x _ S h1 fun F1 H1 S1 s1 => ?_
  cases x with
  | true => exact ha M e1 F1 σ H1 env' d Q S1 h fun v F2 H2 S2 s2 => q v F2 H2 S2 (s1.trans s2)
  | false => exact hb M e1 F1 σ H1 env' d Q S1 h fun v F2 H2 S2 s2 => q v F2 H2 S2 (s1.trans s2)
/-- a < b < c -/
def mChain (f g : Dt → Dt → Option Dt) (a b c : Mx) : Mx := fun env => (a env).bind fun p => (b p.1).bind fun q => (f p.2 q.2).bind fun z => match z with
  | .bool true => (c q.1).bind fun r => (g q.2 r.2).map fun z => (r.1, z)
  | .bool false => some (q.1, .bool false)
  | _ => none
theorem r_chain {r r' : R2} {f g : Dt → Dt → Option Dt} {ta tb tc : TE} {a b c : Mx} (hr : R2k K r f) (hr' : R2k K r' g) (ha : RE K ta a) (hb : RE K tb b) (hc : RE K tc c) : RE K (tChain r r' ta tb tc) (mChain f g a b c) := fun M env F σ H env' d Q S e q => by
  obtain ⟨⟨e1, x⟩, h1, h⟩ := bindS e
  obtain ⟨⟨e2, y⟩, h2, h⟩ := bindS h
  obtain ⟨z, h3, h⟩ := bindS h
  refine ha M env F σ H e1 x _ S h1 fun v F1 H1 S1 s1 r1 => ?_
  refine hb M e1 F1 σ H1 e2 y _ S1 h2 fun u F2 H2 S2 s2 r2 => ?_
  refine hr M e2 F2 σ H2 v u x y z _ S2 (.inl (r1.mono s2 _ _)) (.inl r2) h3 fun w F3 H3 S3 s3 r3 => ?_
  split at h
  · refine ⟨true, r3, ?_⟩
    rw [if_pos rfl]
    obtain ⟨⟨e4, z4⟩, h4, h⟩ := bindS h
    obtain ⟨z5, h5, h⟩ := mapS h
    cases h
    refine hc M e2 F3 σ H3 e4 z4 _ S3 h4 fun w4 F4 H4 S4 s4 r4 => ?_
    exact hr' M e4 F4 σ H4 u w4 y z4 d Q S4 (.inl (r2.mono (s3.trans s4) _ _)) (.inl r4) h5 fun w5 F5 H5 S5 s5 r5 => q w5 F5 H5 S5 (s1.trans (s2.trans (s3.trans (s4.trans s5)))) r5
  · cases h
    refine ⟨false, r3, ?_⟩
    rw [if_neg (by decide)]
    exact q _ F3 H3 S3 (s1.trans (s2.trans s3)) rfl
  · cases h
/-! rows of things -/
abbrev Ms := Evs → Option (Evs × List Dt)
def mNil : Ms := fun env => some (env, [])
def mCons (a : Mx) (b : Ms) : Ms := fun env => (a env).bind fun p => (b p.1).map fun q => (q.1, p.2 :: q.2)
theorem r_nil : RA K tNil mNil := fun M env F σ H env' ds Q S e q => by
  cases e
  exact q [] F H S (Same.refl F) rfl
theorem r_cons {ta : TE} {tr : TA} {a : Mx} {b : Ms} (ha : RE K ta a) (hb : RA K tr b) : RA K (tCons ta tr) (mCons a b) := fun M env F σ H env' ds Q S e q => by
  obtain ⟨⟨e1, x⟩, h1, h⟩ := bindS e
  obtain ⟨⟨e2, y⟩, h2, h⟩ := mapS h
  cases h
  refine ha M env F σ H e1 x _ S h1 fun v F1 H1 S1 s1 r1 => ?_
  exact hb M e1 F1 σ H1 _ y _ S1 h2 fun vs F2 H2 S2 s2 r2 => q (v :: vs) F2 H2 S2 (s1.trans s2) ⟨v, vs, rfl, r1.mono s2 _ _, r2⟩
def mTup (a : Ms) : Mx := fun env => (a env).bind fun p => if p.2.length ≤ sizeLine then some (p.1, .tuple p.2) else none
def mLst (a : Ms) : Mx := fun env => (a env).bind fun p => if p.2.length ≤ sizeLine then some (p.1, .list p.2) else none
theorem r_tup {ta : TA} {a : Ms} (ha : RA K ta a) : RE K (tTup ta) (mTup a) := fun M env F σ H env' d Q S e q => by
  obtain ⟨⟨e1, ds⟩, h1, h⟩ := bindS e
  split at h
  · rename_i hl
    cases h
    refine ha M env F σ H _ ds _ S h1 fun vs F1 H1 S1 s1 r1 => ⟨by rw [← r1.len]; exact hl, fun p np => ?_⟩
    obtain ⟨S2, s2⟩ := S1.lay np (.tup vs)
    exact q _ _ _ S2 (s1.trans s2) ⟨p, vs, rfl, upd_same, r1.mono s2 _ _⟩
  · cases h
theorem Sn.newO {M : Fm} {env : Evs} {F : Hp} {σ : L2.St} {H : Hp} (S : Sn K M env F σ H) {p : Addr} (h : H p = none) {vs : List V} {ds : List Dt} (r : RpA K F ds vs) :
    Sn K M env F σ (upd H p (.lst vs)) ∧ Loose M env F σ p ∧ OwOk K F (upd H p (.lst vs) p) (.list ds) := ⟨S.raw h _, S.loose h, by rw [upd_same]; exact .inl ⟨vs, ds, rfl, rfl, r⟩⟩
theorem r_lst {ta : TA} {a : Ms} (ha : RA K ta a) : RO K (tLst ta) (mLst a) := fun M env F σ H env' d Q S e q => by
  obtain ⟨⟨e1, ds⟩, h1, h⟩ := bindS e
  split at h
  · rename_i hl
    cases h
    refine ha M env F σ H _ ds _ S h1 fun vs F1 H1 S1 s1 r1 => ⟨by rw [← r1.len]; exact hl, fun p np => ?_⟩
    obtain ⟨S2, L2, o2⟩ := S1.newO np r1
    exact q p F1 _ S2 s1 L2 o2
  · cases h
/-! built-in calls -/
def mC1 (f : Dt → Option Dt) (a : Mx) : Mx := mUn f a
theorem r_c1 {r : List V → Hp → VK → Prop} {f : Dt → Option Dt} {ta : TE} {a : Mx} (hr : RC1 K r f) (ha : RQ K ta a) : RE K (tCB r (tCons ta tNil)) (mC1 f a) := fun M env F σ H env' d Q S e q => by
  obtain ⟨⟨e1, x⟩, h1, h⟩ := bindS e
  obtain ⟨z, h3, h⟩ := mapS h
  cases h
  refine ha M env F σ H _ x _ S h1 fun v F1 H1 S1 s1 r1 => ?_
  exact hr M _ F1 σ H1 v x d Q S1 r1 h3 fun v' F3 H3 S3 s3 r3 => q v' F3 H3 S3 (s1.trans s3) r3
theorem r_c1o {r : List V → Hp → VK → Prop} {f : Dt → Option Dt} {ta : TE} {a : Mx} (hr : RC1o K r f) (ha : RQ K ta a) : RO K (tCB r (tCons ta tNil)) (mC1 f a) := fun M env F σ H env' d Q S e q => by
  obtain ⟨⟨e1, x⟩, h1, h⟩ := bindS e
  obtain ⟨z, h3, h⟩ := mapS h
  cases h
  refine ha M env F σ H _ x _ S h1 fun v F1 H1 S1 s1 r1 => ?_
  exact hr M _ F1 σ H1 v x d Q S1 r1 h3 fun v' F3 H3 S3 s3 r3 => q v' F3 H3 S3 (s1.trans s3) r3
def mCs (f : List Dt → Option Dt) (a : Ms) : Mx := fun env => (a env).bind fun p => (f p.2).map fun z => (p.1, z)
theorem r_cs {r : List V → Hp → VK → Prop} {f : List Dt → Option Dt} {ta : TA} {a : Ms} (hr : RCk K r f) (ha : RA K ta a) : RE K (tCB r ta) (mCs f a) := fun M env F σ H env' d Q S e q => by
  obtain ⟨⟨e1, x⟩, h1, h⟩ := bindS e
  obtain ⟨z, h3, h⟩ := mapS h
  cases h
  refine ha M env F σ H _ x _ S h1 fun v F1 H1 S1 s1 r1 => ?_
  exact hr M _ F1 σ H1 v x d Q S1 r1 h3 fun v' F3 H3 S3 s3 r3 => q v' F3 H3 S3 (s1.trans s3) r3
def fLen (d : Dt) : Option Dt := (items d).map fun ds => .int ds.length
theorem c_len : RC1 K (rLenS K) fLen := fun M env F σ H x d z Q S hx hf q => by
  obtain ⟨ds, h1, h2⟩ := mapS hf
  obtain ⟨a, xs, rfl, h3, h4⟩ := items_ok S.sub hx h1
  refine ⟨a, xs, rfl, h3, q _ F H S (Same.refl F) ?_⟩
  subst h2
  rw [h4.len]
  rfl
def fAbs : Dt → Option Dt
  | .int i => some (.int (if i < 0 then -i else i))
  | _ => none
theorem c_abs : RC1 K (fun xs H Q => ∃ i, xs = [.int i] ∧ Q (.int (if i < 0 then -i else i)) H) fAbs := fun M env F σ H x d z Q S hx hf q => by
  cases d <;> first | (cases hf; done) | skip
  cases hf
  rw [hx.int]
  exact ⟨_, rfl, q _ F H S (Same.refl F) rfl⟩
def fInt : Dt → Option Dt
  | .int i => some (.int i)
  | .bool b => some (.int (if b then 1 else 0))
  | _ => none
theorem c_int : RC1 K (fun xs H Q => (∃ i, xs = [.int i] ∧ Q (.int i) H) ∨ ∃ k, xs = [.bl k] ∧ Q (.int (if k then 1 else 0)) H) fInt := fun M env F σ H x d z Q S hx hf q => by
  cases d <;> first | (cases hf; done) | skip
  · cases hf
    rw [hx.bl]
    exact .inr ⟨_, rfl, q _ F H S (Same.refl F) rfl⟩
  · cases hf
    rw [hx.int]
    exact .inl ⟨_, rfl, q _ F H S (Same.refl F) rfl⟩
def fMin2 : List Dt → Option Dt
  | [.int i, .int j] => some (.int (if j < i then j else i))
  | _ => none
def fMax2 : List Dt → Option Dt
  | [.int i, .int j] => some (.int (if j > i then j else i))
  | _ => none
theorem c_min2 : RCk K (fun xs H Q => ∃ i j, xs = [.int i, .int j] ∧ Q (.int (if j < i then j else i)) H) fMin2 := fun M env F σ H xs ds z Q S hx hf q => by
  unfold fMin2 at hf
  split at hf
  · cases hf
    rename_i i j
    have e := RpA.ints (ns := [i, j]) hx
    subst e
    exact ⟨_, _, rfl, q _ F H S (Same.refl F) rfl⟩
  · cases hf
theorem c_max2 : RCk K (fun xs H Q => ∃ i j, xs = [.int i, .int j] ∧ Q (.int (if j > i then j else i)) H) fMax2 := fun M env F σ H xs ds z Q S hx hf q => by
  unfold fMax2 at hf
  split at hf
  · cases hf
    rename_i i j
    have e := RpA.ints (ns := [i, j]) hx
    subst e
    exact ⟨_, _, rfl, q _ F H S (Same.refl F) rfl⟩
  · cases hf
/-- rows of ints, of truths -/
def asInts : List Dt → Option (List Int)
  | [] => some []
  | .int i :: r => (asInts r).map fun ns => i :: ns
  | _ => none
def asBools : List Dt → Option (List Bool)
  | [] => some []
  | .bool i :: r => (asBools r).map fun ns => i :: ns
  | _ => none
theorem asInts_of : ∀ {ds : List Dt} {ns : List Int}, asInts ds = some ns → ds = ns.map PyData.int
  | [], _, h => by
    cases h
    rfl
  | d :: r, _, h => by
    cases d <;> first | (cases h; done) | skip
    obtain ⟨ns, h1, h2⟩ := mapS h
    rw [asInts_of h1, ← h2]
    rfl
theorem asInts_map : ∀ ns : List Int, asInts (ns.map PyData.int) = some ns
  | [] => rfl
  | n :: ns => by
    show (asInts (ns.map PyData.int)).map _ = _
    rw [asInts_map ns]
    rfl
theorem asBools_of : ∀ {ds : List Dt} {ns : List Bool}, asBools ds = some ns → ds = ns.map PyData.bool
  | [], _, h => by
    cases h
    rfl
  | d :: r, _, h => by
    cases d <;> first | (cases h; done) | skip
    obtain ⟨ns, h1, h2⟩ := mapS h
    rw [asBools_of h1, ← h2]
    rfl
theorem asBools_map : ∀ ns : List Bool, asBools (ns.map PyData.bool) = some ns
  | [] => rfl
  | n :: ns => by
    show (asBools (ns.map PyData.bool)).map _ = _
    rw [asBools_map ns]
    rfl
def fSum : Dt → Option Dt
  | .list ds => (asInts ds).map fun ns => .int ns.sum
  | _ => none
theorem c_sum : RC1 K (rSum K) fSum := fun M env F σ H x d z Q S hx hf q => by
  cases d <;> first | (cases hf; done) | skip
  obtain ⟨ns, h1, h2⟩ := mapS hf
  obtain ⟨a, xs, rfl, h3, h4⟩ := hx.lst S.sub
  rw [asInts_of h1] at h4
  have e := h4.ints
  subst e h2
  exact ⟨a, ns, rfl, SqL.of h3, q _ F H S (Same.refl F) rfl⟩
def fAll : Dt → Option Dt
  | .list ds => (asBools ds).map fun ns => .bool (ns.all id)
  | _ => none
def fAny : Dt → Option Dt
  | .list ds => (asBools ds).map fun ns => .bool (ns.any id)
  | _ => none
theorem c_all : RC1 K (rAll K) fAll := fun M env F σ H x d z Q S hx hf q => by
  cases d <;> first | (cases hf; done) | skip
  obtain ⟨ns, h1, h2⟩ := mapS hf
  obtain ⟨a, xs, rfl, h3, h4⟩ := hx.lst S.sub
  rw [asBools_of h1] at h4
  have e := h4.bools
  subst e h2
  exact ⟨a, ns, rfl, SqL.of h3, q _ F H S (Same.refl F) rfl⟩
theorem c_any : RC1 K (rAny K) fAny := fun M env F σ H x d z Q S hx hf q => by
  cases d <;> first | (cases hf; done) | skip
  obtain ⟨ns, h1, h2⟩ := mapS hf
  obtain ⟨a, xs, rfl, h3, h4⟩ := hx.lst S.sub
  rw [asBools_of h1] at h4
  have e := h4.bools
  subst e h2
  exact ⟨a, ns, rfl, SqL.of h3, q _ F H S (Same.refl F) rfl⟩
/-- ints in their order -/
def insI (x : Int) : List Int → List Int
  | [] => [x]
  | y :: r => if x ≤ y then x :: y :: r else y :: insI x r
def srtI : List Int → List Int
  | [] => []
  | x :: r => insI x (srtI r)
theorem insI_perm (x : Int) : ∀ l, (insI x l).Perm (x :: l)
  | [] => .refl _
  | y :: r => by
    unfold insI
    split
    · exact .refl _
    · exact ((insI_perm x r).cons y).trans (.swap x y r)
theorem srtI_perm : ∀ l, (srtI l).Perm l
  | [] => .refl _
  | x :: r => (insI_perm x _).trans ((srtI_perm r).cons x)
theorem insI_up (x : Int) : ∀ {l : List Int}, l.Pairwise (· ≤ ·) → (insI x l).Pairwise (· ≤ ·)
  | [], _ => by simp [insI]
  | y :: r, h => by
    rw [List.pairwise_cons] at h
    unfold insI
    split
    · rename_i c
      rw [List.pairwise_cons, List.pairwise_cons]
      refine ⟨fun z hz => ?_, h.1, h.2⟩
      rcases List.mem_cons.mp hz with rfl | hz
      · exact c
      · exact Int.le_trans c (h.1 z hz)
    · rename_i c
      rw [List.pairwise_cons]
      refine ⟨fun z hz => ?_, insI_up x h.2⟩
      rcases List.mem_cons.mp ((insI_perm x r).mem_iff.mp hz) with rfl | hz
      · omega
      · exact h.1 z hz
theorem srtI_up : ∀ l, (srtI l).Pairwise (· ≤ ·)
  | [] => .nil
  | x :: r => insI_up x (srtI_up r)
theorem srtI_one {l m : List Int} (h : m.Perm l) (u : m.Pairwise (· ≤ ·)) : m = srtI l :=
  (h.trans (srtI_perm l).symm).eq_of_pairwise (fun x y _ _ h1 h2 => Int.le_antisymm h1 h2) u (srtI_up l)
def fSorted : Dt → Option Dt
  | .list ds => (asInts ds).map fun ns => .list ((srtI ns).map PyData.int)
  | _ => none
theorem c_sorted : RC1o K (rSortedI K) fSorted := fun M env F σ H x d z Q S hx hf q => by
  cases d <;> first | (cases hf; done) | skip
  obtain ⟨ns, h1, h2⟩ := mapS hf
  obtain ⟨a, xs, rfl, h3, h4⟩ := hx.lst S.sub
  rw [asInts_of h1] at h4
  have e := h4.ints
  subst e h2
  refine ⟨a, ns, rfl, SqL.of h3, fun ns' p pm up np => ?_⟩
  rw [srtI_one pm up]
  obtain ⟨S2, L2, o2⟩ := S.newO np (RpA.of_ints (srtI ns))
  exact q p F _ S2 (Same.refl F) L2 o2
def fTupOf : Dt → Option Dt
  | .list ds => some (.tuple ds)
  | .tuple ds => some (.tuple ds)
  | _ => none
theorem c_tuple : RC1 K (rTupOf K) fTupOf := fun M env F σ H x d z Q S hx hf q => by
  cases d <;> first | (cases hf; done) | skip
  · cases hf
    obtain ⟨a, xs, rfl, h3, h4⟩ := hx.lst S.sub
    refine ⟨a, xs, rfl, .inl ⟨SqL.of h3, fun p np => ?_⟩⟩
    obtain ⟨S2, s2⟩ := S.lay np (.tup xs)
    exact q _ _ _ S2 s2 ⟨p, xs, rfl, upd_same, h4.mono s2 _ _⟩
  · cases hf
    rcases hx with hx | ⟨a, rfl, h⟩
    · obtain ⟨a, xs, rfl, h3, h4⟩ := hx
      exact ⟨a, xs, rfl, .inr ⟨SqT.of (S.sub _ _ h3), q _ F H S (Same.refl F) ⟨a, xs, rfl, h3, h4⟩⟩⟩
    · rcases h with ⟨xs, _, h2, h, h3⟩ | ⟨_, _, _, h, _⟩ | ⟨_, _, _, h, _⟩ <;> cases h
def fLstOf (d : Dt) : Option Dt := (items d).map fun ds => .list ds
theorem c_list : RC1o K (rLstOf K) fLstOf := fun M env F σ H x d z Q S hx hf q => by
  obtain ⟨ds, h1, h2⟩ := mapS hf
  obtain ⟨a, xs, rfl, h3, h4⟩ := items_ok S.sub hx h1
  subst h2
  refine ⟨a, xs, rfl, h3, fun p np => ?_⟩
  obtain ⟨S2, L2, o2⟩ := S.newO np h4
  exact q p F _ S2 (Same.refl F) L2 o2
/-! isinstance, a built-in class -/
def tyD : Dt → String
  | .none => "NoneType"
  | .bool _ => "bool"
  | .int _ => "int"
  | .str _ => "str"
  | .list _ => "list"
  | .tuple _ => "tuple"
  | .dict _ => "dict"
def isTag : Dt → Bool
  | .dict ((.bool true, .none) :: _) => true
  | .dict ((.bool false, .str _) :: _) => true
  | .dict [(.none, .list _)] => true
  | _ => false
theorem tyD_ok {F H : Hp} {d : Dt} {v : V} (s : Same F H) (nt : isTag d = false) (h : Now K F H d v) : TyX K H v (.type (tyD d)) := by
  cases d with
  | none =>
    rw [h.non]
    exact .base .non
  | bool b =>
    rw [h.bl]
    exact .base (.bl b)
  | int b =>
    rw [h.int]
    exact .base (.int b)
  | str b =>
    rw [h.str]
    exact .base (.str b)
  | list b =>
    obtain ⟨a, xs, rfl, h3, h4⟩ := h.lst s
    exact .base (.lst h3)
  | tuple b =>
    obtain ⟨a, xs, rfl, h3, h4⟩ := h.tup s
    exact .base (.tup h3)
  | dict b =>
    rcases h with h | ⟨a, rfl, h⟩
    · obtain ⟨a, rfl, ⟨vs, h1, h2⟩ | ⟨vs, h1, h2⟩ | ⟨ns, rfl, _⟩ | ⟨_, vs, _, h2⟩ | ⟨_, _, _, _, _, _, _, h2⟩⟩ := h
      · exact .base (.dK (s _ _ h1))
      · exact .base (.dT (s _ _ h1))
      · cases nt
      · cases b with
        | nil => exact h2.elim
        | cons p r =>
          obtain ⟨k, d⟩ := p
          obtain ⟨rfl, rfl, _⟩ := h2
          cases nt
      · cases b with
        | nil => exact h2.elim
        | cons p r =>
          obtain ⟨k, d⟩ := p
          obtain ⟨rfl, rfl, _⟩ := h2
          cases nt
    · rcases h with ⟨xs, _, h2, h, h3⟩ | ⟨_, _, h2, h, _⟩ | ⟨_, _, h2, h, _⟩
      · cases h
      · exact .base (.dK h2)
      · exact .base (.dT h2)
def fIsi (c : String) (d : Dt) : Option Dt := if isTag d then none else (kitB (tyD d) c).map fun b => .bool b
def mIsi (c : String) (a : Mx) : Mx := mUn (fIsi c) a
theorem r_isi {c : String} {ta : TE} {a : Mx} (ha : RQ K ta a) : RE K (tCB (rIsi K) (tCons ta (tCons (tC (.ty c)) tNil))) (mIsi c a) := fun M env F σ H env' d Q S e q => by
  obtain ⟨⟨e1, x⟩, h1, h⟩ := bindS e
  obtain ⟨z, h3, h⟩ := mapS h
  cases h
  unfold fIsi at h3
  split at h3
  · cases h3
  rename_i nt
  obtain ⟨b, h4, h5⟩ := mapS h3
  subst h5
  refine ha M env F σ H _ x _ S h1 fun v F1 H1 S1 s1 r1 => ?_
  exact ⟨v, _, _, _, b, rfl, .ty c, tyD_ok S1.sub (by simpa using nt) r1, kit_ty h4, q _ F1 H1 S1 s1 rfl⟩
/-! slices, rows joined -/
abbrev Mo := Evs → Option (Evs × Option Int)
def RTO (K : PySem.W.Frag) (t : TO) (m : Mo) : Prop := ∀ (M : Fm) (env : Evs) (F : Hp) (σ : L2.St) (H : Hp) (env' : Evs) (o : Option Int) (Q : Option Int → Hp → Prop), Sn K M env F σ H → m env = some (env', o) →
  (∀ F' H', Sn K M env' F' σ H' → Same F F' → Q o H') → t σ H Q
def mNoPart : Mo := fun env => some (env, none)
def toO : Evs × Dt → Option (Evs × Option Int)
  | (e, .int b) => some (e, some b)
  | _ => none
def mPart (a : Mx) : Mo := fun env => (a env).bind toO
theorem r_noPart : RTO K tNoPart mNoPart := fun M env F σ H env' o Q S e q => by
  cases e
  exact q F H S (Same.refl F)
theorem r_part {ta : TE} {a : Mx} (ha : RE K ta a) : RTO K (tPart ta) (mPart a) := fun M env F σ H env' b Q S e q => by
  obtain ⟨⟨e1, x⟩, h1, h⟩ := bindS e
  refine ha M env F σ H e1 x _ S h1 fun v F1 H1 S1 s1 r1 => ?_
  cases x <;> first | (cases h; done) | skip
  cases h
  exact ⟨_, r1, q F1 H1 S1 s1⟩
def cutD (xs : List Dt) (lo hi : Option Int) : List Dt := (xs.drop (HT.sIx xs.length 0 lo)).take (HT.sIx xs.length xs.length hi - HT.sIx xs.length 0 lo)
theorem RpA.cut {F : Hp} {ds : List Dt} {xs : List V} (h : RpA K F ds xs) (lo hi : Option Int) : RpA K F (cutD ds lo hi) (cutV xs lo hi) := by
  unfold cutD cutV
  rw [h.len]
  exact (h.drop _).take _
def mSl (f : Dt → Option Int → Option Int → Option Dt) (a : Mx) (lo hi : Mo) : Mx := fun env => (a env).bind fun p => (lo p.1).bind fun q => (hi q.1).bind fun r => (f p.2 q.2 r.2).map fun z => (r.1, z)
def fSlL : Dt → Option Int → Option Int → Option Dt
  | .list ds, lo, hi => some (.list (cutD ds lo hi))
  | _, _, _ => none
def fSlT : Dt → Option Int → Option Int → Option Dt
  | .tuple ds, lo, hi => some (.tuple (cutD ds lo hi))
  | _, _, _ => none
theorem r_slL {ta : TE} {tl th : TO} {a : Mx} {lo hi : Mo} (ha : RE K ta a) (hl : RTO K tl lo) (hh : RTO K th hi) : RO K (tSl (rSlL K) ta tl th) (mSl fSlL a lo hi) := fun M env F σ H env' d Q S e q => by
  obtain ⟨⟨e1, x⟩, h1, h⟩ := bindS e
  obtain ⟨⟨e2, y⟩, h2, h⟩ := bindS h
  obtain ⟨⟨e3, w⟩, h3, h⟩ := bindS h
  obtain ⟨z, h4, h⟩ := mapS h
  cases h
  refine ha M env F σ H e1 x _ S h1 fun v F1 H1 S1 s1 r1 => hl M e1 F1 σ H1 e2 y _ S1 h2 fun F2 H2 S2 s2 => hh M e2 F2 σ H2 e3 w _ S2 h3 fun F3 H3 S3 s3 => ?_
  cases x <;> first | (cases h4; done) | skip
  cases h4
  obtain ⟨a, xs, rfl, h5, h6⟩ := r1.mono (s2.trans s3) _ _
  refine ⟨a, xs, rfl, SqL.of (S3.sub _ _ h5), fun p np => ?_⟩
  obtain ⟨S4, L4, o4⟩ := S3.newO np (h6.cut y w)
  exact q p F3 _ S4 (s1.trans (s2.trans s3)) L4 o4
theorem r_slLP {i : Nat} {tl th : TO} {lo hi : Mo} (hl : RTO K tl lo) (hh : RTO K th hi) : RO K (tSl (rSlL K) (tVar i) tl th) (fun env => (mPeek i env).bind fun _ => (lo env).bind fun q => (hi q.1).bind fun r => (mPeek i r.1).bind fun p => (fSlL p.2 q.2 r.2).map fun z => (r.1, z)) := fun M env F σ H env' d Q S e q => by
  obtain ⟨⟨e0, x0⟩, h0, h⟩ := bindS e
  obtain ⟨⟨e2, y⟩, h2, h⟩ := bindS h
  obtain ⟨⟨e3, w⟩, h3, h⟩ := bindS h
  obtain ⟨⟨e4, x⟩, h1, h⟩ := bindS h
  obtain ⟨z, h4, h⟩ := mapS h
  cases h
  obtain ⟨s0, w1, w2⟩ := bindS h0
  obtain ⟨d0, w3, w4⟩ := mapS w2
  obtain ⟨a, z1, z2, z3⟩ := S.owS i s0 d0 w1 w3
  refine ⟨_, z1, hl M env F σ H e2 y _ S h2 fun F2 H2 S2 s2 => hh M e2 F2 σ H2 e3 w _ S2 h3 fun F3 H3 S3 s3 => ?_⟩
  obtain ⟨s1, w5, w6⟩ := bindS h1
  obtain ⟨d1, w7, w8⟩ := mapS w6
  cases w8
  obtain ⟨a', y1, y2, y3⟩ := S3.owS i s1 _ w5 w7
  rw [z1] at y1
  cases y1
  cases x <;> first | (cases h4; done) | skip
  cases h4
  obtain ⟨a', xs, e5, h5, h6⟩ := Now.lst S3.sub (.inr ⟨a, rfl, y3⟩)
  cases e5
  refine ⟨a, xs, rfl, SqL.of h5, fun p np => ?_⟩
  obtain ⟨S4, L4, o4⟩ := S3.newO np (h6.cut y w)
  exact q p F3 _ S4 (s2.trans s3) L4 o4
theorem r_slT {ta : TE} {tl th : TO} {a : Mx} {lo hi : Mo} (ha : RE K ta a) (hl : RTO K tl lo) (hh : RTO K th hi) : RE K (tSl (rSlA K) ta tl th) (mSl fSlT a lo hi) := fun M env F σ H env' d Q S e q => by
  obtain ⟨⟨e1, x⟩, h1, h⟩ := bindS e
  obtain ⟨⟨e2, y⟩, h2, h⟩ := bindS h
  obtain ⟨⟨e3, w⟩, h3, h⟩ := bindS h
  obtain ⟨z, h4, h⟩ := mapS h
  cases h
  refine ha M env F σ H e1 x _ S h1 fun v F1 H1 S1 s1 r1 => hl M e1 F1 σ H1 e2 y _ S1 h2 fun F2 H2 S2 s2 => hh M e2 F2 σ H2 e3 w _ S2 h3 fun F3 H3 S3 s3 => ?_
  obtain ⟨ds, rfl⟩ : ∃ ds, x = .tuple ds := by cases x <;> first | exact ⟨_, rfl⟩ | cases h4
  cases h4
  obtain ⟨a, xs, rfl, h5, h6⟩ := r1.mono (s2.trans s3) _ _
  refine ⟨a, xs, rfl, SqT.of (S3.sub _ _ h5), fun c => ?_, fun _ p np => ?_⟩
  · have e : cutD ds y w = ds := by
      have l := h6.len
      unfold cutD
      rw [l, c.1, c.2, List.drop_zero, Nat.sub_zero, ← l, List.take_length]
    refine q _ F3 H3 S3 (s1.trans (s2.trans s3)) ?_
    rw [e]
    exact ⟨a, xs, rfl, h5, h6⟩
  · obtain ⟨S4, s4⟩ := S3.lay np (.tup (cutV xs y w))
    exact q _ _ _ S4 (s1.trans (s2.trans (s3.trans s4))) ⟨p, _, rfl, upd_same, (h6.cut y w).mono s4 _ _⟩
def fCatT : Dt → Dt → Option Dt
  | .tuple a, .tuple b => if a.length + b.length ≤ sizeLine then some (.tuple (a ++ b)) else none
  | _, _ => none
theorem o_catT : R2k K (rCatA K) fCatT := fun M env F σ H x y d e z Q S hx hy hf q => by
  unfold fCatT at hf
  split at hf
  · rename_i ds es
    split at hf
    · rename_i hl
      cases hf
      rcases hx with hx | ⟨a, rfl, h⟩
      · rcases hy with hy | ⟨a, rfl, h⟩
        · obtain ⟨a, xs, rfl, h1, h2⟩ := hx
          obtain ⟨b, ys, rfl, h3, h4⟩ := hy
          refine ⟨a, b, xs, ys, rfl, rfl, SqT.of (S.sub _ _ h1), SqT.of (S.sub _ _ h3), by rw [← h2.len, ← h4.len]; exact hl, fun c => ?_, fun _ c => ?_, fun _ _ p np => ?_⟩
          · subst c
            have e := h2.len
            have e' : ds = [] := List.length_eq_zero_iff.mp e
            subst e'
            exact q _ F H S (Same.refl F) ⟨b, ys, rfl, h3, h4⟩
          · subst c
            have e := h4.len
            have e' : es = [] := List.length_eq_zero_iff.mp e
            subst e'
            rw [List.append_nil] at q
            exact q _ F H S (Same.refl F) ⟨a, xs, rfl, h1, h2⟩
          · obtain ⟨S4, s4⟩ := S.lay np (.tup (xs ++ ys))
            exact q _ _ _ S4 s4 ⟨p, _, rfl, upd_same, (h2.append h4).mono s4 _ _⟩
        · rcases h with ⟨xs, _, h2, h, h3⟩ | ⟨_, _, _, h, _⟩ | ⟨_, _, _, h, _⟩ <;> cases h
      · rcases h with ⟨xs, _, h2, h, h3⟩ | ⟨_, _, _, h, _⟩ | ⟨_, _, _, h, _⟩ <;> cases h
    · cases hf
  · cases hf
def fCatL : Dt → Dt → Option Dt
  | .list a, .list b => if a.length + b.length ≤ sizeLine then some (.list (a ++ b)) else none
  | _, _ => none
theorem o_catL : R2o K rCat fCatL := fun M env F σ H x y d e z Q S hx hy hf q => by
  unfold fCatL at hf
  split at hf
  · split at hf
    · rename_i hl
      cases hf
      obtain ⟨a, xs, rfl, h1, h2⟩ := hx.lst S.sub
      obtain ⟨b, ys, rfl, h3, h4⟩ := hy.lst S.sub
      refine ⟨a, b, xs, ys, rfl, rfl, h1, h3, by rw [← h2.len, ← h4.len]; exact hl, fun p np => ?_⟩
      obtain ⟨S4, L4, o4⟩ := S.newO np (h2.append h4)
      exact q p F _ S4 (Same.refl F) L4 o4
    · cases hf
  · cases hf
/-- list * int -/
def fRep : Dt → Dt → Option Dt
  | .list ds, .int k => if -(2 ^ 63) ≤ k ∧ k < 2 ^ 63 ∧ ds.length * k.toNat ≤ sizeLine then some (.list (List.replicate k.toNat ds).flatten) else none
  | _, _ => none
theorem RpA.rep {F : Hp} {ds : List Dt} {xs : List V} (h : RpA K F ds xs) : ∀ n : Nat, RpA K F (List.replicate n ds).flatten (List.replicate n xs).flatten
  | 0 => rfl
  | n + 1 => by
    rw [List.replicate_succ, List.replicate_succ, List.flatten_cons, List.flatten_cons]
    exact h.append (RpA.rep h n)
theorem o_rep : R2o K rRep fRep := fun M env F σ H x y d e z Q S hx hy hf q => by
  unfold fRep at hf
  split at hf
  · rename_i ds k
    split at hf
    · rename_i c
      cases hf
      obtain ⟨a, xs, rfl, h1, h2⟩ := hx.lst S.sub
      refine ⟨a, k, xs, rfl, hy.int, h1, c.1, c.2.1, by rw [← h2.len]; exact c.2.2, fun p np => ?_⟩
      obtain ⟨S4, L4, o4⟩ := S.newO np (h2.rep k.toNat)
      exact q p F _ S4 (Same.refl F) L4 o4
    · cases hf
  · cases hf
/-- an owned name ahead, the value new -/
theorem r_opPO {r : R2} {f : Dt → Dt → Option Dt} {tb : TE} {i : Nat} {b : Mx} (hr : R2o K r f) (hb : RQ K tb b) : RO K (tOp r (tVar i) tb) (mOpP f i b) := fun M env F σ H env' d Q S e q => by
  obtain ⟨⟨e0, x0⟩, h0, h⟩ := bindS e
  obtain ⟨⟨e2, y⟩, h2, h⟩ := bindS h
  obtain ⟨⟨e3, x⟩, h3, h⟩ := bindS h
  obtain ⟨z, h4, h⟩ := mapS h
  cases h
  obtain ⟨s0, w1, w2⟩ := bindS h0
  obtain ⟨d0, w3, w4⟩ := mapS w2
  obtain ⟨a, z1, z2, z3⟩ := S.owS i s0 d0 w1 w3
  refine ⟨_, z1, hb M env F σ H e2 y _ S h2 fun u F2 H2 S2 s2 r2 => ?_⟩
  obtain ⟨s1, w5, w6⟩ := bindS h3
  obtain ⟨d1, w7, w8⟩ := mapS w6
  cases w8
  obtain ⟨a', y1, y2, y3⟩ := S2.owS i s1 _ w5 w7
  rw [z1] at y1
  cases y1
  exact hr M e2 F2 σ H2 _ u x y d Q S2 (.inr ⟨a, rfl, y3⟩) r2 h4 fun p' F3 H3 S3 s3 L3 o3 => q p' F3 H3 S3 (s2.trans s3) L3 o3
end

/-! ### statements -/
inductive Fl where
  | nx (e : Evs) | rt (e : Evs) (r : Sl) | bk (e : Evs) | ct (e : Evs)
abbrev Mst := Evs → Option Fl
def EndOk (K : PySem.W.Frag) (M : Fm) (F : Hp) : Fl → Ends → Prop
  | .nx e, D => ∀ σ F' H, Sn K M e F' σ H → Same F F' → D.nx σ H
  | .bk e, D => ∀ σ F' H, Sn K M e F' σ H → Same F F' → D.bk σ H
  | .ct e, D => ∀ σ F' H, Sn K M e F' σ H → Same F F' → D.ct σ H
  | .rt e (.fz d), D => ∀ v σ F' H, Sn K M e F' σ H → Same F F' → Rp K F' d v → D.rt v H
  | .rt e (.ow d), D => ∀ p σ F' H, Sn K M e F' σ H → Same F F' → Loose M e F' σ p → OwOk K F' (H p) d → D.rt (.ref p) H
  | .rt _ _, _ => False
theorem EndOk.mono {K : PySem.W.Frag} {M : Fm} {F G : Hp} {fl : Fl} {D : Ends} (s : Same F G) (h : EndOk K M F fl D) : EndOk K M G fl D := by
  cases fl with
  | nx e => exact fun σ F' H S t => h σ F' H S (s.trans t)
  | bk e => exact fun σ F' H S t => h σ F' H S (s.trans t)
  | ct e => exact fun σ F' H S t => h σ F' H S (s.trans t)
  | rt e r =>
    cases r with
    | fz d => exact fun v σ F' H S t => h v σ F' H S (s.trans t)
    | ow d => exact fun v σ F' H S t => h v σ F' H S (s.trans t)
    | un => exact h
    | bo d => exact h
def RS (K : PySem.W.Frag) (t : TS) (m : Mst) : Prop := ∀ (M : Fm) (env : Evs) (F : Hp) (σ : L2.St) (H : Hp) (fl : Fl) (D : Ends), Sn K M env F σ H → m env = some fl → EndOk K M F fl D → t D σ H
section
variable {K : PySem.W.Frag}
def mNext : Mst := fun env => some (.nx env)
theorem r_next : RS K tNext mNext := fun M env F σ H fl D S e q => by
  cases e
  exact q σ F H S (Same.refl F)
theorem r_break : RS K tBreak (fun env => some (.bk env)) := fun M env F σ H fl D S e q => by
  cases e
  exact q σ F H S (Same.refl F)
theorem r_cont : RS K tCont (fun env => some (.ct env)) := fun M env F σ H fl D S e q => by
  cases e
  exact q σ F H S (Same.refl F)
def mNever : Mst := fun _ => none
theorem r_never : RS K tNever mNever := fun M env F σ H fl D S e q => by cases e
def mSeq (a b : Mst) : Mst := fun env => (a env).bind fun fl => match fl with
  | .nx e => b e
  | f => some f
theorem r_seq {t u : TS} {a b : Mst} (ha : RS K t a) (hb : RS K u b) : RS K (tSeq t u) (mSeq a b) := fun M env F σ H fl D S e q => by
  obtain ⟨f1, h1, h2⟩ := bindS e
  refine ha M env F σ H f1 { D with nx := u D } S h1 ?_
  cases f1 with
  | nx e1 => exact fun σ1 F1 H1 S1 s1 => hb M e1 F1 σ1 H1 fl D S1 h2 (q.mono s1)
  | bk e1 =>
    cases h2
    exact q
  | ct e1 =>
    cases h2
    exact q
  | rt e1 r =>
    cases h2
    cases r <;> exact q
def mDrop (a : Mx) : Mst := fun env => (a env).map fun p => .nx p.1
theorem r_drop {ta : TE} {a : Mx} (ha : RE K ta a) : RS K (tDrop ta) (mDrop a) := fun M env F σ H fl D S e q => by
  obtain ⟨⟨e1, x⟩, h1, h⟩ := mapS e
  cases h
  exact ha M env F σ H e1 x _ S h1 fun v F1 H1 S1 s1 r1 => q σ F1 H1 S1 s1
def mRet (a : Mx) : Mst := fun env => (a env).map fun p => .rt p.1 (.fz p.2)
def mRetO (a : Mx) : Mst := fun env => (a env).map fun p => .rt p.1 (.ow p.2)
theorem r_ret {ta : TE} {a : Mx} (ha : RE K ta a) : RS K (tRet ta) (mRet a) := fun M env F σ H fl D S e q => by
  obtain ⟨⟨e1, x⟩, h1, h⟩ := mapS e
  cases h
  exact ha M env F σ H e1 x _ S h1 fun v F1 H1 S1 s1 r1 => q v σ F1 H1 S1 s1 r1
theorem r_retO {ta : TE} {a : Mx} (ha : RO K ta a) : RS K (tRet ta) (mRetO a) := fun M env F σ H fl D S e q => by
  obtain ⟨⟨e1, x⟩, h1, h⟩ := mapS e
  cases h
  exact ha M env F σ H e1 x _ S h1 fun v F1 H1 S1 s1 r1 => q v σ F1 H1 S1 s1 r1
def mRetN : Mst := fun env => some (.rt env (.fz .none))
theorem r_retN : RS K tRetN mRetN := fun M env F σ H fl D S e q => by
  cases e
  exact q _ σ F H S (Same.refl F) rfl
def mIfS (c : Mb) (a b : Mst) : Mst := fun env => (c env).bind fun p => if p.2 = true then a p.1 else b p.1
theorem r_ifS {tc : TT} {t u : TS} {c : Mb} {a b : Mst} (hc : RT K tc c) (ha : RS K t a) (hb : RS K u b) : RS K (tIfS tc t u) (mIfS c a b) := fun M env F σ H fl D S e q => by
  obtain ⟨⟨e1, x⟩, h1, h⟩ := bindS e
  refine hc M env F σ H e1 x _ S h1 fun F1 H1 S1 s1 => ?_
  cases x with
  | true => exact ha M e1 F1 σ H1 fl D S1 h (q.mono s1)
  | false => exact hb M e1 F1 σ H1 fl D S1 h (q.mono s1)
/-! targets -/
def putF (i : Nat) (d : Dt) (env : Evs) : Option Evs := match env[i]? with
  | some (.bo _) => none
  | some _ => some (env.set i (.fz d))
  | none => none
def putO (i : Nat) (d : Dt) (env : Evs) : Option Evs := match env[i]? with
  | some (.bo _) => none
  | some _ => some (env.set i (.ow d))
  | none => none
theorem putF_of {i : Nat} {d : Dt} {env env' : Evs} (h : putF i d env = some env') : env' = env.set i (.fz d) ∧ (∀ e, env[i]? ≠ some (.bo e)) ∧ i < env.length := by
  unfold putF at h
  split at h
  · cases h
  · rename_i s n h1
    cases h
    exact ⟨rfl, fun e z => by rw [z] at h1; cases h1; exact n e rfl, (List.getElem?_eq_some_iff.mp h1).1⟩
  · cases h
theorem putO_of {i : Nat} {d : Dt} {env env' : Evs} (h : putO i d env = some env') : env' = env.set i (.ow d) ∧ (∀ e, env[i]? ≠ some (.bo e)) ∧ i < env.length := by
  unfold putO at h
  split at h
  · cases h
  · rename_i s n h1
    cases h
    exact ⟨rfl, fun e z => by rw [z] at h1; cases h1; exact n e rfl, (List.getElem?_eq_some_iff.mp h1).1⟩
  · cases h
abbrev Mg := Dt → Evs → Option Evs
abbrev Mgs := List Dt → Evs → Option Evs
def RG (K : PySem.W.Frag) (g : TG) (m : Mg) : Prop := ∀ (M : Fm) (env : Evs) (F : Hp) (σ : L2.St) (H : Hp) (env' : Evs) (d : Dt) (v : V) (Q : L2.St → Hp → Prop), Sn K M env F σ H → Rp K F d v → m d env = some env' →
  (∀ σ' F' H', Sn K M env' F' σ' H' → Same F F' → Q σ' H') → g v σ H Q
def RGs (K : PySem.W.Frag) (g : TGs) (m : Mgs) : Prop := ∀ (M : Fm) (env : Evs) (F : Hp) (σ : L2.St) (H : Hp) (env' : Evs) (ds : List Dt) (vs : List V) (Q : L2.St → Hp → Prop), Sn K M env F σ H → RpA K F ds vs → m ds env = some env' →
  (∀ σ' F' H', Sn K M env' F' σ' H' → Same F F' → Q σ' H') → g vs σ H Q
theorem g_name {i : Nat} : RG K (gName i) (putF i) := fun M env F σ H env' d v Q S r e q => by
  obtain ⟨rfl, h1, h2⟩ := putF_of e
  exact q _ F H (S.setF r h1 h2) (Same.refl F)
def mgNil : Mgs := fun ds env => match ds with
  | [] => some env
  | _ => none
def mgCons (a : Mg) (b : Mgs) : Mgs := fun ds env => match ds with
  | d :: r => (a d env).bind (b r)
  | [] => none
theorem g_nil : RGs K gNil mgNil := fun M env F σ H env' ds vs Q S r e q => by
  cases ds with
  | nil =>
    cases e
    exact ⟨r, q σ F H S (Same.refl F)⟩
  | cons _ _ => cases e
theorem g_cons {t : TG} {u : TGs} {a : Mg} {b : Mgs} (ha : RG K t a) (hb : RGs K u b) : RGs K (gCons t u) (mgCons a b) := fun M env F σ H env' ds vs Q S r e q => by
  cases ds with
  | nil => cases e
  | cons d ds =>
    obtain ⟨e1, h1, h2⟩ := bindS e
    obtain ⟨v, vs', rfl, r1, r2⟩ := r
    exact ⟨v, vs', rfl, ha M env F σ H e1 d v _ S r1 h1 fun σ1 F1 H1 S1 s1 => hb M e1 F1 σ1 H1 env' ds vs' Q S1 (r2.mono s1 _ _) h2 fun σ2 F2 H2 S2 s2 => q σ2 F2 H2 S2 (s1.trans s2)⟩
def mgTup (n : Nat) (b : Mgs) : Mg := fun d env => match d with
  | .tuple ds => if ds.length = n then b ds env else none
  | _ => none
theorem g_tup {n : Nat} {t : TGs} {b : Mgs} (hb : RGs K t b) : RG K (gTup K n t) (mgTup n b) := fun M env F σ H env' d v Q S r e q => by
  cases d <;> first | (cases e; done) | skip
  obtain ⟨a, xs, rfl, h1, h2⟩ := r
  unfold mgTup at e
  dsimp only at e
  split at e
  · rename_i c
    exact ⟨a, xs, rfl, SqT.of (S.sub _ _ h1), by rw [← h2.len]; exact c, hb M env F σ H env' _ xs Q S h2 e q⟩
  · cases e
def mAsg (a : Mx) (g : Mg) : Mst := fun env => (a env).bind fun p => (g p.2 p.1).map .nx
theorem r_asg {ta : TE} {tg : TG} {a : Mx} {g : Mg} (ha : RE K ta a) (hg : RG K tg g) : RS K (tAsg ta tg) (mAsg a g) := fun M env F σ H fl D S e q => by
  obtain ⟨⟨e1, x⟩, h1, h⟩ := bindS e
  obtain ⟨e2, h2, h3⟩ := mapS h
  subst h3
  exact ha M env F σ H e1 x _ S h1 fun v F1 H1 S1 s1 r1 => hg M e1 F1 σ H1 e2 x v _ S1 r1 h2 fun σ2 F2 H2 S2 s2 => q σ2 F2 H2 S2 (s1.trans s2)
abbrev mSet (i : Nat) (a : Mx) : Mst := mAsg a (putF i)
theorem r_set {ta : TE} {i : Nat} {a : Mx} (ha : RE K ta a) : RS K (tAsg ta (gName i)) (mSet i a) := r_asg ha g_name
def mSetO (i : Nat) (a : Mx) : Mst := fun env => (a env).bind fun p => (putO i p.2 p.1).map .nx
theorem r_setO {ta : TE} {i : Nat} {a : Mx} (ha : RO K ta a) : RS K (tAsg ta (gName i)) (mSetO i a) := fun M env F σ H fl D S e q => by
  obtain ⟨⟨e1, x⟩, h1, h⟩ := bindS e
  obtain ⟨e2, h2, h3⟩ := mapS h
  subst h3
  obtain ⟨rfl, h4, h5⟩ := putO_of h2
  exact ha M env F σ H e1 x _ S h1 fun p F1 H1 S1 s1 L o => q _ F1 H1 (S1.setO L o h4 h5) s1
def mPar (i j : Nat) (a : Ms) : Mst := fun env => (a env).bind fun p => match p.2 with
  | [x, y] => ((putF i x p.1).bind (putF j y)).map .nx
  | _ => none
theorem r_par {ta : TA} {i j : Nat} {a : Ms} (ha : RA K ta a) : RS K (tPar i j ta) (mPar i j a) := fun M env F σ H fl D S e q => by
  obtain ⟨⟨e1, ds⟩, h1, h⟩ := bindS e
  dsimp only at h
  split at h
  · rename_i x y
    obtain ⟨e2, h2, h3⟩ := mapS h
    subst h3
    obtain ⟨e3, h4, h5⟩ := bindS h2
    obtain ⟨rfl, h6, h7⟩ := putF_of h4
    obtain ⟨rfl, h8, h9⟩ := putF_of h5
    refine ha M env F σ H e1 _ _ S h1 fun vs F1 H1 S1 s1 r1 => ?_
    obtain ⟨v, r, rfl, r2, u, r', rfl, r3, r4⟩ := r1
    have e' : r' = [] := r4
    subst e'
    exact ⟨v, u, rfl, q _ F1 H1 ((S1.setF r2 h6 h7).setF r3 h8 h9) s1⟩
  · cases h
def mAug (i : Nat) (f : Int → Int → Int) (a : Mx) : Mst := fun env => match env[i]? with
  | some (.fz (.int x)) => (a env).bind fun p => match p.2 with
    | .int y => (putF i (.int (f x y)) p.1).map .nx
    | _ => none
  | _ => none
theorem r_aug {ta : TE} {i : Nat} {f : Int → Int → Int} {a : Mx} (ha : RE K ta a) : RS K (tAug i ta (ipI f)) (mAug i f a) := fun M env F σ H fl D S e q => by
  unfold mAug at e
  split at e
  · rename_i x h0
    obtain ⟨⟨e1, y⟩, h1, h⟩ := bindS e
    obtain ⟨v, h2, h3⟩ := S.fzS i _ h0
    refine ⟨v, h2, ha M env F σ H e1 y _ S h1 fun u F1 H1 S1 s1 r1 => ?_⟩
    dsimp only at h
    split at h
    · rename_i y0
      obtain ⟨e2, h4, h5⟩ := mapS h
      subst h5
      obtain ⟨rfl, h6, h7⟩ := putF_of h4
      exact ⟨x, y0, h3, r1, q _ F1 H1 (S1.setF rfl h6 h7) s1⟩
    · cases h
  · cases e
/-! what may be walked -/
structure ItOk (K : PySem.W.Frag) (J : It) (F : Hp) (ds : List Dt) : Prop where
  go : ∀ (i : Nat) (d : Dt) (H : Hp), Same F H → ds[i]? = some d → J.go i H
  yld : ∀ (i : Nat) (d : Dt) (H H' : Hp) (x : V), Same F H → ds[i]? = some d → J.yld i H x H' → (H' = H ∧ Rp K F d x) ∨ ∃ p xs es, H p = none ∧ H' = upd H p (.tup xs) ∧ x = .ref p ∧ d = .tuple es ∧ RpA K F es xs
  stop : ∀ (i : Nat) (H : Hp), Same F H → ds.length ≤ i → J.stop i H
theorem ItOk.mono {J : It} {F G : Hp} {ds : List Dt} (h : ItOk K J F ds) (s : Same F G) : ItOk K J G ds := by
  refine ⟨fun i d H t e => h.go i d H (s.trans t) e, fun i d H H' x t e y => ?_, fun i H t l => h.stop i H (s.trans t) l⟩
  rcases h.yld i d H H' x (s.trans t) e y with ⟨h1, h2⟩ | ⟨p, xs, es, h1, h2, h3, h4, h5⟩
  · exact .inl ⟨h1, h2.mono s _ _⟩
  · exact .inr ⟨p, xs, es, h1, h2, h3, h4, h5.mono s _ _⟩
def RI (K : PySem.W.Frag) (wi : TI) (m : Ms) : Prop := ∀ (M : Fm) (env : Evs) (F : Hp) (σ : L2.St) (H : Hp) (env' : Evs) (ds : List Dt) (R : It → Hp → Prop), Sn K M env F σ H → m env = some (env', ds) →
  (∀ J F' H', Sn K M env' F' σ H' → Same F F' → ItOk K J F' ds → R J H') → wi σ H R
theorem ItOk.step {J : It} {F : Hp} {ds : List Dt} {M : Fm} {env : Evs} {σ : L2.St} {H H' : Hp} {i : Nat} {d : Dt} {x : V} (h : ItOk K J F ds) (S : Sn K M env F σ H) (e : ds[i]? = some d) (y : J.yld i H x H') :
    ∃ F', Sn K M env F' σ H' ∧ Same F F' ∧ Rp K F' d x := by
  rcases h.yld i d H H' x S.sub e y with ⟨rfl, h2⟩ | ⟨p, xs, es, h1, rfl, rfl, rfl, h5⟩
  · exact ⟨F, S, Same.refl F, h2⟩
  · obtain ⟨S2, s2⟩ := S.lay h1 (.tup xs)
    exact ⟨_, S2, s2, p, xs, rfl, upd_same, h5.mono s2 _ _⟩
def loopM (g : Mg) (b : Mst) : List Dt → Mst
  | [], env => some (.nx env)
  | d :: ds, env => (g d env).bind fun e1 => (b e1).bind fun fl => match fl with
    | .nx e => loopM g b ds e
    | .ct e => loopM g b ds e
    | .bk e => some (.nx e)
    | .rt e r => some (.rt e r)
def mFor (mi : Ms) (g : Mg) (b : Mst) : Mst := fun env => (mi env).bind fun p => loopM g b p.2 p.1
theorem r_for {wi : TI} {tg : TG} {tb : TS} {mi : Ms} {g : Mg} {b : Mst} (hi : RI K wi mi) (hg : RG K tg g) (hb : RS K tb b) : RS K (tFor wi tg tb) (mFor mi g b) := fun M env F σ H fl D S e q => by
  obtain ⟨⟨e1, ds⟩, h1, h⟩ := bindS e
  refine hi M env F σ H e1 ds _ S h1 fun J F1 H1 S1 s1 ok => ?_
  refine ⟨fun i m σ H => m = ds.length - i ∧ i ≤ ds.length ∧ ∃ env F', Sn K M env F' σ H ∧ Same F1 F' ∧ loopM g b (ds.drop i) env = some fl, ⟨ds.length, by simp, Nat.zero_le _, e1, F1, S1, Same.refl F1, h⟩, ?_⟩
  rintro i m σ H ⟨rfl, hi, env, F', S', s', h'⟩
  have ok' := ok.mono s'
  by_cases c : i < ds.length
  · have ei : ds[i]? = some ds[i] := List.getElem?_eq_getElem c
    rw [List.drop_eq_getElem_cons c] at h'
    obtain ⟨e2, h2, h3⟩ := bindS h'
    obtain ⟨f3, h4, h5⟩ := bindS h3
    refine .inr ⟨ok'.go i _ H S'.sub ei, fun σ H => ∃ env F', Sn K M env F' σ H ∧ Same F1 F' ∧ loopM g b (ds.drop (i + 1)) env = some fl, fun σ2 H2 w => ⟨_, by omega, rfl, c, w⟩, fun x H2 y => ?_⟩
    obtain ⟨F2, S2, s2, r2⟩ := ok'.step S' ei y
    refine hg M env F2 σ H2 e2 _ x _ S2 r2 h2 fun σ3 F3 H3 S3 s3 => ?_
    refine hb M e2 F3 σ3 H3 f3 _ S3 h4 ?_
    have sA := s'.trans (s2.trans s3)
    cases f3 with
    | nx e3 => exact fun σ4 F4 H4 S4 s4 => ⟨e3, F4, S4, sA.trans s4, h5⟩
    | ct e3 => exact fun σ4 F4 H4 S4 s4 => ⟨e3, F4, S4, sA.trans s4, h5⟩
    | bk e3 =>
      cases h5
      exact fun σ4 F4 H4 S4 s4 => q σ4 F4 H4 S4 (s1.trans (sA.trans s4))
    | rt e3 r =>
      cases h5
      have z := q.mono (s1.trans sA)
      cases r <;> exact z
  · have e : i = ds.length := by omega
    subst e
    rw [List.drop_length] at h'
    cases h'
    exact .inl ⟨ok'.stop _ H S'.sub (Nat.le_refl _), q σ F' H S' (s1.trans s')⟩
/-! while, with so many turns at the most -/
def whM (c : Mb) (b : Mst) : Nat → Mst
  | 0, _ => none
  | n + 1, env => (c env).bind fun p => if p.2 = true then (b p.1).bind fun fl => match fl with
    | .nx e => whM c b n e
    | .ct e => whM c b n e
    | .bk e => some (.nx e)
    | .rt e r => some (.rt e r)
    else some (.nx p.1)
def mWhile (n : Evs → Nat) (c : Mb) (b : Mst) : Mst := fun env => whM c b (n env) env
theorem r_while {tc : TT} {tb : TS} {c : Mb} {b : Mst} (n : Evs → Nat) (hc : RT K tc c) (hb : RS K tb b) : RS K (tWhile tc tb) (mWhile n c b) := fun M env F σ H fl D S e q => by
  refine ⟨fun m σ H => ∃ env F', Sn K M env F' σ H ∧ Same F F' ∧ whM c b m env = some fl, ⟨n env, env, F, S, Same.refl F, e⟩, ?_⟩
  rintro m σ H ⟨env, F', S', s', h'⟩
  cases m with
  | zero => cases h'
  | succ m =>
    obtain ⟨⟨e1, x⟩, h1, h⟩ := bindS h'
    refine hc M env F' σ H e1 x _ S' h1 fun F1 H1 S1 s1 => ?_
    cases x with
    | false =>
      cases h
      exact q σ F1 H1 S1 (s'.trans s1)
    | true =>
      rw [if_pos rfl] at h
      obtain ⟨f3, h4, h5⟩ := bindS h
      refine ⟨fun σ H => ∃ env F', Sn K M env F' σ H ∧ Same F F' ∧ whM c b m env = some fl, fun σ2 H2 w => ⟨m, by omega, w⟩, ?_⟩
      refine hb M e1 F1 σ H1 f3 _ S1 h4 ?_
      have sA := s'.trans s1
      cases f3 with
      | nx e3 => exact fun σ4 F4 H4 S4 s4 => ⟨e3, F4, S4, sA.trans s4, h5⟩
      | ct e3 => exact fun σ4 F4 H4 S4 s4 => ⟨e3, F4, S4, sA.trans s4, h5⟩
      | bk e3 =>
        cases h5
        exact fun σ4 F4 H4 S4 s4 => q σ4 F4 H4 S4 (sA.trans s4)
      | rt e3 r =>
        cases h5
        have z := q.mono sA
        cases r <;> exact z
/-! lists, tuples, ranges, numbered things, pairs -/
def mItems (k : Dt → Option (List Dt)) (a : Mx) : Ms := fun env => (a env).bind fun p => (k p.2).map fun ds => (p.1, ds)
def lstOf : Dt → Option (List Dt)
  | .list ds => some ds
  | _ => none
def tupOf : Dt → Option (List Dt)
  | .tuple ds => some ds
  | _ => none
theorem it_list {F : Hp} {a : Addr} {xs : List V} {ds : List Dt} (hF : F a = some (.lst xs)) (r : RpA K F ds xs) : ItOk K (Itl K a) F ds := by
  refine ⟨fun i d H s e => ?_, fun i d H H' x s e y => ?_, fun i H s l => ?_⟩
  · obtain ⟨x, h1, _⟩ := r.get e
    exact ⟨xs, x, SqL.of (s _ _ hF), h1⟩
  · obtain ⟨rfl, h1⟩ := y
    obtain ⟨x', h2, h3⟩ := r.get e
    have h4 := h1 xs (SqL.of (s _ _ hF))
    rw [h2] at h4
    cases h4
    exact .inl ⟨rfl, h3⟩
  · exact ⟨xs, SqL.of (s _ _ hF), by rw [← r.len]; exact l⟩
theorem it_tup {F : Hp} {a : Addr} {xs : List V} {ds : List Dt} (hF : F a = some (.tup xs)) (r : RpA K F ds xs) : ItOk K (Itt K a) F ds := by
  refine ⟨fun i d H s e => ?_, fun i d H H' x s e y => ?_, fun i H s l => ?_⟩
  · obtain ⟨x, h1, _⟩ := r.get e
    exact ⟨xs, x, SqT.of (s _ _ hF), h1⟩
  · obtain ⟨rfl, h1⟩ := y
    obtain ⟨x', h2, h3⟩ := r.get e
    have h4 := h1 xs (SqT.of (s _ _ hF))
    rw [h2] at h4
    cases h4
    exact .inl ⟨rfl, h3⟩
  · exact ⟨xs, SqT.of (s _ _ hF), by rw [← r.len]; exact l⟩
theorem i_list {ta : TE} {a : Mx} (ha : RE K ta a) : RI K (iList K ta) (mItems lstOf a) := fun M env F σ H env' ds R S e q => by
  obtain ⟨⟨e1, x⟩, h1, h⟩ := bindS e
  obtain ⟨ds', h2, h3⟩ := mapS h
  cases h3
  refine ha M env F σ H _ x _ S h1 fun v F1 H1 S1 s1 r1 => ?_
  cases x <;> first | (cases h2; done) | skip
  cases h2
  obtain ⟨a, xs, rfl, h5, h6⟩ := r1
  exact ⟨a, rfl, ⟨xs, SqL.of (S1.sub _ _ h5)⟩, q _ F1 H1 S1 s1 (it_list h5 h6)⟩
theorem i_tup {ta : TE} {a : Mx} (ha : RE K ta a) : RI K (iTup K ta) (mItems tupOf a) := fun M env F σ H env' ds R S e q => by
  obtain ⟨⟨e1, x⟩, h1, h⟩ := bindS e
  obtain ⟨ds', h2, h3⟩ := mapS h
  cases h3
  refine ha M env F σ H _ x _ S h1 fun v F1 H1 S1 s1 r1 => ?_
  cases x <;> first | (cases h2; done) | skip
  cases h2
  obtain ⟨a, xs, rfl, h5, h6⟩ := r1
  exact ⟨a, rfl, ⟨xs, SqT.of (S1.sub _ _ h5)⟩, q _ F1 H1 S1 s1 (it_tup h5 h6)⟩
def rgD (lo : Int) (n : Nat) : List Dt := (List.range n).map fun (i : Nat) => .int (lo + (i : Int))
theorem rgD_get {lo : Int} {n i : Nat} {d : Dt} (h : (rgD lo n)[i]? = some d) : i < n ∧ d = .int (lo + (i : Int)) := by
  unfold rgD at h
  rw [List.getElem?_map] at h
  obtain ⟨j, h1, h2⟩ := mapS h
  obtain ⟨h3, h4⟩ := List.getElem?_eq_some_iff.mp h1
  rw [List.getElem_range] at h4
  subst h4 h2
  exact ⟨by simpa using h3, rfl⟩
theorem it_rng {F : Hp} {lo : Int} {n : Nat} : ItOk K (Itr lo n) F (rgD lo n) := by
  refine ⟨fun i d H s e => (rgD_get e).1, fun i d H H' x s e y => ?_, fun i H s l => ?_⟩
  · obtain ⟨rfl, rfl⟩ := y
    rw [(rgD_get e).2]
    exact .inl ⟨rfl, rfl⟩
  · have z : (rgD lo n).length = n := by simp [rgD]
    rw [z] at l
    exact l
def rg1 : List Dt → Option (List Dt)
  | [.int j] => if -(2 ^ 62) ≤ j ∧ j < 2 ^ 62 then some (rgD 0 j.toNat) else none
  | _ => none
def rg2 : List Dt → Option (List Dt)
  | [.int i, .int j] => if -(2 ^ 62) ≤ i ∧ i < 2 ^ 62 ∧ -(2 ^ 62) ≤ j ∧ j < 2 ^ 62 then some (rgD i (j - i).toNat) else none
  | _ => none
def mRng (k : List Dt → Option (List Dt)) (a : Ms) : Ms := fun env => (a env).bind fun p => (k p.2).map fun ds => (p.1, ds)
theorem i_rng1 {ta : TA} {a : Ms} (ha : RA K ta a) : RI K (iRng1 ta) (mRng rg1 a) := fun M env F σ H env' ds R S e q => by
  obtain ⟨⟨e1, x⟩, h1, h⟩ := bindS e
  obtain ⟨ds', h2, h3⟩ := mapS h
  cases h3
  refine ha M env F σ H _ x _ S h1 fun v F1 H1 S1 s1 r1 => ?_
  unfold rg1 at h2
  dsimp only at h2
  split at h2
  · rename_i j
    split at h2
    · rename_i c
      cases h2
      have e := RpA.ints (ns := [j]) r1
      subst e
      exact ⟨j, rfl, c.1, c.2, q _ F1 H1 S1 s1 it_rng⟩
    · cases h2
  · cases h2
theorem i_rng2 {ta : TA} {a : Ms} (ha : RA K ta a) : RI K (iRng2 ta) (mRng rg2 a) := fun M env F σ H env' ds R S e q => by
  obtain ⟨⟨e1, x⟩, h1, h⟩ := bindS e
  obtain ⟨ds', h2, h3⟩ := mapS h
  cases h3
  refine ha M env F σ H _ x _ S h1 fun v F1 H1 S1 s1 r1 => ?_
  unfold rg2 at h2
  dsimp only at h2
  split at h2
  · rename_i i j
    split at h2
    · rename_i c
      cases h2
      have e := RpA.ints (ns := [i, j]) r1
      subst e
      exact ⟨i, j, rfl, c, q _ F1 H1 S1 s1 it_rng⟩
    · cases h2
  · cases h2
def numD (ds : List Dt) : List Dt := ds.zipIdx.map fun p => .tuple [.int (p.2 : Nat), p.1]
theorem numD_get {ds : List Dt} {i : Nat} {d : Dt} (h : (numD ds)[i]? = some d) : ∃ x, ds[i]? = some x ∧ d = .tuple [.int (i : Nat), x] := by
  unfold numD at h
  rw [List.getElem?_map, List.getElem?_zipIdx] at h
  obtain ⟨p, h1, h2⟩ := mapS h
  obtain ⟨x, h3, h4⟩ := mapS h1
  subst h4 h2
  exact ⟨x, h3, by simp⟩
theorem numD_len {ds : List Dt} : (numD ds).length = ds.length := by simp [numD]
theorem it_enum {F : Hp} {a : Addr} {xs : List V} {ds : List Dt} (hF : F a = some (.lst xs)) (r : RpA K F ds xs) : ItOk K (Ite K a) F (numD ds) := by
  refine ⟨fun i d H s e => ?_, fun i d H H' x s e y => ?_, fun i H s l => ?_⟩
  · obtain ⟨u, h0, _⟩ := numD_get e
    obtain ⟨x, h1, _⟩ := r.get h0
    exact ⟨xs, x, SqL.of (s _ _ hF), h1⟩
  · obtain ⟨p, z, rfl, h1, rfl, h4⟩ := y
    obtain ⟨u, h0, rfl⟩ := numD_get e
    obtain ⟨x', h2, h3⟩ := r.get h0
    have h5 := h4 xs (SqL.of (s _ _ hF))
    rw [h2] at h5
    cases h5
    exact .inr ⟨p, _, _, h1, rfl, rfl, rfl, .cons rfl (.one h3)⟩
  · rw [numD_len] at l
    exact ⟨xs, SqL.of (s _ _ hF), by rw [← r.len]; exact l⟩
theorem i_enum {ta : TE} {a : Mx} (ha : RE K ta a) : RI K (iEnum K (tCons ta tNil)) (mItems (fun d => (lstOf d).map numD) a) := fun M env F σ H env' ds R S e q => by
  obtain ⟨⟨e1, x⟩, h1, h⟩ := bindS e
  obtain ⟨ds', h2, h3⟩ := mapS h
  cases h3
  refine ha M env F σ H _ x _ S h1 fun v F1 H1 S1 s1 r1 => ?_
  obtain ⟨ds0, h2, h4⟩ := mapS h2
  cases x <;> first | (cases h2; done) | skip
  cases h2
  subst h4
  obtain ⟨a, xs, rfl, h5, h6⟩ := r1
  exact ⟨a, xs, rfl, SqL.of (S1.sub _ _ h5), q _ F1 H1 S1 s1 (it_enum h5 h6)⟩
def zipD : List Dt → List Dt → List Dt
  | x :: xs, y :: ys => .tuple [x, y] :: zipD xs ys
  | _, _ => []
theorem zipD_get : ∀ {xs ys : List Dt} {i : Nat} {d : Dt}, (zipD xs ys)[i]? = some d → ∃ x y, xs[i]? = some x ∧ ys[i]? = some y ∧ d = .tuple [x, y]
  | [], _, _, _, h => by simp [zipD] at h
  | _ :: _, [], _, _, h => by simp [zipD] at h
  | x :: xs, y :: ys, 0, _, h => by
    simp [zipD] at h
    exact ⟨x, y, rfl, rfl, h.symm⟩
  | x :: xs, y :: ys, i + 1, d, h => by
    simp only [zipD, List.getElem?_cons_succ] at h
    obtain ⟨u, v, h1, h2, h3⟩ := zipD_get h
    exact ⟨u, v, by simpa using h1, by simpa using h2, h3⟩
theorem zipD_len : ∀ {xs ys : List Dt}, (zipD xs ys).length = min xs.length ys.length
  | [], _ => by simp [zipD]
  | _ :: _, [] => by simp [zipD]
  | x :: xs, y :: ys => by
    simp only [zipD, List.length_cons, zipD_len (xs := xs) (ys := ys)]
    omega
theorem it_zip {F : Hp} {a b : Addr} {xs ys : List V} {ds es : List Dt} (hF : F a = some (.lst xs)) (r : RpA K F ds xs) (hF' : F b = some (.lst ys)) (r' : RpA K F es ys) : ItOk K (Itz K a b) F (zipD ds es) := by
  refine ⟨fun i d H s e => ?_, fun i d H H' x s e y => ?_, fun i H s l => ?_⟩
  · obtain ⟨u, w, h0, h1, _⟩ := zipD_get e
    obtain ⟨x, h2, _⟩ := r.get h0
    obtain ⟨y, h3, _⟩ := r'.get h1
    exact ⟨xs, ys, x, y, SqL.of (s _ _ hF), SqL.of (s _ _ hF'), h2, h3⟩
  · obtain ⟨p, z, z', rfl, h1, rfl, h4, h5⟩ := y
    obtain ⟨u, w, h0, h2, rfl⟩ := zipD_get e
    obtain ⟨x', h6, h7⟩ := r.get h0
    obtain ⟨y', h8, h9⟩ := r'.get h2
    have k1 := h4 xs (SqL.of (s _ _ hF))
    have k2 := h5 ys (SqL.of (s _ _ hF'))
    rw [h6] at k1
    rw [h8] at k2
    cases k1
    cases k2
    exact .inr ⟨p, _, _, h1, rfl, rfl, rfl, .cons h7 (.one h9)⟩
  · rw [zipD_len] at l
    refine ⟨xs, ys, SqL.of (s _ _ hF), SqL.of (s _ _ hF'), ?_⟩
    rw [← r.len, ← r'.len]
    omega
theorem it_zipT {F : Hp} {a b : Addr} {xs ys : List V} {ds es : List Dt} (hF : F a = some (.tup xs)) (r : RpA K F ds xs) (hF' : F b = some (.tup ys)) (r' : RpA K F es ys) : ItOk K (RZ.ItzT K a b) F (zipD ds es) := by
  refine ⟨fun i d H s e => ?_, fun i d H H' x s e y => ?_, fun i H s l => ?_⟩
  · obtain ⟨u, w, h0, h1, _⟩ := zipD_get e
    obtain ⟨x, h2, _⟩ := r.get h0
    obtain ⟨y, h3, _⟩ := r'.get h1
    exact ⟨xs, ys, x, y, SqT.of (s _ _ hF), SqT.of (s _ _ hF'), h2, h3⟩
  · obtain ⟨p, z, z', rfl, h1, rfl, h4, h5⟩ := y
    obtain ⟨u, w, h0, h2, rfl⟩ := zipD_get e
    obtain ⟨x', h6, h7⟩ := r.get h0
    obtain ⟨y', h8, h9⟩ := r'.get h2
    have k1 := h4 xs (SqT.of (s _ _ hF))
    have k2 := h5 ys (SqT.of (s _ _ hF'))
    rw [h6] at k1
    rw [h8] at k2
    cases k1
    cases k2
    exact .inr ⟨p, _, _, h1, rfl, rfl, rfl, .cons h7 (.one h9)⟩
  · rw [zipD_len] at l
    refine ⟨xs, ys, SqT.of (s _ _ hF), SqT.of (s _ _ hF'), ?_⟩
    rw [← r.len, ← r'.len]
    omega
def zip2 : List Dt → Option (List Dt)
  | [.list a, .list b] => some (zipD a b)
  | [.tuple a, .tuple b] => some (zipD a b)
  | _ => none
theorem i_zip {ta : TA} {a : Ms} (ha : RA K ta a) : RI K (RZ.iZipA K ta) (mRng zip2 a) := fun M env F σ H env' ds R S e q => by
  obtain ⟨⟨e1, x⟩, h1, h⟩ := bindS e
  obtain ⟨ds', h2, h3⟩ := mapS h
  cases h3
  refine ha M env F σ H _ x _ S h1 fun v F1 H1 S1 s1 r1 => ?_
  unfold zip2 at h2
  dsimp only at h2
  split at h2
  · cases h2
    obtain ⟨u, r, rfl, r2, w, r', rfl, r3, r4⟩ := r1
    have e' : r' = [] := r4
    subst e'
    obtain ⟨a, xs, rfl, k1, k2⟩ := r2
    obtain ⟨b, ys, rfl, k3, k4⟩ := r3
    exact ⟨a, b, xs, ys, rfl, .inl ⟨SqL.of (S1.sub _ _ k1), SqL.of (S1.sub _ _ k3), q _ F1 H1 S1 s1 (it_zip k1 k2 k3 k4)⟩⟩
  · cases h2
    obtain ⟨u, r, rfl, r2, w, r', rfl, r3, r4⟩ := r1
    have e' : r' = [] := r4
    subst e'
    obtain ⟨a, xs, rfl, k1, k2⟩ := r2
    obtain ⟨b, ys, rfl, k3, k4⟩ := r3
    exact ⟨a, b, xs, ys, rfl, .inr ⟨SqT.of (S1.sub _ _ k1), SqT.of (S1.sub _ _ k3), q _ F1 H1 S1 s1 (it_zipT k1 k2 k3 k4)⟩⟩
  · cases h2
end

/-! ### comprehensions -/
def RGw (K : PySem.W.Frag) (vs : List Nat) (g : TG) (m : Mg) : Prop := ∀ (M : Fm) (env : Evs) (F : Hp) (σ : L2.St) (H : Hp) (env' : Evs) (d : Dt) (v : V) (Q : L2.St → Hp → Prop), Sn K M env F σ H → Rp K F d v → m d env = some env' →
  (∀ σ' F' H', Sn K M env' F' σ' H' → Same F F' → (∀ j, j ∉ vs → σ'[j]? = σ[j]?) → σ'.length = σ.length → Q σ' H') → g v σ H Q
def RGws (K : PySem.W.Frag) (vs : List Nat) (g : TGs) (m : Mgs) : Prop := ∀ (M : Fm) (env : Evs) (F : Hp) (σ : L2.St) (H : Hp) (env' : Evs) (ds : List Dt) (us : List V) (Q : L2.St → Hp → Prop), Sn K M env F σ H → RpA K F ds us → m ds env = some env' →
  (∀ σ' F' H', Sn K M env' F' σ' H' → Same F F' → (∀ j, j ∉ vs → σ'[j]? = σ[j]?) → σ'.length = σ.length → Q σ' H') → g us σ H Q
theorem wipe_get {σ : L2.St} {j : Nat} : ∀ {vs : List Nat}, j ∉ vs → (wipe σ vs)[j]? = σ[j]?
  | [], _ => rfl
  | v :: vs, h => by
    simp only [List.mem_cons, not_or] at h
    unfold wipe
    rw [List.getElem?_set_ne (fun e => h.1 e.symm)]
    exact wipe_get h.2
theorem wipe_in {σ : L2.St} {j : Nat} : ∀ {vs : List Nat}, j ∈ vs → j < σ.length → (wipe σ vs)[j]? = some none
  | [], h, _ => by simp at h
  | v :: vs, h, l => by
    unfold wipe
    by_cases c : v = j
    · subst c
      exact List.getElem?_set_self (by rw [wipe_length]; exact l)
    · rw [List.getElem?_set_ne c]
      exact wipe_in ((List.mem_cons.mp h).resolve_left fun e => c e.symm) l
theorem wipe_eq {σ τ : L2.St} {vs : List Nat} (h : ∀ j, j ∉ vs → σ[j]? = τ[j]?) (l : σ.length = τ.length) : wipe σ vs = wipe τ vs := by
  refine List.ext_getElem? fun j => ?_
  by_cases c : j ∈ vs
  · by_cases c' : j < σ.length
    · rw [wipe_in c c', wipe_in c (by omega)]
    · rw [List.getElem?_eq_none (by rw [wipe_length]; omega), List.getElem?_eq_none (by rw [wipe_length]; omega)]
  · rw [wipe_get c, wipe_get c]
    exact h j c
section
variable {K : PySem.W.Frag} {vs : List Nat}
theorem w_name {i : Nat} (hi : i ∈ vs) : RGw K vs (gName i) (putF i) := fun M env F σ H env' d v Q S r e q => by
  obtain ⟨rfl, h1, h2⟩ := putF_of e
  refine q _ F H (S.setF r h1 h2) (Same.refl F) (fun j hj => ?_) (by simp)
  have c : i ≠ j := by
    rintro rfl
    exact hj hi
  rw [List.getElem?_set_ne c]
theorem w_nil : RGws K vs gNil mgNil := fun M env F σ H env' ds us Q S r e q => by
  cases ds with
  | nil =>
    cases e
    exact ⟨r, q σ F H S (Same.refl F) (fun _ _ => rfl) rfl⟩
  | cons _ _ => cases e
theorem w_cons {t : TG} {u : TGs} {a : Mg} {b : Mgs} (ha : RGw K vs t a) (hb : RGws K vs u b) : RGws K vs (gCons t u) (mgCons a b) := fun M env F σ H env' ds us Q S r e q => by
  cases ds with
  | nil => cases e
  | cons d ds =>
    obtain ⟨e1, h1, h2⟩ := bindS e
    obtain ⟨v, vs', rfl, r1, r2⟩ := r
    exact ⟨v, vs', rfl, ha M env F σ H e1 d v _ S r1 h1 fun σ1 F1 H1 S1 s1 w1 l1 => hb M e1 F1 σ1 H1 env' ds vs' Q S1 (r2.mono s1 _ _) h2 fun σ2 F2 H2 S2 s2 w2 l2 => q σ2 F2 H2 S2 (s1.trans s2) (fun j hj => (w2 j hj).trans (w1 j hj)) (l2.trans l1)⟩
theorem w_tup {n : Nat} {t : TGs} {b : Mgs} (hb : RGws K vs t b) : RGw K vs (gTup K n t) (mgTup n b) := fun M env F σ H env' d v Q S r e q => by
  cases d <;> first | (cases e; done) | skip
  obtain ⟨a, xs, rfl, h1, h2⟩ := r
  unfold mgTup at e
  dsimp only at e
  split at e
  · rename_i c
    exact ⟨a, xs, rfl, SqT.of (S.sub _ _ h1), by rw [← h2.len]; exact c, hb M env F σ H env' _ xs Q S h2 e q⟩
  · cases e
def mYes : Mb := fun env => some (env, true)
theorem r_yes : RT K tYes mYes := fun M env F σ H env' b Q S e q => by
  cases e
  exact q F H S (Same.refl F)
def lcM (g : Mg) (tt : Mb) (te : Mx) (vs : List Nat) : List Dt → Evs → Option (Evs × List Dt)
  | [], env => some (env, [])
  | d :: ds, env => (g d env).bind fun e1 => (tt e1).bind fun p => if p.2 = true then (te p.1).bind fun q => (lcM g tt te vs ds (wipeE q.1 vs)).map fun r => (r.1, q.2 :: r.2) else lcM g tt te vs ds (wipeE p.1 vs)
def mLc (mi : Ms) (g : Mg) (tt : Mb) (te : Mx) (vs : List Nat) : Mx := fun env => (mi env).bind fun p => (lcM g tt te vs p.2 (wipeE p.1 vs)).bind fun q => if q.2.length ≤ sizeLine then some (q.1, .list q.2) else none
theorem wipeE_in {env : Evs} {j : Nat} : ∀ {vs : List Nat}, j ∈ vs → j < env.length → (wipeE env vs)[j]? = some .un
  | [], h, _ => by simp at h
  | v :: vs, h, l => by
    unfold wipeE
    by_cases c : v = j
    · subst c
      exact List.getElem?_set_self (by rw [wipeE_len]; exact l)
    · rw [List.getElem?_set_ne c]
      exact wipeE_in ((List.mem_cons.mp h).resolve_left fun e => c e.symm) l
theorem wipeE_out {env : Evs} {j : Nat} : ∀ {vs : List Nat}, j ∉ vs → (wipeE env vs)[j]? = env[j]?
  | [], _ => rfl
  | v :: vs, h => by
    simp only [List.mem_cons, not_or] at h
    unfold wipeE
    rw [List.getElem?_set_ne (fun e => h.1 e.symm)]
    exact wipeE_out h.2
theorem wipeE_idem {env : Evs} {vs : List Nat} : wipeE (wipeE env vs) vs = wipeE env vs := by
  refine List.ext_getElem? fun j => ?_
  by_cases c : j ∈ vs
  · by_cases c' : j < env.length
    · rw [wipeE_in c (by rw [wipeE_len]; exact c'), wipeE_in c c']
    · rw [List.getElem?_eq_none (by rw [wipeE_len, wipeE_len]; omega), List.getElem?_eq_none (by rw [wipeE_len]; omega)]
  · rw [wipeE_out c]
theorem r_lc {wi : TI} {tg : TG} {tt : TT} {te : TE} {mi : Ms} {g : Mg} {t : Mb} {e : Mx} (hi : RI K wi mi) (hg : RGw K vs tg g) (ht : RT K tt t) (he : RE K te e) : RO K (tLc wi tg tt te vs) (mLc mi g t e vs) := fun M env F σ H env' d Q S ee q => by
  obtain ⟨⟨e1, ds⟩, h1, h⟩ := bindS ee
  obtain ⟨⟨ef, out⟩, h2, h⟩ := bindS h
  split at h
  case isFalse => cases h
  rename_i hl
  cases h
  dsimp only at hl h2
  refine hi M env F σ H e1 ds _ S h1 fun J F1 H1 S1 s1 ok D nD => ?_
  have S1' : Sn K M (wipeE e1 vs) F1 σ H1 := S1.wipe vs (fun _ _ => rfl) rfl
  refine ⟨fun i m H => m = ds.length - i ∧ i ≤ ds.length ∧ ∃ env F' acc accD rest, wipeE env vs = env ∧ Sn K M env F' σ H ∧ Same F1 F' ∧ Loose M env F' σ D ∧ H D = some (.lst acc) ∧ RpA K F' accD acc ∧ lcM g t e vs (ds.drop i) env = some (ef, rest) ∧ accD ++ rest = out,
    ⟨ds.length, by simp, Nat.zero_le _, wipeE e1 vs, F1, [], [], out, wipeE_idem, S1'.raw nD _, Same.refl F1, S1'.loose nD, upd_same, rfl, h2, rfl⟩, ?_⟩
  rintro i m H ⟨rfl, hi, env, F', acc, accD, rest, we, S', s', L, hD, rA, hrun, htot⟩
  have ok' := ok.mono s'
  by_cases c : i < ds.length
  · have ei : ds[i]? = some ds[i] := List.getElem?_eq_getElem c
    rw [List.drop_eq_getElem_cons c] at hrun
    obtain ⟨e2, h3, hrun⟩ := bindS hrun
    obtain ⟨⟨e3, b⟩, h4, hrun⟩ := bindS hrun
    dsimp only at hrun
    refine .inr ⟨ok'.go i _ H S'.sub ei, fun H => ∃ env F' acc accD rest, wipeE env vs = env ∧ Sn K M env F' σ H ∧ Same F1 F' ∧ Loose M env F' σ D ∧ H D = some (.lst acc) ∧ RpA K F' accD acc ∧ lcM g t e vs (ds.drop (i + 1)) env = some (ef, rest) ∧ accD ++ rest = out, fun H2 w => ⟨_, by omega, rfl, c, w⟩, fun x H2 y => ?_⟩
    have W := (S'.ward L hD).wipe (σ' := wipe σ vs) vs (fun j hj => wipe_get hj) (wipe_length σ vs)
    rw [we] at W
    obtain ⟨F2, S2, s2, r2⟩ := ok'.step W ei y
    refine hg _ env F2 _ H2 e2 _ x _ S2 r2 h3 fun σ3 F3 H3 S3 s3 w3 l3 => ?_
    have pt : ∀ j, j ∉ vs → σ[j]? = σ3[j]? := fun j hj => by rw [w3 j hj, wipe_get hj]
    have ln : σ.length = σ3.length := by rw [l3, wipe_length]
    refine ⟨(wipe_eq pt ln).symm, ?_⟩
    refine ht _ e2 F3 σ3 H3 e3 b _ S3 h4 fun F4 H4 S4 s4 => ?_
    have sA := s'.trans (s2.trans (s3.trans s4))
    cases b with
    | true =>
      rw [if_pos rfl] at hrun ⊢
      obtain ⟨⟨e4, z⟩, h5, hrun⟩ := bindS hrun
      obtain ⟨⟨e5, rest'⟩, h6, hrun⟩ := mapS hrun
      cases hrun
      refine he _ e3 F4 σ3 H4 e4 z _ S4 h5 fun u F5 H5 S5 s5 r5 => ?_
      obtain ⟨S6, L6, d6⟩ := (S5.wipe (σ' := σ) vs pt ln).unward L.nP
      have sB := (s2.trans (s3.trans s4)).trans s5
      have hlen : acc.length < sizeLine := by
        have z1 := rA.len
        have z2 : (accD ++ z :: rest').length ≤ sizeLine := by
          rw [htot]
          exact hl
        rw [List.length_append, List.length_cons] at z2
        omega
      refine ⟨acc, d6, hlen, wipeE e4 vs, F5, acc ++ [u], accD ++ [z], rest', wipeE_idem, S6.put L6 _, sA.trans s5, L6, upd_same, (rA.mono sB _ _).append (.one r5), h6, ?_⟩
      rw [List.append_assoc]
      exact htot
    | false =>
      rw [if_neg (by decide)] at hrun ⊢
      obtain ⟨S6, L6, d6⟩ := (S4.wipe (σ' := σ) vs pt ln).unward L.nP
      exact ⟨wipeE e3 vs, F4, acc, accD, rest, wipeE_idem, S6, sA, L6, d6, rA.mono (s2.trans (s3.trans s4)) _ _, hrun, htot⟩
  · have e : i = ds.length := by omega
    subst e
    rw [List.drop_length] at hrun
    cases hrun
    rw [List.append_nil] at htot
    subst htot
    exact .inl ⟨ok'.stop _ H S'.sub (Nat.le_refl _), q D F' H S' (s1.trans s') L (.inl ⟨acc, accD, hD, rfl, rA⟩)⟩
/-! ### owned lists changed -/
def updL (i : Nat) (env : Evs) (f : List Dt → Option (List Dt)) : Option Evs := (env[i]?).bind fun s => match s.own with
  | some (.list ds) => (f ds).map fun ds' => env.set i (s.with (.list ds'))
  | _ => none
theorem updL_of {i : Nat} {env env' : Evs} {f : List Dt → Option (List Dt)} (h : updL i env f = some env') : ∃ s ds ds', env[i]? = some s ∧ s.own = some (.list ds) ∧ f ds = some ds' ∧ env' = env.set i (s.with (.list ds')) := by
  obtain ⟨s, h1, h2⟩ := bindS h
  split at h2
  · rename_i ds h3
    obtain ⟨ds', h4, h5⟩ := mapS h2
    exact ⟨s, ds, ds', h1, h3, h4, h5.symm⟩
  · cases h2
theorem ow_lst {F : Hp} {o : Option HO} {ds : List Dt} (h : OwOk K F o (.list ds)) : ∃ xs, o = some (.lst xs) ∧ RpA K F ds xs := by
  rcases h with ⟨xs, _, h2, h, h3⟩ | ⟨_, _, _, h, _⟩ | ⟨_, _, _, h, _⟩
  · cases h
    exact ⟨xs, h2, h3⟩
  · cases h
  · cases h
theorem ty_lst {H : Hp} {a : Addr} {xs : List V} (h : SqL K H a xs) : tyV K "list" (.ref a) H := .inl ⟨rfl, _, h⟩
/-- an owned list is at hand all the while -/
theorem Sn.lstAt {M : Fm} {env : Evs} {F : Hp} {σ : L2.St} {H : Hp} (S : Sn K M env F σ H) {i : Nat} {s : Sl} {ds : List Dt} (h : env[i]? = some s) (o : s.own = some (.list ds)) : ∃ a xs, σ[i]? = some (some (.ref a)) ∧ H a = some (.lst xs) ∧ RpA K F ds xs := by
  obtain ⟨a, h1, h2, h3⟩ := S.owS i s _ h o
  obtain ⟨xs, h4, h5⟩ := ow_lst h3
  exact ⟨a, xs, h1, h4, h5⟩
def isL (i : Nat) (env : Evs) : Option Unit := (env[i]?).bind fun s => match s.own with
  | some (.list _) => some ()
  | _ => none
theorem isL_of {i : Nat} {env : Evs} {u : Unit} (h : isL i env = some u) : ∃ s ds, env[i]? = some s ∧ s.own = some (.list ds) := by
  obtain ⟨s, h1, h2⟩ := bindS h
  split at h2
  · rename_i ds h3
    exact ⟨s, ds, h1, h3⟩
  · cases h2
def mApp (i : Nat) (a : Mx) : Mst := fun env => (isL i env).bind fun _ => (a env).bind fun p => (updL i p.1 fun ds => if ds.length < sizeLine then some (ds ++ [p.2]) else none).map .nx
theorem r_app {i : Nat} {ta : TE} {a : Mx} (ha : RE K ta a) : RS K (tDrop (tBM K "list" rAppend (tVar i) (tCons ta tNil))) (mApp i a) := fun M env F σ H fl D S e q => by
  obtain ⟨_, h0, h⟩ := bindS e
  obtain ⟨⟨e1, d⟩, h1, h⟩ := bindS h
  obtain ⟨e2, h2, h3⟩ := mapS h
  subst h3
  obtain ⟨s0, ds0, k0, k1⟩ := isL_of h0
  obtain ⟨a0, xs0, k2, k3, k4⟩ := S.lstAt k0 k1
  obtain ⟨s, ds, ds', g1, g2, g3, rfl⟩ := updL_of h2
  split at g3
  case isFalse => cases g3
  rename_i hl
  cases g3
  refine ⟨_, k2, ty_lst (SqL.of k3), ha M env F σ H e1 d _ S h1 fun v F1 H1 S1 s1 r1 => ?_⟩
  obtain ⟨a1, xs, j1, j2, j3⟩ := S1.lstAt g1 g2
  rw [k2] at j1
  cases j1
  refine ⟨a0, xs, v, rfl, rfl, j2, by rw [← j3.len]; exact hl, ?_⟩
  exact q σ F1 _ (S1.chg g1 g2 k2 (.inl ⟨_, _, rfl, rfl, j3.append (.one r1)⟩)) s1
def mExt (i : Nat) (a : Mx) : Mst := fun env => (isL i env).bind fun _ => (a env).bind fun p => match p.2 with
  | .list es => (updL i p.1 fun ds => if ds.length + es.length ≤ sizeLine then some (ds ++ es) else none).map .nx
  | _ => none
theorem r_ext {i : Nat} {ta : TE} {a : Mx} (ha : RE K ta a) : RS K (tDrop (tBM K "list" rExtend (tVar i) (tCons ta tNil))) (mExt i a) := fun M env F σ H fl D S e q => by
  obtain ⟨_, h0, h⟩ := bindS e
  obtain ⟨⟨e1, d⟩, h1, h⟩ := bindS h
  obtain ⟨s0, ds0, k0, k1⟩ := isL_of h0
  obtain ⟨a0, xs0, k2, k3, k4⟩ := S.lstAt k0 k1
  refine ⟨_, k2, ty_lst (SqL.of k3), ha M env F σ H e1 d _ S h1 fun v F1 H1 S1 s1 rv => ?_⟩
  obtain ⟨es, rfl⟩ : ∃ es, d = .list es := by cases d <;> first | exact ⟨_, rfl⟩ | cases h
  obtain ⟨b, ys, rfl, hF, r1⟩ := rv
  obtain ⟨e2, h2, h3⟩ := mapS h
  subst h3
  obtain ⟨s, ds, ds', g1, g2, g3, rfl⟩ := updL_of h2
  split at g3
  case isFalse => cases g3
  rename_i hl
  cases g3
  obtain ⟨a1, xs, j1, j2, j3⟩ := S1.lstAt g1 g2
  rw [k2] at j1
  cases j1
  refine ⟨a0, b, xs, ys, rfl, rfl, j2, S1.sub _ _ hF, by rw [← j3.len, ← r1.len]; exact hl, ?_⟩
  exact q σ F1 _ (S1.chg g1 g2 k2 (.inl ⟨_, _, rfl, rfl, j3.append r1⟩)) s1
/-- xs[k] = e -/
def mPut (i : Nat) (ti te : Mx) : Mst := fun env => (te env).bind fun p => (isL i p.1).bind fun _ => (ti p.1).bind fun k => match k.2 with
  | .int n => (updL i k.1 fun ds => (ixN ds.length n).map fun j => ds.set j p.2).map .nx
  | _ => none
theorem r_put {i : Nat} {tti tte : TE} {ti te : Mx} (hi : RE K tti ti) (he : RE K tte te) : RS K (tAsg tte (gSub (tVar i) tti rSetL)) (mPut i ti te) := fun M env F σ H fl D S e q => by
  obtain ⟨⟨e1, d⟩, h1, h⟩ := bindS e
  obtain ⟨_, h0, h⟩ := bindS h
  obtain ⟨⟨e2, k⟩, h2, h⟩ := bindS h
  obtain ⟨n, rfl⟩ : ∃ n, k = .int n := by cases k <;> first | exact ⟨_, rfl⟩ | cases h
  obtain ⟨e3, h3, h4⟩ := mapS h
  subst h4
  refine he M env F σ H e1 d _ S h1 fun v F1 H1 S1 s1 r1 => ?_
  obtain ⟨s0, ds0, k0, k1⟩ := isL_of h0
  obtain ⟨a0, xs0, k2, k3, k4⟩ := S1.lstAt k0 k1
  refine ⟨_, k2, hi M e1 F1 σ H1 e2 _ _ S1 h2 fun u F2 H2 S2 s2 r2 => ?_⟩
  obtain ⟨s, ds, ds', g1, g2, g3, rfl⟩ := updL_of h3
  obtain ⟨j, g4, rfl⟩ := mapS g3
  obtain ⟨a1, xs, j1, j2, j3⟩ := S2.lstAt g1 g2
  rw [k2] at j1
  cases j1
  refine ⟨a0, xs, n, j, rfl, r2, j2, by rw [← j3.len]; exact g4, ?_⟩
  exact q σ F2 _ (S2.chg g1 g2 k2 (.inl ⟨_, _, rfl, rfl, j3.set j (r1.mono s2 _ _)⟩)) (s1.trans s2)
/-- xs.pop(), xs.pop(k) -/
def mPop (i : Nat) : Mx := fun env => (env[i]?).bind fun s => match s.own with
  | some (.list ds) => (ds[ds.length - 1]?).map fun z => (env.set i (s.with (.list ds.dropLast)), z)
  | _ => none
theorem r_pop {i : Nat} : RE K (tBM0 K "list" rPop (tVar i)) (mPop i) := fun M env F σ H env' d Q S e q => by
  obtain ⟨s, h1, h⟩ := bindS e
  split at h
  · rename_i ds h2
    obtain ⟨z, h3, h4⟩ := mapS h
    cases h4
    obtain ⟨a, xs, k2, k3, k4⟩ := S.lstAt h1 h2
    obtain ⟨x, k5, k6⟩ := k4.get h3
    rw [k4.len] at k5
    exact ⟨_, k2, ty_lst (SqL.of k3), a, xs, x, rfl, rfl, k3, k5, q _ F _ (S.chg h1 h2 k2 (.inl ⟨_, _, rfl, rfl, k4.dropLast⟩)) (Same.refl F) k6⟩
  · cases h
def mPopAt (i : Nat) (ti : Mx) : Mx := fun env => (isL i env).bind fun _ => (ti env).bind fun k => match k.2 with
  | .int n => if -(2 ^ 63) ≤ n ∧ n < 2 ^ 63 then (k.1[i]?).bind fun s => match s.own with
    | some (.list ds) => (seqIndex? n ds.length).bind fun j => (ds[j]?).map fun z => (k.1.set i (s.with (.list (ds.eraseIdx j))), z)
    | _ => none
    else none
  | _ => none
theorem r_popAt {i : Nat} {tti : TE} {ti : Mx} (hi : RE K tti ti) : RE K (tBM K "list" rPopAt (tVar i) (tCons tti tNil)) (mPopAt i ti) := fun M env F σ H env' d Q S e q => by
  obtain ⟨_, h0, h⟩ := bindS e
  obtain ⟨⟨e1, k⟩, h1, h⟩ := bindS h
  obtain ⟨n, rfl⟩ : ∃ n, k = .int n := by cases k <;> first | exact ⟨_, rfl⟩ | cases h
  obtain ⟨s0, ds0, k0, k1⟩ := isL_of h0
  obtain ⟨a0, xs0, k2, k3, k4⟩ := S.lstAt k0 k1
  dsimp only at h
  split at h
  case isFalse => cases h
  rename_i hn
  obtain ⟨s, h2, h⟩ := bindS h
  split at h
  · rename_i ds h3
    obtain ⟨j, h4, h⟩ := bindS h
    obtain ⟨z, h5, h6⟩ := mapS h
    cases h6
    refine ⟨_, k2, ty_lst (SqL.of k3), hi M env F σ H e1 _ _ S h1 fun u F1 H1 S1 s1 r1 => ?_⟩
    obtain ⟨a1, xs, j1, j2, j3⟩ := S1.lstAt h2 h3
    rw [k2] at j1
    cases j1
    obtain ⟨x, k5, k6⟩ := j3.get h5
    refine ⟨a0, xs, n, j, x, rfl, ?_, j2, hn.1, hn.2, by rw [← j3.len]; exact h4, k5, q _ F1 _ (S1.chg h2 h3 k2 (.inl ⟨_, _, rfl, rfl, j3.erase j⟩)) s1 k6⟩
    rw [show u = .int n from r1]
  · cases h
end

/-! ### calls: what a def comes to -/
/-- a def by its data: of its arguments what they are behind it (where they were lent) and what is handed back -/
abbrev Gf := List Dt → Option (List Dt × Sl)
structure ArgOk (K : PySem.W.Frag) (F H : Hp) (bs : List Bool) (ds : List Dt) (vs : List V) : Prop where
  lv : vs.length = bs.length
  ld : ds.length = bs.length
  fz : ∀ (i : Nat) (d : Dt) (v : V), bs[i]? = some false → ds[i]? = some d → vs[i]? = some v → Rp K F d v
  bo : ∀ (i : Nat) (d : Dt) (v : V), bs[i]? = some true → ds[i]? = some d → vs[i]? = some v → ∃ a, v = .ref a ∧ F a = none ∧ OwOk K F (H a) d
  ap : ∀ (i j : Nat) (a : Addr), i ≠ j → bs[i]? = some true → bs[j]? = some true → vs[i]? = some (.ref a) → vs[j]? ≠ some (.ref a)
/-- lent to the call -/
def Lent (bs : List Bool) (vs : List V) (a : Addr) : Prop := ∃ i : Nat, bs[i]? = some true ∧ vs[i]? = some (V.ref a)
structure Post (K : PySem.W.Frag) (F H : Hp) (bs : List Bool) (vs : List V) (outs : List Dt) (r : Sl) (v : V) (F' H' : Hp) : Prop where
  up : Same F F'
  sub : Same F' H'
  new : ∀ a o, F' a = some o → F a = some o ∨ H a = none ∨ ∃ xs, o = .tup xs
  old : ∀ a o, H a = some o → ¬ Lent bs vs a → a ∉ tabs K → H' a = some o
  dom : ∀ a o, H a = some o → ∃ o', H' a = some o'
  tab : ∀ t, t ∈ tabs K → TbO (H' t) ∧ F' t = none
  outs : ∀ (i : Nat) (d : Dt) (a : Addr), bs[i]? = some true → vs[i]? = some (.ref a) → outs[i]? = some d → F' a = none ∧ OwOk K F' (H' a) d
  res : match r with
    | .fz d => Rp K F' d v
    | .ow d => ∃ p, v = .ref p ∧ H p = none ∧ F' p = none ∧ OwOk K F' (H' p) d
    | _ => False
def SpM (K : PySem.W.Frag) (bs : List Bool) (g : Gf) : Sp := fun vs H Q _ => ∃ (F : Hp) (ds outs : List Dt) (r : Sl), Same F H ∧ (∀ t, t ∈ tabs K → TbO (H t) ∧ F t = none) ∧ ArgOk K F H bs ds vs ∧ g ds = some (outs, r) ∧ ∀ v F' H', Post K F H bs vs outs r v F' H' → Q v H'
theorem SpM.len {K : PySem.W.Frag} {bs : List Bool} {g : Gf} {vs : List V} {H : Hp} {Q : VK} {E : XK} (h : SpM K bs g vs H Q E) : vs.length = bs.length := by
  obtain ⟨F, ds, outs, r, _, _, a, _⟩ := h
  exact a.lv
/-- the slots at the entry -/
def env0 (n : Nat) (bs : List Bool) (ds : List Dt) : Evs := (List.zipWith (fun (b : Bool) d => if b then Sl.bo d else Sl.fz d) bs ds) ++ List.replicate (n - ds.length) .un
/-- what the lent ones are at the end -/
def outsOf (e : Evs) : List Bool → Nat → Option (List Dt)
  | [], _ => some []
  | false :: bs, i => (outsOf e bs (i + 1)).map fun r => .none :: r
  | true :: bs, i => match e[i]? with
    | some (.bo d) => (outsOf e bs (i + 1)).map fun r => d :: r
    | _ => none
/-- the def from its body -/
def bodyG (n : Nat) (bs : List Bool) (m : Mst) : Gf := fun ds => (m (env0 n bs ds)).bind fun fl => match fl with
  | .rt e (.fz d) => (outsOf e bs 0).map fun o => (o, .fz d)
  | .rt e (.ow d) => (outsOf e bs 0).map fun o => (o, .ow d)
  | .nx e => (outsOf e bs 0).map fun o => (o, .fz .none)
  | _ => none
theorem outsOf_get {e : Evs} : ∀ {bs : List Bool} {k : Nat} {os : List Dt} {i : Nat} {d : Dt}, outsOf e bs k = some os → bs[i]? = some true → os[i]? = some d → e[k + i]? = some (.bo d)
  | [], _, _, _, _, _, h, _ => by simp at h
  | false :: bs, k, os, i, d, h, h1, h2 => by
    obtain ⟨r, h3, h4⟩ := mapS h
    subst h4
    cases i with
    | zero => cases h1
    | succ i =>
      have z := outsOf_get (i := i) h3 (by simpa using h1) (by simpa using h2)
      rw [show k + (i + 1) = k + 1 + i by omega]
      exact z
  | true :: bs, k, os, i, d, h, h1, h2 => by
    unfold outsOf at h
    split at h
    · rename_i d0 h0
      obtain ⟨r, h3, h4⟩ := mapS h
      subst h4
      cases i with
      | zero =>
        cases h2
        exact h0
      | succ i =>
        have z := outsOf_get (i := i) h3 (by simpa using h1) (by simpa using h2)
        rw [show k + (i + 1) = k + 1 + i by omega]
        exact z
    · cases h
section
variable {K : PySem.W.Frag}
theorem start_get {N : List Str} {vs : List V} {i : Nat} {v : V} (h : vs[i]? = some v) : (L2.start N vs)[i]? = some (some v) := by
  unfold L2.start
  have l := (List.getElem?_eq_some_iff.mp h).1
  rw [List.getElem?_append_left (by simpa using l), List.getElem?_map, h]
  rfl
theorem env0_get {n : Nat} {bs : List Bool} {ds : List Dt} {i : Nat} {s : Sl} (hl : ds.length = bs.length) (h : (env0 n bs ds)[i]? = some s) (ns : s ≠ .un) : ∃ b d, bs[i]? = some b ∧ ds[i]? = some d ∧ s = if b then Sl.bo d else Sl.fz d := by
  unfold env0 at h
  by_cases c : i < (List.zipWith (fun (b : Bool) d => if b then Sl.bo d else Sl.fz d) bs ds).length
  · rw [List.getElem?_append_left c, List.getElem?_zipWith] at h
    cases hb : bs[i]? with
    | none =>
      rw [hb] at h
      simp at h
    | some b =>
      cases hd : ds[i]? with
      | none =>
        rw [hb, hd] at h
        simp at h
      | some d =>
        rw [hb, hd] at h
        simp at h
        exact ⟨b, d, rfl, rfl, h.symm⟩
  · rw [List.getElem?_append_right (by omega), List.getElem?_replicate] at h
    split at h
    · cases h
      exact absurd rfl ns
    · cases h
theorem env0_len {n : Nat} {bs : List Bool} {ds : List Dt} (hl : ds.length = bs.length) (hn : bs.length ≤ n) : (env0 n bs ds).length = n := by
  unfold env0
  rw [List.length_append, List.length_zipWith, List.length_replicate]
  omega
theorem start_len {N : List Str} {vs : List V} (h : vs.length ≤ N.length) : (L2.start N vs).length = N.length := by
  unfold L2.start
  rw [List.length_append, List.length_map, List.length_replicate]
  omega
/-- the entry -/
theorem sn_start {F H : Hp} {bs : List Bool} {ds : List Dt} {vs : List V} {N : List Str} (s : Same F H) (tb : ∀ t, t ∈ tabs K → TbO (H t) ∧ F t = none) (a : ArgOk K F H bs ds vs) (hn : bs.length ≤ N.length) :
    Sn K ⟨F, H, fun i => match bs[i]?, vs[i]? with | some true, some (.ref a) => some a | _, _ => none, fun _ => none⟩ (env0 N.length bs ds) F (L2.start N vs) H := by
  have lend : ∀ {i : Nat} {d : Dt} {v : V}, bs[i]? = some true → ds[i]? = some d → vs[i]? = some v → ∃ p, v = .ref p ∧ F p = none ∧ OwOk K F (H p) d := fun h1 h2 h3 => a.bo _ _ _ h1 h2 h3
  have val : ∀ {i : Nat} {d : Dt}, ds[i]? = some d → ∃ v, vs[i]? = some v := fun {i d} h => by
    have l := (List.getElem?_eq_some_iff.mp h).1
    exact ⟨_, List.getElem?_eq_getElem (by rw [a.lv, ← a.ld]; exact l)⟩
  refine ⟨s, fun _ _ h _ _ => h, fun _ o h => ⟨o, h⟩, Same.refl F, fun _ _ h => .inl h, fun i d h => ?_, fun i sl d h ho => ?_, fun i d p h hp => ?_, fun i d h => ?_, fun i j sl tl d e p n h h' ho ho' hp hp' => ?_, fun _ _ h => (nomatch h), fun t ht => ⟨(tb t ht).1, (tb t ht).2, let ⟨ps, z, _⟩ := (tb t ht).1; ⟨_, z⟩⟩, ?_, fun _ _ _ h => (nomatch h)⟩
  · obtain ⟨b, d', h1, h2, h3⟩ := env0_get a.ld h (by simp)
    cases b with
    | true => cases h3
    | false =>
      cases h3
      obtain ⟨v, hv⟩ := val h2
      exact ⟨v, start_get hv, a.fz i d v h1 h2 hv⟩
  · obtain ⟨b, d', h1, h2, h3⟩ := env0_get a.ld h (by rintro rfl; cases ho)
    cases b with
    | false =>
      subst h3
      cases ho
    | true =>
      subst h3
      cases ho
      obtain ⟨v, hv⟩ := val h2
      obtain ⟨p, rfl, h4, h5⟩ := lend h1 h2 hv
      exact ⟨p, start_get hv, h4, h5⟩
  · obtain ⟨b, d', h1, h2, h3⟩ := env0_get a.ld h (by simp)
    cases b <;> cases h3
  · obtain ⟨b, d', h1, h2, h3⟩ := env0_get a.ld h (by simp)
    cases b with
    | false => cases h3
    | true =>
      cases h3
      obtain ⟨v, hv⟩ := val h2
      obtain ⟨p, rfl, h4, h5⟩ := lend h1 h2 hv
      refine ⟨p, ?_, start_get hv⟩
      dsimp only
      rw [h1, hv]
  · obtain ⟨b, d1, h1, h2, h3⟩ := env0_get a.ld h (by rintro rfl; cases ho)
    obtain ⟨b', d2, h1', h2', h3'⟩ := env0_get a.ld h' (by rintro rfl; cases ho')
    cases b with
    | false =>
      subst h3
      cases ho
    | true =>
      cases b' with
      | false =>
        subst h3'
        cases ho'
      | true =>
        obtain ⟨v, hv⟩ := val h2
        obtain ⟨u, hu⟩ := val h2'
        rw [start_get hv] at hp
        rw [start_get hu] at hp'
        cases hp
        cases hp'
        exact a.ap i j p n h1 h1' hv hu
  · rw [env0_len a.ld hn, start_len (by rw [a.lv]; exact hn)]
/-- the end -/
theorem sn_end {F H F' H' : Hp} {bs : List Bool} {vs : List V} {outs : List Dt} {e : Evs} {σ : L2.St} {r : Sl} {v : V}
    (S : Sn K ⟨F, H, fun i => match bs[i]?, vs[i]? with | some true, some (.ref a) => some a | _, _ => none, fun _ => none⟩ e F' σ H') (ho : outsOf e bs 0 = some outs)
    (hr : match r with
    | .fz d => Rp K F' d v
    | .ow d => ∃ p, v = .ref p ∧ H p = none ∧ F' p = none ∧ OwOk K F' (H' p) d
    | _ => False) : Post K F H bs vs outs r v F' H' := by
  refine ⟨S.mon, S.sub, S.new, fun a o h n nt => S.old a o h (fun i z => ?_) nt, S.dom, fun t ht => ⟨(S.tab t ht).1, (S.tab t ht).2.1⟩, fun i d a h1 h2 h3 => ?_, hr⟩
  · dsimp only at z
    split at z
    · rename_i b h1 h2
      cases z
      exact n ⟨i, h1, h2⟩
    · cases z
  · have z := outsOf_get ho h1 h3
    rw [Nat.zero_add] at z
    obtain ⟨b, y1, y2⟩ := S.boF i d z
    dsimp only at y1
    rw [h1, h2] at y1
    cases y1
    obtain ⟨b', y3, y4, y5⟩ := S.owS i _ d z rfl
    rw [y2] at y3
    cases y3
    exact ⟨y4, y5⟩
/-- a def's body, read by data -/
theorem body_ok {t : TS} {m : Mst} {bs : List Bool} {N : List Str} {vs : List V} {H : Hp} {Q : VK} {E : XK} (hn : bs.length ≤ N.length) (h : RS K t m) (hs : SpM K bs (bodyG N.length bs m) vs H Q E) :
    t { nx := fun _ H' => Q .non H', rt := Q } (L2.start N vs) H := by
  obtain ⟨F, ds, outs, r, s, tb, a, hg, q⟩ := hs
  obtain ⟨fl, h1, h2⟩ := bindS hg
  refine h _ _ F _ H fl _ (sn_start s tb a hn) h1 ?_
  cases fl with
  | nx e =>
    obtain ⟨o, h3, h4⟩ := mapS h2
    cases h4
    exact fun σ F' H' S _ => q _ F' H' (sn_end S h3 rfl)
  | bk e => cases h2
  | ct e => cases h2
  | rt e r' =>
    cases r' with
    | fz d =>
      obtain ⟨o, h3, h4⟩ := mapS h2
      cases h4
      exact fun v σ F' H' S _ rp => q _ F' H' (sn_end S h3 rp)
    | ow d =>
      obtain ⟨o, h3, h4⟩ := mapS h2
      cases h4
      exact fun p σ F' H' S _ L ok => q _ F' H' (sn_end S h3 ⟨p, rfl, L.fresh, L.nF, ok⟩)
    | un => cases h2
    | bo d => cases h2
theorem SpM.to {bs : List Bool} {g g' : Gf} {vs : List V} {H : Hp} {Q : VK} {E : XK} (hg : ∀ ds z, g' ds = some z → g ds = some z) (h : SpM K bs g' vs H Q E) : SpM K bs g vs H Q E := by
  obtain ⟨F, ds, outs, r, s, tb, a, h1, q⟩ := h
  exact ⟨F, ds, outs, r, s, tb, a, hg _ _ h1, q⟩
/-! the caller's side -/
inductive Ar where
  | val (d : Dt) | sl (i : Nat)
abbrev Mar := Evs → Option (Evs × List Ar)
def ArV (K : PySem.W.Frag) (F : Hp) (σ : L2.St) : Ar → V → Prop
  | .val d, v => Rp K F d v
  | .sl i, v => ∃ a, v = .ref a ∧ σ[i]? = some (some (.ref a))
inductive ArsOk (K : PySem.W.Frag) (F : Hp) (σ : L2.St) : List Ar → List V → Prop where
  | nil : ArsOk K F σ [] []
  | cons {a : Ar} {v : V} {as : List Ar} {vs : List V} : ArV K F σ a v → ArsOk K F σ as vs → ArsOk K F σ (a :: as) (v :: vs)
theorem ArsOk.get {F : Hp} {σ : L2.St} {as : List Ar} {vs : List V} (h : ArsOk K F σ as vs) : ∀ {i : Nat} {a : Ar} {v : V}, as[i]? = some a → vs[i]? = some v → ArV K F σ a v := by
  induction h with
  | nil => intro i a v h; simp at h
  | cons h1 _ ih =>
    intro i a v e e'
    cases i with
    | zero =>
      simp at e e'
      subst e e'
      exact h1
    | succ i => exact ih (by simpa using e) (by simpa using e')
theorem ArsOk.len {F : Hp} {σ : L2.St} {as : List Ar} {vs : List V} (h : ArsOk K F σ as vs) : as.length = vs.length := by
  induction h with
  | nil => rfl
  | cons _ _ ih => simp [ih]
def RAr (K : PySem.W.Frag) (t : TA) (m : Mar) : Prop := ∀ (M : Fm) (env : Evs) (F : Hp) (σ : L2.St) (H : Hp) (env' : Evs) (as : List Ar) (Q : List V → Hp → Prop), Sn K M env F σ H → m env = some (env', as) →
  (∀ vs F' H', Sn K M env' F' σ H' → Same F F' → ArsOk K F' σ as vs → Q vs H') → t σ H Q
def aNil : Mar := fun env => some (env, [])
def aVal (a : Mx) (b : Mar) : Mar := fun env => (a env).bind fun p => (b p.1).map fun q => (q.1, .val p.2 :: q.2)
def aSl (i : Nat) (b : Mar) : Mar := fun env => (mPeek i env).bind fun _ => (b env).map fun q => (q.1, .sl i :: q.2)
theorem a_nil : RAr K tNil aNil := fun M env F σ H env' as Q S e q => by
  cases e
  exact q [] F H S (Same.refl F) .nil
theorem a_val {ta : TE} {tr : TA} {a : Mx} {b : Mar} (ha : RE K ta a) (hb : RAr K tr b) : RAr K (tCons ta tr) (aVal a b) := fun M env F σ H env' as Q S e q => by
  obtain ⟨⟨e1, x⟩, h1, h⟩ := bindS e
  obtain ⟨⟨e2, y⟩, h2, h⟩ := mapS h
  cases h
  refine ha M env F σ H e1 x _ S h1 fun v F1 H1 S1 s1 r1 => ?_
  exact hb M e1 F1 σ H1 _ y _ S1 h2 fun vs F2 H2 S2 s2 r2 => q (v :: vs) F2 H2 S2 (s1.trans s2) (.cons (r1.mono s2 _ _) r2)
theorem a_sl {tr : TA} {i : Nat} {b : Mar} (hb : RAr K tr b) : RAr K (tCons (tVar i) tr) (aSl i b) := fun M env F σ H env' as Q S e q => by
  obtain ⟨⟨e1, x⟩, h1, h⟩ := bindS e
  obtain ⟨⟨e2, y⟩, h2, h⟩ := mapS h
  cases h
  obtain ⟨s0, w1, w2⟩ := bindS h1
  obtain ⟨d0, w3, w4⟩ := mapS w2
  obtain ⟨a, z1, z2, z3⟩ := S.owS i s0 d0 w1 w3
  exact ⟨_, z1, hb M env F σ H _ y _ S h2 fun vs F2 H2 S2 s2 r2 => q (.ref a :: vs) F2 H2 S2 s2 (.cons ⟨a, rfl, z1⟩ r2)⟩
/-- the arguments' data at the call; which are lent; the slots behind it -/
def arD (e : Evs) : Ar → Option Dt
  | .val d => some d
  | .sl i => (e[i]?).bind Sl.own
def isSl : Ar → Bool
  | .val _ => false
  | .sl _ => true
def arsD (e : Evs) : List Ar → Option (List Dt)
  | [] => some []
  | a :: as => (arD e a).bind fun d => (arsD e as).map fun r => d :: r
def backE : List Ar → List Dt → Evs → Evs
  | .sl i :: as, d :: ds, env => backE as ds (env.set i ((env.getD i .un).with d))
  | .val _ :: as, _ :: ds, env => backE as ds env
  | _, _, env => env
def slots : List Ar → List Nat
  | [] => []
  | .val _ :: as => slots as
  | .sl i :: as => i :: slots as
def nodupB : List Nat → Bool
  | [] => true
  | i :: r => !r.contains i && nodupB r
theorem arsD_get {e : Evs} : ∀ {as : List Ar} {ds : List Dt} {i : Nat} {a : Ar}, arsD e as = some ds → as[i]? = some a → ∃ d, ds[i]? = some d ∧ arD e a = some d
  | [], _, _, _, _, h => by simp at h
  | b :: as, _, i, a, h, h1 => by
    obtain ⟨d, h2, h3⟩ := bindS h
    obtain ⟨r, h4, h5⟩ := mapS h3
    subst h5
    cases i with
    | zero =>
      simp at h1
      subst h1
      exact ⟨d, rfl, h2⟩
    | succ i =>
      obtain ⟨d', h6, h7⟩ := arsD_get (i := i) h4 (by simpa using h1)
      exact ⟨d', by simpa using h6, h7⟩
theorem arsD_len {e : Evs} : ∀ {as : List Ar} {ds : List Dt}, arsD e as = some ds → ds.length = as.length
  | [], _, h => by
    cases h
    rfl
  | b :: as, _, h => by
    obtain ⟨d, h2, h3⟩ := bindS h
    obtain ⟨r, h4, h5⟩ := mapS h3
    subst h5
    simp [arsD_len h4]
theorem mem_slots : ∀ {as : List Ar} {k i : Nat}, as[k]? = some (.sl i) → i ∈ slots as
  | [], _, _, h => by simp at h
  | .val _ :: as, 0, _, h => by simp at h
  | .sl j :: as, 0, i, h => by
    simp at h
    subst h
    exact List.mem_cons_self
  | .val _ :: as, k + 1, i, h => mem_slots (as := as) (by simpa using h)
  | .sl j :: as, k + 1, i, h => List.mem_cons_of_mem _ (mem_slots (as := as) (by simpa using h))
theorem nodup_slots : ∀ {as : List Ar} {k l i : Nat}, nodupB (slots as) = true → as[k]? = some (.sl i) → as[l]? = some (.sl i) → k = l
  | [], _, _, _, _, h, _ => by simp at h
  | .val d :: as, k, l, i, n, h, h' => by
    cases k with
    | zero => simp at h
    | succ k =>
      cases l with
      | zero => simp at h'
      | succ l => exact congrArg (· + 1) (nodup_slots (as := as) (k := k) (l := l) (i := i) n (by simpa using h) (by simpa using h'))
  | .sl j :: as, k, l, i, n, h, h' => by
    have n' : (!(slots as).contains j && nodupB (slots as)) = true := n
    rw [Bool.and_eq_true] at n'
    have nj : j ∉ slots as := by simpa using n'.1
    cases k with
    | zero =>
      cases l with
      | zero => rfl
      | succ l =>
        simp at h
        subst h
        exact absurd (mem_slots (as := as) (by simpa using h')) nj
    | succ k =>
      cases l with
      | zero =>
        simp at h'
        subst h'
        exact absurd (mem_slots (as := as) (by simpa using h)) nj
      | succ l => exact congrArg (· + 1) (nodup_slots (as := as) (k := k) (l := l) (i := i) n'.2 (by simpa using h) (by simpa using h'))
/-- the slots behind the call, place by place -/
theorem backE_get : ∀ {as : List Ar} {os : List Dt} {env : Evs} {j : Nat}, as.length = os.length → nodupB (slots as) = true →
    (∃ (k : Nat) (o : Dt) (s : Sl), as[k]? = some (Ar.sl j) ∧ os[k]? = some o ∧ env[j]? = some s ∧ (backE as os env)[j]? = some (s.with o)) ∨ ((∀ k : Nat, as[k]? = some (Ar.sl j) → env[j]? = none) ∧ (backE as os env)[j]? = env[j]?)
  | [], _, env, j, _, _ => .inr ⟨fun k h => by simp at h, by unfold backE; rfl⟩
  | .val d :: as, [], _, _, h, _ => by simp at h
  | .sl i :: as, [], _, _, h, _ => by simp at h
  | .val d :: as, o :: os, env, j, h, n => by
    rcases backE_get (as := as) (os := os) (env := env) (j := j) (by simpa using h) n with ⟨k, o', s, h1, h2, h3, h4⟩ | ⟨h1, h2⟩
    · exact .inl ⟨k + 1, o', s, by simpa using h1, by simpa using h2, h3, h4⟩
    · refine .inr ⟨fun k hk => ?_, h2⟩
      cases k with
      | zero => simp at hk
      | succ k => exact h1 k (by simpa using hk)
  | .sl i :: as, o :: os, env, j, h, n => by
    have n' : (!(slots as).contains i && nodupB (slots as)) = true := n
    rw [Bool.and_eq_true] at n'
    have ni : i ∉ slots as := by simpa using n'.1
    have eB : backE (.sl i :: as) (o :: os) env = backE as os (env.set i ((env.getD i .un).with o)) := rfl
    rw [eB]
    rcases backE_get (as := as) (os := os) (env := env.set i ((env.getD i .un).with o)) (j := j) (by simpa using h) n'.2 with ⟨k, o', s, h1, h2, h3, h4⟩ | ⟨h1, h2⟩
    · have ne : i ≠ j := by
        rintro rfl
        exact ni (mem_slots h1)
      rw [List.getElem?_set_ne ne] at h3
      exact .inl ⟨k + 1, o', s, by simpa using h1, by simpa using h2, h3, h4⟩
    · by_cases c : i = j
      · subst c
        by_cases l : i < env.length
        · refine .inl ⟨0, o, env[i], rfl, rfl, List.getElem?_eq_getElem l, ?_⟩
          rw [h2, List.getElem?_set_self l, List.getD_eq_getElem?_getD, List.getElem?_eq_getElem l]
          rfl
        · refine .inr ⟨fun k hk => List.getElem?_eq_none (by omega), ?_⟩
          rw [h2, List.getElem?_eq_none (by simp; omega), List.getElem?_eq_none (by omega)]
      · refine .inr ⟨fun k hk => ?_, ?_⟩
        · cases k with
          | zero =>
            simp at hk
            exact absurd hk c
          | succ k =>
            have z := h1 k (by simpa using hk)
            rw [List.getElem?_set_ne c] at z
            exact z
        · rw [h2, List.getElem?_set_ne c]
theorem with_own {s : Sl} {d d' : Dt} (h : s.own = some d) : (s.with d').own = some d' := by
  cases s <;> first | (cases h; done) | rfl
theorem with_kind {s : Sl} {d d' e : Dt} (h : s.own = some d) : (s.with d' = .ow e → s = .ow d ∧ e = d') ∧ (s.with d' = .bo e → s = .bo d ∧ e = d') ∧ s.with d' ≠ .fz e := by
  cases s <;> first | (cases h; done) | skip
  · cases h
    refine ⟨fun z => ?_, fun z => ?_, fun z => ?_⟩
    · cases z
      exact ⟨rfl, rfl⟩
    · cases z
    · cases z
  · cases h
    refine ⟨fun z => ?_, fun z => ?_, fun z => ?_⟩
    · cases z
    · cases z
      exact ⟨rfl, rfl⟩
    · cases z
theorem backE_len : ∀ (as : List Ar) (os : List Dt) (env : Evs), (backE as os env).length = env.length
  | [], _, _ => by unfold backE; rfl
  | .val d :: as, [], _ => by unfold backE; rfl
  | .sl i :: as, [], _ => by unfold backE; rfl
  | .val d :: as, o :: os, env => backE_len as os env
  | .sl i :: as, o :: os, env => by
    show (backE as os _).length = _
    rw [backE_len as os]
    simp
/-- behind a call -/
theorem Sn.called {M : Fm} {env : Evs} {F F' : Hp} {σ : L2.St} {H H' : Hp} {as : List Ar} {ds os : List Dt} {vs : List V} {r : Sl} {v : V} (S : Sn K M env F σ H) (hA : ArsOk K F σ as vs) (hD : arsD env as = some ds) (n : nodupB (slots as) = true) (hl : os.length = as.length)
    (P : Post K F H (as.map isSl) vs os r v F' H') : Sn K M (backE as os env) F' σ H' := by
  have lentAt : ∀ {k i : Nat}, as[k]? = some (.sl i) → ∃ (a : Addr) (s : Sl) (d : Dt), vs[k]? = some (V.ref a) ∧ σ[i]? = some (some (V.ref a)) ∧ env[i]? = some s ∧ s.own = some d := fun {k i} h => by
    have l : k < vs.length := by
      rw [← hA.len]
      exact (List.getElem?_eq_some_iff.mp h).1
    obtain ⟨a, h1, h2⟩ := hA.get h (List.getElem?_eq_getElem l)
    obtain ⟨d, h3, h4⟩ := arsD_get hD h
    obtain ⟨s, h5, h6⟩ := bindS h4
    exact ⟨a, s, d, by rw [List.getElem?_eq_getElem l, h1], h2, h5, h6⟩
  have lent : ∀ a, Lent (as.map isSl) vs a → ∃ (i : Nat) (s : Sl) (d : Dt), σ[i]? = some (some (V.ref a)) ∧ env[i]? = some s ∧ s.own = some d ∧ ∃ k : Nat, as[k]? = some (Ar.sl i) := fun a h => by
    obtain ⟨k, h1, h2⟩ := h
    rw [List.getElem?_map] at h1
    obtain ⟨ar, h3, h4⟩ := mapS h1
    cases ar with
    | val d => cases h4
    | sl i =>
      obtain ⟨a', s, d, k1, k2, k3, k4⟩ := lentAt h3
      rw [h2] at k1
      cases k1
      exact ⟨i, s, d, k2, k3, k4, k, h3⟩
  -- the slots
  have slot : ∀ {j : Nat} {s' : Sl}, (backE as os env)[j]? = some s' → (∃ (k : Nat) (o : Dt) (s : Sl) (d : Dt) (a : Addr), as[k]? = some (Ar.sl j) ∧ os[k]? = some o ∧ env[j]? = some s ∧ s.own = some d ∧ s' = s.with o ∧ vs[k]? = some (V.ref a) ∧ σ[j]? = some (some (V.ref a))) ∨ ((∀ k : Nat, as[k]? ≠ some (Ar.sl j)) ∧ env[j]? = some s') := fun {j s'} h => by
    rcases backE_get (as := as) (os := os) (env := env) (j := j) hl.symm n with ⟨k, o, s, h1, h2, h3, h4⟩ | ⟨h1, h2⟩
    · rw [h4] at h
      cases h
      obtain ⟨a, s1, d, k1, k2, k3, k4⟩ := lentAt h1
      rw [h3] at k3
      cases k3
      exact .inl ⟨k, o, s, d, a, h1, h2, h3, k4, rfl, k1, k2⟩
    · rw [h2] at h
      refine .inr ⟨fun k hk => ?_, h⟩
      rw [h1 k hk] at h
      cases h
  have kept : ∀ {j : Nat} {s : Sl} {d : Dt} {a : Addr}, env[j]? = some s → s.own = some d → σ[j]? = some (some (.ref a)) → (∀ k : Nat, as[k]? ≠ some (Ar.sl j)) → ¬ Lent (as.map isSl) vs a := fun {j s d a} h1 h2 h3 h4 hL => by
    obtain ⟨i, s', d', k1, k2, k3, k, k4⟩ := lent a hL
    by_cases c : i = j
    · subst c
      exact h4 k k4
    · exact S.apt i j s' s d' d a c k2 h1 k3 h2 k1 h3
  have back : ∀ {j : Nat} {s' : Sl} {d' : Dt}, (backE as os env)[j]? = some s' → s'.own = some d' → ∃ s d, env[j]? = some s ∧ s.own = some d := fun {j s' d'} h ho => by
    rcases slot h with ⟨k, o, s, d, a, h1, h2, h3, h4, h5, h6, h7⟩ | ⟨h1, h2⟩
    · exact ⟨s, d, h3, h4⟩
    · exact ⟨s', d', h2, ho⟩
  refine ⟨P.sub, fun a o h nb nt => ?_, fun a o h => ?_, fun a o h => P.up _ _ (S.mon a o h), fun a o h => ?_, fun j d h => ?_, fun j s' d h ho => ?_, fun j d a h hp => ?_, fun j d h => ?_, fun i j s t d e a c h h' ho ho' hp => ?_, fun p o h => ?_, fun t ht => ⟨(P.tab t ht).1, (P.tab t ht).2, (S.tab t ht).2.2⟩, by rw [backE_len, S.len], S.pnt⟩
  · refine P.old a o (S.old a o h nb nt) (fun hL => ?_) nt
    obtain ⟨i, s, d, k1, k2, k3, k, k4⟩ := lent a hL
    cases s with
    | un => cases k3
    | fz _ => cases k3
    | ow d0 =>
      rw [S.owF i d0 a k2 k1] at h
      cases h
    | bo d0 =>
      obtain ⟨b, y1, y2⟩ := S.boF i d0 k2
      rw [k1] at y2
      cases y2
      exact nb i y1
  · obtain ⟨o', h1⟩ := S.dom a o h
    exact P.dom a o' h1
  · rcases P.new a o h with h1 | h1 | h1
    · exact S.new a o h1
    · exact .inr (.inl (S.free h1).1)
    · exact .inr (.inr h1)
  · rcases slot h with ⟨k, o, s, d0, a, h1, h2, h3, h4, h5, h6, h7⟩ | ⟨h1, h2⟩
    · exact absurd h5.symm (with_kind (e := d) h4).2.2
    · obtain ⟨v, y1, y2⟩ := S.fzS j d h2
      exact ⟨v, y1, y2.mono P.up _ _⟩
  · rcases slot h with ⟨k, o, s, d0, a, h1, h2, h3, h4, h5, h6, h7⟩ | ⟨h1, h2⟩
    · subst h5
      rw [with_own h4] at ho
      cases ho
      have hb : (as.map isSl)[k]? = some true := by
        rw [List.getElem?_map, h1]
        rfl
      obtain ⟨y1, y2⟩ := P.outs k _ a hb h6 h2
      exact ⟨a, h7, y1, y2⟩
    · obtain ⟨a, y1, y2, y3⟩ := S.owS j s' d h2 ho
      have nl := kept h2 ho y1 h1
      obtain ⟨u, hu⟩ := y3.some
      refine ⟨a, y1, ?_, ?_⟩
      · cases hF : F' a with
        | none => rfl
        | some z =>
          rcases P.new a z hF with w | w | w
          · rw [y2] at w
            cases w
          · rw [hu] at w
            cases w
          · obtain ⟨xs, rfl⟩ := w
            have q := P.sub a _ hF
            rw [P.old a u hu nl (fun ht => y3.tb (S.tab a ht).1)] at q
            cases q
            rw [hu] at y3
            exact (y3.notup xs rfl).elim
      · rw [P.old a u hu nl (fun ht => y3.tb (S.tab a ht).1), ← hu]
        exact y3.mono P.up
  · rcases slot h with ⟨k, o, s, d0, b, h1, h2, h3, h4, h5, h6, h7⟩ | ⟨h1, h2⟩
    · obtain ⟨z, _⟩ := (with_kind (d' := o) (e := d) h4).1 h5.symm
      subst z
      exact S.owF j d0 a h3 hp
    · exact S.owF j d a h2 hp
  · rcases slot h with ⟨k, o, s, d0, b, h1, h2, h3, h4, h5, h6, h7⟩ | ⟨h1, h2⟩
    · obtain ⟨z, _⟩ := (with_kind (d' := o) (e := d) h4).2.1 h5.symm
      subst z
      exact S.boF j d0 h3
    · exact S.boF j d h2
  · obtain ⟨s1, d1, y1, y2⟩ := back h ho
    obtain ⟨s2, d2, y3, y4⟩ := back h' ho'
    exact S.apt i j s1 s2 d1 d2 a c y1 y3 y2 y4 hp
  · obtain ⟨y1, y2, y3, y4⟩ := S.prt p o h
    have nl : ¬ Lent (as.map isSl) vs p := fun hL => by
      obtain ⟨i, s, d, k1, k2, k3, k, k4⟩ := lent p hL
      exact y4 i s d k2 k3 k1
    have po := P.old p o y1 nl (fun ht => by
      obtain ⟨o', z⟩ := (S.tab p ht).2.2
      rw [y3] at z
      cases z)
    refine ⟨po, ?_, y3, fun i s d h1 h2 => ?_⟩
    · cases hF : F' p with
      | none => rfl
      | some z =>
        rcases P.new p z hF with w | w | w
        · rw [y2] at w
          cases w
        · rw [y1] at w
          cases w
        · obtain ⟨xs, rfl⟩ := w
          have q := P.sub p _ hF
          rw [po] at q
          cases q
          exact (S.pnt p _ xs h rfl).elim
    · obtain ⟨s1, d1, y5, y6⟩ := back h1 h2
      exact y4 i s1 d1 y5 y6
/-- f(..) -/
def mCall (bs : List Bool) (g : Gf) (a : Mar) : Evs → Option (Evs × Sl) := fun env => (a env).bind fun p => (arsD p.1 p.2).bind fun ds => (g ds).bind fun q =>
  if p.2.map isSl = bs ∧ nodupB (slots p.2) = true ∧ q.1.length = p.2.length then some (backE p.2 q.1 p.1, q.2) else none
def mCallF (bs : List Bool) (g : Gf) (a : Mar) : Mx := fun env => (mCall bs g a env).bind fun p => match p.2 with
  | .fz d => some (p.1, d)
  | _ => none
def mCallO (bs : List Bool) (g : Gf) (a : Mar) : Mx := fun env => (mCall bs g a env).bind fun p => match p.2 with
  | .ow d => some (p.1, d)
  | _ => none
theorem call_core {bs : List Bool} {g : Gf} {ta : TA} {a : Mar} {E : XK} (ha : RAr K ta a) {M : Fm} {env : Evs} {F : Hp} {σ : L2.St} {H : Hp} {env' : Evs} {r : Sl} {Q : VK} (S : Sn K M env F σ H) (e : mCall bs g a env = some (env', r))
    (q : ∀ v F' H', Sn K M env' F' σ H' → Same F F' → (match r with
    | .fz d => Rp K F' d v
    | .ow d => ∃ p, v = .ref p ∧ Loose M env' F' σ p ∧ OwOk K F' (H' p) d
    | _ => False) → Q v H') : ta σ H fun vs H1 => SpM K bs g vs H1 Q E := by
  obtain ⟨⟨e1, as⟩, h1, h⟩ := bindS e
  obtain ⟨ds, h2, h⟩ := bindS h
  obtain ⟨⟨os, r'⟩, h3, h⟩ := bindS h
  split at h
  case isFalse => cases h
  rename_i c
  cases h
  dsimp only at c
  obtain ⟨c1, c2, c3⟩ := c
  refine ha M env F σ H e1 as _ S h1 fun vs F1 H1 S1 s1 hA => ?_
  refine ⟨F1, ds, os, r', S1.sub, fun t ht => ⟨(S1.tab t ht).1, (S1.tab t ht).2.1⟩, ?_, h3, fun v F' H' P => ?_⟩
  · subst c1
    have atE : ∀ {i : Nat} {b : Bool}, (as.map isSl)[i]? = some b → ∃ ar, as[i]? = some ar ∧ isSl ar = b := fun {i b} h => by
      rw [List.getElem?_map] at h
      exact mapS h
    refine ⟨by rw [List.length_map, hA.len], by rw [List.length_map, arsD_len h2], fun i d v hb hd hv => ?_, fun i d v hb hd hv => ?_, fun i j a n hb hb' hv hv' => ?_⟩
    · obtain ⟨ar, k1, k2⟩ := atE hb
      cases ar with
      | sl _ => cases k2
      | val d0 =>
        obtain ⟨d1, k3, k4⟩ := arsD_get h2 k1
        rw [hd] at k3
        cases k3
        cases k4
        exact hA.get k1 hv
    · obtain ⟨ar, k1, k2⟩ := atE hb
      cases ar with
      | val _ => cases k2
      | sl i0 =>
        obtain ⟨d1, k3, k4⟩ := arsD_get h2 k1
        rw [hd] at k3
        cases k3
        obtain ⟨s, k5, k6⟩ := bindS k4
        obtain ⟨a, k7, k8⟩ := hA.get k1 hv
        obtain ⟨a', z1, z2, z3⟩ := S1.owS i0 s d k5 k6
        rw [k8] at z1
        cases z1
        exact ⟨a, k7, z2, z3⟩
    · obtain ⟨ar, k1, k2⟩ := atE hb
      obtain ⟨ar', k1', k2'⟩ := atE hb'
      cases ar with
      | val _ => cases k2
      | sl i0 =>
        cases ar' with
        | val _ => cases k2'
        | sl j0 =>
          obtain ⟨a1, k7, k8⟩ := hA.get k1 hv
          obtain ⟨a2, k7', k8'⟩ := hA.get k1' hv'
          cases k7
          cases k7'
          obtain ⟨d1, k3, k4⟩ := arsD_get h2 k1
          obtain ⟨s, k5, k6⟩ := bindS k4
          obtain ⟨d2, k3', k4'⟩ := arsD_get h2 k1'
          obtain ⟨s', k5', k6'⟩ := bindS k4'
          by_cases z : i0 = j0
          · subst z
            exact n (nodup_slots c2 k1 k1')
          · exact S1.apt i0 j0 s s' _ _ a z k5 k5' k6 k6' k8 k8'
  · subst c1
    have S2 := S1.called hA h2 c2 c3 P
    refine q v F' H' S2 (s1.trans P.up) ?_
    have res := P.res
    cases r' with
    | fz d => exact res
    | ow d =>
      obtain ⟨p, z1, z2, z3, z4⟩ := res
      refine ⟨p, z1, ⟨(S1.free z2).1, z3, ?_, fun i s d' h1 h2 z => ?_⟩, z4⟩
      · cases hp : M.P p with
        | none => rfl
        | some o =>
          have y := (S1.prt p o hp).1
          rw [z2] at y
          cases y
      · rcases backE_get (as := as) (os := os) (env := e1) (j := i) c3.symm c2 with ⟨k, o, s0, k1, k2, k3, k4⟩ | ⟨k1, k2⟩
        · obtain ⟨d1, k5, k6⟩ := arsD_get ‹_› k1
          obtain ⟨s', k7, k8⟩ := bindS k6
          obtain ⟨a', y1, y2, y3⟩ := S1.owS i s' _ k7 k8
          rw [z] at y1
          cases y1
          rw [z2] at y3
          obtain ⟨u, w⟩ := y3.some
          cases w
        · rw [k2] at h1
          obtain ⟨a', y1, y2, y3⟩ := S1.owS i s d' h1 h2
          rw [z] at y1
          cases y1
          rw [z2] at y3
          obtain ⟨u, w⟩ := y3.some
          cases w
    | un => exact res
    | bo _ => exact res
theorem tCall_nil {sp : Sp} {E : XK} {t : TA} {σ : L2.St} {H : Hp} {Q : VK} (h : t σ H fun vs H1 => sp vs H1 Q E) : tCall sp [] E t σ H Q := by
  unfold tCall
  simp only [List.append_nil]
  exact h
theorem r_call {bs : List Bool} {g : Gf} {ta : TA} {a : Mar} {E : XK} (ha : RAr K ta a) : RE K (tCall (SpM K bs g) [] E ta) (mCallF bs g a) := fun M env F σ H env' d Q S e q => by
  obtain ⟨⟨e1, r⟩, h1, h⟩ := bindS e
  cases r <;> first | (cases h; done) | skip
  cases h
  exact tCall_nil (call_core ha S h1 fun v F' H' S' s' r' => q v F' H' S' s' r')
theorem r_callO {bs : List Bool} {g : Gf} {ta : TA} {a : Mar} {E : XK} (ha : RAr K ta a) : RO K (tCall (SpM K bs g) [] E ta) (mCallO bs g a) := fun M env F σ H env' d Q S e q => by
  obtain ⟨⟨e1, r⟩, h1, h⟩ := bindS e
  cases r <;> first | (cases h; done) | skip
  cases h
  refine tCall_nil (call_core ha S h1 fun v F' H' S' s' r' => ?_)
  obtain ⟨p, rfl, L, o⟩ := r'
  exact q p F' H' S' s' L o
/-- f(k = .., ..), nothing lent -/
def fzOnly (n : Nat) : List Bool := List.replicate n false
end

section
variable {X : Cx} (K : PySem.W.Frag)
theorem k_enum {e : Expr} {ta : TA} {p pos tpos : Pos} {elts : List Expr} {kk : Nat} (hg : Gl X "enumerate") (hm : X.mg "enumerate" = none) (ha : PA X [e] ta) (hK : X.K = K := by rfl) (hs : starEach [e] X.env = [(false, eval e X.env)] := by rfl) :
    PI X (.Tuple elts kk tpos) (.Call (.Name "enumerate" p) [e] [] pos) (iEnum K ta) := hK ▸ pi_enum hg hm ha hs
def tTru (K : PySem.W.Frag) (ta : TE) : TT := fun σ H Q => ta σ H fun x H' => ∃ k, TruV K x H' k ∧ Q k H'
theorem k_truth {a : Expr} {ta : TE} (ha : PE X a ta) (he : ∀ whole, isTrue a X.env whole = (do let v ← whole; standAt a.pos; holding [v] (truthy v))) (hK : X.K = K := by rfl) : PT X a (tTru K ta) := hK ▸ pt_truth ha he
theorem k_max (hc : X.calm = true) (h : X.K = K := by rfl) : CallR X (.builtin "max") (rMax K) := h ▸ cr_max hc
theorem k_min (hc : X.calm = true) (h : X.K = K := by rfl) : CallR X (.builtin "min") (rMin K) := h ▸ cr_min hc
end
section
variable {K : PySem.W.Frag}
/-! truth of things -/
def truD : Dt → Option Bool
  | .none => some false
  | .bool b => some b
  | .int i => some (i != 0)
  | .list ds => some (!ds.isEmpty)
  | .tuple ds => some (!ds.isEmpty)
  | _ => none
def mTruth (a : Mx) : Mb := fun env => (a env).bind fun p => (truD p.2).map fun b => (p.1, b)
theorem emp_rp {F : Hp} {ds : List Dt} {xs : List V} (h : RpA K F ds xs) : ds.isEmpty = xs.isEmpty := by
  have l := h.len
  cases ds <;> cases xs <;> first | rfl | (simp at l)
theorem r_truth {ta : TE} {a : Mx} (ha : RQ K ta a) : RT K (tTru K ta) (mTruth a) := fun M env F σ H env' b Q S e q => by
  obtain ⟨⟨e1, x⟩, h1, h⟩ := bindS e
  obtain ⟨b', h2, h3⟩ := mapS h
  cases h3
  refine ha M env F σ H _ x _ S h1 fun v F1 H1 S1 s1 r1 => ⟨b, ?_, q F1 H1 S1 s1⟩
  cases x <;> first | (cases h2; done) | skip
  · rw [r1.non]
    cases h2
    rfl
  · rw [r1.bl]
    cases h2
    rfl
  · rw [r1.int]
    cases h2
    rfl
  · obtain ⟨a, xs, rfl, h5, h6⟩ := r1.lst S1.sub
    cases h2
    exact .inl ⟨xs, SqL.of h5, by rw [emp_rp h6]⟩
  · obtain ⟨a, xs, rfl, h5, h6⟩ := r1.tup S1.sub
    cases h2
    exact .inr (.inl ⟨xs, SqT.of h5, by rw [emp_rp h6]⟩)
/-! more of strings, tuples, ranges -/
def fLenS : Dt → Option Dt
  | .str z => if z.length ≤ sizeLine then some (.int z.length) else none
  | _ => none
theorem c_lenS : RC1 K (fun xs H Q => ∃ z, xs = [.str z] ∧ z.length ≤ sizeLine ∧ Q (.int z.length) H) fLenS := fun M env F σ H x d z Q S hx hf q => by
  cases d <;> first | (cases hf; done) | skip
  unfold fLenS at hf
  dsimp only at hf
  split at hf
  · cases hf
    rw [hx.str]
    exact ⟨_, rfl, ‹_›, q _ F H S (Same.refl F) rfl⟩
  · cases hf
def fAddS : Dt → Dt → Option Dt
  | .str a, .str b => if a.length + b.length ≤ sizeLine then some (.str (a ++ b)) else none
  | _, _ => none
theorem o_addS : R2k K (fun x y H Q => ∃ i j, x = .str i ∧ y = .str j ∧ i.length + j.length ≤ sizeLine ∧ Q (.str (i ++ j)) H) fAddS := fun M env F σ H x y d e z Q S hx hy hf q => by
  unfold fAddS at hf
  split at hf
  · split at hf
    · cases hf
      exact ⟨_, _, hx.str, hy.str, ‹_›, q _ F H S (Same.refl F) rfl⟩
    · cases hf
  · cases hf
def fLtT : Dt → Dt → Option Dt
  | .tuple a, .tuple b => (asInts a).bind fun ns => (asInts b).map fun ms => .bool (HT.lexLt ns ms)
  | _, _ => none
theorem o_ltT : R2k K (rLtT K) fLtT := fun M env F σ H x y d e z Q S hx hy hf q => by
  unfold fLtT at hf
  split at hf
  · obtain ⟨ns, h1, h2⟩ := bindS hf
    obtain ⟨ms, h3, h4⟩ := mapS h2
    subst h4
    obtain ⟨a, xs, rfl, h5, h6⟩ := hx.tup S.sub
    obtain ⟨b, ys, rfl, h7, h8⟩ := hy.tup S.sub
    rw [asInts_of h1] at h6
    rw [asInts_of h3] at h8
    rw [h6.ints] at h5
    rw [h8.ints] at h7
    exact ⟨a, b, ns, ms, rfl, rfl, SqT.of h5, SqT.of h7, q _ F H S (Same.refl F) rfl⟩
  · cases hf
def maxI (n : Int) : List Int → Int
  | [] => n
  | m :: r => maxI (if n < m then m else n) r
def minI (n : Int) : List Int → Int
  | [] => n
  | m :: r => minI (if m < n then m else n) r
theorem maxI_of : ∀ (l : List Int) (n : Int), n ≤ maxI n l ∧ (∀ y ∈ l, y ≤ maxI n l) ∧ (maxI n l = n ∨ maxI n l ∈ l)
  | [], n => ⟨Int.le_refl _, by simp, .inl rfl⟩
  | m :: r, n => by
    obtain ⟨h1, h2, h3⟩ := maxI_of r (if n < m then m else n)
    show n ≤ maxI _ r ∧ (∀ y ∈ m :: r, y ≤ maxI _ r) ∧ (maxI _ r = n ∨ maxI _ r ∈ m :: r)
    generalize maxI (if n < m then m else n) r = z at *
    refine ⟨?_, fun y hy => ?_, ?_⟩
    · split at h1 <;> omega
    · rcases List.mem_cons.mp hy with rfl | hy
      · split at h1 <;> omega
      · exact h2 y hy
    · rcases h3 with h3 | h3
      · split at h3
        · exact .inr (List.mem_cons.mpr (.inl h3))
        · exact .inl h3
      · exact .inr (List.mem_cons_of_mem _ h3)
theorem minI_of : ∀ (l : List Int) (n : Int), minI n l ≤ n ∧ (∀ y ∈ l, minI n l ≤ y) ∧ (minI n l = n ∨ minI n l ∈ l)
  | [], n => ⟨Int.le_refl _, by simp, .inl rfl⟩
  | m :: r, n => by
    obtain ⟨h1, h2, h3⟩ := minI_of r (if m < n then m else n)
    show minI _ r ≤ n ∧ (∀ y ∈ m :: r, minI _ r ≤ y) ∧ (minI _ r = n ∨ minI _ r ∈ m :: r)
    generalize minI (if m < n then m else n) r = z at *
    refine ⟨?_, fun y hy => ?_, ?_⟩
    · split at h1 <;> omega
    · rcases List.mem_cons.mp hy with rfl | hy
      · split at h1 <;> omega
      · exact h2 y hy
    · rcases h3 with h3 | h3
      · split at h3
        · exact .inr (List.mem_cons.mpr (.inl h3))
        · exact .inl h3
      · exact .inr (List.mem_cons_of_mem _ h3)
def fMax1 : Dt → Option Dt
  | .list ds => (asInts ds).bind fun ns => match ns with
    | [] => none
    | n :: r => some (.int (maxI n r))
  | _ => none
def fMin1 : Dt → Option Dt
  | .list ds => (asInts ds).bind fun ns => match ns with
    | [] => none
    | n :: r => some (.int (minI n r))
  | _ => none
theorem c_max1 : RC1 K (rMax K) fMax1 := fun M env F σ H x d z Q S hx hf q => by
  cases d <;> first | (cases hf; done) | skip
  obtain ⟨ns, h1, h2⟩ := bindS hf
  obtain ⟨a, xs, rfl, h3, h4⟩ := hx.lst S.sub
  rw [asInts_of h1] at h4
  have e := h4.ints
  subst e
  cases ns with
  | nil => cases h2
  | cons n r =>
    cases h2
    refine ⟨a, n :: r, rfl, SqL.of h3, by simp, fun m hm hle => ?_⟩
    obtain ⟨k1, k2, k3⟩ := maxI_of r n
    have e : m = maxI n r := by
      have z1 := hle (maxI n r) (by rcases k3 with k | k; rw [k]; simp; simp [k])
      rcases List.mem_cons.mp hm with rfl | hm
      · omega
      · have := k2 m hm
        omega
    rw [e]
    exact q _ F H S (Same.refl F) rfl
theorem c_min1 : RC1 K (rMin K) fMin1 := fun M env F σ H x d z Q S hx hf q => by
  cases d <;> first | (cases hf; done) | skip
  obtain ⟨ns, h1, h2⟩ := bindS hf
  obtain ⟨a, xs, rfl, h3, h4⟩ := hx.lst S.sub
  rw [asInts_of h1] at h4
  have e := h4.ints
  subst e
  cases ns with
  | nil => cases h2
  | cons n r =>
    cases h2
    refine ⟨a, n :: r, rfl, SqL.of h3, by simp, fun m hm hle => ?_⟩
    obtain ⟨k1, k2, k3⟩ := minI_of r n
    have e : m = minI n r := by
      have z1 := hle (minI n r) (by rcases k3 with k | k; rw [k]; simp; simp [k])
      rcases List.mem_cons.mp hm with rfl | hm
      · omega
      · have := k2 m hm
        omega
    rw [e]
    exact q _ F H S (Same.refl F) rfl
def fSortedT : Dt → Option Dt
  | .tuple ds => (asInts ds).map fun ns => .list ((srtI ns).map PyData.int)
  | _ => none
theorem c_sortedT : RC1o K (rSortedT K) fSortedT := fun M env F σ H x d z Q S hx hf q => by
  cases d <;> first | (cases hf; done) | skip
  obtain ⟨ns, h1, h2⟩ := mapS hf
  obtain ⟨a, xs, rfl, h3, h4⟩ := hx.tup S.sub
  rw [asInts_of h1] at h4
  have e := h4.ints
  subst e h2
  refine ⟨a, ns, rfl, SqT.of h3, fun ns' p pm up np => ?_⟩
  rw [srtI_one pm up]
  obtain ⟨S2, L2, o2⟩ := S.newO np (RpA.of_ints (srtI ns))
  exact q p F _ S2 (Same.refl F) L2 o2
/-- repr -/
def fRepr (d : Dt) : Option Dt := if (d.showable && SeqAt.shaped d && decide (d.shown.length ≤ sizeLine)) = true then some (.str d.shown) else match d with
  | .dict [] => some (.str (PyData.shown (.dict [])))
  | .dict [(.none, .tuple [])] => some (.str (PyData.shown (.dict [])))
  | _ => none
theorem c_repr : RC1 K (rRepr K) fRepr := fun M env F σ H x d z Q S hx hf q => by
  unfold fRepr at hf
  split at hf
  · rename_i c
    cases hf
    rw [Bool.and_eq_true, Bool.and_eq_true] at c
    exact ⟨x, d, rfl, .inl ⟨hx.dp S.sub (lay_of c.1.2), c.1.1, c.1.2, of_decide_eq_true c.2⟩, q _ F H S (Same.refl F) rfl⟩
  · split at hf
    · cases hf
      have : ∃ a, x = .ref a ∧ H a = some (.dK []) := by
        rcases hx with ⟨a, h1, ⟨vs, h2, h3⟩ | ⟨vs, h2, h3⟩ | ⟨ns, h2, h3⟩ | ⟨_, vs, h2, h3⟩ | ⟨_, _, _, _, _, _, _, h3⟩⟩ | ⟨a, h1, h⟩
        · have e : vs = [] := h3
          subst e
          exact ⟨a, h1, S.sub _ _ h2⟩
        · exact h3.elim
        · cases h2
        · first | (cases h3; done) | (obtain ⟨h4, _⟩ := h3; cases h4)
        · first | (cases h3; done) | (obtain ⟨h4, _⟩ := h3; cases h4)
        · rcases h with ⟨xs, _, h2, h, h3⟩ | ⟨_, _, h2, h, h3⟩ | ⟨_, _, h2, h, h3⟩
          · cases h
          · cases h
            have e : _ = [] := h3
            subst e
            exact ⟨a, h1, h2⟩
          · cases h
            exact h3.elim
      obtain ⟨a, h1, h2⟩ := this
      exact ⟨x, .dict [], rfl, .inr ⟨a, h1, .inl h2, rfl⟩, q _ F H S (Same.refl F) rfl⟩
    · cases hf
      have nk : ∀ x : Key, PyData.none ≠ kD x := fun x => by cases x <;> (intro z; cases z)
      have : ∃ a, x = .ref a ∧ H a = some (.dT []) := by
        rcases hx with ⟨a, h1, ⟨vs, h2, h3⟩ | ⟨vs, h2, h3⟩ | ⟨ns, h2, h3⟩ | ⟨_, vs, h2, h3⟩ | ⟨_, _, _, _, _, _, _, h3⟩⟩ | ⟨a, h1, h⟩
        · obtain ⟨x, y, r, _, h4, _⟩ := h3
          exact absurd h4 (nk x)
        · have e : vs = [] := h3.2.2
          subst e
          exact ⟨a, h1, S.sub _ _ h2⟩
        · cases h2
        · first | (cases h3; done) | (obtain ⟨h4, _⟩ := h3; cases h4)
        · first | (cases h3; done) | (obtain ⟨h4, _⟩ := h3; cases h4)
        · rcases h with ⟨xs, _, h2, h, h3⟩ | ⟨_, _, h2, h, h3⟩ | ⟨_, _, h2, h, h3⟩
          · cases h
          · cases h
            obtain ⟨x, y, r, _, h4, _⟩ := h3
            exact absurd h4 (nk x)
          · cases h
            have e : _ = [] := h3.2.2
            subst e
            exact ⟨a, h1, h2⟩
      obtain ⟨a, h1, h2⟩ := this
      exact ⟨x, .dict [], rfl, .inr ⟨a, h1, .inr h2, rfl⟩, q _ F H S (Same.refl F) rfl⟩
    · cases hf
/-! rows of a range at once -/
abbrev Mr := Evs → Option (Evs × Int × Int)
def RRg (K : PySem.W.Frag) (t : L2.St → Hp → (Int → Int → Hp → Prop) → Prop) (m : Mr) : Prop := ∀ (M : Fm) (env : Evs) (F : Hp) (σ : L2.St) (H : Hp) (env' : Evs) (a b : Int) (Q : Int → Int → Hp → Prop), Sn K M env F σ H → m env = some (env', a, b) →
  (∀ F' H', Sn K M env' F' σ H' → Same F F' → Q a b H') → t σ H Q
def mRg1 (a : Mx) : Mr := fun env => (a env).bind fun p => match p.2 with
  | .int n => some (p.1, 0, n)
  | _ => none
def mRg2 (a b : Mx) : Mr := fun env => (a env).bind fun p => (b p.1).bind fun q => match p.2, q.2 with
  | .int i, .int j => some (q.1, i, j)
  | _, _ => none
theorem g_1 {ta : TE} {a : Mx} (ha : RE K ta a) : RRg K (tRg1 ta) (mRg1 a) := fun M env F σ H env' i j Q S e q => by
  obtain ⟨⟨e1, x⟩, h1, h⟩ := bindS e
  refine ha M env F σ H e1 x _ S h1 fun v F1 H1 S1 s1 r1 => ?_
  cases x <;> first | (cases h; done) | skip
  cases h
  exact ⟨_, r1, q F1 H1 S1 s1⟩
theorem g_2 {ta tb : TE} {a b : Mx} (ha : RE K ta a) (hb : RE K tb b) : RRg K (tRg2 ta tb) (mRg2 a b) := fun M env F σ H env' i j Q S e q => by
  obtain ⟨⟨e1, x⟩, h1, h⟩ := bindS e
  obtain ⟨⟨e2, y⟩, h2, h⟩ := bindS h
  refine ha M env F σ H e1 x _ S h1 fun v F1 H1 S1 s1 r1 => hb M e1 F1 σ H1 e2 y _ S1 h2 fun u F2 H2 S2 s2 r2 => ?_
  cases x <;> first | (cases h; done) | skip
  cases y <;> first | (cases h; done) | skip
  cases h
  exact ⟨_, _, r1, r2, q F2 H2 S2 (s1.trans s2)⟩
def rgOk (a b : Int) : Bool := decide (-(2 ^ 62) ≤ a) && decide (a < 2 ^ 62) && decide (-(2 ^ 62) ≤ b) && decide (b < 2 ^ 62) && decide ((b - a).toNat ≤ 2 ^ 24)
theorem rgOk_of {a b : Int} (h : rgOk a b = true) : RgOk a b := by
  unfold rgOk at h
  simp only [Bool.and_eq_true, decide_eq_true_eq] at h
  exact ⟨h.1.1.1.1, h.1.1.1.2, h.1.1.2, h.1.2, h.2⟩
def mLstRg (r : Mr) : Mx := fun env => (r env).bind fun p => if rgOk p.2.1 p.2.2 = true then some (p.1, .list (rgD p.2.1 (p.2.2 - p.2.1).toNat)) else none
def mTupRg (r : Mr) : Mx := fun env => (r env).bind fun p => if rgOk p.2.1 p.2.2 = true then some (p.1, .tuple (rgD p.2.1 (p.2.2 - p.2.1).toNat)) else none
theorem rgD_rp {F : Hp} {a b : Int} : RpA K F (rgD a (b - a).toNat) (rgV a b) := by
  unfold rgD rgV
  refine RpA.of (by simp) fun i d x h1 h2 => ?_
  rw [List.getElem?_map] at h1 h2
  obtain ⟨j, h3, h4⟩ := mapS h1
  obtain ⟨j', h5, h6⟩ := mapS h2
  rw [h3] at h5
  cases h5
  subst h4 h6
  rfl
theorem r_lstRg {t : L2.St → Hp → (Int → Int → Hp → Prop) → Prop} {r : Mr} (h : RRg K t r) : RO K (tLstRg t) (mLstRg r) := fun M env F σ H env' d Q S e q => by
  obtain ⟨⟨e1, a, b⟩, h1, h2⟩ := bindS e
  split at h2
  · rename_i c
    cases h2
    refine h M env F σ H _ a b _ S h1 fun F1 H1 S1 s1 => ⟨rgOk_of c, fun p np => ?_⟩
    obtain ⟨S2, L2, o2⟩ := S1.newO np (rgD_rp (K := K) (F := F1) (a := a) (b := b))
    exact q p F1 _ S2 s1 L2 o2
  · cases h2
theorem r_tupRg {t : L2.St → Hp → (Int → Int → Hp → Prop) → Prop} {r : Mr} (h : RRg K t r) : RE K (tTupRg t) (mTupRg r) := fun M env F σ H env' d Q S e q => by
  obtain ⟨⟨e1, a, b⟩, h1, h2⟩ := bindS e
  split at h2
  · rename_i c
    cases h2
    refine h M env F σ H _ a b _ S h1 fun F1 H1 S1 s1 => ⟨rgOk_of c, fun p np => ?_⟩
    obtain ⟨S2, s2⟩ := S1.lay np (.tup (rgV a b))
    exact q _ _ _ S2 (s1.trans s2) ⟨p, _, rfl, upd_same, rgD_rp⟩
  · cases h2
/-! enumerate of a tuple -/
theorem it_enumT {F : Hp} {a : Addr} {xs : List V} {ds : List Dt} (hF : F a = some (.tup xs)) (r : RpA K F ds xs) : ItOk K (IteT K a) F (numD ds) := by
  refine ⟨fun i d H s e => ?_, fun i d H H' x s e y => ?_, fun i H s l => ?_⟩
  · obtain ⟨u, h0, _⟩ := numD_get e
    obtain ⟨x, h1, _⟩ := r.get h0
    exact ⟨xs, x, SqT.of (s _ _ hF), h1⟩
  · obtain ⟨p, z, rfl, h1, rfl, h4⟩ := y
    obtain ⟨u, h0, rfl⟩ := numD_get e
    obtain ⟨x', h2, h3⟩ := r.get h0
    have h5 := h4 xs (SqT.of (s _ _ hF))
    rw [h2] at h5
    cases h5
    exact .inr ⟨p, _, _, h1, rfl, rfl, rfl, .cons rfl (.one h3)⟩
  · rw [numD_len] at l
    exact ⟨xs, SqT.of (s _ _ hF), by rw [← r.len]; exact l⟩
theorem i_enumT {ta : TE} {a : Mx} (ha : RE K ta a) : RI K (iEnumT K (tCons ta tNil)) (mItems (fun d => (tupOf d).map numD) a) := fun M env F σ H env' ds R S e q => by
  obtain ⟨⟨e1, x⟩, h1, h⟩ := bindS e
  obtain ⟨ds', h2, h3⟩ := mapS h
  cases h3
  refine ha M env F σ H _ x _ S h1 fun v F1 H1 S1 s1 r1 => ?_
  obtain ⟨ds0, h2, h4⟩ := mapS h2
  cases x <;> first | (cases h2; done) | skip
  cases h2
  subst h4
  obtain ⟨a, xs, rfl, h5, h6⟩ := r1
  exact ⟨a, xs, rfl, SqT.of (S1.sub _ _ h5), q _ F1 H1 S1 s1 (it_enumT h5 h6)⟩
/-! calls by names -/
def mCallK (n : Nat) (g : Gf) (kd : List Dt → List Dt) (a : Ms) : Mx := fun env => (a env).bind fun p => if p.2.length = n then (g (kd p.2)).bind fun q => match q.2 with
  | .fz d => some (p.1, d)
  | _ => none
  else none
def mCallKO (n : Nat) (g : Gf) (kd : List Dt → List Dt) (a : Ms) : Mx := fun env => (a env).bind fun p => if p.2.length = n then (g (kd p.2)).bind fun q => match q.2 with
  | .ow d => some (p.1, d)
  | _ => none
  else none
theorem post_pure {M : Fm} {env : Evs} {F F' : Hp} {σ : L2.St} {H H' : Hp} {n : Nat} {vs : List V} {os : List Dt} {r : Sl} {v : V} (S : Sn K M env F σ H) (P : Post K F H (List.replicate n false) vs os r v F' H') : Sn K M env F' σ H' := by
  have nl : ∀ a, ¬ Lent (List.replicate n false) vs a := fun a ⟨i, h, _⟩ => by
    rw [List.getElem?_replicate] at h
    split at h <;> cases h
  have nF : ∀ {a : Addr} {o : HO}, H a = some o → F a = none → H' a = some o → (∀ xs, o ≠ .tup xs) → F' a = none := fun {a o} h1 h2 h3 h4 => by
    cases hF : F' a with
    | none => rfl
    | some z =>
      rcases P.new a z hF with w | w | w
      · rw [h2] at w
        cases w
      · rw [h1] at w
        cases w
      · obtain ⟨xs, rfl⟩ := w
        have q := P.sub a _ hF
        rw [h3] at q
        cases q
        exact (h4 xs rfl).elim
  refine ⟨P.sub, fun a o h nb nt => P.old a o (S.old a o h nb nt) (nl a) nt, fun a o h => ?_, fun a o h => P.up _ _ (S.mon a o h), fun a o h => ?_, fun j d h => ?_, fun j s' d h ho => ?_, S.owF, S.boF, S.apt, fun p o h => ?_, fun t ht => ⟨(P.tab t ht).1, (P.tab t ht).2, (S.tab t ht).2.2⟩, S.len, S.pnt⟩
  · obtain ⟨o', h1⟩ := S.dom a o h
    exact P.dom a o' h1
  · rcases P.new a o h with h1 | h1 | h1
    · exact S.new a o h1
    · exact .inr (.inl (S.free h1).1)
    · exact .inr (.inr h1)
  · obtain ⟨v, y1, y2⟩ := S.fzS j d h
    exact ⟨v, y1, y2.mono P.up _ _⟩
  · obtain ⟨a, y1, y2, y3⟩ := S.owS j s' d h ho
    obtain ⟨u, hu⟩ := y3.some
    refine ⟨a, y1, nF hu y2 (P.old a u hu (nl a) (fun ht => y3.tb (S.tab a ht).1)) (by rw [hu] at y3; exact y3.notup), ?_⟩
    rw [P.old a u hu (nl a) (fun ht => y3.tb (S.tab a ht).1), ← hu]
    exact y3.mono P.up
  · obtain ⟨y1, y2, y3, y4⟩ := S.prt p o h
    have po := P.old p o y1 (nl p) (fun ht => by
      obtain ⟨o', z⟩ := (S.tab p ht).2.2
      rw [y3] at z
      cases z)
    exact ⟨po, nF y1 y2 po (fun xs => S.pnt p o xs h), y3, y4⟩
theorem arg_pure {F H : Hp} {n : Nat} {ds : List Dt} {vs : List V} (h : RpA K F ds vs) (l : ds.length = n) : ArgOk K F H (List.replicate n false) ds vs := by
  have l2 := h.len
  refine ⟨by simp; omega, by simp; omega, fun i d v _ h1 h2 => h.ix h1 h2, fun i d v hb _ _ => ?_, fun i j a _ hb _ _ _ => ?_⟩
  · rw [List.getElem?_replicate] at hb
    split at hb <;> cases hb
  · rw [List.getElem?_replicate] at hb
    split at hb <;> cases hb
theorem loose_of {M : Fm} {env : Evs} {F F' : Hp} {σ : L2.St} {H : Hp} {p : Addr} (S : Sn K M env F σ H) (h : H p = none) (h' : F' p = none) : Loose M env F' σ p :=
  let L := S.loose h
  ⟨L.fresh, h', L.nP, L.apart⟩
theorem r_callK {n : Nat} {g : Gf} {kd : List Dt → List Dt} {gV : List V → List V → List V} {tk : TA} {a : Ms} {E : XK} {bs : List Bool} (hk : ∀ {F : Hp} {ds : List Dt} {zs : List V}, ds.length = n → RpA K F ds zs → RpA K F (kd ds) (gV [] zs) ∧ (kd ds).length = n) (ha : RA K tk a) (hb : bs = List.replicate n false := by rfl) :
    RE K (tCallK (SpM K bs g) gV E tNil tk) (mCallK n g kd a) := fun M env F σ H env' d Q S e q => by
  subst hb
  obtain ⟨⟨e1, ds⟩, h1, h⟩ := bindS e
  dsimp only at h
  split at h
  case isFalse => cases h
  rename_i c
  obtain ⟨⟨os, r⟩, h2, h⟩ := bindS h
  cases r <;> first | (cases h; done) | skip
  cases h
  refine ha M env F σ H _ ds _ S h1 fun zs F1 H1 S1 s1 r1 => ?_
  obtain ⟨k1, k2⟩ := hk c r1
  exact ⟨F1, kd ds, os, _, S1.sub, fun t ht => ⟨(S1.tab t ht).1, (S1.tab t ht).2.1⟩, arg_pure k1 k2, h2, fun v F' H' P => q v F' H' (post_pure S1 P) (s1.trans P.up) P.res⟩
theorem r_callKO {n : Nat} {g : Gf} {kd : List Dt → List Dt} {gV : List V → List V → List V} {tk : TA} {a : Ms} {E : XK} {bs : List Bool} (hk : ∀ {F : Hp} {ds : List Dt} {zs : List V}, ds.length = n → RpA K F ds zs → RpA K F (kd ds) (gV [] zs) ∧ (kd ds).length = n) (ha : RA K tk a) (hb : bs = List.replicate n false := by rfl) :
    RO K (tCallK (SpM K bs g) gV E tNil tk) (mCallKO n g kd a) := fun M env F σ H env' d Q S e q => by
  subst hb
  obtain ⟨⟨e1, ds⟩, h1, h⟩ := bindS e
  dsimp only at h
  split at h
  case isFalse => cases h
  rename_i c
  obtain ⟨⟨os, r⟩, h2, h⟩ := bindS h
  cases r <;> first | (cases h; done) | skip
  cases h
  refine ha M env F σ H _ ds _ S h1 fun zs F1 H1 S1 s1 r1 => ?_
  obtain ⟨k1, k2⟩ := hk c r1
  refine ⟨F1, kd ds, os, _, S1.sub, fun t ht => ⟨(S1.tab t ht).1, (S1.tab t ht).2.1⟩, arg_pure k1 k2, h2, fun v F' H' P => ?_⟩
  obtain ⟨p, rfl, z2, z3, z4⟩ := P.res
  exact q p F' H' (post_pure S1 P) (s1.trans P.up) (loose_of S1 z2 z3) z4
/-! a call to which a new thing is lent, and let go -/
def mCallT (n : Nat) (g : Gf) (a : Mx) (b : Ms) : Evs → Option (Evs × Sl) := fun env => (a env).bind fun p => (b p.1).bind fun q => if q.2.length = n then (g (p.2 :: q.2)).map fun r => (q.1, r.2) else none
def mCallTF (n : Nat) (g : Gf) (a : Mx) (b : Ms) : Mx := fun env => (mCallT n g a b env).bind fun p => match p.2 with
  | .fz d => some (p.1, d)
  | _ => none
theorem post_tmp {M : Fm} {env : Evs} {F F' : Hp} {σ : L2.St} {H H' : Hp} {n : Nat} {p : Addr} {vs : List V} {os : List Dt} {r : Sl} {v : V} (S : Sn K M env F σ H) (L : Loose M env F σ p) (P : Post K F H (true :: List.replicate n false) (.ref p :: vs) os r v F' H') : Sn K M env F' σ H' := by
  have nl : ∀ a, a ≠ p → ¬ Lent (true :: List.replicate n false) (.ref p :: vs) a := fun a ne ⟨i, h, h'⟩ => by
    cases i with
    | zero =>
      simp at h'
      exact ne h'.symm
    | succ i =>
      simp only [List.getElem?_cons_succ, List.getElem?_replicate] at h
      split at h <;> cases h
  have nF : ∀ {a : Addr} {o : HO}, H a = some o → F a = none → H' a = some o → (∀ xs, o ≠ .tup xs) → F' a = none := fun {a o} h1 h2 h3 h4 => by
    cases hF : F' a with
    | none => rfl
    | some z =>
      rcases P.new a z hF with w | w | w
      · rw [h2] at w
        cases w
      · rw [h1] at w
        cases w
      · obtain ⟨xs, rfl⟩ := w
        have q := P.sub a _ hF
        rw [h3] at q
        cases q
        exact (h4 xs rfl).elim
  refine ⟨P.sub, fun a o h nb nt => P.old a o (S.old a o h nb nt) (nl a ?_) nt, fun a o h => ?_, fun a o h => P.up _ _ (S.mon a o h), fun a o h => ?_, fun j d h => ?_, fun j s' d h ho => ?_, S.owF, S.boF, S.apt, fun c o h => ?_, fun t ht => ⟨(P.tab t ht).1, (P.tab t ht).2, (S.tab t ht).2.2⟩, S.len, S.pnt⟩
  · rintro rfl
    rw [L.fresh] at h
    cases h
  · obtain ⟨o', h1⟩ := S.dom a o h
    exact P.dom a o' h1
  · rcases P.new a o h with h1 | h1 | h1
    · exact S.new a o h1
    · exact .inr (.inl (S.free h1).1)
    · exact .inr (.inr h1)
  · obtain ⟨v, y1, y2⟩ := S.fzS j d h
    exact ⟨v, y1, y2.mono P.up _ _⟩
  · obtain ⟨a, y1, y2, y3⟩ := S.owS j s' d h ho
    obtain ⟨u, hu⟩ := y3.some
    have ne : a ≠ p := by
      rintro rfl
      exact L.apart j s' d h ho y1
    refine ⟨a, y1, nF hu y2 (P.old a u hu (nl a ne) (fun ht => y3.tb (S.tab a ht).1)) (by rw [hu] at y3; exact y3.notup), ?_⟩
    rw [P.old a u hu (nl a ne) (fun ht => y3.tb (S.tab a ht).1), ← hu]
    exact y3.mono P.up
  · obtain ⟨y1, y2, y3, y4⟩ := S.prt c o h
    have ne : c ≠ p := by
      rintro rfl
      rw [L.nP] at h
      cases h
    have po := P.old c o y1 (nl c ne) (fun ht => by
      obtain ⟨o', z⟩ := (S.tab c ht).2.2
      rw [y3] at z
      cases z)
    exact ⟨po, nF y1 y2 po (fun xs => S.pnt c o xs h), y3, y4⟩
theorem r_callT {n : Nat} {g : Gf} {ta : TE} {tr : TA} {a : Mx} {b : Ms} {E : XK} {bs : List Bool} (ha : RO K ta a) (hb : RA K tr b) (hB : bs = true :: List.replicate n false := by rfl) : RE K (tCall (SpM K bs g) [] E (tCons ta tr)) (mCallTF n g a b) := fun M env F σ H env' d Q S e q => by
  subst hB
  obtain ⟨⟨e1, r⟩, h0, h⟩ := bindS e
  cases r <;> first | (cases h; done) | skip
  cases h
  obtain ⟨⟨e1, x⟩, h1, h⟩ := bindS h0
  obtain ⟨⟨e2, ds⟩, h2, h⟩ := bindS h
  dsimp only at h
  split at h
  case isFalse => cases h
  rename_i c
  obtain ⟨⟨os, r⟩, h3, h4⟩ := mapS h
  cases h4
  refine tCall_nil (ha M env F σ H e1 x _ S h1 fun p F1 H1 S1 s1 L o => ?_)
  obtain ⟨u, hu⟩ := o.some
  refine hb _ e1 F1 σ H1 _ ds _ (S1.ward L hu (by rw [hu] at o; exact o.notup)) h2 fun vs F2 H2 S2 s2 r2 => ?_
  obtain ⟨S3, L3, h5⟩ := S2.unward L.nP
  have o3 : OwOk K F2 (H2 p) x := by
    rw [h5, ← hu]
    exact o.mono s2
  have l2 := r2.len
  refine ⟨F2, x :: ds, os, _, S3.sub, fun t ht => ⟨(S3.tab t ht).1, (S3.tab t ht).2.1⟩, ⟨by simp; omega, by simp; omega, fun i d' v hb' h6 h7 => ?_, fun i d' v hb' h6 h7 => ?_, fun i j a n' hb' hb'' h6 h7 => ?_⟩, h3, fun v F' H' P => q v F' H' (post_tmp S3 L3 P) (s1.trans (s2.trans P.up)) P.res⟩
  · cases i with
    | zero => cases hb'
    | succ i => exact r2.ix (by simpa using h6) (by simpa using h7)
  · cases i with
    | zero =>
      simp at h6 h7
      subst h6 h7
      exact ⟨p, rfl, L3.nF, o3⟩
    | succ i =>
      simp only [List.getElem?_cons_succ, List.getElem?_replicate] at hb'
      split at hb' <;> cases hb'
  · have z : ∀ {k : Nat}, (true :: List.replicate n false)[k]? = some true → k = 0 := fun {k} h => by
      cases k with
      | zero => rfl
      | succ k =>
        simp only [List.getElem?_cons_succ, List.getElem?_replicate] at h
        split at h <;> cases h
    exact n' ((z hb').trans (z hb'').symm)
/-! a slice of an owned list -/
def mSlP (i : Nat) (lo hi : Mo) : Mx := fun env => (mPeek i env).bind fun _ => (lo env).bind fun q => (hi q.1).bind fun r => (mPeek i r.1).bind fun p => (fSlL p.2 q.2 r.2).map fun z => (r.1, z)
/-! the law -/
def spLaw (K : PySem.W.Frag) : Sp := fun vs H Q _ => ∃ (a : Addr) (ns : List Int), vs = [.ref a] ∧ SqL K H a (ns.map V.int) ∧ ns.length ≤ 63 ∧ (∀ t, t ∈ tabs K → TbO (H t)) ∧ ∀ H', Q (.bl true) H'
theorem law_sp {g : Gf} (h : ∀ ns : List Int, ns.length ≤ 63 → ∃ os, g [scD ns] = some (os, .fz (.bool true))) {vs : List V} {H : Hp} {Q : VK} {E : XK} (hs : spLaw K vs H Q E) : SpM K [false] g vs H Q E := by
  obtain ⟨a, ns, rfl, hS, hl, tb, q⟩ := hs
  obtain ⟨os, hg⟩ := h ns hl
  -- all but the tables stays
  have sq : SqL K (fun b => if b ∈ tabs K then none else H b) a (ns.map V.int) := by
    rcases hS with (h1 | ⟨o, h1⟩) | h1
    · refine .inl (.inl ?_)
      have n : a ∉ tabs K := fun z => by
        obtain ⟨ps, y, _⟩ := tb a z
        rw [h1] at y
        cases y
      dsimp only
      rw [if_neg n]
      exact h1
    · refine .inl (.inr ⟨o, ?_⟩)
      have n : a ∉ tabs K := fun z => by
        obtain ⟨ps, y, _⟩ := tb a z
        rw [h1] at y
        cases y
      dsimp only
      rw [if_neg n]
      exact h1
    · exact .inr h1
  refine ⟨fun b => if b ∈ tabs K then none else H b, [scD ns], os, _, fun b o e => ?_, fun t ht => ⟨tb t ht, if_pos ht⟩, ⟨rfl, rfl, fun i d v hb hd hv => ?_, fun i d v hb hd hv => ?_, fun i j a _ hb _ _ _ => ?_⟩, hg, fun v F' H' P => ?_⟩
  · dsimp only at e
    split at e
    · cases e
    · exact e
  · cases i with
    | zero =>
      cases hd
      cases hv
      exact ⟨a, rfl, .inr (.inr (.inl ⟨ns, rfl, sq⟩))⟩
    | succ i => simp at hb
  · cases i with
    | zero => cases hb
    | succ i => simp at hb
  · cases i with
    | zero => cases hb
    | succ i => simp at hb
  · have e : v = .bl true := P.res
    rw [e]
    exact q H'
end
theorem FnG.to {P : Program} {w : World} {K : PySem.W.Frag} {mg : Str → Option Value} {base : Heap} {CX : CXT} {k : Nat} {f : Addr} {fd : FuncData} {ps : List Str} {sp sp' : Sp} (F : FnG P w K mg base CX k f fd ps sp) (h : ∀ vs H Q E, sp' vs H Q E → sp vs H Q E) : FnG P w K mg base CX k f fd ps sp' :=
  ⟨fun vs H Q E z => F.len vs H Q E (h _ _ _ _ z), fun A fs s H ar us vs Q E a b c d e z => F.go A fs s H ar us vs Q E a b c d e (h _ _ _ _ z)⟩

/-! ### dicts, by ints and texts, by tuples of these -/
def asKey : Dt → Option Key
  | .int i => some (.inl i)
  | .str s => some (.inr s)
  | _ => none
def asKeys : List Dt → Option (List Key)
  | [] => some []
  | d :: r => (asKey d).bind fun k => (asKeys r).map fun ks => k :: ks
def asTKey : Dt → Option (List Key)
  | .tuple ds => asKeys ds
  | _ => none
theorem asKey_kD (k : Key) : asKey (kD k) = some k := by cases k <;> rfl
theorem asKeys_kD : ∀ ks : List Key, asKeys (ks.map kD) = some ks
  | [] => rfl
  | k :: ks => by
    show (asKey (kD k)).bind _ = _
    rw [asKey_kD, Option.bind_some, asKeys_kD ks]
    rfl
theorem asKey_of {d : Dt} {k : Key} (h : asKey d = some k) : d = kD k := by
  cases d <;> first | (cases h; done) | (cases h; rfl)
theorem asKeys_of : ∀ {ds : List Dt} {ks : List Key}, asKeys ds = some ks → ds = ks.map kD
  | [], _, h => by
    cases h
    rfl
  | d :: r, _, h => by
    obtain ⟨k, h1, h2⟩ := bindS h
    obtain ⟨ks, h3, h4⟩ := mapS h2
    subst h4
    rw [asKey_of h1, asKeys_of h3]
    rfl
theorem asTKey_of {d : Dt} {ks : List Key} (h : asTKey d = some ks) : d = .tuple (ks.map kD) := by
  cases d <;> first | (cases h; done) | skip
  rw [asKeys_of h]
section
variable {κ : Type} [DecidableEq κ]
def valD (ak : Dt → Option κ) (kvs : List (Dt × Dt)) (k : κ) : Option Dt := (kvs.find? fun p => decide (ak p.1 = some k)).map (·.2)
def putD (ak : Dt → Option κ) (kd : κ → Dt) (kvs : List (Dt × Dt)) (k : κ) (d : Dt) : List (Dt × Dt) :=
  if (kvs.any fun p => decide (ak p.1 = some k)) = true then kvs.map (fun p => if ak p.1 = some k then (p.1, d) else p) else kvs ++ [(kd k, d)]
end
abbrev tD (ks : List Key) : Dt := .tuple (ks.map kD)
theorem asTKey_tD (ks : List Key) : asTKey (tD ks) = some ks := asKeys_kD ks
section
variable {K : PySem.W.Frag} {F : Hp}
/-- both kinds at once -/
inductive RpE (K : PySem.W.Frag) (F : Hp) {κ : Type} (kd : κ → Dt) : List (Dt × Dt) → List (κ × V) → Prop where
  | nil : RpE K F kd [] []
  | cons {k : κ} {d : Dt} {v : V} {ds : List (Dt × Dt)} {vs : List (κ × V)} : Rp K F d v → RpE K F kd ds vs → RpE K F kd ((kd k, d) :: ds) ((k, v) :: vs)
theorem RpK.to : ∀ {ds : List (Dt × Dt)} {vs : List (Key × V)}, RpK K F ds vs → RpE K F kD ds vs
  | [], _, h => by
    cases (show _ = _ from h)
    exact .nil
  | (k, d) :: ds, _, h => by
    obtain ⟨x, y, r, rfl, rfl, h1, h2⟩ := h
    exact .cons h1 (RpK.to h2)
theorem RpT.to : ∀ {ds : List (Dt × Dt)} {vs : List (List Key × V)}, RpT K F ds vs → RpE K F tD ds vs
  | [], _, h => by
    cases (show _ = _ from h)
    exact .nil
  | (k, d) :: ds, _, h => by
    obtain ⟨x, y, r, rfl, rfl, h1, h2⟩ := h
    exact .cons h1 (RpT.to h2)
theorem RpE.k {ds : List (Dt × Dt)} {vs : List (Key × V)} (h : RpE K F kD ds vs) : RpK K F ds vs := by
  induction h with
  | nil => exact rfl
  | cons h _ ih => exact ⟨_, _, _, rfl, rfl, h, ih⟩
theorem RpE.t {ds : List (Dt × Dt)} {vs : List (List Key × V)} (h : RpE K F tD ds vs) : RpT K F ds vs := by
  induction h with
  | nil => exact rfl
  | cons h _ ih => exact ⟨_, _, _, rfl, rfl, h, ih⟩
variable {κ : Type} [DecidableEq κ] {kd : κ → Dt} {ak : Dt → Option κ} (hak : ∀ k, ak (kd k) = some k)
include hak
theorem RpE.val {ds : List (Dt × Dt)} {vs : List (κ × V)} (h : RpE K F kd ds vs) (k : κ) : (valD ak ds k = none ∧ valV vs k = none) ∨ ∃ d v, valD ak ds k = some d ∧ valV vs k = some v ∧ Rp K F d v := by
  induction h with
  | nil => exact .inl ⟨rfl, rfl⟩
  | @cons j d v ds vs h1 _ ih =>
    by_cases c : j = k
    · subst c
      refine .inr ⟨d, v, ?_, ?_, h1⟩
      · simp [valD, hak]
      · simp [valV]
    · have e1 : valD ak ((kd j, d) :: ds) k = valD ak ds k := by simp [valD, List.find?_cons, hak, c]
      have e2 : valV ((j, v) :: vs) k = valV vs k := valV_neg c
      rw [e1, e2]
      exact ih
theorem RpE.any {ds : List (Dt × Dt)} {vs : List (κ × V)} (h : RpE K F kd ds vs) (k : κ) : (ds.any fun p => decide (ak p.1 = some k)) = vs.any fun p => decide (p.1 = k) := by
  induction h with
  | nil => rfl
  | @cons j d v ds vs h1 _ ih =>
    rw [List.any_cons, List.any_cons, ih]
    simp [hak]
theorem RpE.repl {ds : List (Dt × Dt)} {vs : List (κ × V)} (h : RpE K F kd ds vs) (k : κ) {d : Dt} {v : V} (hd : Rp K F d v) : RpE K F kd (ds.map fun p => if ak p.1 = some k then (p.1, d) else p) (vs.map fun p => if p.1 = k then (p.1, v) else p) := by
  induction h with
  | nil => exact .nil
  | @cons j d' v' ds vs h1 _ ih =>
    rw [List.map_cons, List.map_cons]
    dsimp only
    by_cases c : j = k
    · rw [if_pos (by rw [hak, c]), if_pos c]
      exact .cons hd ih
    · rw [if_neg (by rw [hak]; simpa using c), if_neg c]
      exact .cons h1 ih
omit hak in
theorem RpE.snoc {ds : List (Dt × Dt)} {vs : List (κ × V)} (h : RpE K F kd ds vs) (k : κ) {d : Dt} {v : V} (hd : Rp K F d v) : RpE K F kd (ds ++ [(kd k, d)]) (vs ++ [(k, v)]) := by
  induction h with
  | nil => exact .cons hd .nil
  | cons h1 _ ih => exact .cons h1 ih
theorem RpE.put {ds : List (Dt × Dt)} {vs : List (κ × V)} (h : RpE K F kd ds vs) (k : κ) {d : Dt} {v : V} (hd : Rp K F d v) : RpE K F kd (putD ak kd ds k d) (putK vs k v) := by
  unfold putD putK
  rw [h.any hak k]
  split
  · exact h.repl hak k hd
  · exact h.snoc k hd
omit hak in
theorem RpE.len {ds : List (Dt × Dt)} {vs : List (κ × V)} (h : RpE K F kd ds vs) : ds.length = vs.length := by
  induction h with
  | nil => rfl
  | cons _ _ ih => simp [ih]
end
section
variable {K : PySem.W.Frag}
def isMark : List (Dt × Dt) → Bool
  | (.none, _) :: _ => true
  | (.bool _, _) :: _ => true
  | _ => false
/-- what a dict holds at a key: none where it can't be told -/
def dget : Dt → Dt → Option (Option Dt)
  | .dict ((.none, .tuple []) :: r), k => (asTKey k).map fun x => valD asTKey r x
  | .dict ((.bool true, .none) :: r), k => (asKey k).map fun x => valD asKey r x
  | .dict kvs, k => if isMark kvs then none else (asKey k).map fun x => valD asKey kvs x
  | _, _ => none
def dput : Dt → Dt → Dt → Option Dt
  | .dict ((.none, .tuple []) :: r), k, d => if r.length < sizeLine then (asTKey k).map fun x => .dict ((.none, .tuple []) :: putD asTKey tD r x d) else none
  | .dict kvs, k, d => if isMark kvs || !decide (kvs.length < sizeLine) then none else (asKey k).map fun x => .dict (putD asKey kD kvs x d)
  | _, _, _ => none
/-- the dict that stands there -/
theorem dct_at {F H : Hp} {kvs : List (Dt × Dt)} {v : V} (s : Same F H) (h : Now K F H (.dict kvs) v) : ∃ a, v = .ref a ∧ ((∃ vs, H a = some (.dK vs) ∧ RpK K F kvs vs) ∨ (∃ vs, H a = some (.dT vs) ∧ RpM K F kvs vs) ∨ (∃ ns : List Int, kvs = [(.none, .list (ns.map PyData.int))]) ∨ (∃ o vs, H a = some (.frz o (.dK vs)) ∧ RpL K F kvs vs) ∨ ∃ (c : Str) (r : List (Dt × Dt)), kvs = (.bool false, .str c) :: r) := by
  rcases h with ⟨a, h1, ⟨vs, h2, h3⟩ | ⟨vs, h2, h3⟩ | ⟨ns, h2, h3⟩ | ⟨o, vs, h2, h3⟩ | ⟨c, C, fs, dd, _, _, _, h3⟩⟩ | ⟨a, h1, h⟩
  · exact ⟨a, h1, .inl ⟨vs, s _ _ h2, h3⟩⟩
  · exact ⟨a, h1, .inr (.inl ⟨vs, s _ _ h2, h3⟩)⟩
  · exact ⟨a, h1, .inr (.inr (.inl ⟨ns, h2⟩))⟩
  · exact ⟨a, h1, .inr (.inr (.inr (.inl ⟨o, vs, s _ _ h2, h3⟩)))⟩
  · refine ⟨a, h1, .inr (.inr (.inr (.inr ?_)))⟩
    cases kvs with
    | nil => exact h3.elim
    | cons p r =>
      obtain ⟨k, d⟩ := p
      obtain ⟨rfl, rfl, _⟩ := h3
      exact ⟨c, r, rfl⟩
  · rcases h with ⟨xs, _, h2, h, h3⟩ | ⟨_, _, h2, h, h3⟩ | ⟨_, _, h2, h, h3⟩
    · cases h
    · cases h
      exact ⟨a, h1, .inl ⟨_, h2, h3⟩⟩
    · cases h
      exact ⟨a, h1, .inr (.inl ⟨_, h2, h3⟩)⟩
theorem notMark {F : Hp} {kvs : List (Dt × Dt)} {vs : List (Key × V)} (h : RpK K F kvs vs) : isMark kvs = false := by
  cases kvs with
  | nil => rfl
  | cons p r =>
    obtain ⟨k, d⟩ := p
    obtain ⟨x, y, r', _, rfl, _⟩ := h
    cases x <;> rfl
theorem mark_of {F : Hp} {kvs : List (Dt × Dt)} {vs : List (List Key × V)} (h : RpM K F kvs vs) : ∃ r, kvs = (.none, .tuple []) :: r ∧ RpT K F r vs := by
  cases kvs with
  | nil => exact h.elim
  | cons p r =>
    obtain ⟨k, d⟩ := p
    obtain ⟨rfl, rfl, h⟩ := h
    exact ⟨r, rfl, h⟩
theorem lock_of {F : Hp} {kvs : List (Dt × Dt)} {vs : List (Key × V)} (h : RpL K F kvs vs) : ∃ r, kvs = (.bool true, .none) :: r ∧ RpK K F r vs := by
  cases kvs with
  | nil => exact h.elim
  | cons p r =>
    obtain ⟨k, d⟩ := p
    obtain ⟨rfl, rfl, h⟩ := h
    exact ⟨r, rfl, h⟩
theorem key_at {F H : Hp} {d : Dt} {k : Key} {v : V} (h : Now K F H d v) (e : asKey d = some k) : v = kV k := by
  cases d <;> first | (cases e; done) | skip
  · cases e
    exact h.int
  · cases e
    exact h.str
theorem keys_rp {F : Hp} : ∀ {ks : List Key} {xs : List V}, RpA K F (ks.map kD) xs → xs = ks.map kV
  | [], _, h => h
  | k :: ks, _, h => by
    obtain ⟨x, r, rfl, h1, h2⟩ := h
    rw [keys_rp h2]
    cases k with
    | inl i => rw [show x = .int i from h1]; rfl
    | inr i => rw [show x = .str i from h1]; rfl
theorem tkey_at {F H : Hp} {d : Dt} {ks : List Key} {v : V} (s : Same F H) (h : Now K F H d v) (e : asTKey d = some ks) : ∃ b, v = .ref b ∧ H b = some (.tup (ks.map kV)) := by
  rw [asTKey_of e] at h
  obtain ⟨a, xs, h1, h2, h3⟩ := h.tup s
  rw [keys_rp h3] at h2
  exact ⟨a, h1, h2⟩
theorem dget_ok {F H : Hp} {d k : Dt} {x y : V} {o : Option Dt} (s : Same F H) (hx : Now K F H d x) (hy : Now K F H k y) (h : dget d k = some o) :
    ∃ a o', x = .ref a ∧ IsD H a ∧ DGet H a y o' ∧ ((o = none ∧ o' = none) ∨ ∃ z v, o = some z ∧ o' = some v ∧ Rp K F z v) := by
  unfold dget at h
  split at h
  · rename_i r
    obtain ⟨t, h1, h2⟩ := mapS h
    obtain ⟨a, rfl, ⟨vs, h3, h4⟩ | ⟨vs, h3, h4⟩ | ⟨ns, h3⟩ | ⟨ob, vs, h3, h4⟩ | ⟨c', r', h3⟩⟩ := dct_at s hx
    · have z := notMark h4
      cases z
    · obtain ⟨b, rfl, h5⟩ := tkey_at s hy h1
      refine ⟨a, valV vs t, rfl, .inr ⟨vs, .inl h3⟩, DGet.t h3 h5, ?_⟩
      obtain ⟨r', e, h6⟩ := mark_of h4
      cases e
      subst h2
      rcases h6.to.val asTKey_tD t with ⟨e1, e2⟩ | ⟨z, v, e1, e2, e3⟩
      · exact .inl ⟨e1, e2⟩
      · exact .inr ⟨z, v, e1, e2, e3⟩
    · cases h3
    · obtain ⟨h4, _⟩ := h4
      cases h4
    · cases h3
  · rename_i r
    obtain ⟨t, h1, h2⟩ := mapS h
    obtain ⟨a, rfl, ⟨vs, h3, h4⟩ | ⟨vs, h3, h4⟩ | ⟨ns, h3⟩ | ⟨ob, vs, h3, h4⟩ | ⟨c', r', h3⟩⟩ := dct_at s hx
    · have z := notMark h4
      cases z
    · obtain ⟨h4, _⟩ := h4
      cases h4
    · cases h3
    · rw [key_at hy h1]
      refine ⟨a, valV vs t, rfl, .inl ⟨vs, .inr ⟨ob, h3⟩⟩, .inl ⟨vs, t, .inr ⟨ob, h3⟩, rfl, rfl⟩, ?_⟩
      obtain ⟨_, _, h6⟩ := h4
      subst h2
      rcases h6.to.val asKey_kD t with ⟨e1, e2⟩ | ⟨z, v, e1, e2, e3⟩
      · exact .inl ⟨e1, e2⟩
      · exact .inr ⟨z, v, e1, e2, e3⟩
    · cases h3
  · rename_i kvs n
    split at h
    · cases h
    rename_i nm
    obtain ⟨t, h1, h2⟩ := mapS h
    obtain ⟨a, rfl, ⟨vs, h3, h4⟩ | ⟨vs, h3, h4⟩ | ⟨ns, h3⟩ | ⟨ob, vs, h3, h4⟩ | ⟨c', r', h3⟩⟩ := dct_at s hx
    · rw [key_at hy h1]
      refine ⟨a, valV vs t, rfl, .inl ⟨vs, .inl h3⟩, DGet.k h3, ?_⟩
      subst h2
      rcases h4.to.val asKey_kD t with ⟨e1, e2⟩ | ⟨z, v, e1, e2, e3⟩
      · exact .inl ⟨e1, e2⟩
      · exact .inr ⟨z, v, e1, e2, e3⟩
    · obtain ⟨r', e, h6⟩ := mark_of h4
      subst e
      exact absurd rfl nm
    · subst h3
      exact absurd rfl nm
    · obtain ⟨r', e, h6⟩ := lock_of h4
      subst e
      exact absurd rfl nm
    · subst h3
      exact absurd rfl nm
  · cases h
/-! {} -/
theorem Sn.newD {M : Fm} {env : Evs} {F : Hp} {σ : L2.St} {H : Hp} (S : Sn K M env F σ H) {p : Addr} (h : H p = none) {vs : List (Key × V)} {ds : List (Dt × Dt)} (r : RpK K F ds vs) :
    Sn K M env F σ (upd H p (.dK vs)) ∧ Loose M env F σ p ∧ OwOk K F (upd H p (.dK vs) p) (.dict ds) := ⟨S.raw h _, S.loose h, by rw [upd_same]; exact .inr (.inl ⟨vs, ds, rfl, rfl, r⟩)⟩
theorem Sn.newT {M : Fm} {env : Evs} {F : Hp} {σ : L2.St} {H : Hp} (S : Sn K M env F σ H) {p : Addr} (h : H p = none) {vs : List (List Key × V)} {ds : List (Dt × Dt)} (r : RpM K F ds vs) :
    Sn K M env F σ (upd H p (.dT vs)) ∧ Loose M env F σ p ∧ OwOk K F (upd H p (.dT vs) p) (.dict ds) := ⟨S.raw h _, S.loose h, by rw [upd_same]; exact .inr (.inr ⟨vs, ds, rfl, rfl, r⟩)⟩
theorem r_dnewK : RO K tDNewK (mK (.dict [])) := fun M env F σ H env' d Q S e q => by
  cases e
  intro p np
  obtain ⟨S2, L2, o2⟩ := S.newD np (vs := []) (ds := []) rfl
  exact q p F _ S2 (Same.refl F) L2 o2
theorem r_dnewT : RO K tDNewT (mK (.dict [(.none, .tuple [])])) := fun M env F σ H env' d Q S e q => by
  cases e
  intro p np
  obtain ⟨S2, L2, o2⟩ := S.newT np (vs := []) (ds := [(.none, .tuple [])]) ⟨rfl, rfl, rfl⟩
  exact q p F _ S2 (Same.refl F) L2 o2
/-! reading -/
def fDGet (d k : Dt) : Option Dt := (dget d k).bind fun o => o
def fDIn (neg : Bool) (k d : Dt) : Option Dt := (dget d k).map fun o => .bool (if neg then !o.isSome else o.isSome)
theorem r_dget {td ty : TE} {a b : Mx} (ha : RE K td a) (hb : RQ K ty b) : RE K (tDGet td ty) (mOp fDGet a b) := fun M env F σ H env' d Q S e q => by
  obtain ⟨⟨e1, x⟩, h1, h⟩ := bindS e
  obtain ⟨⟨e2, y⟩, h2, h⟩ := bindS h
  obtain ⟨z, h3, h⟩ := mapS h
  cases h
  refine ha M env F σ H e1 x _ S h1 fun v F1 H1 S1 s1 r1 => hb M e1 F1 σ H1 e2 y _ S1 h2 fun u F2 H2 S2 s2 r2 => ?_
  obtain ⟨o, h4, h5⟩ := bindS h3
  obtain ⟨a, o', rfl, _, g, ⟨e5, _⟩ | ⟨z, w, e5, e6, e7⟩⟩ := dget_ok S2.sub (.inl (r1.mono s2 _ _)) r2 h4
  · subst e5
    cases h5
  · subst e5 e6
    cases h5
    exact ⟨a, w, rfl, g, q w F2 H2 S2 (s1.trans s2) e7⟩
theorem r_dgetP {ty : TE} {i : Nat} {b : Mx} (hb : RQ K ty b) : RE K (tDGet (tVar i) ty) (mOpP fDGet i b) := fun M env F σ H env' d Q S e q => by
  obtain ⟨⟨e0, x0⟩, h0, h⟩ := bindS e
  obtain ⟨⟨e2, y⟩, h2, h⟩ := bindS h
  obtain ⟨⟨e3, x⟩, h3, h⟩ := bindS h
  obtain ⟨z, h4, h⟩ := mapS h
  cases h
  obtain ⟨s0, w1, w2⟩ := bindS h0
  obtain ⟨d0, w3, w4⟩ := mapS w2
  obtain ⟨a, z1, z2, z3⟩ := S.owS i s0 d0 w1 w3
  refine ⟨_, z1, hb M env F σ H e2 y _ S h2 fun u F2 H2 S2 s2 r2 => ?_⟩
  obtain ⟨s1, w5, w6⟩ := bindS h3
  obtain ⟨d1, w7, w8⟩ := mapS w6
  cases w8
  obtain ⟨a', y1, y2, y3⟩ := S2.owS i s1 _ w5 w7
  rw [z1] at y1
  cases y1
  obtain ⟨o, h5, h6⟩ := bindS h4
  obtain ⟨a2, o', e8, _, g, ⟨e5, _⟩ | ⟨z, w, e5, e6, e7⟩⟩ := dget_ok S2.sub (.inr ⟨a, rfl, y3⟩) r2 h5
  · subst e5
    cases h6
  · subst e5 e6
    cases h6
    cases e8
    exact ⟨a, w, rfl, g, q w F2 H2 S2 s2 e7⟩
theorem r_din {td ty : TE} {a b : Mx} (ha : RE K ty a) (hb : RQ K td b) : RE K (tDIn ty td) (mOp (fDIn false) a b) := fun M env F σ H env' d Q S e q => by
  obtain ⟨⟨e1, x⟩, h1, h⟩ := bindS e
  obtain ⟨⟨e2, y⟩, h2, h⟩ := bindS h
  obtain ⟨z, h3, h⟩ := mapS h
  cases h
  refine ha M env F σ H e1 x _ S h1 fun v F1 H1 S1 s1 r1 => hb M e1 F1 σ H1 e2 y _ S1 h2 fun u F2 H2 S2 s2 r2 => ?_
  obtain ⟨o, h4, h5⟩ := mapS h3
  obtain ⟨a, o', rfl, _, g, hh⟩ := dget_ok S2.sub r2 (.inl (r1.mono s2 _ _)) h4
  have eo : o'.isSome = o.isSome := by
    rcases hh with ⟨e5, e6⟩ | ⟨z, w, e5, e6, e7⟩ <;> rw [e5, e6] <;> rfl
  subst h5
  refine ⟨a, o', rfl, g, ?_⟩
  rw [eo]
  exact q _ F2 H2 S2 (s1.trans s2) rfl
theorem r_dnotin {td ty : TE} {a b : Mx} (ha : RE K ty a) (hb : RQ K td b) : RE K (tDNotIn ty td) (mOp (fDIn true) a b) := fun M env F σ H env' d Q S e q => by
  obtain ⟨⟨e1, x⟩, h1, h⟩ := bindS e
  obtain ⟨⟨e2, y⟩, h2, h⟩ := bindS h
  obtain ⟨z, h3, h⟩ := mapS h
  cases h
  refine ha M env F σ H e1 x _ S h1 fun v F1 H1 S1 s1 r1 => hb M e1 F1 σ H1 e2 y _ S1 h2 fun u F2 H2 S2 s2 r2 => ?_
  obtain ⟨o, h4, h5⟩ := mapS h3
  obtain ⟨a, o', rfl, _, g, hh⟩ := dget_ok S2.sub r2 (.inl (r1.mono s2 _ _)) h4
  have eo : o'.isSome = o.isSome := by
    rcases hh with ⟨e5, e6⟩ | ⟨z, w, e5, e6, e7⟩ <;> rw [e5, e6] <;> rfl
  subst h5
  refine ⟨a, o', rfl, g, ?_⟩
  rw [eo]
  exact q _ F2 H2 S2 (s1.trans s2) rfl
/-- d.get(k, x), d frozen or looked at -/
def mDGet2 (a k x : Mx) : Mx := fun env => (a env).bind fun p => (k p.1).bind fun q => (x q.1).bind fun r => (dget p.2 q.2).map fun o => (r.1, o.getD r.2)
def isDc (i : Nat) (env : Evs) : Option Unit := (env[i]?).bind fun s => match s.own with
  | some (.dict _) => some ()
  | _ => none
theorem isDc_of {i : Nat} {env : Evs} {u : Unit} (h : isDc i env = some u) : ∃ s ds, env[i]? = some s ∧ s.own = some (.dict ds) := by
  obtain ⟨s, h1, h2⟩ := bindS h
  split at h2
  · rename_i ds h3
    exact ⟨s, ds, h1, h3⟩
  · cases h2
def mDGet2P (i : Nat) (k x : Mx) : Mx := fun env => (isDc i env).bind fun _ => (k env).bind fun q => (x q.1).bind fun r => (mPeek i r.1).bind fun p => (dget p.2 q.2).map fun o => (r.1, o.getD r.2)
theorem r_dget2 {td ty tx : TE} {a b c : Mx} (ha : RE K td a) (hb : RE K ty b) (hc : RE K tx c) : RE K (tDGet2 td ty tx) (mDGet2 a b c) := fun M env F σ H env' d Q S e q => by
  obtain ⟨⟨e1, x⟩, h1, h⟩ := bindS e
  obtain ⟨⟨e2, y⟩, h2, h⟩ := bindS h
  obtain ⟨⟨e3, z⟩, h3, h⟩ := bindS h
  obtain ⟨o, h4, h⟩ := mapS h
  cases h
  refine ha M env F σ H e1 x _ S h1 fun v F1 H1 S1 s1 r1 => ?_
  have isd : ∃ a, v = .ref a ∧ IsD H1 a := by
    cases x <;> first | (cases h4; done) | skip
    obtain ⟨a, rfl, ⟨vs, h3, _⟩ | ⟨vs, h3, _⟩ | ⟨ns, h3⟩ | ⟨ob, vs, h3, _⟩ | ⟨c', r', h3⟩⟩ := dct_at S1.sub (.inl r1)
    · exact ⟨a, rfl, .inl ⟨vs, .inl h3⟩⟩
    · exact ⟨a, rfl, .inr ⟨vs, .inl h3⟩⟩
    · subst h3
      cases h4
    · exact ⟨a, rfl, .inl ⟨vs, .inr ⟨ob, h3⟩⟩⟩
    · subst h3
      cases h4
  obtain ⟨a, rfl, ia⟩ := isd
  refine ⟨a, rfl, ia, hb M e1 F1 σ H1 e2 y _ S1 h2 fun u F2 H2 S2 s2 r2 => hc M e2 F2 σ H2 e3 z _ S2 h3 fun w F3 H3 S3 s3 r3 => ?_⟩
  obtain ⟨a', o', e8, _, g, hh⟩ := dget_ok S3.sub (.inl (r1.mono (s2.trans s3) _ _)) (.inl (r2.mono s3 _ _)) h4
  cases e8
  refine ⟨o', g, q _ F3 H3 S3 (s1.trans (s2.trans s3)) ?_⟩
  rcases hh with ⟨e5, e6⟩ | ⟨z', w', e5, e6, e7⟩
  · rw [e5, e6]
    exact r3
  · rw [e5, e6]
    exact e7
theorem r_dget2P {ty tx : TE} {i : Nat} {b c : Mx} (hb : RE K ty b) (hc : RE K tx c) : RE K (tDGet2 (tVar i) ty tx) (mDGet2P i b c) := fun M env F σ H env' d Q S e q => by
  obtain ⟨_, h0, h⟩ := bindS e
  obtain ⟨⟨e2, y⟩, h2, h⟩ := bindS h
  obtain ⟨⟨e3, z⟩, h3, h⟩ := bindS h
  obtain ⟨⟨e4, x⟩, h1, h⟩ := bindS h
  obtain ⟨o, h4, h⟩ := mapS h
  cases h
  obtain ⟨s0, d0, w1, w3⟩ := isDc_of h0
  obtain ⟨a, z1, z2, z3⟩ := S.owS i s0 _ w1 w3
  obtain ⟨s1, w5, w6⟩ := bindS h1
  obtain ⟨d1, w7, w8⟩ := mapS w6
  cases w8
  have key : ∀ F3 H3, Sn K M e3 F3 σ H3 → Now K F3 H3 x (.ref a) := fun F3 H3 S3 => by
    obtain ⟨a', y1, y2, y3⟩ := S3.owS i s1 _ w5 w7
    rw [z1] at y1
    cases y1
    exact .inr ⟨a, rfl, y3⟩
  have isd : IsD H a := by
    rcases z3 with ⟨xs, ds, g1, g2, g3⟩ | ⟨vs, ds, g1, _, _⟩ | ⟨vs, ds, g1, _, _⟩
    · cases g2
    · exact .inl ⟨vs, .inl g1⟩
    · exact .inr ⟨vs, .inl g1⟩
  refine ⟨_, z1, a, rfl, isd, hb M env F σ H e2 y _ S h2 fun u F2 H2 S2 s2 r2 => hc M e2 F2 σ H2 e3 z _ S2 h3 fun w F3 H3 S3 s3 r3 => ?_⟩
  obtain ⟨a', o', e8, _, g, hh⟩ := dget_ok S3.sub (key F3 H3 S3) (.inl (r2.mono s3 _ _)) h4
  cases e8
  refine ⟨o', g, q _ F3 H3 S3 (s2.trans s3) ?_⟩
  rcases hh with ⟨e5, e6⟩ | ⟨z', w', e5, e6, e7⟩
  · rw [e5, e6]
    exact r3
  · rw [e5, e6]
    exact e7
/-! d[k] = v, d owned -/
def mDPut (i : Nat) (k v : Mx) : Mst := fun env => (v env).bind fun p => (mPeek i p.1).bind fun _ => (k p.1).bind fun q => (q.1[i]?).bind fun s => s.own.bind fun d => (dput d q.2 p.2).map fun d' => .nx (q.1.set i (s.with d'))
theorem r_dput {i : Nat} {tk tv : TE} {k v : Mx} (hk : RE K tk k) (hv : RE K tv v) : RS K (sDPut (tVar i) tk tv) (mDPut i k v) := fun M env F σ H fl D S e q => by
  obtain ⟨⟨e1, d⟩, h1, h⟩ := bindS e
  obtain ⟨⟨e0, x0⟩, h0, h⟩ := bindS h
  obtain ⟨⟨e2, y⟩, h2, h⟩ := bindS h
  obtain ⟨s, h3, h⟩ := bindS h
  obtain ⟨d0, h4, h⟩ := bindS h
  obtain ⟨d', h5, h⟩ := mapS h
  subst h
  refine hv M env F σ H e1 d _ S h1 fun u F1 H1 S1 s1 r1 => ?_
  obtain ⟨t0, w1, w2⟩ := bindS h0
  obtain ⟨c0, w3, w4⟩ := mapS w2
  obtain ⟨a, z1, z2, z3⟩ := S1.owS i t0 c0 w1 w3
  refine ⟨_, z1, hk M e1 F1 σ H1 e2 y _ S1 h2 fun w F2 H2 S2 s2 r2 => ?_⟩
  obtain ⟨a', y1, y2, y3⟩ := S2.owS i s d0 h3 h4
  rw [z1] at y1
  cases y1
  have ru := r1.mono s2 _ _
  unfold dput at h5
  split at h5
  · rename_i r
    split at h5
    case isFalse => cases h5
    rename_i hl
    obtain ⟨t, h6, h7⟩ := mapS h5
    subst h7
    rcases y3 with ⟨xs, ds, g1, g2, g3⟩ | ⟨vs, ds, g1, g2, g3⟩ | ⟨vs, ds, g1, g2, g3⟩
    · cases g2
    · cases g2
      have z := notMark g3
      cases z
    · cases g2
      obtain ⟨b, rfl, h8⟩ := tkey_at S2.sub (.inl r2) h6
      obtain ⟨r', e9, h9⟩ := mark_of g3
      cases e9
      have ln := h9.to.len
      refine ⟨a, _, rfl, DPut.t g1 h8 (by omega), q σ F2 _ (S2.chg h3 h4 z1 (.inr (.inr ⟨_, _, rfl, rfl, rfl, rfl, (h9.to.put asTKey_tD t ru).t⟩))) (s1.trans s2)⟩
  · rename_i kvs _
    split at h5
    · cases h5
    rename_i nm
    obtain ⟨t, h6, h7⟩ := mapS h5
    subst h7
    simp only [Bool.or_eq_true, not_or, Bool.not_eq_true, Bool.not_eq_false', decide_eq_true_eq] at nm
    rcases y3 with ⟨xs, ds, g1, g2, g3⟩ | ⟨vs, ds, g1, g2, g3⟩ | ⟨vs, ds, g1, g2, g3⟩
    · cases g2
    · cases g2
      have ln := g3.to.len
      have yk := key_at (F := F2) (H := H2) (.inl r2) h6
      rw [yk]
      refine ⟨a, _, rfl, DPut.k g1 (by omega), q σ F2 _ (S2.chg h3 h4 z1 (.inr (.inl ⟨_, _, rfl, rfl, (g3.to.put asKey_kD t ru).k⟩))) (s1.trans s2)⟩
    · cases g2
      obtain ⟨r', e9, h9⟩ := mark_of g3
      subst e9
      have := nm.1
      cases this
  · cases h5
end

/-! ### running a mirror -/
section
variable {a b : Mst} {c : Mb} {env e e' : Evs} {fl : Fl} {x y z d : Dt} {p q : Mx} {r : Sl} {i : Nat}
theorem seq_nx (h : a env = some (.nx e)) (h2 : b e = some fl) : mSeq a b env = some fl := by
  unfold mSeq
  rw [h]
  exact h2
theorem seq_rt (h : a env = some (.rt e r)) : mSeq a b env = some (.rt e r) := by
  unfold mSeq
  rw [h]
  rfl
theorem ifS_t (h : c env = some (e, true)) (h2 : a e = some fl) : mIfS c a b env = some fl := by
  unfold mIfS
  rw [h]
  exact h2
theorem ifS_f (h : c env = some (e, false)) (h2 : b e = some fl) : mIfS c a b env = some fl := by
  unfold mIfS
  rw [h]
  exact h2
theorem if_t {u v : Mx} {s : Evs × Dt} (h : c env = some (e, true)) (h2 : u e = some s) : mIf c u v env = some s := by
  unfold mIf
  rw [h]
  exact h2
theorem if_f {u v : Mx} {s : Evs × Dt} (h : c env = some (e, false)) (h2 : v e = some s) : mIf c u v env = some s := by
  unfold mIf
  rw [h]
  exact h2
theorem set_ev (h : p env = some (e, d)) (h2 : putF i d e = some e') : mSet i p env = some (.nx e') := by
  unfold mSet mAsg
  rw [h]
  show (putF i d e).map _ = _
  rw [h2]
  rfl
theorem setO_ev (h : p env = some (e, d)) (h2 : putO i d e = some e') : mSetO i p env = some (.nx e') := by
  unfold mSetO
  rw [h]
  show (putO i d e).map _ = _
  rw [h2]
  rfl
theorem asg_ev {g : Mg} (h : p env = some (e, d)) (h2 : g d e = some e') : mAsg p g env = some (.nx e') := by
  unfold mAsg
  rw [h]
  show (g d e).map _ = _
  rw [h2]
  rfl
theorem ret_ev (h : p env = some (e, d)) : mRet p env = some (.rt e (.fz d)) := by
  unfold mRet
  rw [h]
  rfl
theorem retO_ev (h : p env = some (e, d)) : mRetO p env = some (.rt e (.ow d)) := by
  unfold mRetO
  rw [h]
  rfl
theorem op_ev {f : Dt → Dt → Option Dt} (h1 : p env = some (e, x)) (h2 : q e = some (e', y)) (h3 : f x y = some z) : mOp f p q env = some (e', z) := by
  unfold mOp
  rw [h1]
  show (q e).bind _ = _
  rw [h2]
  show (f x y).map _ = _
  rw [h3]
  rfl
theorem b_ev {t : Bool} (h : p env = some (e, .bool t)) : mB p env = some (e, t) := by
  unfold mB
  rw [h]
  rfl
theorem or_t {c' : Mb} (h : c env = some (e, true)) : mOr c c' env = some (e, true) := by
  unfold mOr
  rw [h]
  rfl
theorem or_f {c' : Mb} {s : Evs × Bool} (h : c env = some (e, false)) (h2 : c' e = some s) : mOr c c' env = some s := by
  unfold mOr
  rw [h]
  exact h2
theorem and_f {c' : Mb} (h : c env = some (e, false)) : mAnd c c' env = some (e, false) := by
  unfold mAnd
  rw [h]
  rfl
theorem and_t {c' : Mb} {s : Evs × Bool} (h : c env = some (e, true)) (h2 : c' e = some s) : mAnd c c' env = some s := by
  unfold mAnd
  rw [h]
  exact h2
theorem un_ev {f : Dt → Option Dt} (h : p env = some (e, x)) (h2 : f x = some z) : mUn f p env = some (e, z) := by
  unfold mUn
  rw [h]
  show (f x).map _ = _
  rw [h2]
  rfl
theorem c1_ev {f : Dt → Option Dt} (h : p env = some (e, x)) (h2 : f x = some z) : mC1 f p env = some (e, z) := un_ev h h2
theorem cs_ev {f : List Dt → Option Dt} {s : Ms} {ds : List Dt} (h : s env = some (e, ds)) (h2 : f ds = some z) : mCs f s env = some (e, z) := by
  unfold mCs
  rw [h]
  show (f ds).map _ = _
  rw [h2]
  rfl
theorem cons_ev {s : Ms} {ds : List Dt} (h : p env = some (e, x)) (h2 : s e = some (e', ds)) : mCons p s env = some (e', x :: ds) := by
  unfold mCons
  rw [h]
  show (s e).map _ = _
  rw [h2]
  rfl
theorem tup_ev {s : Ms} {ds : List Dt} (h : s env = some (e, ds)) (l : ds.length ≤ sizeLine) : mTup s env = some (e, .tuple ds) := by
  unfold mTup
  rw [h]
  exact if_pos l
theorem lst_ev {s : Ms} {ds : List Dt} (h : s env = some (e, ds)) (l : ds.length ≤ sizeLine) : mLst s env = some (e, .list ds) := by
  unfold mLst
  rw [h]
  exact if_pos l
theorem for_ev {mi : Ms} {g : Mg} {ds : List Dt} (h : mi env = some (e, ds)) (h2 : loopM g b ds e = some fl) : mFor mi g b env = some fl := by
  unfold mFor
  rw [h]
  exact h2
theorem rng_ev {k : List Dt → Option (List Dt)} {s : Ms} {ds es : List Dt} (h : s env = some (e, ds)) (h2 : k ds = some es) : mRng k s env = some (e, es) := by
  unfold mRng
  rw [h]
  show (k ds).map _ = _
  rw [h2]
  rfl
theorem items_ev {k : Dt → Option (List Dt)} {es : List Dt} (h : p env = some (e, x)) (h2 : k x = some es) : mItems k p env = some (e, es) := by
  unfold mItems
  rw [h]
  show (k x).map _ = _
  rw [h2]
  rfl
/-- a loop that runs to its end -/
theorem loop_inv {g : Mg} (I : Nat → Evs → Prop) : ∀ (ds : List Dt) (k : Nat) (env : Evs), I k env → (∀ (j : Nat) (d : Dt) (env : Evs), ds[j]? = some d → I (k + j) env → ∃ e1 e2, g d env = some e1 ∧ (b e1 = some (.nx e2) ∨ b e1 = some (.ct e2)) ∧ I (k + j + 1) e2) →
    ∃ e, loopM g b ds env = some (.nx e) ∧ I (k + ds.length) e
  | [], k, env, h, _ => ⟨env, rfl, h⟩
  | d :: ds, k, env, h, st => by
    obtain ⟨e1, e2, h1, h2, h3⟩ := st 0 d env rfl h
    obtain ⟨e, h4, h5⟩ := loop_inv I ds (k + 1) e2 h3 fun j d' env' hj hI => by
      obtain ⟨f1, f2, k1, k2, k3⟩ := st (j + 1) d' env' (by simpa using hj) (by rw [show k + (j + 1) = k + 1 + j by omega]; exact hI)
      exact ⟨f1, f2, k1, k2, by rw [show k + 1 + j + 1 = k + (j + 1) + 1 by omega]; exact k3⟩
    refine ⟨e, ?_, by rw [List.length_cons, show k + (ds.length + 1) = k + 1 + ds.length by omega]; exact h5⟩
    unfold loopM
    rw [h1]
    rcases h2 with h2 | h2
    · show (b e1).bind _ = _
      rw [h2]
      exact h4
    · show (b e1).bind _ = _
      rw [h2]
      exact h4
theorem rgD_len (lo : Int) (n : Nat) : (rgD lo n).length = n := by simp [rgD]
theorem loop_rng {g : Mg} {lo : Int} {n : Nat} (I : Nat → Evs → Prop) (h0 : I 0 env) (st : ∀ (j : Nat) (env : Evs), j < n → I j env → ∃ e1 e2, g (.int (lo + (j : Int))) env = some e1 ∧ (b e1 = some (.nx e2) ∨ b e1 = some (.ct e2)) ∧ I (j + 1) e2) :
    ∃ e, loopM g b (rgD lo n) env = some (.nx e) ∧ I n e := by
  obtain ⟨e, h1, h2⟩ := loop_inv (b := b) (g := g) I (rgD lo n) 0 env h0 fun j d env hj hI => by
    obtain ⟨k1, rfl⟩ := rgD_get hj
    rw [Nat.zero_add] at hI
    obtain ⟨e1, e2, g1, g2, g3⟩ := st j env k1 hI
    exact ⟨e1, e2, g1, g2, by rw [Nat.zero_add]; exact g3⟩
  rw [rgD_len, Nat.zero_add] at h2
  exact ⟨e, h1, h2⟩
/-- the items of a list one by one, a comprehension that keeps its slots -/
theorem lc_map {g : Mg} {tt : Mb} {te : Mx} {vs : List Nat} (f : Dt → Dt) : ∀ (ds : List Dt), (∀ d ∈ ds, ∃ e1 e2, g d env = some e1 ∧ tt e1 = some (e1, true) ∧ te e1 = some (e2, f d) ∧ wipeE e2 vs = env) → lcM g tt te vs ds env = some (env, ds.map f)
  | [], _ => rfl
  | d :: ds, h => by
    obtain ⟨e1, e2, h1, h2, h3, h4⟩ := h d List.mem_cons_self
    unfold lcM
    rw [h1]
    show (tt e1).bind _ = _
    rw [h2]
    show (te e1).bind _ = _
    rw [h3]
    show (lcM g tt te vs ds (wipeE e2 vs)).map _ = _
    rw [h4, lc_map f ds fun d' hd => h d' (List.mem_cons_of_mem _ hd)]
    rfl
theorem lc_filter {g : Mg} {tt : Mb} {te : Mx} {vs : List Nat} (k : Dt → Bool) (f : Dt → Dt) : ∀ (ds : List Dt), (∀ d ∈ ds, ∃ e1 e2, g d env = some e1 ∧ tt e1 = some (e2, k d) ∧ wipeE e2 vs = env ∧ (k d = true → ∃ e3, te e2 = some (e3, f d) ∧ wipeE e3 vs = env)) → lcM g tt te vs ds env = some (env, (ds.filter k).map f)
  | [], _ => rfl
  | d :: ds, h => by
    obtain ⟨e1, e2, h1, h2, h3, h4⟩ := h d List.mem_cons_self
    have ih := lc_filter k f ds fun d' hd => h d' (List.mem_cons_of_mem _ hd)
    unfold lcM
    rw [h1]
    show (tt e1).bind _ = _
    rw [h2]
    show (if k d = true then _ else _) = _
    cases c : k d with
    | true =>
      obtain ⟨e3, h5, h6⟩ := h4 c
      rw [if_pos rfl]
      show (te e2).bind _ = _
      rw [h5]
      show (lcM g tt te vs ds (wipeE e3 vs)).map _ = _
      rw [h6, ih, List.filter_cons_of_pos c]
      rfl
    | false =>
      rw [if_neg (by decide)]
      show lcM g tt te vs ds (wipeE e2 vs) = _
      rw [h3, ih, List.filter_cons_of_neg (by rw [c]; decide)]
/-- .. with a state -/
theorem lc_inv {g : Mg} {tt : Mb} {te : Mx} {vs : List Nat} (I : Nat → Evs → List Dt → Prop) : ∀ (ds : List Dt) (k : Nat) (env : Evs) (acc : List Dt), I k env acc → (∀ (j : Nat) (d : Dt) (env : Evs) (acc : List Dt), ds[j]? = some d → I (k + j) env acc →
      ∃ e1 e2 t, g d env = some e1 ∧ tt e1 = some (e2, t) ∧ (t = true → ∃ e3 z, te e2 = some (e3, z) ∧ I (k + j + 1) (wipeE e3 vs) (acc ++ [z])) ∧ (t = false → I (k + j + 1) (wipeE e2 vs) acc)) →
    ∃ e out, lcM g tt te vs ds env = some (e, out) ∧ I (k + ds.length) e (acc ++ out)
  | [], k, env, acc, h, _ => ⟨env, [], rfl, by rw [List.append_nil]; exact h⟩
  | d :: ds, k, env, acc, h, st => by
    obtain ⟨e1, e2, t, h1, h2, h3, h4⟩ := st 0 d env acc rfl h
    have next : ∀ (env' : Evs) (acc' : List Dt), I (k + 1) env' acc' → ∃ e out, lcM g tt te vs ds env' = some (e, out) ∧ I (k + 1 + ds.length) e (acc' ++ out) := fun env' acc' hI =>
      lc_inv I ds (k + 1) env' acc' hI fun j d' env2 acc2 hj hI2 => by
        obtain ⟨f1, f2, t', k1, k2, k3, k4⟩ := st (j + 1) d' env2 acc2 (by simpa using hj) (by rw [show k + (j + 1) = k + 1 + j by omega]; exact hI2)
        refine ⟨f1, f2, t', k1, k2, fun c => ?_, fun c => ?_⟩
        · obtain ⟨e3, z, k5, k6⟩ := k3 c
          exact ⟨e3, z, k5, by rw [show k + 1 + j + 1 = k + (j + 1) + 1 by omega]; exact k6⟩
        · rw [show k + 1 + j + 1 = k + (j + 1) + 1 by omega]
          exact k4 c
    rw [List.length_cons, show k + (ds.length + 1) = k + 1 + ds.length by omega]
    unfold lcM
    rw [h1]
    show ∃ e out, (tt e1).bind _ = _ ∧ _
    rw [h2]
    cases t with
    | true =>
      obtain ⟨e3, z, h5, h6⟩ := h3 rfl
      obtain ⟨e, out, k1, k2⟩ := next _ _ h6
      refine ⟨e, z :: out, ?_, by rw [List.append_assoc] at k2; exact k2⟩
      show (te e2).bind _ = _
      rw [h5]
      show (lcM g tt te vs ds (wipeE e3 vs)).map _ = _
      rw [k1]
      rfl
    | false =>
      obtain ⟨e, out, k1, k2⟩ := next _ _ (h4 rfl)
      exact ⟨e, out, k1, k2⟩
theorem lc_ev {mi : Ms} {g : Mg} {tt : Mb} {te : Mx} {vs : List Nat} {ds out : List Dt} (h : mi env = some (e, ds)) (h2 : lcM g tt te vs ds (wipeE e vs) = some (e', out)) (l : out.length ≤ sizeLine) : mLc mi g tt te vs env = some (e', .list out) := by
  unfold mLc
  rw [h]
  show (lcM g tt te vs ds (wipeE e vs)).bind _ = _
  rw [h2]
  exact if_pos l
/-! calls -/
theorem body_rt {n : Nat} {bs : List Bool} {m : Mst} {ds os : List Dt} (h : m (env0 n bs ds) = some (.rt e (.fz d))) (ho : outsOf e bs 0 = some os) : bodyG n bs m ds = some (os, .fz d) := by
  unfold bodyG
  rw [h]
  show (outsOf e bs 0).map _ = _
  rw [ho]
  rfl
theorem body_ow {n : Nat} {bs : List Bool} {m : Mst} {ds os : List Dt} (h : m (env0 n bs ds) = some (.rt e (.ow d))) (ho : outsOf e bs 0 = some os) : bodyG n bs m ds = some (os, .ow d) := by
  unfold bodyG
  rw [h]
  show (outsOf e bs 0).map _ = _
  rw [ho]
  rfl
theorem call_ev {bs : List Bool} {g : Gf} {s : Mar} {as : List Ar} {ds os : List Dt} (h : s env = some (e, as)) (h2 : arsD e as = some ds) (h3 : g ds = some (os, r)) (h4 : (as.map isSl = bs ∧ nodupB (slots as) = true ∧ os.length = as.length)) : mCall bs g s env = some (backE as os e, r) := by
  unfold mCall
  rw [h]
  show (arsD e as).bind _ = _
  rw [h2]
  show (g ds).bind _ = _
  rw [h3]
  exact if_pos h4
theorem callF_ev {bs : List Bool} {g : Gf} {s : Mar} {as : List Ar} {ds os : List Dt} (h : s env = some (e, as)) (h2 : arsD e as = some ds) (h3 : g ds = some (os, .fz d)) (h4 : (as.map isSl = bs ∧ nodupB (slots as) = true ∧ os.length = as.length)) : mCallF bs g s env = some (backE as os e, d) := by
  unfold mCallF
  rw [call_ev h h2 h3 h4]
  rfl
theorem callO_ev {bs : List Bool} {g : Gf} {s : Mar} {as : List Ar} {ds os : List Dt} (h : s env = some (e, as)) (h2 : arsD e as = some ds) (h3 : g ds = some (os, .ow d)) (h4 : (as.map isSl = bs ∧ nodupB (slots as) = true ∧ os.length = as.length)) : mCallO bs g s env = some (backE as os e, d) := by
  unfold mCallO
  rw [call_ev h h2 h3 h4]
  rfl
theorem callK_ev {n : Nat} {g : Gf} {kd : List Dt → List Dt} {s : Ms} {ds os : List Dt} (h : s env = some (e, ds)) (l : ds.length = n) (h3 : g (kd ds) = some (os, .fz d)) : mCallK n g kd s env = some (e, d) := by
  unfold mCallK
  rw [h]
  show (if ds.length = n then _ else _) = _
  rw [if_pos l]
  show (g (kd ds)).bind _ = _
  rw [h3]
  rfl
/-! guards -/
theorem fMulS_ok {i j : Int} (h : (-(2 ^ 64) < i ∧ i < 2 ^ 64) ∨ (-(2 ^ 64) < j ∧ j < 2 ^ 64)) : fMulS (.int i) (.int j) = some (.int (i * j)) := by
  unfold fMulS fI
  dsimp only
  rw [if_pos]
  simp only [Bool.or_eq_true, Bool.and_eq_true, decide_eq_true_eq]
  exact h
theorem fMod_ok {i j : Int} (h : 0 < j) : fMod (.int i) (.int j) = some (.int (i % j)) := by
  unfold fMod fI
  dsimp only
  rw [if_pos (decide_eq_true h)]
theorem fDivS_ok {i j : Int} (h : 0 < j ∧ j < 1073741824) : fDivS (.int i) (.int j) = some (.int (i / j)) := by
  unfold fDivS fI
  dsimp only
  rw [if_pos]
  simp only [Bool.and_eq_true, decide_eq_true_eq]
  exact h
theorem log64 {j : Int} (h : 0 < j) (h2 : j < 2 ^ 64) : j.natAbs.log2 < 9000 := by
  have h3 : j.natAbs < 2 ^ 64 := by omega
  have h4 : j.natAbs ≠ 0 := by omega
  have := (Nat.log2_lt h4).mpr h3
  omega
theorem fDiv_ok {i j : Int} (h : 0 < j) (h2 : j < 2 ^ 64) : fDiv (.int i) (.int j) = some (.int (i / j)) := by
  unfold fDiv fI
  dsimp only
  rw [if_pos]
  simp only [Bool.and_eq_true, decide_eq_true_eq]
  exact ⟨h, log64 h h2⟩
theorem fPow_ok {i j : Int} (h : 0 ≤ j ∧ j ≤ 1000000) (h2 : -(2 ^ 64) < i ∧ i < 2 ^ 64) : fPow (.int i) (.int j) = some (.int (i ^ j.toNat)) := by
  unfold fPow fI
  dsimp only
  rw [if_pos]
  simp only [Bool.and_eq_true, decide_eq_true_eq]
  exact ⟨h.1, h.2, by omega⟩
end
section
variable {env e e' e2 : Evs} {x x0 y z d : Dt} {p q : Mx} {i : Nat}
theorem opP_ev {f : Dt → Dt → Option Dt} (h1 : mPeek i env = some (e, x0)) (h2 : q env = some (e', y)) (h3 : mPeek i e' = some (e2, x)) (h4 : f x y = some z) : mOpP f i q env = some (e', z) := by
  unfold mOpP
  rw [h1]
  show (q env).bind _ = _
  rw [h2]
  show (mPeek i e').bind _ = _
  rw [h3]
  show (f x y).map _ = _
  rw [h4]
  rfl
theorem put_ev {k : Int} (h1 : p env = some (e, d)) (h2 : isL i e = some ()) (h3 : q e = some (e', .int k)) (h4 : (updL i e' fun ds => (ixN ds.length k).map fun j => ds.set j d) = some e2) : mPut i q p env = some (.nx e2) := by
  unfold mPut
  rw [h1]
  show (isL i e).bind _ = _
  rw [h2]
  show (q e).bind _ = _
  rw [h3]
  show (updL i e' fun ds => (ixN ds.length k).map fun j => ds.set j d).map _ = _
  rw [h4]
  rfl
theorem app_ev (h2 : isL i env = some ()) (h1 : p env = some (e, d)) (h4 : (updL i e fun ds => if ds.length < sizeLine then some (ds ++ [d]) else none) = some e2) : mApp i p env = some (.nx e2) := by
  unfold mApp
  rw [h2]
  show (p env).bind _ = _
  rw [h1]
  show (updL i e fun ds => if ds.length < sizeLine then some (ds ++ [d]) else none).map _ = _
  rw [h4]
  rfl
theorem drop_ev (h1 : p env = some (e, d)) : mDrop p env = some (.nx e) := by
  unfold mDrop
  rw [h1]
  rfl
theorem callTF_ev {n : Nat} {g : Gf} {b : Ms} {ds os : List Dt} (h1 : p env = some (e, x)) (h2 : b e = some (e', ds)) (l : ds.length = n) (h3 : g (x :: ds) = some (os, .fz d)) : mCallTF n g p b env = some (e', d) := by
  unfold mCallTF mCallT
  rw [h1]
  show ((b e).bind _).bind _ = _
  rw [h2]
  show ((if ds.length = n then _ else _) : Option _).bind _ = _
  rw [if_pos l]
  show ((g (x :: ds)).map _).bind _ = _
  rw [h3]
  rfl
theorem aval_ev {s : Mar} {as : List Ar} (h : p env = some (e, x)) (h2 : s e = some (e', as)) : aVal p s env = some (e', .val x :: as) := by
  unfold aVal
  rw [h]
  show (s e).map _ = _
  rw [h2]
  rfl
theorem asl_ev {s : Mar} {as : List Ar} (h : mPeek i env = some (e, x)) (h2 : s env = some (e', as)) : aSl i s env = some (e', .sl i :: as) := by
  unfold aSl
  rw [h]
  show (s env).map _ = _
  rw [h2]
  rfl
theorem chain_t {f g : Dt → Dt → Option Dt} {r : Mx} {e3 : Evs} {w : Dt} (h1 : p env = some (e, x)) (h2 : q e = some (e', y)) (h3 : f x y = some (.bool true)) (h4 : r e' = some (e3, z)) (h5 : g y z = some w) : mChain f g p q r env = some (e3, w) := by
  unfold mChain
  rw [h1]
  show (q e).bind _ = _
  rw [h2]
  show (f x y).bind _ = _
  rw [h3]
  show (r e').bind _ = _
  rw [h4]
  show (g y z).map _ = _
  rw [h5]
  rfl
theorem chain_f {f g : Dt → Dt → Option Dt} {r : Mx} (h1 : p env = some (e, x)) (h2 : q e = some (e', y)) (h3 : f x y = some (.bool false)) : mChain f g p q r env = some (e', .bool false) := by
  unfold mChain
  rw [h1]
  show (q e).bind _ = _
  rw [h2]
  show (f x y).bind _ = _
  rw [h3]
  rfl
end
/-! ### data told equal by reckoning -/
mutual
def beqD : Dt → Dt → Bool
  | .none, .none => true
  | .bool a, .bool b => a == b
  | .int a, .int b => a == b
  | .str a, .str b => decide (a = b)
  | .list a, .list b => beqDs a b
  | .tuple a, .tuple b => beqDs a b
  | .dict a, .dict b => beqDp a b
  | _, _ => false
def beqDs : List Dt → List Dt → Bool
  | [], [] => true
  | x :: xs, y :: ys => beqD x y && beqDs xs ys
  | _, _ => false
def beqDp : List (Dt × Dt) → List (Dt × Dt) → Bool
  | [], [] => true
  | (x, u) :: xs, (y, v) :: ys => beqD x y && (beqD u v && beqDp xs ys)
  | _, _ => false
end
mutual
theorem beqD_eq : ∀ a b : Dt, beqD a b = true → a = b
  | .none, .none, _ => rfl
  | .bool a, .bool b, h => by rw [show a = b by simpa [beqD] using h]
  | .int a, .int b, h => by rw [show a = b by simpa [beqD] using h]
  | .str a, .str b, h => by rw [show a = b by simpa [beqD] using h]
  | .list a, .list b, h => by rw [beqDs_eq a b (by simpa [beqD] using h)]
  | .tuple a, .tuple b, h => by rw [beqDs_eq a b (by simpa [beqD] using h)]
  | .dict a, .dict b, h => by rw [beqDp_eq a b (by simpa [beqD] using h)]
  | .none, .bool _, h | .none, .int _, h | .none, .str _, h | .none, .list _, h | .none, .tuple _, h | .none, .dict _, h => by simp [beqD] at h
  | .bool _, .none, h | .bool _, .int _, h | .bool _, .str _, h | .bool _, .list _, h | .bool _, .tuple _, h | .bool _, .dict _, h => by simp [beqD] at h
  | .int _, .none, h | .int _, .bool _, h | .int _, .str _, h | .int _, .list _, h | .int _, .tuple _, h | .int _, .dict _, h => by simp [beqD] at h
  | .str _, .none, h | .str _, .bool _, h | .str _, .int _, h | .str _, .list _, h | .str _, .tuple _, h | .str _, .dict _, h => by simp [beqD] at h
  | .list _, .none, h | .list _, .bool _, h | .list _, .int _, h | .list _, .str _, h | .list _, .tuple _, h | .list _, .dict _, h => by simp [beqD] at h
  | .tuple _, .none, h | .tuple _, .bool _, h | .tuple _, .int _, h | .tuple _, .str _, h | .tuple _, .list _, h | .tuple _, .dict _, h => by simp [beqD] at h
  | .dict _, .none, h | .dict _, .bool _, h | .dict _, .int _, h | .dict _, .str _, h | .dict _, .list _, h | .dict _, .tuple _, h => by simp [beqD] at h
theorem beqDs_eq : ∀ a b : List Dt, beqDs a b = true → a = b
  | [], [], _ => rfl
  | [], _ :: _, h => by simp [beqDs] at h
  | _ :: _, [], h => by simp [beqDs] at h
  | x :: xs, y :: ys, h => by
    have h' : beqD x y = true ∧ beqDs xs ys = true := by simpa [beqDs] using h
    rw [beqD_eq x y h'.1, beqDs_eq xs ys h'.2]
theorem beqDp_eq : ∀ a b : List (Dt × Dt), beqDp a b = true → a = b
  | [], [], _ => rfl
  | [], _ :: _, h => by simp [beqDp] at h
  | _ :: _, [], h => by simp [beqDp] at h
  | (x, u) :: xs, (y, v) :: ys, h => by
    have h' : beqD x y = true ∧ beqD u v = true ∧ beqDp xs ys = true := by simpa [beqDp] using h
    rw [beqD_eq x y h'.1, beqD_eq u v h'.2.1, beqDp_eq xs ys h'.2.2]
end
def beqS : Sl → Sl → Bool
  | .un, .un => true
  | .fz a, .fz b => beqD a b
  | .ow a, .ow b => beqD a b
  | .bo a, .bo b => beqD a b
  | _, _ => false
theorem beqS_eq : ∀ a b : Sl, beqS a b = true → a = b
  | .un, .un, _ => rfl
  | .fz a, .fz b, h => by rw [beqD_eq a b h]
  | .ow a, .ow b, h => by rw [beqD_eq a b h]
  | .bo a, .bo b, h => by rw [beqD_eq a b h]
  | .un, .fz _, h | .un, .ow _, h | .un, .bo _, h | .fz _, .un, h | .fz _, .ow _, h | .fz _, .bo _, h | .ow _, .un, h | .ow _, .fz _, h | .ow _, .bo _, h | .bo _, .un, h | .bo _, .fz _, h | .bo _, .ow _, h => by cases h
/-- a call reckoned out -/
def isRun (o : Option (List Dt × Sl)) (os : List Dt) (r : Sl) : Bool := match o with
  | some (a, b) => beqDs a os && beqS b r
  | none => false
theorem run_of {o : Option (List Dt × Sl)} {os : List Dt} {r : Sl} (h : isRun o os r = true) : o = some (os, r) := by
  unfold isRun at h
  split at h
  · rw [Bool.and_eq_true] at h
    rw [beqDs_eq _ _ h.1, beqS_eq _ _ h.2]
  · cases h

/-- a slot that is free or holds data -/
def Sl.fzo : Option Dt → Sl
  | some d => .fz d
  | none => .un
theorem putF_fzo {i : Nat} {d : Dt} {env e : Evs} {o : Option Dt} (h : env[i]? = some (Sl.fzo o)) (e1 : e = env.set i (.fz d) := by rfl) : putF i d env = some e := by
  subst e1
  unfold putF
  rw [h]
  cases o <;> rfl
/-- a while that goes round n times -/
theorem wh_run {c : Mb} {b : Mst} (I : Nat → Evs → Prop) (J : Evs → Prop) : ∀ (n fuel k : Nat) (env : Evs), I k env → n < fuel → (∀ (j : Nat) (env : Evs), j < k + n → I j env → ∃ e1 e2, c env = some (e1, true) ∧ b e1 = some (.nx e2) ∧ I (j + 1) e2) →
    (∀ env : Evs, I (k + n) env → ∃ e, c env = some (e, false) ∧ J e) → ∃ e, whM c b fuel env = some (.nx e) ∧ J e
  | 0, fuel + 1, k, env, h, _, _, stop => by
    obtain ⟨e, h1, h2⟩ := stop env h
    refine ⟨e, ?_, h2⟩
    unfold whM
    rw [h1]
    rfl
  | n + 1, fuel + 1, k, env, h, hf, st, stop => by
    obtain ⟨e1, e2, h1, h2, h3⟩ := st k env (by omega) h
    obtain ⟨e, h4, h5⟩ := wh_run I J n fuel (k + 1) e2 h3 (by omega) (fun j env hj => st j env (by omega)) (fun env hI => stop env (by rw [show k + (n + 1) = k + 1 + n by omega]; exact hI))
    refine ⟨e, ?_, h5⟩
    unfold whM
    rw [h1]
    show (b e1).bind _ = _
    rw [h2]
    exact h4

/-! ### tuple(x for x in t if x != f): t a tuple of ints, f a captured int -/
section
open GxR (TabB TabG Tabbed GenS)
variable {X : Cx}
theorem clo_find {cells : List (Str × Addr)} {f : Str} {c : Addr} (hc : cells.lookup f = some c) : ∀ (names : List (Str × NameKind)) (acc : List (Str × Addr)),
    ((f, NameKind.free) ∈ names ∨ acc.lookup f = some c) → (∀ c', acc.lookup f = some c' → c' = c) → (cloFrom cells names acc).lookup f = some c
  | [], acc, h, _ => by
    rcases h with h | h
    · cases h
    · exact h
  | (n, k) :: r, acc, h, u => by
    unfold cloFrom
    by_cases hk : (k == NameKind.free) = true
    · rw [if_pos hk]
      by_cases hn : n = f
      · subst hn
        have e : List.lookup n ((n, (cells.lookup n).getD 0) :: acc) = some c := by
          rw [hc]
          simp [List.lookup]
        exact clo_find hc r _ (.inr e) (fun c' h' => by rw [e] at h'; exact (Option.some.inj h').symm)
      · have e : List.lookup f ((n, (cells.lookup n).getD 0) :: acc) = acc.lookup f := by
          have z : (f == n) = false := by simpa using fun q : f = n => hn q.symm
          simp [List.lookup, z]
        refine clo_find hc r _ ?_ (fun c' h' => u c' (by rw [← e]; exact h'))
        rcases h with h | h
        · rcases List.mem_cons.mp h with q | q
          · exact absurd (congrArg Prod.fst q).symm hn
          · exact .inl q
        · exact .inr (by rw [e]; exact h)
    · rw [if_neg hk]
      refine clo_find hc r _ ?_ u
      rcases h with h | h
      · rcases List.mem_cons.mp h with q | q
        · exfalso
          apply hk
          have z : NameKind.free = k := congrArg Prod.snd q
          rw [← z]
          rfl
        · exact .inl q
      · exact .inr h
/-- the items that pass, by their places -/
theorem pass_map (ns : List Int) (p : Int → Bool) : ((List.range ns.length).filter fun i => match ns[i]? with | some k => p k | none => false).map (fun i => ns.getD i 0) = ns.filter p := by
  have h : ∀ (pre suf : List Int), ((List.range' pre.length suf.length).filter fun i => match (pre ++ suf)[i]? with | some k => p k | none => false).map (fun i => (pre ++ suf).getD i 0) = suf.filter p := by
    intro pre suf
    induction suf generalizing pre with
    | nil => rfl
    | cons x t ih =>
      have ih' := ih (pre ++ [x])
      rw [List.append_assoc, List.length_append] at ih'
      have g : (pre ++ x :: t)[pre.length]? = some x := by
        rw [List.getElem?_append_right (Nat.le_refl _), Nat.sub_self]
        rfl
      have gd : (pre ++ x :: t).getD pre.length 0 = x := by
        rw [List.getD_eq_getElem?_getD, g]
        rfl
      rw [List.length_cons, List.range'_succ, List.filter_cons, List.filter_cons]
      have e1 : (match (pre ++ x :: t)[pre.length]? with | some k => p k | none => false) = p x := by rw [g]
      rw [e1]
      cases hp : p x with
      | true =>
        rw [if_pos rfl, if_pos rfl, List.map_cons, gd]
        exact congrArg (x :: ·) ih'
      | false =>
        rw [if_neg (by decide), if_neg (by decide)]
        exact ih'
  have z := h [] ns
  rw [List.range_eq_range']
  exact z
/-- what it asks -/
def tGenNe (K : PySem.W.Frag) (P : Addr) (jf : Nat) (te : TE) : TE := fun σ H Q => te σ H fun v H1 =>
  ∃ (a : Addr) (ns : List Int) (vf : Int), v = .ref a ∧ SqT K H1 a (ns.map V.int) ∧ σ[jf]? = some (some (.int vf)) ∧ TabG H1 P ∧
    ∀ H2 p, Tabbed P H1 H2 → H2 p = none → Q (.ref p) (upd H2 p (.tup ((ns.filter fun k => k != vf).map V.int)))
theorem pe_tupGenNe (K : PySem.W.Frag) {c P : Addr} {iter : Expr} {x f : Str} {px p pos gpos q1 q2 q3 q4 : Pos} {scope : Scope} {te : TE} {k jf : Nat}
    (hr : Room k X.A) (hg : Gl X "tuple") (hm : X.mg "tuple" = none) (TB : TabB X.base X.mg c P) (hcode : X.env.code = .ref c) (S : GenS X.env scope x)
    (hfs : (f, NameKind.free) ∈ scope.names) (hff : scope.names.lookup f = some .free) (hNf : X.N[jf]? = some f) (hcf : X.env.scope.names.lookup f = some .cell)
    (hi : PE X iter te) (hs : ∀ v, genFold iter X.env v = pure v) (hK : X.K = K := by rfl)
    (d1 : (x == ("__debug__" : Str)) = false := by decide) (d2 : (f == ("__debug__" : Str)) = false := by decide) (d3 : (f == ("__classdict__" : Str)) = false := by decide)
    (he : starEach [.GeneratorExp (.Name x q1) [⟨.Name x px, iter, [.Compare (.Name x q2) [.NotEq] [.Name f q3] q4], 0⟩] scope gpos] X.env =
      (false, eval (.GeneratorExp (.Name x q1) [⟨.Name x px, iter, [.Compare (.Name x q2) [.NotEq] [.Name f q3] q4], 0⟩] scope gpos) X.env) :: starEach [] X.env := by rfl) :
    PE X (.Call (.Name "tuple" p) [.GeneratorExp (.Name x q1) [⟨.Name x px, iter, [.Compare (.Name x q2) [.NotEq] [.Name f q3] q4], 0⟩] scope gpos] [] pos) (tGenNe K P jf te) := by
  subst hK
  refine ⟨fun pins s σ H Q I h => ?_⟩
  refine Call_ (ld_blt I hg hm boot_tuple (PyProof.Rows.callWith_type1 ?_ he (by rfl)))
  rw [he]
  show wpAny _ _ (spliced ((false, eval (.GeneratorExp (.Name x q1) [⟨.Name x px, iter, [.Compare (.Name x q2) [.NotEq] [.Name f q3] q4], 0⟩] scope gpos) X.env) :: backTo pos (starEach [] X.env))) _ _ s
  refine Calls.spliced_cons ?_
  refine wpAny_GeneratorExp_walksQ hr.hd S.co (closure_ok S.free) S.cell S.dot S.loc S.kind (by have := hr.dp; omega) ?_ hs
  refine thn (hi.run pins s σ H _ I h) ?_
  rintro xv s1 ⟨v, H1, I1, r1, a, ns, vf, rfl, hT, hσ, ⟨ps, hP, ht⟩, hQ⟩
  cases r1
  obtain ⟨its, rv, pT, _⟩ := I1.tuple hT
  have pT' : s1.heap.IsTuple a its.toArray := pT
  -- the captured name's cell
  obtain ⟨mL, hnL, hlL⟩ := I1.loc
  obtain ⟨uf, ruf, lk⟩ := hlL jf f (.int vf) hNf hσ (.inr (.inl hcf))
  obtain ⟨tf, rfl⟩ : ∃ t, uf = Value.int vf t := ruf
  obtain ⟨cf, hcl, hcv⟩ : ∃ cc, X.env.cells.lookup f = some cc ∧ s1.heap.IsCell cc (some (.int vf tf)) := by
    rcases lk with ⟨z, _⟩ | ⟨_, cc, z1, z2⟩
    · have z' : X.env.scope.names.lookup f = some .local := z
      rw [hcf] at z'
      cases z'
    · exact ⟨cc, z1, z2⟩
  obtain ⟨oc, hoc, hdc⟩ := id hcv
  have at_ : ∀ (i : Nat) (u : Value), its.toArray[i]? = some u → ∃ k t, ns[i]? = some k ∧ u = .int k t := fun i u hu => by
    have hu2 : its[i]? = some u := by simpa using hu
    have hl := rv.length
    have hi2 := (List.getElem?_eq_some_iff.mp hu2).1
    have hi3 : i < ns.length := by
      rw [List.length_map] at hl
      omega
    have hb : (ns.map V.int)[i]? = some (V.int ns[i]) := by
      rw [List.getElem?_map, List.getElem?_eq_getElem hi3]
      rfl
    obtain ⟨u', hu', ru⟩ := rv.get hb
    rw [hu2] at hu'
    cases hu'
    obtain ⟨t, e⟩ := (show ∃ t, u = Value.int ns[i] t from ru)
    exact ⟨ns[i], t, List.getElem?_eq_getElem hi3, e⟩
  have hsz : its.toArray.size = ns.length := by
    rw [List.size_toArray, ← rv.length, List.length_map]
  refine wpAny_pyIter_tuple pT' ?_
  generalize ho : (⟨.type "tuple_iterator", none, .fields #[.ref a, .int 0 0], #[]⟩ : Obj) = o
  have la : a < s1.heap.objs.size := by
    obtain ⟨_, e, _⟩ := id pT'
    exact Heap.lt_size e
  have lc : cf < s1.heap.objs.size := Heap.lt_size hoc
  have hPs : s1.heap.get? P = some { cls := .none, data := .fields ps } := I1.hok P _ hP
  have lP : P < s1.heap.objs.size := Heap.lt_size hPs
  have aP : a ≠ P := fun z => by
    obtain ⟨_, e, e2, _⟩ := id pT'
    rw [z, hPs] at e
    cases e
    cases e2
  have cP : cf ≠ P := fun z => by
    rw [z, hPs] at hoc
    cases hoc
    cases hdc
  have up : ∀ b u, s1.heap.get? b = some u → (s1.heap.push o).get? b = some u := fun b u e => Heap.get?_push_of_some _ e
  have cd : PySem.W.CodeHd (s1.heap.push o) c P := TB.code.keeps fun b u e => up b u (I1.bk b u e)
  have lim : (s1.heap.push o).NoLimit := I1.nolimit.push o
  have szo : (s1.heap.push o).objs.size = s1.heap.objs.size + 1 := Heap.size_push ..
  have sC : cStatics ≠ P := fun e => by
    obtain ⟨_, hns, _⟩ := I1.nolimit
    obtain ⟨o', es, ep, z, hd, _⟩ := hns
    rw [e, hPs] at z
    cases z
    cases hd
  have lS : cStatics < s1.heap.objs.size := by
    obtain ⟨_, hns, _⟩ := I1.nolimit
    exact hns.lt
  -- behind the code object, whether it was made now or before
  have go : ∀ (code : Value) (h3 : Heap) (tk : Nat) (more : Array Value), Heap.ExtBut P (s1.heap.push o) h3 → (s1.heap.push o).objs.size ≤ h3.objs.size →
      h3.get? P = some { cls := .none, data := .fields (ps ++ more) } → TriplesOk (ps ++ more).toList →
      wpAny (model X.prog X.w) X.A (builtinsFor X.env.globals X.env.builtins) (fun bi s₄ =>
        ∃ Ia fp wr n₀ Pf St₀ pz F, Value.ref s1.heap.objs.size = .ref Ia ∧ (∀ A' : Around, A'.handled = none → Walks X.prog X.w A' Ia fp wr n₀ Pf St₀) ∧ St₀ 0 s₄.heap ∧ (∀ b ∈ fp, b < s₄.heap.objs.size) ∧ s₄.heap.NoLimit ∧ cStatics ∉ wr ∧
          (∀ href : Heap, (∀ b o, s₄.heap.get? b = some o → href.get? b = some o) →
            QuietGen X.prog X.w (genEnv scope (cloFrom X.env.cells scope.names []) s₄.heap.objs.size code bi X.env) x [.Compare (.Name x q2) [.NotEq] [.Name f q3] q4] (.Name x q1) (List.range s₄.heap.objs.size) wr Pf pz F href) ∧
          (∀ g h₅ tk gs, gs.bare = true → s₄.heap.objs.size < g → h₅.objs.size = g + 1 → (∀ b o, s₄.heap.get? b = some o → h₅.get? b = some o) →
            WalksS X.prog X.w X.A.in4 g (g :: s₄.heap.objs.size :: List.range s₄.heap.objs.size) (s₄.heap.objs.size :: wr) (GenOnlyQ s₄.gens.size) (passing pz n₀ 0).length
              (fun j y => ∃ i, (passing pz n₀ 0)[j]? = some i ∧ F i y) (GenAt X.prog X.w X.A.in4 g s₄.gens.size s₄.heap.objs.size (List.range s₄.heap.objs.size) wr pz n₀ F) →
            GenAt X.prog X.w X.A.in4 g s₄.gens.size s₄.heap.objs.size (List.range s₄.heap.objs.size) wr pz n₀ F 0 { s₄ with gens := s₄.gens.push gs, toks := tk, heap := h₅ } →
            wpAny (model X.prog X.w) X.A (spliced (backTo pos (starEach [] X.env))) (fun vs s6 => wpAny (model X.prog X.w) X.A (call (.type "tuple") (.ref g :: vs)) (EP X pins σ Q) X.xe s6) X.xe { s₄ with gens := s₄.gens.push gs, toks := tk, heap := h₅ })) X.xe { s1 with heap := h3, toks := tk } := by
    intro code h3 tk more hx hle hP3 ht3
    obtain ⟨bm, ob, b1, b2, b3, b4, b5, b6, b7, b8⟩ := TB.bm
    have keep3 : ∀ b u, b ≠ P → s1.heap.get? b = some u → h3.get? b = some u := fun b u hb e => hx b u hb (up b u e)
    have lh3 : s1.heap.objs.size < h3.objs.size := by
      rw [szo] at hle
      exact hle
    refine wpAny_builtinsFor (m := X.mg) (by rw [I1.ok.glob]; exact ((I1.mod.glob.keeps I1.bk).push o).extBut hx TB.gP) b1 b2 (keep3 _ _ b4 (I1.bk _ _ b5)) b6 b7 b8 ?_
    have hT3 : h3.IsTuple a its.toArray := pT'.at fun u e => keep3 a u aP e
    have hI3 : h3.IsTupleIter s1.heap.objs.size a 0 := by
      refine ⟨o, hx _ _ (Nat.ne_of_gt lP) (Heap.get?_push_size _ (by rw [← ho]; rfl)), ?_, ?_⟩
      · rw [← ho]
      · rw [← ho]
        rfl
    have hc3 : h3.get? cf = some oc := keep3 _ _ cP hoc
    refine ⟨s1.heap.objs.size, [s1.heap.objs.size, a], [s1.heap.objs.size], its.toArray.size, (fun i v => its.toArray[i]? = some v), (fun i h => h.IsTupleIter s1.heap.objs.size a i ∧ h.IsTuple a its.toArray),
      (fun i => match ns[i]? with | some k => k != vf | none => false), (fun i y => ∃ k t, ns[i]? = some k ∧ y = .int k t), rfl, fun A' hA => Walks.tuple hA _ _ (Nat.ne_of_lt la) _, ⟨hI3, hT3⟩, ?_, lim.extBut hx sC, ?_, ?_, ?_⟩
    · intro b hb
      rcases (show b = s1.heap.objs.size ∨ b = a by simpa using hb) with rfl | rfl
      · exact lh3
      · exact Nat.lt_trans la lh3
    · intro z
      have z' : cStatics = s1.heap.objs.size := by simpa using z
      exact Nat.ne_of_lt lS z'
    · intro href hhref
      have cell : ∀ s₂ : Shared, (∀ b ∈ List.range h3.objs.size, b ∉ [s1.heap.objs.size] → ∀ o, href.get? b = some o → s₂.heap.get? b = some o) → s₂.heap.IsCell cf (some (.int vf tf)) := fun s₂ hk => by
        refine ⟨oc, hk cf (List.mem_range.mpr (Heap.lt_size hc3)) (by simp; exact Nat.ne_of_lt lc) _ (hhref _ _ hc3), hdc⟩
      have find : (cloFrom X.env.cells scope.names []).lookup f = some cf := clo_find hcl _ _ (.inl hfs) (fun c' z => by cases z)
      refine ⟨?_, ?_⟩
      · intro A' E' i v s₂ m₂ hA hPv hn hmx hk
        obtain ⟨kk, t, hki, rfl⟩ := at_ i v hPv
        refine wpAny_tests_one (wpAny_isTrue_Compare1 ?_ rfl)
        refine wpAny_Name (wpAny_loadName_local S.kind S.loc hn hmx ?_) d1
        refine wpAny_Name (wpAny_loadName_free S.kind hff find (cell s₂ hk) ?_ d3) d2
        refine ne_int (wpAny_truthy_bool ⟨?_, GxR.keeps_refl _⟩)
        rw [hki]
      · intro A' E' i v s₂ m₂ hA hPv hp hn hmx hk
        obtain ⟨kk, t, hki, rfl⟩ := at_ i v hPv
        exact wpAny_Name (wpAny_loadName_local S.kind S.loc hn hmx ⟨⟨kk, t, hki, rfl⟩, GxR.keeps_refl _⟩) d1
    · intro g h5 tk5 gs hgb hag hsz5 hk5 W5 hgat
      refine Calls.spliced_nil ?_
      have lt5 : ∀ b ∈ g :: h3.objs.size :: List.range h3.objs.size, b < h5.objs.size := fun b hb => by
        have h8 : h3.objs.size < g := hag
        rw [hsz5]
        rcases List.mem_cons.mp hb with z | z
        · omega
        · rcases List.mem_cons.mp z with z | z
          · omega
          · have := List.mem_range.mp z
            omega
      have few : (passing (fun i => match ns[i]? with | some k => k != vf | none => false) its.toArray.size 0).length ≤ sizeLine := by
        unfold passing
        have z1 := List.length_filter_le (fun i => match ns[i]? with | some k => k != vf | none => false) ((List.range its.toArray.size).drop 0)
        rw [List.drop_zero, List.length_range] at z1
        have z2 : its.toArray.size ≤ sizeLine := by
          rw [hsz]
          have z := (I1.tuple hT).choose_spec.2.2
          rw [List.length_map] at z
          exact z
        rw [List.drop_zero]
        omega
      refine call_tuple_gen (hsz := few) W5.in4_3 (fun i s9 h9 => h9.1.typeIs) hgat lt5 List.mem_cons_self ?_
      intro s' acc hmv hacc
      have nwr : ∀ b u, s1.heap.get? b = some u → b ∉ h3.objs.size :: [s1.heap.objs.size] := fun b u e hb => by
        have hl := Heap.lt_size e
        rcases (show b = h3.objs.size ∨ b = s1.heap.objs.size by simpa using hb) with z | z
        · rw [z] at hl
          exact Nat.lt_irrefl _ (Nat.lt_trans hl lh3)
        · exact Nat.ne_of_lt hl z
      have J := GxR.inv_tab (more := more) (h' := s'.heap) (g' := s'.gens) (d' := s'.drawn) (t' := s'.toks) I1 hP (fun b u hb e => hmv.heap b u (nwr b u e) (hk5 b u (keep3 b u hb e)))
        (hmv.heap P _ (nwr P _ hPs) (hk5 P _ hP3)) (AllBare.movedS (I1.bare.push hgb) hmv)
      rw [GxR.sh_eta s1 s' hmv.os] at J
      have Tb : Tabbed P H1 (upd H1 P (.tbl (ps ++ more))) := ⟨⟨ps ++ more, upd_same, ht3⟩, fun b hb => upd_ne hb⟩
      have fr : (upd H1 P (.tbl (ps ++ more))) s'.heap.objs.size = none := J.hok.fresh (Nat.le_refl _)
      have vals : Vals ((ns.filter fun k => k != vf).map V.int) acc.toList := by
        rw [← pass_map ns fun k => k != vf]
        obtain ⟨e1, e2⟩ := hacc
        have pe : passing (fun i => match ns[i]? with | some k => k != vf | none => false) its.toArray.size 0 = (List.range ns.length).filter fun i => match ns[i]? with | some k => k != vf | none => false := by
          unfold passing
          rw [List.drop_zero, hsz]
        rw [pe] at e1 e2
        refine vals_of_at ?_ ?_
        · have z : acc.toList.length = acc.size := Array.length_toList
          rw [List.length_map, List.length_map, z, e1]
        · intro j y u hy hu
          rw [Array.getElem?_toList] at hu
          obtain ⟨i, hij, kk, t, hki, rfl⟩ := e2 j u hu
          rw [List.getElem?_map, List.getElem?_map, hij] at hy
          have hy' : V.int (ns.getD i 0) = y := Option.some.inj hy
          rw [← hy', List.getD_eq_getElem?_getD, hki]
          exact ⟨t, rfl⟩
      have small : ((ns.filter fun k => k != vf).map V.int).length ≤ sizeLine := by
        rw [vals.length, Array.length_toList, hacc.1]
        exact few
      refine ⟨.ref s'.heap.objs.size, _, J.laid (t' := s'.toks) (o := .tup ((ns.filter fun k => k != vf).map V.int)) (fun b u e => Heap.get?_push_of_some _ e) (Nat.le_refl _) ?_, rfl, hQ _ _ Tb fr⟩
      refine ⟨small, acc.toList, vals, ?_⟩
      have e0 : acc.toList.toArray = acc := by simp
      rw [e0]
      exact IsTup.new _ _
  refine ⟨lim, ?_⟩
  have hP2 := up _ _ hPs
  cases hf : codeAmong gpos ps.toList with
  | none =>
    refine wpAny_genexprCodeX hcode (cd.code hP2 ht) (cd.tab hP2) hf fun c' h' tk hx hge hlt hco' _ htab' _ => ?_
    obtain ⟨_, _, _, _, _, _, _, _, _, _, _, _, _, _, _, _, _, _, _, htr, _⟩ := hco'
    exact go _ h' tk _ hx (Nat.le_trans hge (Nat.le_of_lt hlt)) htab'.2 htr
  | some cv =>
    refine wpAny_genexprCode_hit hcode (cd.code hP2 ht) hf ?_
    refine go cv (s1.heap.push o) s1.toks #[] (Heap.ExtBut.refl _ _) (Nat.le_refl _) ?_ ?_
    · rw [Array.append_empty]
      exact hP2
    · rw [Array.append_empty]
      exact ht
end

/-! ### tuple(x for x in t if x != f), by data -/
section
open GxR (TabB TabG Tabbed GenS)
variable {K : PySem.W.Frag}
theorem Sn.tabbed {M : Fm} {env : Evs} {F : Hp} {σ : L2.St} {H H' : Hp} {t : Addr} (S : Sn K M env F σ H) (ht : t ∈ tabs K) (h : Tabbed t H H') : Sn K M env F σ H' := by
  obtain ⟨hg, hk⟩ := h
  have tb := S.tab t ht
  have neF : ∀ {a : Addr} {o : HO}, F a = some o → a ≠ t := fun {a o} e z => by
    rw [z, tb.2.1] at e
    cases e
  refine ⟨fun a o e => ?_, fun a o e n nt => ?_, fun a o e => ?_, S.mon, S.new, S.fzS, fun i s d e q => ?_, S.owF, S.boF, S.apt, fun c u e => ?_, fun u hu => ?_, S.len, S.pnt⟩
  · rw [hk a (neF e)]
    exact S.sub a o e
  · rw [hk a fun z => nt (by rw [z]; exact ht)]
    exact S.old a o e n nt
  · by_cases z : a = t
    · subst z
      obtain ⟨ps, y, _⟩ := hg
      exact ⟨_, y⟩
    · rw [hk a z]
      exact S.dom a o e
  · obtain ⟨a, z1, z2, z3⟩ := S.owS i s d e q
    refine ⟨a, z1, z2, ?_⟩
    rw [hk a fun z => by subst z; exact z3.tb tb.1]
    exact z3
  · obtain ⟨y1, y2, y3, y4⟩ := S.prt c u e
    refine ⟨?_, y2, y3, y4⟩
    rw [hk c fun z => by
      subst z
      obtain ⟨o, w⟩ := tb.2.2
      rw [y3] at w
      cases w]
    exact y1
  · obtain ⟨y1, y2, y3⟩ := S.tab u hu
    by_cases z : u = t
    · subst z
      exact ⟨hg, y2, y3⟩
    · rw [hk u z]
      exact ⟨y1, y2, y3⟩
def mGenNe (j : Nat) (a : Mx) : Mx := fun env => (a env).bind fun p => match p.2, p.1[j]? with
  | .tuple ds, some (.fz (.int v)) => (asInts ds).map fun ns => (p.1, .tuple ((ns.filter fun k => k != v).map PyData.int))
  | _, _ => none
theorem r_genNe {P : Addr} {j : Nat} {te : TE} {a : Mx} (hP : P ∈ tabs K) (ha : RE K te a) : RE K (tGenNe K P j te) (mGenNe j a) := fun M env F σ H env' d Q S e q => by
  obtain ⟨⟨e1, x⟩, h1, h⟩ := bindS e
  refine ha M env F σ H e1 x _ S h1 fun v F1 H1 S1 s1 r1 => ?_
  dsimp only at h
  split at h
  · rename_i ds vf hj
    obtain ⟨ns, h2, h3⟩ := mapS h
    cases h3
    obtain ⟨a, xs, rfl, h4, h5⟩ := r1
    rw [asInts_of h2] at h5
    have e := h5.ints
    subst e
    obtain ⟨u, h6, h7⟩ := S1.fzS j _ hj
    have h7' : u = .int vf := h7
    subst h7'
    refine ⟨a, ns, vf, rfl, SqT.of (S1.sub _ _ h4), h6, (S1.tab P hP).1, fun H2 p tb np => ?_⟩
    have S2 := S1.tabbed hP tb
    obtain ⟨S3, s3⟩ := S2.lay np (.tup ((ns.filter fun k => k != vf).map V.int))
    exact q _ _ _ S3 (s1.trans s3) ⟨p, _, rfl, upd_same, RpA.of_ints _⟩
  · cases h
end

/-! ### the end, where no repr is under way, and tables of code objects stand beside the script -/
section
variable {P : Program} {w : World} {K : PySem.W.Frag} {mg mb : Str → Option Value} {CX : CXT} {k : Nat} {fa a : Addr} {fd : FuncData}
    {x : Str} {sp : Sp} {s : Shared} {vs : List Value} {ns : List Int} {cs : List (Addr × Addr)}
theorem law_callGT (kin : K.In s.heap) (gl : s.heap.Ns mainGlobals mg)
    (bn : s.heap.Ns builtinsNs mb) (bb : ∀ x : Str, x ≠ "__name__" → mb x = bootBuiltins x) (nol : s.heap.NoLimit) (ge : s.gens = #[])
    (tT : ∀ q ∈ cs, s.heap.get? q.2 = some ⟨.none, none, .fields #[], #[]⟩) (tK : ∀ q ∈ cs, K.lookup q.2 = none) (tC : ∀ q ∈ cs, PySem.W.CodeHd s.heap q.1 q.2)
    (bmn : ∃ (m : Addr) (o : Obj), mg "__builtins__" = some (.ref m) ∧ m ≠ builtinsNs ∧ s.heap.get? m = some o ∧ o.cls = .type "module" ∧ o.dict = some builtinsNs ∧ o.data = .plain)
    (ha : s.heap.get? a = some ⟨.type "list", none, .seq vs.toArray 0, #[]⟩) (hi : IntsAre vs ns) (hl : ns.length ≤ sizeLine)
    (hr : Room k callerA) (F : ∀ base : Heap, K.In base → base.Ns mainGlobals mg → (∀ q ∈ cs, GxR.TabB base mg q.1 q.2) → FnG P w K mg base CX k fa fd [x] sp)
    (bd : ∀ (s : Shared) (u : Value), BindsTo s fd ⟨[u], []⟩ [(x, u)])
    (ask : ∀ H : Hp, (∀ q ∈ cs, H q.2 = some (.tbl #[])) → SqL K H a (ns.map V.int) → sp [.ref a] H (fun v _ => v = .bl true) fun _ _ _ => False)
    (noX : ∀ H e s', CX [] H s (fun _ _ _ => False) e s' → False) :
    codeAny (model P w) callerA (.call (.ref fa) ⟨[.ref a], []⟩)
      (fun r s' => r = .ok (.ret (.bool true)) ∧ OldK s.heap s'.heap ∧ s'.os = s.os ∧ AllBare s'.gens) s := by
  have rv := vals_ints hi
  have asT : ∀ {b : Addr}, (∃ q ∈ cs, q.2 = b) → s.heap.get? b = some ⟨.none, none, .fields #[], #[]⟩ := fun ⟨q, hq, e⟩ => e ▸ tT q hq
  have apart : ¬ ∃ q ∈ cs, q.2 = a := fun z => by
    have y := asT z
    rw [ha] at y
    cases y
  -- what is tracked: the script, locked, where it isn't the module's own; the tables
  have main : ∀ H : Hp, (∀ q ∈ cs, H q.2 = some (.tbl #[])) →
      (∀ b u, H b = some u → (b = a ∧ K.lookup a = none ∧ u = .frz ⟨.type "list", none, .seq vs.toArray 0, #[]⟩ (.lst (ns.map V.int))) ∨ ((∃ q ∈ cs, q.2 = b) ∧ u = .tbl #[])) →
      SqL K H a (ns.map V.int) →
      codeAny (model P w) callerA (.call (.ref fa) ⟨[.ref a], []⟩)
        (fun r s' => r = .ok (.ret (.bool true)) ∧ OldK s.heap s'.heap ∧ s'.os = s.os ∧ AllBare s'.gens) s := by
    intro H tabH only sq
    have off : ∀ {b : Addr} {o : Obj}, s.heap.get? b = some o → o.data ≠ .seq vs.toArray 0 → o.data ≠ .fields #[] → H b = none := fun {b o} z d1 d2 => by
      cases y : H b with
      | none => rfl
      | some u =>
        rcases only b u y with ⟨e, _⟩ | ⟨t, _⟩
        · rw [e, ha] at z
          exact absurd (by rw [← Option.some.inj z]) d1
        · rw [asT t] at z
          exact absurd (by rw [← Option.some.inj z]) d2
    have ns2 : ∀ {b : Addr} {m : Str → Option Value}, s.heap.Ns b m → (hidT s.heap H).Ns b m := by
      rintro b m ⟨o, es, ep, z, d, r⟩
      exact ⟨o, es, ep, hidT_get z (off z (by rw [d]; intro q; cases q) (by rw [d]; intro q; cases q)), d, r⟩
    have kin2 : K.In (hidT s.heap H) := fun b o z => hidT_get (kin b o z) (by
      cases y : H b with
      | none => rfl
      | some u =>
        rcases only b u y with ⟨e, n, _⟩ | ⟨⟨q, hq, e⟩, _⟩
        · rw [e, n] at z
          cases z
        · rw [← e, tK q hq] at z
          cases z)
    have ok : HOk P w H s.heap := fun b u z => by
      rcases only b u z with ⟨e, _, rfl⟩ | ⟨t, rfl⟩
      · subst e
        exact ⟨ha, by rw [List.length_map]; exact hl, vs, _, rv, ha⟩
      · exact asT t
    obtain ⟨mc, c1, c2⟩ := nol
    have glNe : ∀ {q : Addr × Addr}, q ∈ cs → mainGlobals ≠ q.2 := fun {q} hq e => by
      obtain ⟨o, es, ep, z, d, _⟩ := gl
      rw [e, tT q hq] at z
      cases z
      cases d
    have env : Env0 P w K mg (hidT s.heap H) callerA [] s H :=
      { frames := rfl, mod := ⟨kin2, ns2 gl, ⟨mb, ns2 bn, bb⟩, ⟨mc, ns2 c1, c2⟩⟩, bs := fun b o z => of_hidT z,
        bsz := Nat.le_of_eq (hidT_size _ _), funs := trivial, frf := fun b hb => (List.not_mem_nil hb).elim, hok := ok, bare := .of_eq ge }
    have TB : ∀ q ∈ cs, GxR.TabB (hidT s.heap H) mg q.1 q.2 := by
      intro q hq
      refine ⟨?_, ?_, glNe hq⟩
      · obtain ⟨o, us, f1, f2, f3, f4, f5, f6, f7, z1, z2, z3, z4, z5⟩ := tC q hq
        refine ⟨o, us, f1, f2, f3, f4, f5, f6, f7, hidT_get z1 (off z1 ?_ ?_), z2, z3, z4, z5⟩
        · rw [z3]
          intro y
          cases y
        · rw [z3]
          intro y
          cases y
          simp at z4
      · obtain ⟨m, o, b1, b2, b3, b4, b5, b6⟩ := bmn
        refine ⟨m, o, b1, b2, ?_, ?_, hidT_get b3 (off b3 (by rw [b6]; intro y; cases y) (by rw [b6]; intro y; cases y)), b4, b5, b6⟩
        · rintro rfl
          obtain ⟨o', es, ep, z, d, _⟩ := gl
          rw [b3] at z
          cases z
          rw [b6] at d
          cases d
        · rintro rfl
          rw [tT q hq] at b3
          cases b3
          cases b6
    refine codeAny_mono ((F _ kin2 (ns2 gl) TB).go callerA [] s H ⟨[.ref a], []⟩ [.ref a] [.ref a] _ _ hr rfl env (bd s _) (.cons rfl .nil) (ask H tabH sq)) ?_
    intro res s' z
    match res, z with
    | .error e, z => exact (noX H e s' z).elim
    | .ok .next, z => exact False.elim z
    | .ok .brk, z => exact False.elim z
    | .ok .cont, z => exact False.elim z
    | .ok (.ret u), ⟨v, H', os, bare, un, ok', r', q⟩ =>
      have q' : v = .bl true := q
      subst q'
      obtain rfl : u = Value.bool true := r'
      have same : ∀ b o, (¬ ∃ q ∈ cs, q.2 = b) → s.heap.get? b = some o → s'.heap.get? b = some o := fun b o nt z => by
        cases y : H b with
        | none => exact un.keep b o z y (fun h => (List.not_mem_nil h).elim) (List.not_mem_nil)
        | some u =>
          rcases only b u y with ⟨e, _, rfl⟩ | ⟨t, _⟩
          · have y2 := un.frzs b _ _ y
            obtain ⟨e2, _⟩ := ok' b _ y2
            rw [e] at z e2 ⊢
            rw [ha] at z
            cases z
            exact e2
          · exact absurd t nt
      have more : ∀ q ∈ cs, ∃ m : Array Value, s'.heap.get? q.2 = some ⟨.none, none, .fields m, #[]⟩ := fun q hq => by
        obtain ⟨m, y⟩ := un.tbls q.2 #[] (tabH q hq)
        exact ⟨_, ok' q.2 _ y⟩
      refine ⟨rfl, ⟨fun b o z => ?_, fun b o z => ?_⟩, os, bare⟩
      · by_cases t : ∃ q ∈ cs, q.2 = b
        · obtain ⟨q, hq, rfl⟩ := t
          obtain ⟨m, hm⟩ := more q hq
          rw [tT q hq] at z
          cases z
          exact .inr (.inl ⟨((tC q hq).tab (tT q hq)).isCodeTable, rfl, #[], m, rfl, by rw [Array.empty_append]; exact hm⟩)
        · exact .inl (same b o t z)
      · by_cases t : ∃ q ∈ cs, q.2 = b
        · obtain ⟨q, hq, rfl⟩ := t
          obtain ⟨m, hm⟩ := more q hq
          exact ⟨_, hm⟩
        · exact ⟨o, same b o t z⟩
  cases hk : K.lookup a with
  | some o =>
    have z := kin a o hk
    rw [ha] at z
    cases z
    refine main (fun b => if ∃ q ∈ cs, q.2 = b then some (.tbl #[]) else none) (fun q hq => if_pos ⟨q, hq, rfl⟩) (fun b u y => ?_) (.inr ⟨_, vs.toArray, _, hk, rfl, rfl, rfl, ?_, by simpa using rv⟩)
    · split at y
      · cases y
        exact .inr ⟨‹_›, rfl⟩
      · cases y
    · rw [List.size_toArray, hi.length]
      exact hl
  | none =>
    refine main (fun b => if b = a then some (.frz ⟨.type "list", none, .seq vs.toArray 0, #[]⟩ (.lst (ns.map V.int))) else if ∃ q ∈ cs, q.2 = b then some (.tbl #[]) else none) (fun q hq => ?_) (fun b u y => ?_) (.inl (.inr ⟨_, if_pos rfl⟩))
    · rw [if_neg fun e => apart ⟨q, hq, e⟩]
      exact if_pos ⟨q, hq, rfl⟩
    · split at y
      · cases y
        exact .inl ⟨‹_›, hk, rfl⟩
      · split at y
        · cases y
          exact .inr ⟨‹_›, rfl⟩
        · cases y
/-- the end over such a promise -/
theorem walkGT {l : PySem.W.OpenLaw} {n k : Nat} {q : Program} {loose : List Str} {XP : (Str → Option Value) → Heap → Prop}
    {YP : World → Heap → Prop} {d : DefRec} {K : Params → PySem.W.Frag} {x : Str} (names : List Str) (hn : l.most = some n) (hz : n ≤ sizeLine)
    (hdf : d.params.defaults = []) (hr : Room k callerA) (hrec : ∀ y ∈ names, ∃ dW, (recsOf q).find? (fun e => e.name == y) = some dW) (hY : ∀ (w : World) (h : Heap), YP w h → (K w.params).In h)
    (F : ∀ (w : World) (mg : Str → Option Value) (fa : Addr) (h : Heap), (K w.params).In h → h.Ns mainGlobals mg → mg d.name = some (.ref fa) →
      ∃ (fd : FuncData) (cs : List (Addr × Addr)) (sp : Sp), (∀ c ∈ cs, ∃ y ∈ names, PySem.W.tabIn (K w.params) y = some c) ∧ (∀ c ∈ cs, (K w.params).lookup c.2 = none) ∧
        (∀ (s : Shared) (u : Value), BindsTo s fd ⟨[u], []⟩ [(x, u)]) ∧
        (∀ (H : Hp) (a : Addr) (ns : List Int), ns.length ≤ n → (∀ c ∈ cs, H c.2 = some (.tbl #[])) → SqL (K w.params) H a (ns.map V.int) → sp [.ref a] H (fun v _ => v = .bl true) fun _ _ _ => False) ∧
        ∀ base : Heap, (K w.params).In base → base.Ns mainGlobals mg → (∀ c ∈ cs, GxR.TabB base mg c.1 c.2) → FnG l.prog w (K w.params) mg base CX0 k fa fd [x] sp) :
    PySem.W.WalkO q loose XP YP l.row.toRowW d [] (fun f vs => PySem.call f vs) := by
  refine Att.attach_call hn hdf ?_
  intro w s₀ s₁ mg mb fa o pm cd doc a vs ns G Y ho hd hcd hmg hobj hints hlen hg
  have kin := hY w _ Y
  obtain ⟨fd, cs, sp, z1, z2, z3, z4, z5⟩ := F w mg fa _ kin G.T.g hmg
  have tb : ∀ c ∈ cs, PySem.W.CodeHd s₁.heap c.1 c.2 ∧ s₁.heap.get? c.2 = some { cls := .none, data := .fields #[] } := fun c hc => by
    obtain ⟨y, hy, e⟩ := z1 c hc
    obtain ⟨dW, hW⟩ := hrec y hy
    exact PySem.W.tab_of G.T kin hW e
  exact law_callGT kin G.T.g G.T.b G.T.builtins G.T.nolimit hg (fun c hc => (tb c hc).2) z2 (fun c hc => (tb c hc).1) G.T.bmain hobj hints (Nat.le_trans hlen hz) hr z5 z3 (fun H y1 y2 => z4 H a ns hlen y1 y2) fun _ _ _ y => y
end

/-! ### t[::-1], t a tuple -/
section
variable {prog : Program} {w : World} {A : Around} {E : Value → Shared → Prop} {s : Shared}
theorem rev_bounds (n : Nat) : Builtin.Slice.sliceAdjust none none (-1) (n : Int) = ((n : Int) - 1, -1) := by
  unfold Builtin.Slice.sliceAdjust
  rfl
theorem rev_places (n : Nat) : Builtin.Slice.slicePlaces ((n : Int) - 1) (-1) (-1) = n := by
  unfold Builtin.Slice.slicePlaces
  rw [if_neg (by decide)]
  by_cases h : (-1 : Int) < (n : Int) - 1
  · first
      | (rw [if_pos h]; omega)
      | (simp; omega)
  · first
      | (rw [if_neg h]; omega)
      | (simp; omega)
theorem fm_some {α β : Type} {f : α → Option β} {g : α → β} : ∀ l : List α, (∀ m ∈ l, f m = some (g m)) → l.filterMap f = l.map g
  | [], _ => rfl
  | x :: l, h => by
    rw [List.filterMap_cons, h x List.mem_cons_self, List.map_cons, fm_some l fun m hm => h m (List.mem_cons_of_mem _ hm)]
theorem rev_pick (xs : Array Value) : ((List.range xs.size).filterMap fun (m : Nat) => xs[((xs.size : Int) - 1 + (m : Int) * (-1)).toNat]?).toArray = xs.toList.reverse.toArray := by
  congr 1
  apply List.ext_getElem?
  intro i
  by_cases hi : i < xs.size
  · have full : ((List.range xs.size).filterMap fun (m : Nat) => xs[((xs.size : Int) - 1 + (m : Int) * (-1)).toNat]?) = (List.range xs.size).map fun m => xs.toList.getD (xs.size - 1 - m) .none := by
      apply fm_some
      intro m hm
      have := List.mem_range.mp hm
      have e : ((xs.size : Int) - 1 + (m : Int) * (-1)).toNat = xs.size - 1 - m := by omega
      rw [e, ← Array.getElem?_toList, List.getD_eq_getElem?_getD]
      rw [List.getElem?_eq_getElem (by rw [Array.length_toList]; omega)]
      rfl
    rw [full, List.getElem?_map, List.getElem?_range hi, List.getElem?_reverse (by rw [Array.length_toList]; exact hi), Array.length_toList]
    show some (xs.toList.getD (xs.size - 1 - i) Value.none) = _
    rw [List.getD_eq_getElem?_getD, List.getElem?_eq_getElem (by rw [Array.length_toList]; omega)]
    rfl
  · have l1 := List.length_filterMap_le (fun (m : Nat) => xs[((xs.size : Int) - 1 + (m : Int) * (-1)).toNat]?) (List.range xs.size)
    rw [List.length_range] at l1
    rw [List.getElem?_eq_none (by omega), List.getElem?_eq_none (by rw [List.length_reverse, Array.length_toList]; omega)]
theorem rev_applied {sl : Addr} {t : Tok} {n : Nat} {Q : Int × Int × Nat → Shared → Prop} (hs : s.heap.IsSliceOf sl .none .none (.int (-1) t))
    (h : Q ((n : Int) - 1, -1, n) s) : wpAny (model prog w) A (Builtin.Slice.sliceApplied (.ref sl) (pure (n : Int))) Q E s := by
  obtain ⟨os, hos, hcs, hds⟩ := id hs
  unfold Builtin.Slice.sliceApplied Builtin.Slice.sliceFields
  refine wpAny_bind (wpAny_bind ?_)
  refine wpAny_field hos hds (x := .none) rfl (wpAny_bind ?_)
  refine wpAny_field hos hds (x := .none) rfl (wpAny_bind ?_)
  refine wpAny_field hos hds (x := .int (-1) t) rfl (wpAny_pure ?_)
  refine wpAny_bind (slicePart_int ?_)
  show wpAny _ _ (if ((-1 : Int) == 0) = true then _ else _) _ _ s
  rw [if_neg (by decide)]
  refine wpAny_bind (slicePart_none (wpAny_bind (slicePart_none (wpAny_bind (wpAny_pure ?_)))))
  show wpAny _ _ (match Builtin.Slice.sliceAdjust none none (-1) (n : Int) with | (lo, hi) => pure (lo, (-1 : Int), Builtin.Slice.slicePlaces lo hi (-1))) _ _ s
  rw [rev_bounds]
  show wpAny _ _ (pure ((n : Int) - 1, (-1 : Int), Builtin.Slice.slicePlaces ((n : Int) - 1) (-1) (-1))) _ _ s
  rw [rev_places]
  exact wpAny_pure h
theorem rev_item {t sl : Addr} {items : Array Value} {tk : Tok} {Q : Value → Shared → Prop} (ht : IsTup s.heap t items)
    (hs : s.heap.IsSliceOf sl .none .none (.int (-1) tk))
    (h : Q (.ref s.heap.objs.size) { s with heap := s.heap.push { cls := .type "tuple", data := .seq items.toList.reverse.toArray } })
    (hz : items.size ≤ sizeLine) : wpAny (model prog w) A (getItem (.ref t) (.ref sl)) Q E s := by
  have small : sizeOk (.seq items.toList.reverse.toArray) := by
    show items.toList.reverse.toArray.size ≤ sizeLine
    rw [List.size_toArray, List.length_reverse, Array.length_toList]
    exact hz
  obtain ⟨os, hos, hcs, hds⟩ := id hs
  have isS : s.TypeIs (.ref sl) "slice" := ⟨os, hos, hcs⟩
  unfold getItem
  try with_reducible refine wpAny_holding ?_
  first | refine wpAny_bind (wpAny_pure ?_) | skip
  refine wpAny_bind (wpAny_sequenceKey ht.typeIs (by decide) ?_)
  refine wpAny_bind (wpAny_callSpecial?_slot (name := Str.ofString "__getitem__") ht.typeIs PyProof.Rows.slot_tuple_getitem ?_)
  refine wpAny_call_entry PyProof.Rows.slot_tuple_getitem ht.typeIs entry_tuple_getitem ?_ (args_tuple_getitem _ _)
  show wpAny _ _ (Builtin.Tuple.tupleItemsOf (.ref t) >>= _) _ _ s
  refine wpAny_bind (tupleItemsOf_ ht ?_)
  refine wpAny_bind (wpAny_typeOf isS ?_)
  rw [if_pos (by decide)]
  refine wpAny_bind (rev_applied hs ?_)
  show wpAny _ _ (if ((((items.size : Int) - 1) == 0 && (-1 : Int) == 1 && items.size == items.size) = true) then _ else _) _ _ s
  rw [if_neg (by simp), rev_pick]
  first
    | exact wpAny_bind (m := Builtin.Tuple.tupleExact _) (wpAny_newObj_type (wpAny_pure ⟨_, rfl, wpAny_pure h⟩) small)
    | exact wpAny_bind (m := Builtin.Tuple.tupleExact _) (wpAny_newObj_type (wpAny_bind (wpAny_pure (wpAny_pure ⟨_, rfl, wpAny_pure h⟩))) small)
    | exact wpAny_bind (wpAny_bind (m := Builtin.Tuple.tupleExact _) (wpAny_newObj_type (wpAny_pure (wpAny_pure ⟨_, rfl, wpAny_pure h⟩)) small))
    | exact wpAny_bind (wpAny_bind (m := Builtin.Tuple.tupleExact _) (wpAny_newObj_type (wpAny_pure ⟨_, rfl, wpAny_pure h⟩) small))
end
def tRevT (K : PySem.W.Frag) (te : TE) : TE := fun σ H Q =>
  te σ H fun x H1 => ∃ a xs, x = .ref a ∧ SqT K H1 a xs ∧ ∀ p, H1 p = none → Q (.ref p) (upd H1 p (.tup xs.reverse))
theorem pe_revT (K : PySem.W.Frag) {X : Cx} {e : Expr} {te : TE} {k : Nat} {p1 p2 p3 pos : Pos} (he : PE X e te) (hK : X.K = K := by rfl) :
    PE X (.Subscript e (.Slice none none (some (.UnaryOp .USub (.Constant (.int 1) k p1) p2)) p3) pos) (tRevT K te) := by
  subst hK
  refine ⟨fun pins s σ H Q I h => Subscript_ (thn (he.run pins s σ H _ I h) ?_)⟩
  rintro v s1 ⟨x, H1, I1, r1, a, xs, rfl, hx, q⟩
  cases r1
  have step : PO X (some (.UnaryOp .USub (.Constant (.int 1) k p1) p2)) (tPart (tUn (rU fun i => .int (-i)) (tC (.int 1)))) := po_some (pe_un un_neg pe_int)
  refine wpAny_Slice (thn (po_none.run pins s1 σ H1 (fun o H2 => o = none ∧ H2 = H1) I1 ⟨rfl, rfl⟩) ?_)
  rintro vl s2 ⟨l, H2, I2, pl, rfl, rfl⟩
  refine thn (po_none.run pins s2 σ H2 (fun o H3 => o = none ∧ H3 = H2) I2 ⟨rfl, rfl⟩) ?_
  rintro vu s3 ⟨u, H3, I3, pu, rfl, rfl⟩
  refine thn (step.run pins s3 σ H3 (fun o H4 => o = some (-1) ∧ H4 = H3) I3 ⟨1, rfl, -1, rfl, rfl, rfl⟩) ?_
  rintro vs s4 ⟨o, H4, I4, ps, rfl, rfl⟩
  have I5 : Inv X pins σ H4 { s4 with heap := s4.heap.push { cls := .type "slice", data := .fields #[vl, vu, vs] } } :=
    I4.kept (t' := s4.toks) fun b ob z => Heap.get?_push_of_some _ z
  obtain ⟨its, r, ht, hz⟩ := I5.tuple hx
  have hlen := r.length
  cases pl
  cases pu
  cases ps
  show wpAny (model X.prog X.w) X.A (subscriptTail e (.Slice none none (some (.UnaryOp .USub (.Constant (.int 1) k p1) p2)) p3) (.ref a) (.ref s4.heap.objs.size)) (EP X pins σ Q) X.xe _
  refine tail_any (ops := [.ref a, .ref s4.heap.objs.size]) ht.typeIs PyProof.Rows.slot_tuple_getitem.lookup ?_ (by with_unfolding_all rfl)
  refine rev_item ht (Heap.IsSliceOf.new _ _ _ _) ?_ (by rw [List.size_toArray]; omega)
  refine ⟨.ref _, _, I5.laid (t' := s4.toks) (o := .tup xs.reverse) (fun b ob z => Heap.get?_push_of_some _ z) (Nat.le_refl _) ?_, rfl, q _ (I5.hok.fresh (Nat.le_refl _))⟩
  exact ⟨by rw [List.length_reverse]; exact hz, _, r.reverse, IsTup.new _ _⟩

/-! ### more: two owned things at once, exchanges, len(set(..)), ranges by steps -/
section
variable {K : PySem.W.Frag}
/-- a, b = e1, e2 -/
def mParK (i j : Nat) (o1 o2 : Bool) (p q : Mx) : Mst := fun env => (p env).bind fun u => (q u.1).bind fun v => ((if o1 then putO i u.2 v.1 else putF i u.2 v.1).bind fun e => if o2 then putO j v.2 e else putF j v.2 e).map .nx
theorem r_parOO {t1 t2 : TE} {i j : Nat} {p q : Mx} (hp : RO K t1 p) (hq : RO K t2 q) (nij : i ≠ j) : RS K (tPar i j (tCons t1 (tCons t2 tNil))) (mParK i j true true p q) := fun M env F σ H fl D S e k => by
  obtain ⟨⟨e1, x⟩, h1, h⟩ := bindS e
  obtain ⟨⟨e2, y⟩, h2, h⟩ := bindS h
  obtain ⟨e4, h3, h4⟩ := mapS h
  subst h4
  obtain ⟨e3, h5, h6⟩ := bindS h3
  rw [if_pos rfl] at h5 h6
  obtain ⟨rfl, k1, k2⟩ := putO_of h5
  obtain ⟨rfl, k3, k4⟩ := putO_of h6
  refine hp M env F σ H e1 x _ S h1 fun a F1 H1 S1 s1 L1 o1 => ?_
  obtain ⟨u, hu⟩ := o1.some
  refine hq _ e1 F1 σ H1 e2 y _ (S1.ward L1 hu (by rw [hu] at o1; exact o1.notup)) h2 fun b F2 H2 S2 s2 L2 o2 => ?_
  obtain ⟨S3, L3, h7⟩ := S2.unward L1.nP
  have nab : b ≠ a := fun z => by
    have := L2.nP
    rw [z] at this
    dsimp only at this
    rw [if_pos rfl] at this
    cases this
  have oa : OwOk K F2 (H2 a) x := by
    rw [h7, ← hu]
    exact o1.mono s2
  have Lb : Loose M e2 F2 σ b := ⟨L2.fresh, L2.nF, by have := L2.nP; dsimp only at this; rw [if_neg nab] at this; exact this, L2.apart⟩
  have S4 := S3.setO L3 oa k1 k2
  have Lb' : Loose M (e2.set i (.ow x)) F2 (σ.set i (some (.ref a))) b := by
    refine ⟨Lb.fresh, Lb.nF, Lb.nP, fun n s d hn ho z => ?_⟩
    have li : i < σ.length := by
      rw [← S3.len]
      exact k2
    by_cases c : i = n
    · subst c
      rw [List.getElem?_set_self li] at z
      cases z
      exact nab rfl
    · rw [List.getElem?_set_ne c] at hn z
      exact Lb.apart n s d hn ho z
  exact ⟨_, _, rfl, k _ F2 H2 (S4.setO Lb' o2 k3 k4) (s1.trans s2)⟩
theorem r_parOE {t1 t2 : TE} {i j : Nat} {p q : Mx} (hp : RO K t1 p) (hq : RE K t2 q) : RS K (tPar i j (tCons t1 (tCons t2 tNil))) (mParK i j true false p q) := fun M env F σ H fl D S e k => by
  obtain ⟨⟨e1, x⟩, h1, h⟩ := bindS e
  obtain ⟨⟨e2, y⟩, h2, h⟩ := bindS h
  obtain ⟨e4, h3, h4⟩ := mapS h
  subst h4
  obtain ⟨e3, h5, h6⟩ := bindS h3
  rw [if_pos rfl] at h5
  rw [if_neg (by decide)] at h6
  obtain ⟨rfl, k1, k2⟩ := putO_of h5
  obtain ⟨rfl, k3, k4⟩ := putF_of h6
  refine hp M env F σ H e1 x _ S h1 fun a F1 H1 S1 s1 L1 o1 => ?_
  obtain ⟨u, hu⟩ := o1.some
  refine hq _ e1 F1 σ H1 e2 y _ (S1.ward L1 hu (by rw [hu] at o1; exact o1.notup)) h2 fun b F2 H2 S2 s2 r2 => ?_
  obtain ⟨S3, L3, h7⟩ := S2.unward L1.nP
  have oa : OwOk K F2 (H2 a) x := by
    rw [h7, ← hu]
    exact o1.mono s2
  exact ⟨_, _, rfl, k _ F2 H2 ((S3.setO L3 oa k1 k2).setF r2 k3 k4) (s1.trans s2)⟩
theorem r_parEO {t1 t2 : TE} {i j : Nat} {p q : Mx} (hp : RE K t1 p) (hq : RO K t2 q) (nij : i ≠ j) : RS K (tPar i j (tCons t1 (tCons t2 tNil))) (mParK i j false true p q) := fun M env F σ H fl D S e k => by
  obtain ⟨⟨e1, x⟩, h1, h⟩ := bindS e
  obtain ⟨⟨e2, y⟩, h2, h⟩ := bindS h
  obtain ⟨e4, h3, h4⟩ := mapS h
  subst h4
  obtain ⟨e3, h5, h6⟩ := bindS h3
  rw [if_neg (by decide)] at h5
  rw [if_pos rfl] at h6
  obtain ⟨rfl, k1, k2⟩ := putF_of h5
  obtain ⟨rfl, k3, k4⟩ := putO_of h6
  refine hp M env F σ H e1 x _ S h1 fun v F1 H1 S1 s1 r1 => ?_
  refine hq M e1 F1 σ H1 e2 y _ S1 h2 fun b F2 H2 S2 s2 L2 o2 => ?_
  have S4 := S2.setF (r1.mono s2 _ _) k1 k2
  have Lb' : Loose M (e2.set i (.fz x)) F2 (σ.set i (some v)) b := by
    refine ⟨L2.fresh, L2.nF, L2.nP, fun n s d hn ho z => ?_⟩
    by_cases c : i = n
    · subst c
      rw [List.getElem?_set_self k2] at hn
      cases hn
      cases ho
    · rw [List.getElem?_set_ne c] at hn z
      exact L2.apart n s d hn ho z
  exact ⟨_, _, rfl, k _ F2 H2 (S4.setO Lb' o2 k3 k4) (s1.trans s2)⟩
/-- xs[k] as a target -/
def mgSub (i : Nat) (ti : Mx) : Mg := fun d env => (isL i env).bind fun _ => (ti env).bind fun k => match k.2 with
  | .int n => updL i k.1 fun ds => (ixN ds.length n).map fun j => ds.set j d
  | _ => none
theorem g_sub {i : Nat} {tti : TE} {ti : Mx} (hi : RE K tti ti) : RG K (gSub (tVar i) tti rSetL) (mgSub i ti) := fun M env F σ H env' d v Q S r e q => by
  obtain ⟨_, h0, h⟩ := bindS e
  obtain ⟨⟨e2, k⟩, h2, h⟩ := bindS h
  obtain ⟨n, rfl⟩ : ∃ n, k = .int n := by cases k <;> first | exact ⟨_, rfl⟩ | cases h
  obtain ⟨s0, ds0, k0, k1⟩ := isL_of h0
  obtain ⟨a0, xs0, k2, k3, k4⟩ := S.lstAt k0 k1
  refine ⟨_, k2, hi M env F σ H e2 _ _ S h2 fun u F2 H2 S2 s2 r2 => ?_⟩
  obtain ⟨s, ds, ds', g1, g2, g3, rfl⟩ := updL_of h
  obtain ⟨j, g4, rfl⟩ := mapS g3
  obtain ⟨a1, xs, j1, j2, j3⟩ := S2.lstAt g1 g2
  rw [k2] at j1
  cases j1
  refine ⟨a0, xs, n, j, rfl, r2, j2, by rw [← j3.len]; exact g4, ?_⟩
  exact q σ F2 _ (S2.chg g1 g2 k2 (.inl ⟨_, _, rfl, rfl, j3.set j (r.mono s2 _ _)⟩)) s2
/-! zip, rows turned about, is True -/
theorem k_zip (K : PySem.W.Frag) {X : Cx} {e e2 : Expr} {ta : TA} {p pos tpos : Pos} {elts : List Expr} {kk : Nat} (hg : Gl X "zip") (hm : X.mg "zip" = none) (ha : PA X [e, e2] ta) (hK : X.K = K := by rfl)
    (d1 : starEach [e, e2] X.env = (false, eval e X.env) :: starEach [e2] X.env := by rfl) (d2 : (backTo pos (starEach [e2] X.env)).any (·.1) = false := by rfl) :
    PI X (.Tuple elts kk tpos) (.Call (.Name "zip" p) [e, e2] [] pos) (RZ.iZipA K ta) := hK ▸ RZ.pi_zipA hg hm ha d1 d2
theorem k_revL (K : PySem.W.Frag) {X : Cx} {e : Expr} {te : TE} {k : Nat} {p1 p2 p3 pos : Pos} (he : PE X e te) (hK : X.K = K := by rfl) : PE X (.Subscript e (.Slice none none (some (.UnaryOp .USub (.Constant (.int 1) k p1) p2)) p3) pos) (tRevL K te) := hK ▸ pe_revL he
def fRevT : Dt → Option Dt
  | .tuple ds => some (.tuple ds.reverse)
  | _ => none
def fRevL : Dt → Option Dt
  | .list ds => some (.list ds.reverse)
  | _ => none
theorem r_revT {ta : TE} {a : Mx} (ha : RQ K ta a) : RE K (tRevT K ta) (mUn fRevT a) := fun M env F σ H env' d Q S e q => by
  obtain ⟨⟨e1, x⟩, h1, h⟩ := bindS e
  obtain ⟨z, h3, h⟩ := mapS h
  cases h
  refine ha M env F σ H _ x _ S h1 fun v F1 H1 S1 s1 r1 => ?_
  cases x <;> first | (cases h3; done) | skip
  cases h3
  obtain ⟨a, xs, rfl, h6, h7⟩ := r1.tup S1.sub
  refine ⟨a, xs, rfl, SqT.of h6, fun p np => ?_⟩
  obtain ⟨S2, s2⟩ := S1.lay np (.tup xs.reverse)
  exact q _ _ _ S2 (s1.trans s2) ⟨p, _, rfl, upd_same, h7.reverse.mono s2 _ _⟩
theorem r_revL {ta : TE} {a : Mx} (ha : RQ K ta a) : RO K (tRevL K ta) (mUn fRevL a) := fun M env F σ H env' d Q S e q => by
  obtain ⟨⟨e1, x⟩, h1, h⟩ := bindS e
  obtain ⟨z, h3, h⟩ := mapS h
  cases h
  refine ha M env F σ H _ x _ S h1 fun v F1 H1 S1 s1 r1 => ?_
  cases x <;> first | (cases h3; done) | skip
  cases h3
  obtain ⟨a, xs, rfl, h6, h7⟩ := r1.lst S1.sub
  refine ⟨a, xs, rfl, SqL.of h6, fun p np => ?_⟩
  obtain ⟨S2, L2, o2⟩ := S1.newO np h7.reverse
  exact q p F1 _ S2 s1 L2 o2
def fIsB : Dt → Dt → Option Dt
  | .bool a, .bool b => some (.bool (decide (a = b)))
  | _, _ => none
def fNotB : Dt → Dt → Option Dt
  | .bool a, .bool b => some (.bool (!decide (a = b)))
  | _, _ => none
theorem o_isB : R2k K rIsB fIsB := fun M env F σ H x y d e z Q S hx hy hf q => by
  unfold fIsB at hf
  split at hf
  · cases hf
    exact ⟨_, _, hx.bl, hy.bl, q _ F H S (Same.refl F) rfl⟩
  · cases hf
theorem o_notB : R2k K rNotB fNotB := fun M env F σ H x y d e z Q S hx hy hf q => by
  unfold fNotB at hf
  split at hf
  · cases hf
    exact ⟨_, _, hx.bl, hy.bl, q _ F H S (Same.refl F) rfl⟩
  · cases hf
/-! ranges by steps -/
def rgC (i c : Int) (n : Nat) : List Dt := (List.range n).map fun (k : Nat) => .int (i + (k : Int) * c)
def rg3 : List Dt → Option (List Dt)
  | [.int i, .int j, .int c] => if c ≠ 0 ∧ c.natAbs < 1073741824 ∧ Builtin.Range.small i j c = true ∧ 0 ≤ Builtin.Range.rangeSize i j c then some (rgC i c (Builtin.Range.rangeSize i j c).toNat) else none
  | _ => none
theorem rgC_get {i c : Int} {n k : Nat} {d : Dt} (h : (rgC i c n)[k]? = some d) : k < n ∧ d = .int (i + (k : Int) * c) := by
  unfold rgC at h
  rw [List.getElem?_map] at h
  obtain ⟨j, h1, h2⟩ := mapS h
  obtain ⟨h3, h4⟩ := List.getElem?_eq_some_iff.mp h1
  rw [List.getElem_range] at h4
  subst h4 h2
  exact ⟨by simpa using h3, rfl⟩
theorem it_rngC {F : Hp} {i c : Int} {n : Nat} : ItOk K (Itc i c n) F (rgC i c n) := by
  refine ⟨fun k d H s e => (rgC_get e).1, fun k d H H' x s e y => ?_, fun k H s l => ?_⟩
  · obtain ⟨rfl, rfl⟩ := y
    rw [(rgC_get e).2]
    exact .inl ⟨rfl, rfl⟩
  · have z : (rgC i c n).length = n := by simp [rgC]
    rw [z] at l
    exact l
theorem i_rng3 {ta : TA} {a : Ms} (ha : RA K ta a) : RI K (iRng3 ta) (mRng rg3 a) := fun M env F σ H env' ds R S e q => by
  obtain ⟨⟨e1, x⟩, h1, h⟩ := bindS e
  obtain ⟨ds', h2, h3⟩ := mapS h
  cases h3
  refine ha M env F σ H _ x _ S h1 fun v F1 H1 S1 s1 r1 => ?_
  unfold rg3 at h2
  dsimp only at h2
  split at h2
  · rename_i i j c
    split at h2
    · rename_i hc
      cases h2
      have e := RpA.ints (ns := [i, j, c]) r1
      subst e
      exact ⟨i, j, c, _, rfl, ⟨hc.1, hc.2.1, hc.2.2.1, (Int.toNat_of_nonneg hc.2.2.2).symm⟩, q _ F1 H1 S1 s1 it_rngC⟩
    · cases h2
  · cases h2
end
/-! ### len(set(xs)) of ints, also where some are there twice -/
theorem firstMet_dup {ns : List Int} : ∀ i, i ≤ ns.length → (PyProof.Rows.firstMet (fun i => ns.getD i 0) i).length = i → (ns.take i).Nodup
  | 0, _, _ => by simp
  | i + 1, hi, e => by
    have hlt : i < ns.length := hi
    have e1 : ns.getD i 0 = ns[i] := by
      rw [List.getD_eq_getElem?_getD, List.getElem?_eq_getElem hlt] <;> rfl
    have e2 : ns.take (i + 1) = ns.take i ++ [ns[i]] := by
      rw [List.take_add_one, List.getElem?_eq_getElem hlt] <;> rfl
    have le := PyProof.Rows.firstMet_length_le (fun i => ns.getD i 0) i
    have any := PyProof.Rows.firstMet_any (fun i => ns.getD i 0) i (ns.getD i 0)
    rw [PyProof.Rows.firstMet_succ] at e
    have e' : (if (PyProof.Rows.firstMet (fun i => ns.getD i 0) i).any (· == ns.getD i 0) then PyProof.Rows.firstMet (fun i => ns.getD i 0) i else PyProof.Rows.firstMet (fun i => ns.getD i 0) i ++ [ns.getD i 0]).length = i + 1 := e
    cases hb : (PyProof.Rows.firstMet (fun i => ns.getD i 0) i).any (· == ns.getD i 0) with
    | true =>
      rw [hb, if_pos rfl] at e'
      omega
    | false =>
      rw [hb, if_neg (by decide), List.length_append] at e'
      have ih := firstMet_dup i (Nat.le_of_lt hlt) (by simpa using e')
      rw [e2]
      refine List.nodup_append.mpr ⟨ih, by simp, ?_⟩
      intro x hx y hy z
      rw [List.mem_singleton] at hy
      subst hy
      subst z
      rw [hb] at any
      have no := List.any_eq_false.mp any.symm
      obtain ⟨j, hj⟩ := List.mem_iff_getElem?.mp hx
      rw [List.getElem?_take] at hj
      by_cases hji : j < i
      · rw [if_pos hji] at hj
        refine no (ns.getD j 0) (List.mem_map.mpr ⟨j, List.mem_range.mpr hji, rfl⟩) ?_
        rw [List.getD_eq_getElem?_getD, hj, e1]
        simp
      · rw [if_neg hji] at hj
        cases hj
/-- how many unlike ones there are -/
def distinct (ns : List Int) : Nat := (PyProof.Rows.firstMet (fun i => ns.getD i 0) ns.length).length
theorem distinct_le (ns : List Int) : distinct ns ≤ ns.length := PyProof.Rows.firstMet_length_le (fun i => ns.getD i 0) ns.length
theorem distinct_iff (ns : List Int) : distinct ns = ns.length ↔ ns.Nodup := by
  constructor
  · intro e
    have z := firstMet_dup ns.length (Nat.le_refl _) e
    rw [List.take_length] at z
    exact z
  · intro nd
    unfold distinct
    rw [RZ.firstMet_nodup nd ns.length (Nat.le_refl _), List.take_length]
def tLenSet (K : PySem.W.Frag) (ta : TE) : TE := fun σ H Q => ta σ H fun x H1 => ∃ (l : Addr) (ns : List Int), x = .ref l ∧ SqL K H1 l (ns.map V.int) ∧ ns.length ≤ 4000 ∧ Q (.int (distinct ns)) H1
theorem pe_lenSet (K : PySem.W.Frag) {X : Cx} {a : Expr} {ta : TE} {p p2 q pos : Pos} (hg : Gl X "len") (hm : X.mg "len" = none) (hg2 : Gl X "set") (hm2 : X.mg "set" = none) (ha : PE X a ta) (hc : X.calm = true := by rfl) (hK : X.K = K := by rfl)
    (na : starEach [a] X.env = (false, eval a X.env) :: starEach [] X.env := by rfl) : PE X (.Call (.Name "len" p) [.Call (.Name "set" p2) [a] [] q] [] pos) (tLenSet K ta) := by
  subst hK
  refine ⟨fun pins s σ H Q I h => ?_⟩
  refine Call_ (ld_blt I hg hm boot_len ?_)
  refine PyProof.Rows.callWith_builtin1 (PyProof.Rows.args_cons ?_ rfl) rfl rfl
  refine Call_ (ld_blt I hg2 hm2 boot_set ?_)
  refine PyProof.Rows.callWith_type1 (PyProof.Rows.args_cons (thn (ha.run pins s σ H _ I h) fun v s1 ⟨x, H1, I1, r1, q1⟩ => PyProof.Rows.args_nil ?_) na) na rfl
  obtain ⟨l, ns, rfl, hq, hl, q1⟩ := q1
  cases r1
  obtain ⟨its, r, pl, hz⟩ := I1.list hq
  have hlen : its.toArray.size = ns.length := by rw [List.size_toArray, ← r.length, List.length_map]
  refine call_set_list (I1.ok.hd hc) pl.isList (by simpa using RZ.intsAre_vals r) (by rw [hlen]; unfold scanBound; omega) fun h' tk hS hk => ?_
  refine PyProof.Rows.args_nil ?_
  rw [hlen] at hS
  have le := distinct_le ns
  unfold distinct at le
  obtain ⟨o, es, ep, t, ho, hex, hd, _, _, _, hf, hn⟩ := hS
  have I2 : Inv X pins σ H1 { s1 with heap := h', toks := tk } := I1.kept fun b o e => hk b o (Heap.lt_size e) e
  exact call_len_set ho hex hd hf (by rw [hn] <;> omega) ⟨.int (PyProof.Rows.firstMet (fun i => ns.getD i 0) ns.length).length, H1, I2.tok _, ⟨_, by rw [hn]⟩, q1⟩

section
variable {K : PySem.W.Frag}
def fLenSet : Dt → Option Dt
  | .list ds => (asInts ds).bind fun ns => if ns.length ≤ 4000 then some (.int (distinct ns)) else none
  | _ => none
theorem r_lenSet {ta : TE} {a : Mx} (ha : RQ K ta a) : RE K (tLenSet K ta) (mC1 fLenSet a) := fun M env F σ H env' d Q S e q => by
  obtain ⟨⟨e1, x⟩, h1, h⟩ := bindS e
  obtain ⟨z, h3, h⟩ := mapS h
  cases h
  refine ha M env F σ H _ x _ S h1 fun v F1 H1 S1 s1 r1 => ?_
  cases x <;> first | (cases h3; done) | skip
  obtain ⟨ns, h4, h5⟩ := bindS h3
  split at h5
  · cases h5
    obtain ⟨a, xs, rfl, h6, h7⟩ := r1.lst S1.sub
    rw [asInts_of h4] at h7
    have e := h7.ints
    subst e
    exact ⟨a, ns, rfl, SqL.of h6, ‹_›, q _ F1 H1 S1 s1 rfl⟩
  · cases h5
end
/-! ### a def whose code object is known -/
theorem FnG.byC {P : Program} {w : World} {K : PySem.W.Frag} {mg : Str → Option Value} {base : Heap} {x qual : Str} {st : Stmt} {f c : Addr} {fd : FuncData} {N ps : List Str} {k : Nat} {sp : Sp} (F : Fun K x qual st f fd) (hc : fd.code = .ref c)
    (S : FnScope N ps (defScope st)) (len : ∀ vs H Q E, sp vs H Q E → vs.length = ps.length)
    (body : ∀ (A : Around) (fs : List Env) (s : Shared) (H : Hp) (vs : List V) (Q : VK) (E : XK),
      Room k (A.deeper (envOfC qual (defScope st) s.heap.objs.size f (.ref c))) → A.guards = some [] → sp vs H Q E →
      ∃ t, PSs (cxOf CX0 P w K mg base N qual (defScope st) f (.ref c) A fs s H E).nox (defBody st) t ∧
        t { nx := fun _ H' => Q .non H', rt := Q } (L2.start N vs) H) :
    FnG P w K mg base CX0 (k + 1) f fd ps sp := by
  obtain ⟨oc, od, kV, doc, pm, an, cdv, ct, osl, rfl, lk, cdok⟩ := F.ex
  have hcd : cdv = .ref c := hc
  subst hcd
  refine ⟨len, ?_⟩
  intro A fs s H ar us vs Q E room gd env bd rel ask
  have kin : K.In s.heap := env.mod.kin.keeps fun b o z => (env.bs b o z).1
  have nol : s.heap.NoLimit := env.mod.nolimit.keeps fun b o z => (env.bs b o z).1
  have parK : ∀ y ∈ ps.zip us, (defScope st).names.lookup y.1 = some .local ∨
      ((defScope st).names.lookup y.1 = some .cell ∧
        ((cellsFrom (s.heap.objs.size + 1) (defScope st).names []).lookup y.1).isSome = true) := by
    rintro ⟨m, v⟩ hy
    rcases S.par m (List.of_mem_zip hy).1 with z | z
    · exact .inl z
    · exact .inr ⟨z, PySem.W.cellsFrom_some _ _ _ (.inl z)⟩
  refine codeAny_call_function room.depth (kin _ _ lk) rfl S.co S.gen rfl (PySem.W.codeRec_of kin cdok) (bd _ _ _ _ ?_)
  refine wpAny_newFunctionEnv_cells S.kind parK ?_
  rintro _ rfl s1 x
  refine ⟨nol.keeps x.toInCall.keep, codeAny_func ?_⟩
  obtain ⟨t, der, rd⟩ := body A fs s H vs Q E (room.deeper _) gd ask
  have I := inv_start (CX := CX0) (E := E) S room.hd env (len _ _ _ _ ask) rel x
  refine wpAny_mono (der.nox.run [] s1 (L2.start N vs) H _ I rd) ?_ fun e s' z => z
  intro fl s' z
  match fl, z with
  | .ret u, ⟨v, σ', H', J, rv, q⟩ => exact ⟨v, H', J.os, J.bare, J.base, J.hok, rv, q⟩
  | .next, ⟨σ', H', J, q⟩ => exact ⟨V.non, H', J.os, J.bare, J.base, J.hok, rfl, q⟩
  | .brk, ⟨_, _, _, q⟩ => exact False.elim q
  | .cont, ⟨_, _, _, q⟩ => exact False.elim q
theorem gs_free {sc scope : Scope} {n : Nat} (h : (scope.names.all fun y => decide (y.2 = .free → sc.names.lookup y.1 = some .cell)) = true) : ∀ y ∈ scope.names, y.2 = .free → ∃ c, (cellsFrom n sc.names []).lookup y.1 = some c := fun y hy e =>
  cell_has (of_decide_eq_true (List.all_eq_true.mp h y hy) e)

/-! ### dict(pairs): the keys ints and texts, or tuples of these -/
section
variable {X : Cx}
def rDictK (K : PySem.W.Frag) : List V → Hp → VK → Prop := fun xs H Q => ∃ (a : Addr) (ps : List Addr) (kvs : List (Key × V)), xs = [.ref a] ∧ SqL K H a (ps.map V.ref) ∧ Paired (fun p kv => SqT K H p [kV kv.1, kv.2]) ps kvs ∧
    ∀ p, H p = none → Q (.ref p) (upd H p (.dK (mergeK [] kvs)))
theorem k_dictK (K : PySem.W.Frag) (hc : X.calm = true) (h : X.K = K := by rfl) : CallR X (.type "dict") (rDictK K) := h ▸ call_dictP hc
def mergeT (kvs more : List (List Key × V)) : List (List Key × V) := more.foldl (fun acc kv => putK acc kv.1 kv.2) kvs
theorem KT.merge {H : Hp} : ∀ {more : List (List Key × V)} {rs : List (List Key × Addr × Value)} {kvs : List (List Key × V)} {vs : List (List Key × Addr × Value)}, KT H more rs → KT H kvs vs → KT H (mergeT kvs more) (storedAllH vs rs)
  | _, _, _, _, .nil, r => r
  | _, _, kvs, vs, .cons (a := p) (b := q) h t, r => by
    obtain ⟨k, y⟩ := p
    obtain ⟨k', b, u⟩ := q
    obtain ⟨e, hb, ry⟩ := h
    cases (show k = k' from e)
    have := KT.merge (H := H) t (L2.KT.put r k hb ry)
    exact this
theorem length_mergeT : ∀ (more kvs : List (List Key × V)), (mergeT kvs more).length ≤ kvs.length + more.length
  | [], kvs => Nat.le_refl _
  | p :: r, kvs => by
    have h1 := length_mergeT r (putK kvs p.1 p.2)
    have h2 := length_putK kvs p.1 p.2
    show (mergeT (putK kvs p.1 p.2) r).length ≤ _
    rw [List.length_cons]
    omega
def rDictT (K : PySem.W.Frag) : List V → Hp → VK → Prop := fun xs H Q => ∃ (a : Addr) (ps : List Addr) (kvs : List (List Key × V)), xs = [.ref a] ∧ SqL K H a (ps.map V.ref) ∧
    Paired (fun p kv => ∃ b, SqT K H p [.ref b, kv.2] ∧ H b = some (.tup (kv.1.map kV))) ps kvs ∧ ∀ p, H p = none → Q (.ref p) (upd H p (.dT (mergeT [] kvs)))
theorem pairsT_of {pins : List (Addr × Obj)} {σ : L2.St} {H : Hp} {s : Shared} (I : Inv X pins σ H s) : ∀ {ps : List Addr} {kvs : List (List Key × V)}, Paired (fun p kv => ∃ b, SqT X.K H p [.ref b, kv.2] ∧ H b = some (.tup (kv.1.map kV))) ps kvs →
    ∃ prs : List (List Key × Addr × Value), KT H kvs prs ∧ prs.length = ps.length ∧ ∀ (j : Nat) (q : List Key × Addr × Value), prs[j]? = some q → ∃ (c : Addr), ps[j]? = some c ∧ IsTup s.heap c #[.ref q.2.1, q.2.2] ∧ (tupleKind (mixKind X.prog X.w)).is s.heap q.1 q.2.1
  | _, _, .nil => ⟨[], .nil, rfl, fun j q e => by simp at e⟩
  | _, _, .cons (a := p) (b := kv) h t => by
    obtain ⟨prs, r, hl, hp⟩ := pairsT_of I t
    obtain ⟨b, h, hb⟩ := h
    obtain ⟨its, rv, ht, _⟩ := I.tuple h
    obtain ⟨u, y, ei, ru, ry⟩ := vals2 rv
    subst ei
    cases ru
    refine ⟨(kv.1, b, y) :: prs, .cons ⟨rfl, hb, ry⟩ r, by rw [List.length_cons, List.length_cons, hl], fun j q e => ?_⟩
    cases j with
    | zero =>
      have e' : (kv.1, b, y) = q := Option.some.inj e
      subst e'
      exact ⟨p, rfl, ht, key_of I.hok hb⟩
    | succ j =>
      obtain ⟨c, e1, e2, e3⟩ := hp j q (by simpa using e)
      exact ⟨c, by simpa using e1, e2, e3⟩
theorem call_dictT (hcalm : X.calm = true) (hu : X.A.units + 2 < cLine) : CallR X (.type "dict") (rDictT X.K) := by
  intro pins s σ H xs us Q I r q
  obtain ⟨a, ps, kvs, ex, hq, hp, q⟩ := q
  subst ex
  obtain ⟨u, eu, rx⟩ := vals1 r
  subst eu
  cases rx
  obtain ⟨its, rv, pl, hz⟩ := I.list hq
  have ei := refs_at rv
  subst ei
  rw [List.length_map] at hz
  obtain ⟨prs, rel, hl, hpr⟩ := pairsT_of I hp
  refine PySem.call_dict_pairsH (knd := tupleKind (mixKind X.prog X.w)) (ps := prs) (PairArg.list a (ps.map Value.ref).toArray (fun j => ps.getD j 0) (prs.map fun q => (Value.ref q.2.1, q.2.2))) (I.ok.hd hcalm) (tupleKind_room_in1 (A := X.A.in1) ?_) ⟨pl, by simp [hl], fun j k v e => ?_⟩
    ⟨by simp, fun i k v e => ?_⟩ (fun h' hk x hx => ?_) (by rw [List.length_map, hl]; exact hz) fun h' tk hd' k => ?_
  · exact hu
  · rw [List.getElem?_map] at e
    obtain ⟨q', e1, e2⟩ := Option.map_eq_some_iff.mp e
    cases e2
    obtain ⟨c, c1, c2, _⟩ := hpr j q' e1
    refine ⟨by simp [List.getD_eq_getElem?_getD, c1], ?_⟩
    show PairAt s.heap (ps.getD j 0) _ _
    rw [List.getD_eq_getElem?_getD, c1]
    exact .inl c2
  · have e : (prs.map fun q => (Value.ref q.2.1, q.2.2))[i]? = some (k, v) := e
    rw [List.getElem?_map] at e
    obtain ⟨⟨k1, b1, v1⟩, e1, e2⟩ := Option.map_eq_some_iff.mp e
    cases e2
    exact ⟨k1, b1, e1, rfl⟩
  · obtain ⟨j, hj, e⟩ := List.mem_iff_getElem.mp hx
    obtain ⟨c, _, _, c3⟩ := hpr j x (by rw [List.getElem?_eq_getElem hj, e])
    exact tupleKind_stays.all h' (fun b o _ e => hk b o (Nat.ne_of_lt (Heap.lt_size e)) (fun z => nomatch z) e) _ _ c3
  · have hm : (s.heap.objs.size == sysModules) = false := beq_eq_false_iff_ne.mpr (Nat.ne_of_gt I.big)
    have hlen : (mergeT [] kvs).length ≤ sizeLine := by
      refine Nat.le_trans (length_mergeT kvs []) ?_
      rw [List.length_nil, Nat.zero_add, Paired.length rel, hl]
      exact hz
    obtain ⟨q1, es, ep, hq1, h2, h3, h4, _, h5⟩ := hd'
    have hf : H s.heap.objs.size = none := I.hok.fresh (Nat.le_refl _)
    refine ⟨.ref s.heap.objs.size, upd H s.heap.objs.size (.dT (mergeT [] kvs)), I.laid (t' := tk) (fun b o e => k b o (fun z => nomatch z) e) (Nat.le_refl _)
      (show ObjOk X.prog X.w _ _ _ (.dT (mergeT [] kvs)) from ⟨hlen, hm, _, (KT.merge rel .nil).keeps fun c ys ec => ?_, q1, es, ep, hq1, h2, h3, h4, h5⟩), rfl, q _ hf⟩
    rw [upd_ne (fun e => by rw [e, hf] at ec; cases ec)]
    exact ec
theorem k_dictT (K : PySem.W.Frag) (hc : X.calm = true) (hu : X.A.units + 2 < cLine) (h : X.K = K := by rfl) : CallR X (.type "dict") (rDictT K) := h ▸ call_dictT hc hu
end
section
variable {K : PySem.W.Frag}
def pairD : Dt → Option (Dt × Dt)
  | .tuple [k, d] => some (k, d)
  | _ => none
def mergeD {κ : Type} [DecidableEq κ] (ak : Dt → Option κ) (kd : κ → Dt) : List (Dt × Dt) → List Dt → Option (List (Dt × Dt))
  | acc, [] => some acc
  | acc, p :: r => (pairD p).bind fun q => (ak q.1).bind fun k => mergeD ak kd (putD ak kd acc k q.2) r
def fDictK : Dt → Option Dt
  | .list ds => (mergeD asKey kD [] ds).map fun r => .dict r
  | _ => none
def fDictT : Dt → Option Dt
  | .list ds => (mergeD asTKey tD [] ds).map fun r => .dict ((.none, .tuple []) :: r)
  | _ => none
theorem pair_at {F H : Hp} {p k d : Dt} {x : V} (s : Same F H) (h : Rp K F p x) (e : pairD p = some (k, d)) : ∃ c y z, x = .ref c ∧ SqT K H c [y, z] ∧ Rp K F k y ∧ Rp K F d z := by
  unfold pairD at e
  split at e
  · cases e
    obtain ⟨a, xs, rfl, h1, h2⟩ := h
    obtain ⟨y, r, rfl, h3, h4⟩ := h2
    obtain ⟨z, r', rfl, h5, h6⟩ := h4
    cases (show _ = _ from h6)
    exact ⟨a, y, z, rfl, SqT.of (s _ _ h1), h3, h5⟩
  · cases e
theorem mergeK_ok {F H : Hp} (s : Same F H) : ∀ {ds : List Dt} {xs : List V} {acc out : List (Dt × Dt)} {av : List (Key × V)}, RpA K F ds xs → RpE K F kD acc av → mergeD asKey kD acc ds = some out →
    ∃ ps kvs, xs = ps.map V.ref ∧ Paired (fun p kv => SqT K H p [kV kv.1, kv.2]) ps kvs ∧ RpE K F kD out (mergeK av kvs)
  | [], _, acc, _, av, h, ra, e => by
    cases (show _ = _ from h)
    cases e
    exact ⟨[], [], rfl, .nil, ra⟩
  | d :: ds, _, acc, _, av, h, ra, e => by
    obtain ⟨x, r, rfl, h1, h2⟩ := h
    obtain ⟨⟨kd, vd⟩, e1, e⟩ := bindS e
    obtain ⟨k, e2, e⟩ := bindS e
    obtain ⟨c, y, z, rfl, h3, h4, h5⟩ := pair_at s h1 e1
    obtain ⟨ps, kvs, rfl, h6, h7⟩ := mergeK_ok s h2 (ra.put asKey_kD k h5) e
    rw [key_at (H := H) (.inl h4) e2] at h3
    exact ⟨c :: ps, (k, z) :: kvs, rfl, .cons h3 h6, h7⟩
theorem mergeT_ok {F H : Hp} (s : Same F H) : ∀ {ds : List Dt} {xs : List V} {acc out : List (Dt × Dt)} {av : List (List Key × V)}, RpA K F ds xs → RpE K F tD acc av → mergeD asTKey tD acc ds = some out →
    ∃ ps kvs, xs = ps.map V.ref ∧ Paired (fun p kv => ∃ b, SqT K H p [.ref b, kv.2] ∧ H b = some (.tup (kv.1.map kV))) ps kvs ∧ RpE K F tD out (mergeT av kvs)
  | [], _, acc, _, av, h, ra, e => by
    cases (show _ = _ from h)
    cases e
    exact ⟨[], [], rfl, .nil, ra⟩
  | d :: ds, _, acc, _, av, h, ra, e => by
    obtain ⟨x, r, rfl, h1, h2⟩ := h
    obtain ⟨⟨kd, vd⟩, e1, e⟩ := bindS e
    obtain ⟨k, e2, e⟩ := bindS e
    obtain ⟨c, y, z, rfl, h3, h4, h5⟩ := pair_at s h1 e1
    obtain ⟨ps, kvs, rfl, h6, h7⟩ := mergeT_ok s h2 (ra.put asTKey_tD k h5) e
    obtain ⟨b, rfl, h8⟩ := tkey_at s (.inl h4) e2
    exact ⟨c :: ps, (k, z) :: kvs, rfl, .cons ⟨b, h3, h8⟩ h6, h7⟩
theorem c_dictK : RC1o K (rDictK K) fDictK := fun M env F σ H x d z Q S hx hf q => by
  cases d <;> first | (cases hf; done) | skip
  obtain ⟨out, h1, h2⟩ := mapS hf
  subst h2
  obtain ⟨a, xs, rfl, h3, h4⟩ := hx.lst S.sub
  obtain ⟨ps, kvs, rfl, h5, h6⟩ := mergeK_ok S.sub h4 .nil h1
  refine ⟨a, ps, kvs, rfl, SqL.of h3, h5, fun p np => ?_⟩
  obtain ⟨S2, L2, o2⟩ := S.newD np h6.k
  exact q p F _ S2 (Same.refl F) L2 o2
theorem c_dictT : RC1o K (rDictT K) fDictT := fun M env F σ H x d z Q S hx hf q => by
  cases d <;> first | (cases hf; done) | skip
  obtain ⟨out, h1, h2⟩ := mapS hf
  subst h2
  obtain ⟨a, xs, rfl, h3, h4⟩ := hx.lst S.sub
  obtain ⟨ps, kvs, rfl, h5, h6⟩ := mergeT_ok S.sub h4 .nil h1
  refine ⟨a, ps, kvs, rfl, SqL.of h3, h5, fun p np => ?_⟩
  obtain ⟨S2, L2, o2⟩ := S.newT np (ds := (.none, .tuple []) :: out) ⟨rfl, rfl, h6.t⟩
  exact q p F _ S2 (Same.refl F) L2 o2
end
theorem hu2_of {k : Nat} {A : Around} (r : Room k A) : A.units + 2 < cLine := by
  have := r.un
  omega
/-! str of an int -/
section
variable {K : PySem.W.Frag}
def fStrI : Dt → Option Dt
  | .int i => if i.natAbs.log2 < 1920 then some (.str (toString i)) else none
  | _ => none
theorem c_strI : RC1 K (fun xs H Q => ∃ i, xs = [.int i] ∧ i.natAbs.log2 < 1920 ∧ Q (.str (toString i)) H) fStrI := fun M env F σ H x d z Q S hx hf q => by
  cases d <;> first | (cases hf; done) | skip
  rename_i i
  unfold fStrI at hf
  dsimp only at hf
  split at hf
  · rename_i hl
    cases hf
    rw [hx.int]
    exact ⟨i, rfl, hl, q _ F H S (Same.refl F) rfl⟩
  · cases hf
end

/-! ### exceptions by data: the mirrors -/
/-- an exception of the class c with one thing of the name f -/
abbrev exD (c f : Str) (d : Dt) : Dt := .dict [(.bool false, .str c), (.str f, d)]
/-- what raises nothing -/
def mGo (m : Mst) : Mst := fun env => (m env).bind fun fl => match fl with
  | .rt _ (.bo _) => none
  | f => some f
/-- raise c(a) -/
def mRaise (c f : Str) (a : Mx) : Mst := fun env => (a env).map fun p => .rt p.1 (.bo (exD c f p.2))
def bodyX (n : Nat) (bs : List Bool) (m : Mst) : Gf := fun ds => (m (env0 n bs ds)).bind fun fl => match fl with
  | .rt e (.fz d) => (outsOf e bs 0).map fun o => (o, .fz d)
  | .rt e (.ow d) => (outsOf e bs 0).map fun o => (o, .ow d)
  | .rt e (.bo d) => (outsOf e bs 0).map fun o => (o, .bo d)
  | .nx e => (outsOf e bs 0).map fun o => (o, .fz .none)
  | _ => none
/-- x = f(..) -/
def mSetX (i : Nat) (bs : List Bool) (g : Gf) (a : Mar) : Mst := fun env => (mCall bs g a env).bind fun p => match p.2 with
  | .fz d => (putF i d p.1).map .nx
  | .bo d => some (.rt p.1 (.bo d))
  | _ => none
/-- f(..), its value dropped -/
def mDropX (bs : List Bool) (g : Gf) (a : Mar) : Mst := fun env => (mCall bs g a env).bind fun p => match p.2 with
  | .fz _ => some (.nx p.1)
  | .bo d => some (.rt p.1 (.bo d))
  | _ => none
def exName : Dt → Option Str
  | .dict ((.bool false, .str c) :: _) => some c
  | _ => none
/-- try: m / except .. as n: ms (n's slot i; L: the classes that are caught) -/
def mTryS (i : Nat) (L : List Str) (m ms : Mst) : Mst := fun env => (m env).bind fun fl => match fl with
  | .rt e (.bo d) => (exName d).bind fun c => if c ∈ L then (putF i d e).bind fun e1 => (ms e1).map fun f => match f with
    | .nx e2 => .nx (e2.set i .un)
    | .bk e2 => .bk (e2.set i .un)
    | .ct e2 => .ct (e2.set i .un)
    | .rt e2 r => .rt e2 r
    else none
  | f => some f
/-- e.f -/
def fXv (f : Str) : Dt → Option Dt
  | .dict [(.bool false, .str _), (.str g, d)] => if g = f then some d else none
  | _ => none
def mXv (L : List Str) (f : Str) (a : Mx) : Mx := fun env => (a env).bind fun p => (exName p.2).bind fun c => if c ∈ L then (fXv f p.2).map fun z => (p.1, z) else none
/-- isinstance(e, T): by the class's name -/
def mIsX (L : List (Str × Bool)) (a : Mx) : Mx := fun env => (a env).bind fun p => (exName p.2).bind fun c => (L.lookup c).map fun b => (p.1, .bool b)

/-! ### running a mirror backwards -/
def W1 {α : Type} (o : Option α) (Q : α → Prop) : Prop := ∃ z, o = some z ∧ Q z
def W2 {β α : Type} (o : Option (β × α)) (Q : β → α → Prop) : Prop := ∃ e d, o = some (e, d) ∧ Q e d
theorem W1.mono {α : Type} {o : Option α} {P Q : α → Prop} (h : W1 o P) (k : ∀ z, P z → Q z) : W1 o Q := by
  obtain ⟨z, h1, h2⟩ := h
  exact ⟨z, h1, k z h2⟩
theorem W2.mono {β α : Type} {o : Option (β × α)} {P Q : β → α → Prop} (h : W2 o P) (k : ∀ e z, P e z → Q e z) : W2 o Q := by
  obtain ⟨e, z, h1, h2⟩ := h
  exact ⟨e, z, h1, k e z h2⟩
theorem w1_of {α : Type} {o : Option α} {z : α} {Q : α → Prop} (h : o = some z) (k : Q z) : W1 o Q := ⟨z, h, k⟩
theorem w2_of {β α : Type} {o : Option (β × α)} {e : β} {z : α} {Q : β → α → Prop} (h : o = some (e, z)) (k : Q e z) : W2 o Q := ⟨e, z, h, k⟩
/-- a place of a list set anew -/
def St {α : Type} (i : Nat) (s : α) (l : List α) (Q : List α → Prop) : Prop := Q (l.set i s)
theorem st_0 {α : Type} {s x : α} {l : List α} {Q : List α → Prop} (k : Q (s :: l)) : St 0 s (x :: l) Q := k
theorem st_s {α : Type} {i : Nat} {s x : α} {l : List α} {Q : List α → Prop} (k : St i s l fun l' => Q (x :: l')) : St (i + 1) s (x :: l) Q := k
class Nb (s : Sl) : Prop where
  ok : ∀ x, s ≠ .bo x
instance : Nb .un := ⟨fun _ h => by cases h⟩
instance {d : Dt} : Nb (.fz d) := ⟨fun _ h => by cases h⟩
instance {d : Dt} : Nb (.ow d) := ⟨fun _ h => by cases h⟩
instance {o : Option Dt} : Nb (Sl.fzo o) := ⟨fun _ h => by cases o <;> cases h⟩
def Sl.owo : Option Dt → Sl
  | some d => .ow d
  | none => .un
instance {o : Option Dt} : Nb (Sl.owo o) := ⟨fun _ h => by cases o <;> cases h⟩
/-- conditions beside -/
def Eqn (a b : Nat) (P : Prop) : Prop := a = b ∧ P
theorem eqn_w {a b : Nat} {P : Prop} (h : a = b) (k : P) : Eqn a b P := ⟨h, k⟩
def Fit (n : Nat) (P : Prop) : Prop := n ≤ sizeLine ∧ P
theorem fit_w {n : Nat} {P : Prop} (h : n ≤ sizeLine) (k : P) : Fit n P := ⟨h, k⟩
def Fil (n : Nat) (P : Prop) : Prop := n < sizeLine ∧ P
theorem fil_w {n : Nat} {P : Prop} (h : n < sizeLine) (k : P) : Fil n P := ⟨h, k⟩
def Iv (y : Dt) (Q : Int → Prop) : Prop := ∃ v, y = .int v ∧ Q v
theorem iv_w {v : Int} {Q : Int → Prop} (k : Q v) : Iv (.int v) Q := ⟨v, rfl, k⟩
section
variable {env e e' : Evs} {i j : Nat} {d x y z : Dt} {s : Sl}
theorem w_putF {Q : Evs → Prop} (h : env[i]? = some s) (n : Nb s) (k : St i (.fz d) env Q) : W1 (putF i d env) Q := by
  refine ⟨_, ?_, k⟩
  unfold putF
  rw [h]
  cases s with
  | bo x => exact absurd rfl (n.ok x)
  | _ => rfl
theorem w_putO {Q : Evs → Prop} (h : env[i]? = some s) (n : Nb s) (k : St i (.ow d) env Q) : W1 (putO i d env) Q := by
  refine ⟨_, ?_, k⟩
  unfold putO
  rw [h]
  cases s with
  | bo x => exact absurd rfl (n.ok x)
  | _ => rfl
/-! names and constants -/
variable {Q : Evs → Dt → Prop}
theorem w_var (h : env[i]? = some (.fz d)) (k : Q env d) : W2 (mVar i env) Q := by
  refine ⟨env, d, ?_, k⟩
  unfold mVar
  rw [h]
theorem w_varO (h : env[i]? = some (.ow d)) (k : St i (.fz d) env fun e => Q e d) : W2 (mVar i env) Q := by
  refine ⟨_, d, ?_, k⟩
  unfold mVar
  rw [h]
theorem w_move (h : env[i]? = some (.ow d)) (k : St i .un env fun e => Q e d) : W2 (mMove i env) Q := by
  refine ⟨_, d, ?_, k⟩
  unfold mMove
  rw [h]
theorem w_peek (h : mPeek i env = some (env, d)) (k : Q env d) : W2 (mPeek i env) Q := ⟨env, d, h, k⟩
theorem w_K (k : Q env d) : W2 (mK d env) Q := ⟨env, d, rfl, k⟩
theorem w_op {f : Dt → Dt → Option Dt} {p q : Mx} (k : W2 (p env) fun e x => W2 (q e) fun e' y => W1 (f x y) fun z => Q e' z) : W2 (mOp f p q env) Q := by
  obtain ⟨e, x, h1, e', y, h2, z, h3, h4⟩ := k
  exact ⟨e', z, op_ev h1 h2 h3, h4⟩
def Pk (i : Nat) (e : Evs) (Q : Dt → Prop) : Prop := ∃ x, mPeek i e = some (e, x) ∧ Q x
theorem pk_w {Q : Dt → Prop} (h : mPeek i e = some (e, x)) (k : Q x) : Pk i e Q := ⟨x, h, k⟩
theorem w_opP {f : Dt → Dt → Option Dt} {q : Mx} (k : Pk i env fun _ => W2 (q env) fun e' y => Pk i e' fun x => W1 (f x y) fun z => Q e' z) : W2 (mOpP f i q env) Q := by
  obtain ⟨x0, h0, e', y, h2, x, h3, z, h4, h5⟩ := k
  exact ⟨e', z, opP_ev h0 h2 h3 h4, h5⟩
theorem w_un {f : Dt → Option Dt} {p : Mx} (k : W2 (p env) fun e x => W1 (f x) fun z => Q e z) : W2 (mUn f p env) Q := by
  obtain ⟨e, x, h1, z, h3, h4⟩ := k
  exact ⟨e, z, un_ev h1 h3, h4⟩
theorem w_c1 {f : Dt → Option Dt} {p : Mx} (k : W2 (p env) fun e x => W1 (f x) fun z => Q e z) : W2 (mC1 f p env) Q := w_un k
theorem w_isi {c : String} {p : Mx} (k : W2 (p env) fun e x => W1 (fIsi c x) fun z => Q e z) : W2 (mIsi c p env) Q := w_un k
theorem w_cs {f : List Dt → Option Dt} {p : Ms} (k : W2 (p env) fun e x => W1 (f x) fun z => Q e z) : W2 (mCs f p env) Q := by
  obtain ⟨e, x, h1, z, h3, h4⟩ := k
  exact ⟨e, z, cs_ev h1 h3, h4⟩
theorem x_nil {Q : Evs → List Dt → Prop} (k : Q env []) : W2 (mNil env) Q := ⟨env, [], rfl, k⟩
theorem x_cons {p : Mx} {s : Ms} {Q : Evs → List Dt → Prop} (k : W2 (p env) fun e x => W2 (s e) fun e' ds => Q e' (x :: ds)) : W2 (mCons p s env) Q := by
  obtain ⟨e, x, h1, e', ds, h2, h3⟩ := k
  exact ⟨e', _, cons_ev h1 h2, h3⟩
theorem x_tup {s : Ms} (k : W2 (s env) fun e ds => Fit ds.length (Q e (.tuple ds))) : W2 (mTup s env) Q := by
  obtain ⟨e, ds, h1, h2, h3⟩ := k
  exact ⟨e, _, tup_ev h1 h2, h3⟩
theorem w_lst {s : Ms} (k : W2 (s env) fun e ds => Fit ds.length (Q e (.list ds))) : W2 (mLst s env) Q := by
  obtain ⟨e, ds, h1, h2, h3⟩ := k
  exact ⟨e, _, lst_ev h1 h2, h3⟩
theorem w_sl {f : Dt → Option Int → Option Int → Option Dt} {a : Mx} {lo hi : Mo} (k : W2 (a env) fun e x => W2 (lo e) fun e1 l => W2 (hi e1) fun e2 h => W1 (f x l h) fun z => Q e2 z) : W2 (mSl f a lo hi env) Q := by
  obtain ⟨e, x, h1, e1, l, h2, e2, h, h3, z, h4, h5⟩ := k
  refine ⟨e2, z, ?_, h5⟩
  unfold mSl
  rw [h1]
  show (lo e).bind _ = _
  rw [h2]
  show (hi e1).bind _ = _
  rw [h3]
  show (f x l h).map _ = _
  rw [h4]
  rfl
theorem w_noPart {Q : Evs → Option Int → Prop} (k : Q env none) : W2 (mNoPart env) Q := ⟨env, none, rfl, k⟩
theorem w_part {p : Mx} {Q : Evs → Option Int → Prop} (k : W2 (p env) fun e d => Iv d fun v => Q e (some v)) : W2 (mPart p env) Q := by
  obtain ⟨e, _, h1, v, rfl, h2⟩ := k
  refine ⟨e, _, ?_, h2⟩
  unfold mPart
  rw [h1]
  rfl
/-! tests -/
def Wt (d : Dt) (Q : Bool → Prop) : Prop := ∃ t, d = .bool t ∧ Q t
theorem wt_b {t : Bool} {Q : Bool → Prop} (k : Q t) : Wt (.bool t) Q := ⟨t, rfl, k⟩
variable {B : Evs → Bool → Prop}
theorem w_B {p : Mx} (k : W2 (p env) fun e d => Wt d (B e)) : W2 (mB p env) B := by
  obtain ⟨e, _, h1, t, rfl, h2⟩ := k
  exact ⟨e, t, b_ev h1, h2⟩
theorem w_truth {p : Mx} (k : W2 (p env) fun e d => W1 (truD d) (B e)) : W2 (mTruth p env) B := by
  obtain ⟨e, d, h1, t, h2, h3⟩ := k
  refine ⟨e, t, ?_, h3⟩
  unfold mTruth
  rw [h1]
  show (truD d).map _ = _
  rw [h2]
  rfl
theorem w_and {a b : Mb} (k : W2 (a env) fun e t => if t = true then W2 (b e) B else B e false) : W2 (mAnd a b env) B := by
  obtain ⟨e, t, h1, h2⟩ := k
  cases t with
  | true =>
    obtain ⟨e', t', h3, h4⟩ := h2
    exact ⟨e', t', and_t h1 h3, h4⟩
  | false => exact ⟨e, false, and_f h1, h2⟩
theorem w_or {a b : Mb} (k : W2 (a env) fun e t => if t = true then B e true else W2 (b e) B) : W2 (mOr a b env) B := by
  obtain ⟨e, t, h1, h2⟩ := k
  cases t with
  | true => exact ⟨e, true, or_t h1, h2⟩
  | false =>
    obtain ⟨e', t', h3, h4⟩ := h2
    exact ⟨e', t', or_f h1 h3, h4⟩
theorem w_not {a : Mb} (k : W2 (a env) fun e t => B e (!t)) : W2 (mNot a env) B := by
  obtain ⟨e, t, h1, h2⟩ := k
  refine ⟨e, _, ?_, h2⟩
  unfold mNot
  rw [h1]
  rfl
theorem w_yes (k : B env true) : W2 (mYes env) B := ⟨env, true, rfl, k⟩
theorem w_andV {a b : Mx} (k : W2 (a env) fun e d => Wt d fun t => if t = true then W2 (b e) Q else Q e (.bool false)) : W2 (mAndV a b env) Q := by
  obtain ⟨e, _, h1, t, rfl, h2⟩ := k
  unfold mAndV
  rw [b_ev h1]
  cases t with
  | true => exact h2
  | false => exact ⟨e, _, rfl, h2⟩
theorem w_orV {a b : Mx} (k : W2 (a env) fun e d => Wt d fun t => if t = true then Q e (.bool true) else W2 (b e) Q) : W2 (mOrV a b env) Q := by
  obtain ⟨e, _, h1, t, rfl, h2⟩ := k
  unfold mOrV
  rw [b_ev h1]
  cases t with
  | true => exact ⟨e, _, rfl, h2⟩
  | false => exact h2
theorem w_notV {a : Mx} (k : W2 (a env) fun e d => Wt d fun t => Q e (.bool (!t))) : W2 (mNotV a env) Q := by
  obtain ⟨e, _, h1, t, rfl, h2⟩ := k
  refine ⟨e, _, ?_, h2⟩
  unfold mNotV
  rw [b_ev h1]
  rfl
theorem w_if {c : Mb} {a b : Mx} (k : W2 (c env) fun e t => if t = true then W2 (a e) Q else W2 (b e) Q) : W2 (mIf c a b env) Q := by
  obtain ⟨e, t, h1, h2⟩ := k
  cases t with
  | true =>
    obtain ⟨e', d, h3, h4⟩ := h2
    exact ⟨e', d, if_t h1 h3, h4⟩
  | false =>
    obtain ⟨e', d, h3, h4⟩ := h2
    exact ⟨e', d, if_f h1 h3, h4⟩
theorem w_chain {f g : Dt → Dt → Option Dt} {p q r : Mx} (k : W2 (p env) fun e x => W2 (q e) fun e' y => W1 (f x y) fun z => Wt z fun t => if t = true then W2 (r e') fun e3 u => W1 (g y u) fun v => Q e3 v else Q e' (.bool false)) : W2 (mChain f g p q r env) Q := by
  obtain ⟨e, x, h1, e', y, h2, _, h3, t, rfl, h4⟩ := k
  cases t with
  | true =>
    obtain ⟨e3, u, h5, v, h6, h7⟩ := h4
    exact ⟨e3, v, chain_t h1 h2 h3 h5 h6, h7⟩
  | false => exact ⟨e', _, chain_f h1 h2 h3, h4⟩
theorem ite_tt {A C : Prop} (k : A) : if true = true then A else C := by simpa using k
theorem ite_ff {A C : Prop} (k : C) : if false = true then A else C := by simpa using k
theorem ite_n1 {A C : Prop} (k : C) : if (!true) = true then A else C := by simpa using k
theorem ite_n0 {A C : Prop} (k : A) : if (!false) = true then A else C := by simpa using k
theorem ite_dt {A C P : Prop} [Decidable P] (h : P) (k : A) : if decide P = true then A else C := by simp [h, k]
theorem ite_df {A C P : Prop} [Decidable P] (h : ¬P) (k : C) : if decide P = true then A else C := by simp [h, k]
theorem ite_nt {A C P : Prop} [Decidable P] (h : P) (k : C) : if (!decide P) = true then A else C := by simp [h, k]
theorem ite_nf {A C P : Prop} [Decidable P] (h : ¬P) (k : A) : if (!decide P) = true then A else C := by simp [h, k]
theorem ite_c {A C P : Prop} [Decidable P] (h : P → A) (k : ¬P → C) : if decide P = true then A else C := by
  by_cases c : P
  · simp [c, h c]
  · simp [c, k c]
theorem ite_nc {A C P : Prop} [Decidable P] (h : ¬P → A) (k : P → C) : if (!decide P) = true then A else C := by
  by_cases c : P
  · simp [c, k c]
  · simp [c, h c]
theorem ite_b {A C : Prop} {t : Bool} (h : t = true → A) (k : t = false → C) : if t = true then A else C := by
  cases t with
  | true => simpa using h rfl
  | false => simpa using k rfl
/-! statements -/
variable {F : Fl → Prop} {a b : Mst}
def Sq (b : Mst) (F : Fl → Prop) : Fl → Prop
  | .nx e => W1 (b e) F
  | f => F f
theorem sq_nx (k : W1 (b e) F) : Sq b F (.nx e) := k
theorem sq_rt {r : Sl} (k : F (.rt e r)) : Sq b F (.rt e r) := k
theorem sq_ct (k : F (.ct e)) : Sq b F (.ct e) := k
theorem sq_bk (k : F (.bk e)) : Sq b F (.bk e) := k
theorem w_seq (k : W1 (a env) (Sq b F)) : W1 (mSeq a b env) F := by
  obtain ⟨fl, h1, h2⟩ := k
  cases fl with
  | nx e =>
    obtain ⟨f2, h3, h4⟩ := h2
    exact ⟨f2, seq_nx h1 h3, h4⟩
  | rt e r => exact ⟨_, seq_rt h1, h2⟩
  | ct e => exact ⟨.ct e, by unfold mSeq; rw [h1]; rfl, h2⟩
  | bk e => exact ⟨.bk e, by unfold mSeq; rw [h1]; rfl, h2⟩
theorem w_next (k : F (.nx env)) : W1 (mNext env) F := ⟨_, rfl, k⟩
theorem w_asg {p : Mx} {g : Mg} (k : W2 (p env) fun e d => W1 (g d e) fun e' => F (.nx e')) : W1 (mAsg p g env) F := by
  obtain ⟨e, d, h1, e', h2, h3⟩ := k
  exact ⟨_, asg_ev h1 h2, h3⟩
theorem w_setO {p : Mx} (k : W2 (p env) fun e d => W1 (putO i d e) fun e' => F (.nx e')) : W1 (mSetO i p env) F := by
  obtain ⟨e, d, h1, e', h2, h3⟩ := k
  exact ⟨_, setO_ev h1 h2, h3⟩
theorem w_ret {p : Mx} (k : W2 (p env) fun e d => F (.rt e (.fz d))) : W1 (mRet p env) F := by
  obtain ⟨e, d, h1, h2⟩ := k
  exact ⟨_, ret_ev h1, h2⟩
theorem w_retO {p : Mx} (k : W2 (p env) fun e d => F (.rt e (.ow d))) : W1 (mRetO p env) F := by
  obtain ⟨e, d, h1, h2⟩ := k
  exact ⟨_, retO_ev h1, h2⟩
theorem w_retN (k : F (.rt env (.fz .none))) : W1 (mRetN env) F := ⟨_, rfl, k⟩
theorem w_drop {p : Mx} (k : W2 (p env) fun e _ => F (.nx e)) : W1 (mDrop p env) F := by
  obtain ⟨e, d, h1, h2⟩ := k
  exact ⟨_, drop_ev h1, h2⟩
theorem w_ifS {c : Mb} (k : W2 (c env) fun e t => if t = true then W1 (a e) F else W1 (b e) F) : W1 (mIfS c a b env) F := by
  obtain ⟨e, t, h1, h2⟩ := k
  cases t with
  | true =>
    obtain ⟨fl, h3, h4⟩ := h2
    exact ⟨fl, ifS_t h1 h3, h4⟩
  | false =>
    obtain ⟨fl, h3, h4⟩ := h2
    exact ⟨fl, ifS_f h1 h3, h4⟩
theorem w_par {p : Ms} (k : W2 (p env) fun e ds => ∃ x y, ds = [x, y] ∧ W1 (putF i x e) fun e' => W1 (putF j y e') fun e2 => F (.nx e2)) : W1 (mPar i j p env) F := by
  obtain ⟨e, _, h1, x, y, rfl, e', h2, e2, h3, h4⟩ := k
  refine ⟨_, ?_, h4⟩
  unfold mPar
  rw [h1]
  show ((putF i x e).bind _).map _ = _
  rw [h2]
  show (putF j y e').map _ = _
  rw [h3]
  rfl
theorem w_par2 {p q : Mx} (k : W2 (p env) fun e x => W2 (q e) fun e1 y => W1 (putF i x e1) fun e' => W1 (putF j y e') fun e2 => F (.nx e2)) : W1 (mPar i j (mCons p (mCons q mNil)) env) F := by
  obtain ⟨e, x, h1, e1, y, h2, h3⟩ := k
  exact w_par ⟨e1, [x, y], cons_ev h1 (cons_ev h2 rfl), x, y, rfl, h3⟩
theorem w_aug {f : Int → Int → Int} {p : Mx} {u : Int} (h : env[i]? = some (.fz (.int u))) (k : W2 (p env) fun e y => Iv y fun v => W1 (putF i (.int (f u v)) e) fun e' => F (.nx e')) : W1 (mAug i f p env) F := by
  obtain ⟨e, _, h1, v, rfl, e', h2, h3⟩ := k
  refine ⟨_, ?_, h3⟩
  unfold mAug
  rw [h]
  show (p env).bind _ = _
  rw [h1]
  show (putF i (.int (f u v)) e).map _ = _
  rw [h2]
  rfl
theorem w_mgT {n : Nat} {g : Mgs} {ds : List Dt} {Q : Evs → Prop} (h : ds.length = n) (k : W1 (g ds e) Q) : W1 (mgTup n g (.tuple ds) e) Q := by
  obtain ⟨e', h1, h2⟩ := k
  refine ⟨e', ?_, h2⟩
  unfold mgTup
  show (if ds.length = n then g ds e else none) = _
  rw [if_pos h, h1]
theorem w_mgC {g : Mg} {gs : Mgs} {ds : List Dt} {Q : Evs → Prop} (k : W1 (g d e) fun e' => W1 (gs ds e') Q) : W1 (mgCons g gs (d :: ds) e) Q := by
  obtain ⟨e', h1, e2, h2, h3⟩ := k
  refine ⟨e2, ?_, h3⟩
  unfold mgCons
  show (g d e).bind _ = _
  rw [h1]
  exact h2
theorem w_mgN {Q : Evs → Prop} (k : Q e) : W1 (mgNil [] e) Q := ⟨e, rfl, k⟩
/-! lists in slots -/
/-- the list of a slot, lent or own -/
def Ln (i : Nat) (e : Evs) (R : (Dt → Sl) → List Dt → Prop) : Prop := ∃ (c : Dt → Sl) (l : List Dt), (∀ d, (c d).own = some d) ∧ (∀ d d', (c d).with d' = c d') ∧ e[i]? = some (c (.list l)) ∧ R c l
theorem ln_bo {R : (Dt → Sl) → List Dt → Prop} {l : List Dt} (h : e[i]? = some (.bo (.list l))) (k : R .bo l) : Ln i e R := ⟨.bo, l, fun _ => rfl, fun _ _ => rfl, h, k⟩
theorem ln_ow {R : (Dt → Sl) → List Dt → Prop} {l : List Dt} (h : e[i]? = some (.ow (.list l))) (k : R .ow l) : Ln i e R := ⟨.ow, l, fun _ => rfl, fun _ _ => rfl, h, k⟩
def Ix (n : Nat) (m : Dt) (R : Nat → Prop) : Prop := ∃ (k : Int) (j : Nat), m = .int k ∧ ixN n k = some j ∧ R j
theorem ix_w {n j : Nat} {m : Int} {R : Nat → Prop} (h : ixN n m = some j) (k : R j) : Ix n (.int m) R := ⟨m, j, rfl, h, k⟩
theorem ix_0 {n : Nat} {R : Nat → Prop} (h : ixN n 0 = some 0) (k : R 0) : Ix n (.int 0) R := ⟨0, 0, rfl, h, k⟩
theorem ix_1 {n : Nat} {R : Nat → Prop} (h : ixN n 1 = some 1) (k : R 1) : Ix n (.int 1) R := ⟨1, 1, rfl, h, k⟩
theorem ix_2 {n : Nat} {R : Nat → Prop} (h : ixN n 2 = some 2) (k : R 2) : Ix n (.int 2) R := ⟨2, 2, rfl, h, k⟩
theorem w_put {p q : Mx} (k : W2 (p env) fun e d => Ln i e fun _ _ => W2 (q e) fun e' n => Ln i e' fun c l => Ix l.length n fun j => St j d l fun l' => St i (c (.list l')) e' fun e2 => F (.nx e2)) : W1 (mPut i q p env) F := by
  obtain ⟨e, d, h1, c0, l0, a0, _, a1, e', _, h2, c, l, b0, b1, b2, m, j, rfl, h5, h6⟩ := k
  refine ⟨_, put_ev h1 ?_ h2 (e2 := e'.set i (c (.list (l.set j d)))) ?_, h6⟩
  · unfold isL
    rw [a1]
    show (match (c0 (.list l0)).own with | some (.list _) => some () | _ => none) = _
    rw [a0]
  · unfold updL
    rw [b2]
    show (match (c (.list l)).own with | some (.list ds) => _ | _ => none) = _
    rw [b0]
    show ((ixN l.length m).map _).map _ = _
    rw [h5]
    show some (e'.set i ((c (.list l)).with _)) = _
    rw [b1]
theorem w_app {p : Mx} (k : Ln i env fun _ _ => W2 (p env) fun e d => Ln i e fun c l => Fil l.length (St i (c (.list (l ++ [d]))) e fun e2 => F (.nx e2))) : W1 (mApp i p env) F := by
  obtain ⟨c0, l0, a0, _, a1, e, d, h1, c, l, b0, b1, b2, h5, h6⟩ := k
  refine ⟨_, app_ev ?_ h1 (e2 := e.set i (c (.list (l ++ [d])))) ?_, h6⟩
  · unfold isL
    rw [a1]
    show (match (c0 (.list l0)).own with | some (.list _) => some () | _ => none) = _
    rw [a0]
  · unfold updL
    rw [b2]
    show (match (c (.list l)).own with | some (.list ds) => _ | _ => none) = _
    rw [b0]
    show (if l.length < sizeLine then _ else _ : Option (List Dt)).map _ = _
    rw [if_pos h5]
    show some (e.set i ((c (.list l)).with _)) = _
    rw [b1]
/-! loops -/
def Lp (I : Evs → Prop) (F : Fl → Prop) : Fl → Prop
  | .nx e => I e
  | .ct e => I e
  | .bk e => F (.nx e)
  | .rt e r => F (.rt e r)
theorem lp_nx {I : Evs → Prop} (k : I e) : Lp I F (.nx e) := k
theorem lp_ct {I : Evs → Prop} (k : I e) : Lp I F (.ct e) := k
theorem lp_bk {I : Evs → Prop} (k : F (.nx e)) : Lp I F (.bk e) := k
theorem lp_rt {I : Evs → Prop} {r : Sl} (k : F (.rt e r)) : Lp I F (.rt e r) := k
theorem w_for {mi : Ms} {g : Mg} (k : W2 (mi env) fun e ds => W1 (loopM g b ds e) F) : W1 (mFor mi g b env) F := by
  obtain ⟨e, ds, h1, fl, h2, h3⟩ := k
  exact ⟨fl, for_ev h1 h2, h3⟩
theorem loop_wk {g : Mg} (I : Nat → Evs → Prop) : ∀ (ds : List Dt) (k : Nat) (env : Evs), I k env → (∀ (j : Nat) (d : Dt) (env : Evs), ds[j]? = some d → I (k + j) env → W1 (g d env) fun e1 => W1 (b e1) (Lp (I (k + j + 1)) F)) → (∀ env, I (k + ds.length) env → F (.nx env)) → W1 (loopM g b ds env) F
  | [], k, env, h, _, fin => ⟨_, rfl, fin env h⟩
  | d :: ds, k, env, h, st, fin => by
    obtain ⟨e1, h1, fl, h2, h3⟩ := st 0 d env rfl h
    have go : ∀ e2, I (k + 1) e2 → W1 (loopM g b ds e2) F := fun e2 h4 => loop_wk I ds (k + 1) e2 h4 (fun j d' env' hj hI => by
      have := st (j + 1) d' env' (by simpa using hj) (by rw [show k + (j + 1) = k + 1 + j by omega]; exact hI)
      rw [show k + (j + 1) + 1 = k + 1 + j + 1 by omega] at this
      exact this) (fun env' hI => fin env' (by rw [List.length_cons, show k + (ds.length + 1) = k + 1 + ds.length by omega]; exact hI))
    unfold loopM
    rw [h1]
    show W1 ((b e1).bind _) F
    rw [h2]
    cases fl with
    | nx e2 => exact go e2 h3
    | ct e2 => exact go e2 h3
    | bk e2 => exact ⟨_, rfl, h3⟩
    | rt e2 r => exact ⟨_, rfl, h3⟩
theorem loop_w {g : Mg} {ds : List Dt} (I : Nat → Evs → Prop) (h0 : I 0 env) (st : ∀ (j : Nat) (d : Dt) (env : Evs), ds[j]? = some d → I j env → W1 (g d env) fun e1 => W1 (b e1) (Lp (I (j + 1)) F)) (fin : ∀ env, I ds.length env → F (.nx env)) : W1 (loopM g b ds env) F :=
  loop_wk I ds 0 env h0 (fun j d env hj hI => by rw [Nat.zero_add] at hI ⊢; exact st j d env hj hI) (fun env hI => fin env (by rw [Nat.zero_add] at hI; exact hI))
theorem rng_w {g : Mg} {lo : Int} {n : Nat} (I : Nat → Evs → Prop) (h0 : I 0 env) (st : ∀ (j : Nat) (env : Evs), j < n → I j env → W1 (g (.int (lo + (j : Int))) env) fun e1 => W1 (b e1) (Lp (I (j + 1)) F)) (fin : ∀ env, I n env → F (.nx env)) : W1 (loopM g b (rgD lo n) env) F := by
  refine loop_w I h0 (fun j d env hj hI => ?_) (fun env hI => fin env (by rw [rgD_len] at hI; exact hI))
  obtain ⟨k1, rfl⟩ := rgD_get hj
  exact st j env k1 hI
theorem wh_w {c : Mb} (I : Nat → Evs → Prop) (st : ∀ (m : Nat) (env : Evs), I m env → W2 (c env) fun e t => if t = true then W1 (b e) (Lp (fun e' => ∃ m', m' < m ∧ I m' e') F) else F (.nx e)) : ∀ (fuel m : Nat) (env : Evs), I m env → m < fuel → W1 (whM c b fuel env) F
  | 0, m, env, _, h => by omega
  | fuel + 1, m, env, hI, hf => by
    obtain ⟨e, t, h1, h2⟩ := st m env hI
    unfold whM
    rw [h1]
    cases t with
    | false => exact ⟨_, rfl, h2⟩
    | true =>
      obtain ⟨fl, h3, h4⟩ := h2
      show W1 ((b e).bind _) F
      rw [h3]
      cases fl with
      | nx e2 =>
        obtain ⟨m', h5, h6⟩ := h4
        exact wh_w I st fuel m' e2 h6 (by omega)
      | ct e2 =>
        obtain ⟨m', h5, h6⟩ := h4
        exact wh_w I st fuel m' e2 h6 (by omega)
      | bk e2 => exact ⟨_, rfl, h4⟩
      | rt e2 r => exact ⟨_, rfl, h4⟩
theorem w_wh {c : Mb} {n : Evs → Nat} (k : W1 (whM c b (n env) env) F) : W1 (mWhile n c b env) F := k
theorem w_rng {k : List Dt → Option (List Dt)} {s : Ms} {Q : Evs → List Dt → Prop} (h : W2 (s env) fun e ds => W1 (k ds) fun es => Q e es) : W2 (mRng k s env) Q := by
  obtain ⟨e, ds, h1, es, h2, h3⟩ := h
  exact ⟨e, es, rng_ev h1 h2, h3⟩
theorem w_items {k : Dt → Option (List Dt)} {s : Mx} {Q : Evs → List Dt → Prop} (h : W2 (s env) fun e ds => W1 (k ds) fun es => Q e es) : W2 (mItems k s env) Q := by
  obtain ⟨e, ds, h1, es, h2, h3⟩ := h
  exact ⟨e, es, items_ev h1 h2, h3⟩
theorem w_rg1 {n : Int} {Q : List Dt → Prop} (h : -(2 ^ 62) ≤ n ∧ n < 2 ^ 62) (k : Q (rgD 0 n.toNat)) : W1 (rg1 [.int n]) Q := ⟨_, if_pos h, k⟩
theorem w_rg2 {m n : Int} {Q : List Dt → Prop} (h : -(2 ^ 62) ≤ m ∧ m < 2 ^ 62 ∧ -(2 ^ 62) ≤ n ∧ n < 2 ^ 62) (k : Q (rgD m (n - m).toNat)) : W1 (rg2 [.int m, .int n]) Q := ⟨_, if_pos h, k⟩
/-! comprehensions -/
def Wi (vs : List Nat) (env : Evs) (Q : Evs → Prop) : Prop := Q (wipeE env vs)
theorem wi_nil {Q : Evs → Prop} (k : Q env) : Wi [] env Q := k
theorem wi_cons {v : Nat} {vs : List Nat} {Q : Evs → Prop} (k : Wi vs env fun e => St v .un e Q) : Wi (v :: vs) env Q := k
theorem w_lc {mi : Ms} {g : Mg} {tt : Mb} {te : Mx} {vs : List Nat} (k : W2 (mi env) fun e ds => Wi vs e fun e1 => W2 (lcM g tt te vs ds e1) fun e2 out => Fit out.length (Q e2 (.list out))) : W2 (mLc mi g tt te vs env) Q := by
  obtain ⟨e, ds, h1, e2, out, h2, h3, h4⟩ := k
  exact ⟨e2, _, lc_ev h1 h2 h3, h4⟩
theorem lc_w {g : Mg} {tt : Mb} {te : Mx} {vs : List Nat} {Q : Evs → List Dt → Prop} {ds : List Dt} (f : Dt → Dt) (st : ∀ d ∈ ds, W1 (g d env) fun e1 => W2 (tt e1) fun e2 t => t = true ∧ e2 = e1 ∧ W2 (te e2) fun e3 z => z = f d ∧ wipeE e3 vs = env) (k : Q env (ds.map f)) : W2 (lcM g tt te vs ds env) Q := by
  refine ⟨env, _, lc_map f ds fun d hd => ?_, k⟩
  obtain ⟨e1, h1, e2, t, h2, rfl, rfl, e3, z, h3, rfl, h5⟩ := st d hd
  exact ⟨e2, e3, h1, h2, h3, h5⟩
theorem lcf_w {g : Mg} {tt : Mb} {te : Mx} {vs : List Nat} {Q : Evs → List Dt → Prop} {ds : List Dt} (p : Dt → Bool) (f : Dt → Dt) (st : ∀ d ∈ ds, W1 (g d env) fun e1 => W2 (tt e1) fun e2 t => t = p d ∧ wipeE e2 vs = env ∧ (p d = true → W2 (te e2) fun e3 z => z = f d ∧ wipeE e3 vs = env)) (k : Q env ((ds.filter p).map f)) : W2 (lcM g tt te vs ds env) Q := by
  refine ⟨env, _, lc_filter p f ds fun d hd => ?_, k⟩
  obtain ⟨e1, h1, e2, t, h2, rfl, h3, h4⟩ := st d hd
  refine ⟨e1, e2, h1, h2, h3, fun c => ?_⟩
  obtain ⟨e3, z, h5, rfl, h6⟩ := h4 c
  exact ⟨e3, h5, h6⟩
theorem lci_w {g : Mg} {tt : Mb} {te : Mx} {vs : List Nat} {Q : Evs → List Dt → Prop} {ds : List Dt} (I : Nat → Evs → List Dt → Prop) (h0 : I 0 env []) (st : ∀ (j : Nat) (d : Dt) (env : Evs) (acc : List Dt), ds[j]? = some d → I j env acc →
      W1 (g d env) fun e1 => W2 (tt e1) fun e2 t => if t = true then W2 (te e2) fun e3 z => Wi vs e3 fun e4 => I (j + 1) e4 (acc ++ [z]) else Wi vs e2 fun e4 => I (j + 1) e4 acc) (k : ∀ e out, I ds.length e out → Q e out) : W2 (lcM g tt te vs ds env) Q := by
  obtain ⟨e, out, h1, h2⟩ := lc_inv (g := g) (tt := tt) (te := te) (vs := vs) I ds 0 env [] h0 fun j d env acc hj hI => by
    rw [Nat.zero_add] at hI
    obtain ⟨e1, h1, e2, t, h2, h3⟩ := st j d env acc hj hI
    refine ⟨e1, e2, t, h1, h2, fun c => ?_, fun c => ?_⟩
    · subst c
      obtain ⟨e3, z, h4, h5⟩ := h3
      exact ⟨e3, z, h4, by rw [Nat.zero_add]; exact h5⟩
    · subst c
      rw [Nat.zero_add]
      exact h3
  rw [Nat.zero_add, List.nil_append] at h2
  exact ⟨e, out, h1, k e out h2⟩
/-! calls -/
def Ck (bs : List Bool) (g : Gf) (e : Evs) (as : List Ar) (R : List Dt → Sl → Prop) : Prop := ∃ ds, arsD e as = some ds ∧ as.map isSl = bs ∧ nodupB (slots as) = true ∧ W2 (g ds) fun os r => Eqn os.length as.length (R os r)
theorem ck_w {bs : List Bool} {g : Gf} {as : List Ar} {ds : List Dt} {R : List Dt → Sl → Prop} (h1 : arsD e as = some ds) (h2 : as.map isSl = bs) (h3 : nodupB (slots as) = true) (k : W2 (g ds) fun os r => Eqn os.length as.length (R os r)) : Ck bs g e as R := ⟨ds, h1, h2, h3, k⟩
def Bk (as : List Ar) (os : List Dt) (e : Evs) (Q : Evs → Prop) : Prop := Q (backE as os e)
theorem bk_nil {Q : Evs → Prop} (k : Q e) : Bk [] [] e Q := k
theorem bk_val {Q : Evs → Prop} {as : List Ar} {os : List Dt} (k : Bk as os e Q) : Bk (.val x :: as) (y :: os) e Q := k
theorem bk_slB {Q : Evs → Prop} {as : List Ar} {os : List Dt} (h : env.getD i .un = .bo x) (k : St i (.bo d) env fun e => Bk as os e Q) : Bk (.sl i :: as) (d :: os) env Q := by
  unfold St Bk at k
  show Q (backE as os (env.set i ((env.getD i .un).with d)))
  rw [h]
  exact k
theorem bk_slO {Q : Evs → Prop} {as : List Ar} {os : List Dt} (h : env.getD i .un = .ow x) (k : St i (.ow d) env fun e => Bk as os e Q) : Bk (.sl i :: as) (d :: os) env Q := by
  unfold St Bk at k
  show Q (backE as os (env.set i ((env.getD i .un).with d)))
  rw [h]
  exact k
def Rf (as : List Ar) (e : Evs) (Q : Evs → Dt → Prop) (os : List Dt) : Sl → Prop
  | .fz d => Bk as os e fun e' => Q e' d
  | _ => False
def Ro (as : List Ar) (e : Evs) (Q : Evs → Dt → Prop) (os : List Dt) : Sl → Prop
  | .ow d => Bk as os e fun e' => Q e' d
  | _ => False
theorem rf_w {as : List Ar} {os : List Dt} (k : Bk as os e fun e' => Q e' d) : Rf as e Q os (.fz d) := k
theorem ro_w {as : List Ar} {os : List Dt} (k : Bk as os e fun e' => Q e' d) : Ro as e Q os (.ow d) := k
theorem w_callF {bs : List Bool} {g : Gf} {m : Mar} (k : W2 (m env) fun e as => Ck bs g e as (Rf as e Q)) : W2 (mCallF bs g m env) Q := by
  obtain ⟨e, as, h1, ds, h2, h3, h4, os, r, h5, h6, h7⟩ := k
  cases r with
  | fz d => exact ⟨_, d, callF_ev h1 h2 h5 ⟨h3, h4, h6⟩, h7⟩
  | _ => exact h7.elim
theorem w_callO {bs : List Bool} {g : Gf} {m : Mar} (k : W2 (m env) fun e as => Ck bs g e as (Ro as e Q)) : W2 (mCallO bs g m env) Q := by
  obtain ⟨e, as, h1, ds, h2, h3, h4, os, r, h5, h6, h7⟩ := k
  cases r with
  | ow d => exact ⟨_, d, callO_ev h1 h2 h5 ⟨h3, h4, h6⟩, h7⟩
  | _ => exact h7.elim
theorem w_aNil {Q : Evs → List Ar → Prop} (k : Q env []) : W2 (aNil env) Q := ⟨env, [], rfl, k⟩
theorem w_aVal {p : Mx} {m : Mar} {Q : Evs → List Ar → Prop} (k : W2 (p env) fun e x => W2 (m e) fun e' as => Q e' (.val x :: as)) : W2 (aVal p m env) Q := by
  obtain ⟨e, x, h1, e', as, h2, h3⟩ := k
  exact ⟨e', _, aval_ev h1 h2, h3⟩
theorem w_aSl {m : Mar} {Q : Evs → List Ar → Prop} (h : mPeek i env = some (env, x)) (k : W2 (m env) fun e' as => Q e' (.sl i :: as)) : W2 (aSl i m env) Q := by
  obtain ⟨e', as, h2, h3⟩ := k
  exact ⟨e', _, asl_ev h h2, h3⟩
def Rk (e : Evs) (Q : Evs → Dt → Prop) : Sl → Prop
  | .fz d => Q e d
  | _ => False
theorem rk_w (k : Q e d) : Rk e Q (.fz d) := k
theorem w_callK {n : Nat} {g : Gf} {kd : List Dt → List Dt} {s : Ms} (k : W2 (s env) fun e ds => Eqn ds.length n (W2 (g (kd ds)) fun _ r => Rk e Q r)) : W2 (mCallK n g kd s env) Q := by
  obtain ⟨e, ds, h1, h2, os, r, h3, h4⟩ := k
  cases r with
  | fz d => exact ⟨_, d, callK_ev h1 h2 h3, h4⟩
  | _ => exact h4.elim
theorem w_callTF {n : Nat} {g : Gf} {p : Mx} {s : Ms} (k : W2 (p env) fun e x => W2 (s e) fun e' ds => Eqn ds.length n (W2 (g (x :: ds)) fun _ r => Rk e' Q r)) : W2 (mCallTF n g p s env) Q := by
  obtain ⟨e, x, h1, e', ds, h2, h3, os, r, h4, h5⟩ := k
  cases r with
  | fz d => exact ⟨_, d, callTF_ev h1 h2 h3 h4, h5⟩
  | _ => exact h5.elim
/-! defs -/
def Bd (bs : List Bool) (R : List Dt → Sl → Prop) : Fl → Prop
  | .rt e (.fz d) => ∃ os, outsOf e bs 0 = some os ∧ R os (.fz d)
  | .rt e (.ow d) => ∃ os, outsOf e bs 0 = some os ∧ R os (.ow d)
  | .nx e => ∃ os, outsOf e bs 0 = some os ∧ R os (.fz .none)
  | _ => False
theorem bd_fz {bs : List Bool} {R : List Dt → Sl → Prop} {os : List Dt} (h : outsOf e bs 0 = some os) (k : R os (.fz d)) : Bd bs R (.rt e (.fz d)) := ⟨os, h, k⟩
theorem bd_ow {bs : List Bool} {R : List Dt → Sl → Prop} {os : List Dt} (h : outsOf e bs 0 = some os) (k : R os (.ow d)) : Bd bs R (.rt e (.ow d)) := ⟨os, h, k⟩
theorem bd_nx {bs : List Bool} {R : List Dt → Sl → Prop} {os : List Dt} (h : outsOf e bs 0 = some os) (k : R os (.fz .none)) : Bd bs R (.nx e) := ⟨os, h, k⟩
theorem w_body {n : Nat} {bs : List Bool} {m : Mst} {ds : List Dt} {R : List Dt → Sl → Prop} (h : env0 n bs ds = env) (k : W1 (m env) (Bd bs R)) : W2 (bodyG n bs m ds) R := by
  obtain ⟨fl, h1, h2⟩ := k
  subst h
  cases fl with
  | rt e r =>
    cases r with
    | fz d =>
      obtain ⟨os, h3, h4⟩ := h2
      exact ⟨os, _, body_rt h1 h3, h4⟩
    | ow d =>
      obtain ⟨os, h3, h4⟩ := h2
      exact ⟨os, _, body_ow h1 h3, h4⟩
    | un => exact h2.elim
    | bo d => exact h2.elim
  | nx e =>
    obtain ⟨os, h3, h4⟩ := h2
    refine ⟨os, _, ?_, h4⟩
    unfold bodyG
    rw [h1]
    show (outsOf e bs 0).map _ = _
    rw [h3]
    rfl
  | ct e => exact h2.elim
  | bk e => exact h2.elim
/-! operators -/
section
variable {u v : Int} {P : Dt → Prop}
theorem o1_add (k : P (.int (u + v))) : W1 (fAdd (.int u) (.int v)) P := ⟨_, rfl, k⟩
theorem o1_sub (k : P (.int (u - v))) : W1 (fSub (.int u) (.int v)) P := ⟨_, rfl, k⟩
theorem o1_lt (k : P (.bool (decide (u < v)))) : W1 (fLt (.int u) (.int v)) P := ⟨_, rfl, k⟩
theorem o1_le (k : P (.bool (decide (u ≤ v)))) : W1 (fLe (.int u) (.int v)) P := ⟨_, rfl, k⟩
theorem o1_gt (k : P (.bool (decide (v < u)))) : W1 (fGt (.int u) (.int v)) P := ⟨_, rfl, k⟩
theorem o1_ge (k : P (.bool (decide (v ≤ u)))) : W1 (fGe (.int u) (.int v)) P := ⟨_, rfl, k⟩
theorem o1_mul (h : (-(2 ^ 64) < u ∧ u < 2 ^ 64) ∨ (-(2 ^ 64) < v ∧ v < 2 ^ 64)) (k : P (.int (u * v))) : W1 (fMulS (.int u) (.int v)) P := ⟨_, fMulS_ok h, k⟩
theorem o1_mod (h : 0 < v) (k : P (.int (u % v))) : W1 (fMod (.int u) (.int v)) P := ⟨_, fMod_ok h, k⟩
theorem o1_div (h : 0 < v) (h2 : v < 2 ^ 64) (k : P (.int (u / v))) : W1 (fDiv (.int u) (.int v)) P := ⟨_, fDiv_ok h h2, k⟩
theorem o1_pow (h : 0 ≤ v ∧ v ≤ 1000000) (h2 : -(2 ^ 64) < u ∧ u < 2 ^ 64) (k : P (.int (u ^ v.toNat))) : W1 (fPow (.int u) (.int v)) P := ⟨_, fPow_ok h h2, k⟩
theorem o1_powW (h : 0 ≤ v) (h2 : (Builtin.Int.intBits u : Int) * v ≤ 2 ^ 27) (k : P (.int (u ^ v.toNat))) : W1 (fPowW (.int u) (.int v)) P := by
  refine ⟨.int (u ^ v.toNat), ?_, k⟩
  unfold fPowW fI
  dsimp only
  rw [if_pos]
  simp only [Bool.and_eq_true, decide_eq_true_eq]
  exact ⟨h, h2⟩
theorem bits64 (h : -(2 ^ 64) < u ∧ u < 2 ^ 64) : (Builtin.Int.intBits u : Int) ≤ 64 := by
  unfold Builtin.Int.intBits
  split
  · decide
  · rename_i c
    have h4 : u.natAbs ≠ 0 := by
      intro z
      apply c
      have : u = 0 := by omega
      subst this
      rfl
    have := (Nat.log2_lt h4).mpr (show u.natAbs < 2 ^ 64 by omega)
    omega
theorem o1_powS (h2 : -(2 ^ 64) < u ∧ u < 2 ^ 64) (h : 0 ≤ v ∧ v ≤ 1000) (k : P (.int (u ^ v.toNat))) : W1 (fPowW (.int u) (.int v)) P := by
  refine o1_powW h.1 ?_ k
  have := bits64 h2
  have h3 : (Builtin.Int.intBits u : Int) * v ≤ 64 * 1000 := Int.mul_le_mul this h.2 h.1 (by omega)
  omega
theorem o1_neg (k : P (.int (-u))) : W1 (fNeg (.int u)) P := ⟨_, rfl, k⟩
theorem o1_abs (k : P (.int (if u < 0 then -u else u))) : W1 (fAbs (.int u)) P := ⟨_, rfl, k⟩
theorem o1_intB {t : Bool} (k : P (.int (if t then 1 else 0))) : W1 (fInt (.bool t)) P := ⟨_, rfl, k⟩
theorem o1_eqI (k : P (.bool (decide (u = v)))) : W1 (fEq (.int u) (.int v)) P := by
  refine ⟨_, rfl, ?_⟩
  have e : PyData.eqv (plainD (.int u)) (plainD (.int v)) = decide (u = v) := by
    show (u == v) = _
    by_cases c : u = v <;> simp [c]
  rw [e]
  exact k
theorem o1_neI (k : P (.bool (!decide (u = v)))) : W1 (fNe (.int u) (.int v)) P := by
  refine ⟨_, rfl, ?_⟩
  have e : PyData.eqv (plainD (.int u)) (plainD (.int v)) = decide (u = v) := by
    show (u == v) = _
    by_cases c : u = v <;> simp [c]
  rw [e]
  exact k
theorem o1_neS {a b : Str} (ha : PyData.strOk a = true) (hb : PyData.strOk b = true) (k : P (.bool (!decide (a = b)))) : W1 (fNe (.str a) (.str b)) P := by
  refine ⟨_, if_pos ?_, ?_⟩
  · show (SeqAt.shaped (.str a) && SeqAt.shaped (.str b)) = true
    unfold SeqAt.shaped PyData.canLay0
    simp only [ha, hb, Bool.true_and]
    rfl
  have e : PyData.eqv (plainD (.str a)) (plainD (.str b)) = decide (a = b) := by
    show (a == b) = _
    by_cases c : a = b <;> simp [c]
  rw [e]
  exact k
theorem o1_isN (k : P (.bool true)) : W1 (fIsN .none .none) P := ⟨_, rfl, k⟩
theorem o1_isNI (k : P (.bool false)) : W1 (fIsN (.int u) .none) P := ⟨_, rfl, k⟩
theorem o1_notN (k : P (.bool false)) : W1 (fNotN .none .none) P := ⟨_, rfl, k⟩
theorem o1_notNI (k : P (.bool true)) : W1 (fNotN (.int u) .none) P := ⟨_, rfl, k⟩
theorem o1_min (k : P (.int (if v < u then v else u))) : W1 (fMin2 [.int u, .int v]) P := ⟨_, rfl, k⟩
theorem o1_max (k : P (.int (if v > u then v else u))) : W1 (fMax2 [.int u, .int v]) P := ⟨_, rfl, k⟩
theorem o1_lenL {ds : List Dt} (k : P (.int ds.length)) : W1 (fLen (.list ds)) P := ⟨_, rfl, k⟩
theorem o1_lenT {ds : List Dt} (k : P (.int ds.length)) : W1 (fLen (.tuple ds)) P := ⟨_, rfl, k⟩
theorem o1_lenS {ns : List Int} (k : P (.int ns.length)) : W1 (fLen (scD ns)) P := ⟨.int (ns.map PyData.int).length, rfl, by rw [List.length_map]; exact k⟩
theorem atI_in {ds : List Dt} {z : Dt} (h : 0 ≤ u) (h2 : ds[u.toNat]? = some z) : atI ds u = some z := by
  unfold atI ixN
  have := (List.getElem?_eq_some_iff.mp h2).1
  rw [if_pos h, if_pos (by omega), Option.bind_some]
  exact h2
theorem o1_ixL {ds : List Dt} {z : Dt} (h : 0 ≤ u) (h2 : ds[u.toNat]? = some z) (k : P z) : W1 (fIxL (.list ds) (.int u)) P := ⟨z, atI_in h h2, k⟩
theorem o1_ixT {ds : List Dt} {z : Dt} (h : 0 ≤ u) (h2 : ds[u.toNat]? = some z) (k : P z) : W1 (fIxT (.tuple ds) (.int u)) P := ⟨z, atI_in h h2, k⟩
theorem o1_ixS {ns : List Int} (h : 0 ≤ u) (h2 : u < ns.length) (k : P (.int (ns.getD u.toNat 0))) : W1 (fIxL (scD ns) (.int u)) P := by
  refine ⟨_, atI_in (ds := ns.map PyData.int) h ?_, k⟩
  rw [List.getElem?_map, List.getElem?_eq_getElem (by omega), List.getD_eq_getElem?_getD, List.getElem?_eq_getElem (by omega)]
  rfl
theorem o1_catT {a b : List Dt} (h : a.length + b.length ≤ sizeLine) (k : P (.tuple (a ++ b))) : W1 (fCatT (.tuple a) (.tuple b)) P := ⟨_, if_pos h, k⟩
theorem o1_catL {a b : List Dt} (h : a.length + b.length ≤ sizeLine) (k : P (.list (a ++ b))) : W1 (fCatL (.list a) (.list b)) P := ⟨_, if_pos h, k⟩
theorem o1_lst {ds : List Dt} {Q : List Dt → Prop} (k : Q ds) : W1 (lstOf (.list ds)) Q := ⟨_, rfl, k⟩
theorem o1_tup {ds : List Dt} {Q : List Dt → Prop} (k : Q ds) : W1 (tupOf (.tuple ds)) Q := ⟨_, rfl, k⟩
theorem o1_numT {ds : List Dt} {Q : List Dt → Prop} (k : Q (numD ds)) : W1 ((tupOf (.tuple ds)).map numD) Q := ⟨_, rfl, k⟩
theorem o1_numL {ds : List Dt} {Q : List Dt → Prop} (k : Q (numD ds)) : W1 ((lstOf (.list ds)).map numD) Q := ⟨_, rfl, k⟩
theorem cut_to {ds : List Dt} {n : Nat} : cutD ds none (some (n : Int)) = ds.take n := by
  unfold cutD
  rw [HT.sIx_nat, HT.sIx_none]
  simp [List.take_eq_take_iff]
theorem cut_from {ds : List Dt} {n : Nat} : cutD ds (some (n : Int)) none = ds.drop n := by
  unfold cutD
  rw [HT.sIx_nat, HT.sIx_none]
  by_cases c : n ≤ ds.length
  · rw [Nat.min_eq_left c, List.take_of_length_le (by rw [List.length_drop]; omega)]
  · rw [Nat.min_eq_right (by omega), List.drop_of_length_le (Nat.le_refl _), List.drop_of_length_le (by omega)]
    simp
theorem numD_mem {ds : List Dt} {d : Dt} (h : d ∈ numD ds) : ∃ (i : Nat) (x : Dt), ds[i]? = some x ∧ d = .tuple [.int (i : Int), x] := by
  obtain ⟨i, hi⟩ := List.getElem?_of_mem h
  obtain ⟨u, h0, h1⟩ := numD_get hi
  exact ⟨i, u, h0, h1⟩
theorem o1_inF {neg : Bool} {d e : Dt} {ds : List Dt} (h : items e = some ds) (h1 : flatD d = true) (h2 : ds.all flatD = true) (k : P (.bool (if neg then !(ds.any fun x => eqF x d) else ds.any fun x => eqF x d))) : W1 (fIn neg d e) P := by
  refine ⟨_, ?_, k⟩
  unfold fIn
  rw [h]
  exact if_pos (by rw [h1, h2]; rfl)
theorem o1_isi_int_none (k : P (.bool false)) : W1 (fIsi "int" .none) P := ⟨_, (by show (kitB "NoneType" "int").map _ = _; rw [show kitB "NoneType" "int" = some false by decide +kernel]; rfl), k⟩
theorem o1_isi_int_bool {b : Bool} (k : P (.bool true)) : W1 (fIsi "int" (.bool b)) P := ⟨_, (by show (kitB "bool" "int").map _ = _; rw [show kitB "bool" "int" = some true by decide +kernel]; rfl), k⟩
theorem o1_isi_int_int {i : Int} (k : P (.bool true)) : W1 (fIsi "int" (.int i)) P := ⟨_, (by show (kitB "int" "int").map _ = _; rw [show kitB "int" "int" = some true by decide +kernel]; rfl), k⟩
theorem o1_isi_int_str {z : Str} (k : P (.bool false)) : W1 (fIsi "int" (.str z)) P := ⟨_, (by show (kitB "str" "int").map _ = _; rw [show kitB "str" "int" = some false by decide +kernel]; rfl), k⟩
theorem o1_isi_int_list {l : List Dt} (k : P (.bool false)) : W1 (fIsi "int" (.list l)) P := ⟨_, (by show (kitB "list" "int").map _ = _; rw [show kitB "list" "int" = some false by decide +kernel]; rfl), k⟩
theorem o1_isi_int_tuple {l : List Dt} (k : P (.bool false)) : W1 (fIsi "int" (.tuple l)) P := ⟨_, (by show (kitB "tuple" "int").map _ = _; rw [show kitB "tuple" "int" = some false by decide +kernel]; rfl), k⟩
theorem o1_isi_int_dict (k : P (.bool false)) : W1 (fIsi "int" (.dict [])) P := ⟨_, (by show (kitB "dict" "int").map _ = _; rw [show kitB "dict" "int" = some false by decide +kernel]; rfl), k⟩
theorem o1_isi_bool_none (k : P (.bool false)) : W1 (fIsi "bool" .none) P := ⟨_, (by show (kitB "NoneType" "bool").map _ = _; rw [show kitB "NoneType" "bool" = some false by decide +kernel]; rfl), k⟩
theorem o1_isi_bool_bool {b : Bool} (k : P (.bool true)) : W1 (fIsi "bool" (.bool b)) P := ⟨_, (by show (kitB "bool" "bool").map _ = _; rw [show kitB "bool" "bool" = some true by decide +kernel]; rfl), k⟩
theorem o1_isi_bool_int {i : Int} (k : P (.bool false)) : W1 (fIsi "bool" (.int i)) P := ⟨_, (by show (kitB "int" "bool").map _ = _; rw [show kitB "int" "bool" = some false by decide +kernel]; rfl), k⟩
theorem o1_isi_bool_str {z : Str} (k : P (.bool false)) : W1 (fIsi "bool" (.str z)) P := ⟨_, (by show (kitB "str" "bool").map _ = _; rw [show kitB "str" "bool" = some false by decide +kernel]; rfl), k⟩
theorem o1_isi_bool_list {l : List Dt} (k : P (.bool false)) : W1 (fIsi "bool" (.list l)) P := ⟨_, (by show (kitB "list" "bool").map _ = _; rw [show kitB "list" "bool" = some false by decide +kernel]; rfl), k⟩
theorem o1_isi_bool_tuple {l : List Dt} (k : P (.bool false)) : W1 (fIsi "bool" (.tuple l)) P := ⟨_, (by show (kitB "tuple" "bool").map _ = _; rw [show kitB "tuple" "bool" = some false by decide +kernel]; rfl), k⟩
theorem o1_isi_bool_dict (k : P (.bool false)) : W1 (fIsi "bool" (.dict [])) P := ⟨_, (by show (kitB "dict" "bool").map _ = _; rw [show kitB "dict" "bool" = some false by decide +kernel]; rfl), k⟩
theorem o1_isi_tuple_none (k : P (.bool false)) : W1 (fIsi "tuple" .none) P := ⟨_, (by show (kitB "NoneType" "tuple").map _ = _; rw [show kitB "NoneType" "tuple" = some false by decide +kernel]; rfl), k⟩
theorem o1_isi_tuple_bool {b : Bool} (k : P (.bool false)) : W1 (fIsi "tuple" (.bool b)) P := ⟨_, (by show (kitB "bool" "tuple").map _ = _; rw [show kitB "bool" "tuple" = some false by decide +kernel]; rfl), k⟩
theorem o1_isi_tuple_int {i : Int} (k : P (.bool false)) : W1 (fIsi "tuple" (.int i)) P := ⟨_, (by show (kitB "int" "tuple").map _ = _; rw [show kitB "int" "tuple" = some false by decide +kernel]; rfl), k⟩
theorem o1_isi_tuple_str {z : Str} (k : P (.bool false)) : W1 (fIsi "tuple" (.str z)) P := ⟨_, (by show (kitB "str" "tuple").map _ = _; rw [show kitB "str" "tuple" = some false by decide +kernel]; rfl), k⟩
theorem o1_isi_tuple_list {l : List Dt} (k : P (.bool false)) : W1 (fIsi "tuple" (.list l)) P := ⟨_, (by show (kitB "list" "tuple").map _ = _; rw [show kitB "list" "tuple" = some false by decide +kernel]; rfl), k⟩
theorem o1_isi_tuple_tuple {l : List Dt} (k : P (.bool true)) : W1 (fIsi "tuple" (.tuple l)) P := ⟨_, (by show (kitB "tuple" "tuple").map _ = _; rw [show kitB "tuple" "tuple" = some true by decide +kernel]; rfl), k⟩
theorem o1_isi_tuple_dict (k : P (.bool false)) : W1 (fIsi "tuple" (.dict [])) P := ⟨_, (by show (kitB "dict" "tuple").map _ = _; rw [show kitB "dict" "tuple" = some false by decide +kernel]; rfl), k⟩
theorem o1_rfl {o : Option Dt} {z : Dt} (h : o = some z) (k : P z) : W1 o P := ⟨z, h, k⟩
end
end
/-! exceptions -/
section
variable {env e : Evs} {d x y : Dt} {Q : Evs → Dt → Prop} {F : Fl → Prop} {a b : Mst} {i : Nat}
def GoF (F : Fl → Prop) : Fl → Prop
  | .rt _ (.bo _) => False
  | f => F f
theorem go_nx (k : F (.nx e)) : GoF F (.nx e) := k
theorem go_fz (k : F (.rt e (.fz d))) : GoF F (.rt e (.fz d)) := k
theorem go_ow (k : F (.rt e (.ow d))) : GoF F (.rt e (.ow d)) := k
theorem w_go (k : W1 (a env) (GoF F)) : W1 (mGo a env) F := by
  obtain ⟨fl, h1, h2⟩ := k
  refine ⟨fl, ?_, ?_⟩
  · unfold mGo
    rw [h1]
    cases fl with
    | rt e r =>
      cases r with
      | bo d => exact h2.elim
      | _ => rfl
    | _ => rfl
  · cases fl with
    | rt e r =>
      cases r with
      | bo d => exact h2.elim
      | _ => exact h2
    | _ => exact h2
theorem w_raise {c f : Str} {p : Mx} (k : W2 (p env) fun e d => F (.rt e (.bo (exD c f d)))) : W1 (mRaise c f p env) F := by
  obtain ⟨e, d, h1, h2⟩ := k
  exact ⟨_, by unfold mRaise; rw [h1]; rfl, h2⟩
/-- how a def that may raise ends -/
def Bx (bs : List Bool) (R : List Dt → Sl → Prop) : Fl → Prop
  | .rt e (.fz d) => ∃ os, outsOf e bs 0 = some os ∧ R os (.fz d)
  | .rt e (.ow d) => ∃ os, outsOf e bs 0 = some os ∧ R os (.ow d)
  | .rt e (.bo d) => ∃ os, outsOf e bs 0 = some os ∧ R os (.bo d)
  | .nx e => ∃ os, outsOf e bs 0 = some os ∧ R os (.fz .none)
  | _ => False
theorem bx_fz {bs : List Bool} {R : List Dt → Sl → Prop} {os : List Dt} (h : outsOf e bs 0 = some os) (k : R os (.fz d)) : Bx bs R (.rt e (.fz d)) := ⟨os, h, k⟩
theorem bx_ow {bs : List Bool} {R : List Dt → Sl → Prop} {os : List Dt} (h : outsOf e bs 0 = some os) (k : R os (.ow d)) : Bx bs R (.rt e (.ow d)) := ⟨os, h, k⟩
theorem bx_bo {bs : List Bool} {R : List Dt → Sl → Prop} {os : List Dt} (h : outsOf e bs 0 = some os) (k : R os (.bo d)) : Bx bs R (.rt e (.bo d)) := ⟨os, h, k⟩
theorem bx_nx {bs : List Bool} {R : List Dt → Sl → Prop} {os : List Dt} (h : outsOf e bs 0 = some os) (k : R os (.fz .none)) : Bx bs R (.nx e) := ⟨os, h, k⟩
theorem w_bodyX {n : Nat} {bs : List Bool} {m : Mst} {ds : List Dt} {R : List Dt → Sl → Prop} (h : env0 n bs ds = env) (k : W1 (m env) (Bx bs R)) : W2 (bodyX n bs m ds) R := by
  obtain ⟨fl, h1, h2⟩ := k
  subst h
  have z : ∀ {fl : Fl}, m (env0 n bs ds) = some fl → bodyX n bs m ds = (some fl).bind fun fl => match fl with
    | .rt e (.fz d) => (outsOf e bs 0).map fun o => (o, .fz d)
    | .rt e (.ow d) => (outsOf e bs 0).map fun o => (o, .ow d)
    | .rt e (.bo d) => (outsOf e bs 0).map fun o => (o, .bo d)
    | .nx e => (outsOf e bs 0).map fun o => (o, .fz .none)
    | _ => none := fun h => by
    unfold bodyX
    first
    | (rw [h]; done)
    | (rw [h]; rfl)
  cases fl with
  | rt e r =>
    cases r with
    | un => exact h2.elim
    | _ =>
      obtain ⟨os, h3, h4⟩ := h2
      refine ⟨os, _, ?_, h4⟩
      rw [z h1]
      show Option.map _ (outsOf e bs 0) = _
      rw [h3]
      rfl
  | nx e =>
    obtain ⟨os, h3, h4⟩ := h2
    refine ⟨os, _, ?_, h4⟩
    rw [z h1]
    show Option.map _ (outsOf e bs 0) = _
    rw [h3]
    rfl
  | _ => exact h2.elim
/-- what a call that may raise comes to: x = f(..); f(..) -/
def Rx (as : List Ar) (e : Evs) (i : Nat) (F : Fl → Prop) (os : List Dt) : Sl → Prop
  | .fz d => Bk as os e fun e' => W1 (putF i d e') fun e2 => F (.nx e2)
  | .bo d => Bk as os e fun e' => F (.rt e' (.bo d))
  | _ => False
def Rd0 (as : List Ar) (e : Evs) (F : Fl → Prop) (os : List Dt) : Sl → Prop
  | .fz _ => Bk as os e fun e' => F (.nx e')
  | .bo d => Bk as os e fun e' => F (.rt e' (.bo d))
  | _ => False
theorem rx_fz {as : List Ar} {os : List Dt} (k : Bk as os e fun e' => W1 (putF i d e') fun e2 => F (.nx e2)) : Rx as e i F os (.fz d) := k
theorem rx_bo {as : List Ar} {os : List Dt} (k : Bk as os e fun e' => F (.rt e' (.bo d))) : Rx as e i F os (.bo d) := k
theorem rd_fz {as : List Ar} {os : List Dt} (k : Bk as os e fun e' => F (.nx e')) : Rd0 as e F os (.fz d) := k
theorem rd_bo {as : List Ar} {os : List Dt} (k : Bk as os e fun e' => F (.rt e' (.bo d))) : Rd0 as e F os (.bo d) := k
theorem w_call0 {bs : List Bool} {g : Gf} {m : Mar} {R : Evs → Sl → Prop} (k : W2 (m env) fun e as => Ck bs g e as fun os r => R (backE as os e) r) : W2 (mCall bs g m env) R := by
  obtain ⟨e, as, h1, ds, h2, h3, h4, os, r, h5, h6, h7⟩ := k
  refine ⟨backE as os e, r, ?_, h7⟩
  unfold mCall
  rw [h1]
  show Option.bind (arsD e as) _ = _
  rw [h2]
  show Option.bind (g ds) _ = _
  rw [h5]
  exact if_pos ⟨h3, h4, h6⟩
theorem w_setX {bs : List Bool} {g : Gf} {m : Mar} (k : W2 (m env) fun e as => Ck bs g e as (Rx as e i F)) : W1 (mSetX i bs g m env) F := by
  have z := w_call0 (R := fun e r => match r with
    | .fz d => W1 (putF i d e) fun e2 => F (.nx e2)
    | .bo d => F (.rt e (.bo d))
    | _ => False) (k.mono fun e as h => by
      obtain ⟨ds, h2, h3, h4, os, r, h5, h6, h7⟩ := h
      refine ⟨ds, h2, h3, h4, os, r, h5, h6, ?_⟩
      cases r <;> exact h7)
  obtain ⟨e, r, h1, h2⟩ := z
  cases r with
  | un => exact h2.elim
  | ow _ => exact h2.elim
  | fz d =>
    obtain ⟨e2, h3, h4⟩ := h2
    exact ⟨_, by unfold mSetX; rw [h1]; show Option.map _ (putF i d e) = _; rw [h3]; rfl, h4⟩
  | bo d => exact ⟨_, by unfold mSetX; rw [h1]; rfl, h2⟩
theorem w_dropX {bs : List Bool} {g : Gf} {m : Mar} (k : W2 (m env) fun e as => Ck bs g e as (Rd0 as e F)) : W1 (mDropX bs g m env) F := by
  have z := w_call0 (R := fun e r => match r with
    | .fz _ => F (.nx e)
    | .bo d => F (.rt e (.bo d))
    | _ => False) (k.mono fun e as h => by
      obtain ⟨ds, h2, h3, h4, os, r, h5, h6, h7⟩ := h
      refine ⟨ds, h2, h3, h4, os, r, h5, h6, ?_⟩
      cases r <;> exact h7)
  obtain ⟨e, r, h1, h2⟩ := z
  cases r with
  | un => exact h2.elim
  | ow _ => exact h2.elim
  | fz d => exact ⟨_, by unfold mDropX; rw [h1]; rfl, h2⟩
  | bo d => exact ⟨_, by unfold mDropX; rw [h1]; rfl, h2⟩
/-- what a try comes to -/
def TryF (i : Nat) (L : List Str) (ms : Mst) (F : Fl → Prop) : Fl → Prop
  | .rt e (.bo d) => W1 (exName d) fun c => c ∈ L ∧ W1 (putF i d e) fun e1 => W1 (ms e1) fun f => match f with
    | .nx e2 => St i .un e2 fun e3 => F (.nx e3)
    | .bk e2 => St i .un e2 fun e3 => F (.bk e3)
    | .ct e2 => St i .un e2 fun e3 => F (.ct e3)
    | .rt e2 r => F (.rt e2 r)
  | f => F f
theorem w_tryS {L : List Str} {m ms : Mst} (k : W1 (m env) (TryF i L ms F)) : W1 (mTryS i L m ms env) F := by
  obtain ⟨fl, h1, h2⟩ := k
  unfold mTryS
  rw [h1]
  cases fl with
  | nx e => exact ⟨_, rfl, h2⟩
  | bk e => exact ⟨_, rfl, h2⟩
  | ct e => exact ⟨_, rfl, h2⟩
  | rt e r =>
    cases r with
    | fz d => exact ⟨_, rfl, h2⟩
    | ow d => exact ⟨_, rfl, h2⟩
    | un => exact ⟨_, rfl, h2⟩
    | bo d =>
      obtain ⟨c, h3, h4, e1, h5, f, h6, h7⟩ := h2
      have z : ∀ fl', (some f).map (fun f => match f with
          | .nx e2 => .nx (e2.set i .un)
          | .bk e2 => .bk (e2.set i .un)
          | .ct e2 => .ct (e2.set i .un)
          | .rt e2 r => .rt e2 r) = some fl' → ((some (Fl.rt e (.bo d))).bind fun fl => match fl with
          | .rt e (.bo d) => (exName d).bind fun c => if c ∈ L then (putF i d e).bind fun e1 => (ms e1).map fun f => match f with
            | .nx e2 => .nx (e2.set i .un)
            | .bk e2 => .bk (e2.set i .un)
            | .ct e2 => .ct (e2.set i .un)
            | .rt e2 r => .rt e2 r
            else none
          | f => some f) = some fl' := fun fl' hf => by
        show Option.bind (exName d) _ = _
        rw [h3]
        show (if c ∈ L then _ else _) = _
        rw [if_pos h4, h5]
        show Option.map _ (ms e1) = _
        rw [h6]
        exact hf
      cases f <;> exact ⟨_, z _ rfl, h7⟩
theorem try_nx {L : List Str} {ms : Mst} (k : F (.nx e)) : TryF i L ms F (.nx e) := k
theorem try_fz {L : List Str} {ms : Mst} (k : F (.rt e (.fz d))) : TryF i L ms F (.rt e (.fz d)) := k
/-- how a suite ends -/
def SuF (i : Nat) (F : Fl → Prop) : Fl → Prop
  | .nx e2 => St i .un e2 fun e3 => F (.nx e3)
  | .bk e2 => St i .un e2 fun e3 => F (.bk e3)
  | .ct e2 => St i .un e2 fun e3 => F (.ct e3)
  | .rt e2 r => F (.rt e2 r)
theorem su_nx (k : St i .un e fun e3 => F (.nx e3)) : SuF i F (.nx e) := k
theorem su_rt {r : Sl} (k : F (.rt e r)) : SuF i F (.rt e r) := k
theorem try_bo {L : List Str} {ms : Mst} {c f : Str} (h : c ∈ L) (k : W1 (putF i (exD c f d) e) fun e1 => W1 (ms e1) (SuF i F)) : TryF i L ms F (.rt e (.bo (exD c f d))) := by
  obtain ⟨e1, h5, fl, h6, h7⟩ := k
  refine ⟨c, rfl, h, e1, h5, fl, h6, ?_⟩
  cases fl <;> exact h7
theorem w_xv {L : List Str} {f : Str} {p : Mx} {c : Str} (k : W2 (p env) fun e x => x = exD c f d ∧ c ∈ L ∧ Q e d) : W2 (mXv L f p env) Q := by
  obtain ⟨e, x, h1, rfl, h2, h3⟩ := k
  refine ⟨e, d, ?_, h3⟩
  unfold mXv
  rw [h1]
  show (if c ∈ L then _ else _) = _
  rw [if_pos h2]
  show Option.map _ (if f = f then some d else none) = _
  rw [if_pos rfl]
  rfl
theorem w_isX {L : List (Str × Bool)} {p : Mx} {c : Str} {t : Bool} (k : W2 (p env) fun e x => exName x = some c ∧ L.lookup c = some t ∧ Q e (.bool t)) : W2 (mIsX L p env) Q := by
  obtain ⟨e, x, h1, h2, h3, h4⟩ := k
  refine ⟨e, _, ?_, h4⟩
  unfold mIsX
  rw [h1]
  show Option.bind (exName x) _ = _
  rw [h2]
  show Option.map _ (L.lookup c) = _
  rw [h3]
  rfl
end
@[irreducible] def bigN : Nat := 4000000000
theorem bigN_lt {n : Nat} (h : n < 4000000000) : n < bigN := by
  unfold bigN
  exact h
theorem sl_lt {n m : Nat} (h : n ≤ m) (h2 : m ≤ 16777216) : n ≤ sizeLine := Nat.le_trans h (Nat.le_trans h2 (by show 16777216 ≤ 2 ^ 24; decide))
theorem sl_of {n : Nat} (h : Nat.ble n 16777216 = true) : n ≤ sizeLine := sl_lt (Nat.le_of_ble_eq_true h) (Nat.le_refl _)
local macro_rules | `(tactic| walk_at "wp") => `(tactic| repeat (first | ((with_reducible show W2 _ _); first | ((with_reducible apply w_var); exact rfl) | (with_reducible first | apply w_op | apply w_K | apply w_B | apply w_opP) | ((with_reducible apply w_varO); exact rfl) | ((with_reducible apply w_move); exact rfl) | ((with_reducible apply w_peek); exact rfl) | (with_reducible first | apply w_un | apply w_c1 | apply w_isi | apply w_cs | apply x_nil | apply x_cons | apply x_tup | apply w_lst | apply w_truth | apply w_and | apply w_or | apply w_not | apply w_yes | apply w_andV | apply w_orV | apply w_notV | apply w_if | apply w_chain | apply w_sl | apply w_noPart | apply w_part | apply w_callF | apply w_callO | apply w_aNil | apply w_aVal) | ((with_reducible apply w_aSl); exact rfl) | (with_reducible first | apply w_callK | apply w_callTF | apply w_rng | apply w_items | apply w_lc)) | ((with_reducible show @W1 Fl _ _); first | (with_reducible first | apply w_seq | apply w_asg | apply w_ifS | apply w_next | apply w_setO | apply w_ret | apply w_retO | apply w_retN | apply w_drop | apply w_par2) | ((with_reducible apply w_aug); exact rfl) | (with_reducible first | apply w_put | apply w_app | apply w_for | apply w_wh | apply w_go | apply w_raise | apply w_setX | apply w_dropX | apply w_tryS)) | ((with_reducible show @W1 Dt _ _); first | (with_reducible first | apply o1_add | apply o1_sub | apply o1_lt | apply o1_le | apply o1_gt | apply o1_ge | apply o1_eqI | apply o1_neI | apply o1_neg | apply o1_abs | apply o1_intB) | (with_reducible refine o1_mod (by (first | omega | assumption | decide)) ?_) | (with_reducible refine o1_div (by (first | omega | assumption | decide)) (by (first | omega | assumption | decide)) ?_) | (with_reducible refine o1_mul (by (first | omega | assumption | decide)) ?_) | (with_reducible refine o1_pow (by (first | omega | assumption | decide)) (by (first | omega | assumption | decide)) ?_) | (with_reducible refine o1_powS (by (first | omega | assumption | decide)) (by (first | omega | assumption | decide)) ?_) | (with_reducible first | apply o1_min | apply o1_max | apply o1_lenL | apply o1_lenT | apply o1_lenS | apply o1_isN | apply o1_isNI | apply o1_notN | apply o1_notNI) | (with_reducible refine o1_ixS (by omega) (by omega) ?_) | (with_reducible first | apply o1_isi_int_none | apply o1_isi_int_bool | apply o1_isi_int_int | apply o1_isi_int_str | apply o1_isi_int_list | apply o1_isi_int_tuple | apply o1_isi_int_dict | apply o1_isi_bool_none | apply o1_isi_bool_bool | apply o1_isi_bool_int | apply o1_isi_bool_str | apply o1_isi_bool_list | apply o1_isi_bool_tuple | apply o1_isi_bool_dict | apply o1_isi_tuple_none | apply o1_isi_tuple_bool | apply o1_isi_tuple_int | apply o1_isi_tuple_str | apply o1_isi_tuple_list | apply o1_isi_tuple_tuple | apply o1_isi_tuple_dict) | ((with_reducible apply o1_rfl); exact rfl)) | (with_reducible first | apply st_0 | apply st_s) | (with_reducible first | apply sq_nx | apply sq_rt | apply sq_ct | apply sq_bk) | ((with_reducible show @W1 Evs _ _); first | ((with_reducible apply w_putF); exact rfl; infer_instance) | ((with_reducible apply w_putO); exact rfl; infer_instance) | ((with_reducible apply w_mgT); exact rfl) | (with_reducible first | apply w_mgC | apply w_mgN)) | (with_reducible apply wt_b) | (with_reducible first | apply ite_tt | apply ite_ff | apply ite_n1 | apply ite_n0) | (with_reducible refine ite_dt (by omega) ?_) | (with_reducible refine ite_df (by omega) ?_) | (with_reducible refine ite_nt (by omega) ?_) | (with_reducible refine ite_nf (by omega) ?_) | ((with_reducible apply pk_w); exact rfl) | (with_reducible refine fit_w (by (first | exact sl_of rfl | (show _ ≤ 2 ^ 24; omega))) ?_) | (with_reducible refine fil_w (by (show _ < 2 ^ 24; omega)) ?_) | (with_reducible apply iv_w) | ((with_reducible apply ln_bo); exact rfl) | ((with_reducible apply ln_ow); exact rfl) | ((with_reducible apply ix_0); exact rfl) | ((with_reducible apply ix_1); exact rfl) | ((with_reducible apply ix_2); exact rfl) | ((with_reducible apply ck_w); exact rfl; exact rfl; exact rfl) | (with_reducible refine eqn_w rfl ?_) | (with_reducible apply rf_w) | (with_reducible apply ro_w) | (with_reducible apply rk_w) | (with_reducible first | apply bk_nil | apply bk_val) | ((with_reducible apply bk_slB); exact rfl) | ((with_reducible apply bk_slO); exact rfl) | ((with_reducible apply bd_fz); exact rfl) | ((with_reducible apply bd_ow); exact rfl) | ((with_reducible apply bd_nx); exact rfl) | (with_reducible first | apply wi_nil | apply wi_cons) | ((with_reducible show @W1 (List _) _ _); first | (with_reducible first | apply o1_lst | apply o1_tup | apply o1_numT | apply o1_numL) | (with_reducible refine w_rg1 (by omega) ?_) | (with_reducible refine w_rg2 (by omega) ?_)) | (with_reducible first | apply lp_nx | apply lp_ct | apply lp_rt | apply lp_bk) | (with_reducible first | apply go_nx | apply go_fz | apply go_ow) | ((with_reducible apply bx_fz); exact rfl) | ((with_reducible apply bx_ow); exact rfl) | ((with_reducible apply bx_bo); exact rfl) | ((with_reducible apply bx_nx); exact rfl) | (with_reducible first | apply rx_fz | apply rx_bo) | (with_reducible first | apply rd_fz | apply rd_bo) | (with_reducible first | apply try_nx | apply try_fz) | (with_reducible first | apply su_nx | apply su_rt)))
/-! ### leaders: a set beside -/
def wishD : Dt → Bool
  | .none => true
  | .int _ => true
  | _ => false
def leadF (seen : List Int) : Nat → List Dt → List Int
  | _, [] => []
  | n, .int i :: r => if i ∈ seen then leadF seen (n + 1) r else (n : Int) :: leadF (seen ++ [i]) (n + 1) r
  | n, _ :: r => leadF seen (n + 1) r
def leadsOf (ws : List Dt) : List Int := leadF [] 0 ws
def m_leaders : Mst := fun env => match env with
  | [.fz (.tuple ws), .un, .un, .un, .un] => if ws.all wishD && decide (ws.length ≤ 1000) then some (.rt [.fz (.tuple ws), .un, .un, .un, .un] (.fz (.tuple ((leadsOf ws).map PyData.int)))) else none
  | _ => none
section
variable {K : PySem.W.Frag}
def seenK (seen : List Int) : Key → Bool
  | .inl i => decide (i ∈ seen)
  | .inr _ => false
theorem seenK_nil : seenK [] = fun _ => false := by
  funext k
  cases k <;> rfl
theorem r_leaders {P : Program} {w : World} : RS K (tSeq (tAsg (tCB (rSet0K P w) tNil) (gName 1)) (tSeq (tAsg (tLst tNil) (gName 2)) (tSeq (tFor (iEnumT K (tCons (tVar 0) tNil)) (gTup K 2 (gCons (gName 3) (gCons (gName 4) gNil)))
    (tIfS (tAnd (tTest (tOp (fun x y H Q => y = .non ∧ Q (.bl (!decide (x = .non))) H) (tVar 4) (tC .non))) (tTest (tOp (rSInK P w true) (tVar 4) (tVar 1)))) (tSeq (tDrop (tSAddK P w (tVar 1) (tCons (tVar 4) tNil))) (tDrop (tBM K "list" rAppend (tVar 2) (tCons (tVar 3) tNil)))) tNext))
    (tRet (tCB (rTupOf K) (tCons (tVar 2) tNil)))))) m_leaders := fun M env F σ H fl D S e q => by
  unfold m_leaders at e
  split at e
  case h_2 => cases e
  rename_i ws
  split at e
  case isFalse => cases e
  rename_i c
  cases e
  rw [Bool.and_eq_true, decide_eq_true_eq] at c
  obtain ⟨c1, c2⟩ := c
  obtain ⟨wv, h0, a, xs, rfl, hF, hA⟩ := S.fzS 0 _ rfl
  have hl : σ.length = 5 := S.len.symm
  have ap : ∀ (i : Nat) (s : Sl) (d : Dt), [Sl.fz (.tuple ws), .un, .un, .un, .un][i]? = some s → s.own = some d → False := by
    intro i s d e1 e2
    match i, e1 with
    | 0, e1 => cases e1; cases e2
    | 1, e1 => cases e1; cases e2
    | 2, e1 => cases e1; cases e2
    | 3, e1 => cases e1; cases e2
    | 4, e1 => cases e1; cases e2
    | n + 5, e1 => simp at e1
  refine ⟨rfl, fun p np => ?_⟩
  have S1 := S.raw np (SetK P w p (fun _ => false) 0)
  have Lp := S.loose np
  refine ⟨by decide, fun r nr => ?_⟩
  have nep : p ≠ r := by
    rintro rfl
    rw [upd_same] at nr
    cases nr
  have S2 := S1.raw nr (.lst [])
  have Lr : Loose M _ F σ r := S1.loose nr
  have g0 : ((σ.set 1 (some (.ref p))).set 2 (some (.ref r)))[0]? = some (some (.ref a)) := by
    rw [List.getElem?_set_ne (by decide), List.getElem?_set_ne (by decide)]
    exact h0
  refine ⟨.ref a, g0, a, xs, rfl, SqT.of (S2.sub _ _ hF), ?_⟩
  refine ⟨fun i m σ' H' => m = ws.length - i ∧ i ≤ ws.length ∧ ∃ F' seen least, σ'.length = 5 ∧ σ'[0]? = some (some (.ref a)) ∧ σ'[1]? = some (some (.ref p)) ∧ σ'[2]? = some (some (.ref r)) ∧ Sn K M [.fz (.tuple ws), .un, .un, .un, .un] F' σ H' ∧ Same F F' ∧ F' p = none ∧ F' r = none ∧
      H' p = some (SetK P w p (seenK seen) seen.length) ∧ H' r = some (.lst (least.map V.int)) ∧ seen.length ≤ i ∧ least.length ≤ i ∧ least ++ leadF seen i (ws.drop i) = leadsOf ws,
    ⟨ws.length, by simp, Nat.zero_le _, F, [], [], by simp [hl], g0, ?_, ?_, S2, Same.refl F, Lp.nF, Lr.nF, ?_, upd_same, Nat.le_refl _, Nat.le_refl _, rfl⟩, ?_⟩
  · rw [List.getElem?_set_ne (by decide), List.getElem?_set_self (by omega)]
  · rw [List.getElem?_set_self (by rw [List.length_set]; omega)]
  · rw [upd_ne nep, upd_same, seenK_nil]
    rfl
  rintro i m σ' H' ⟨rfl, hi, F', seen, least, l5, k0, k1, k2, S3, s3, fp, fr, hp, hr, ls, ll, ht⟩
  have ok := (it_enumT hF hA).mono s3
  have Lp' : Loose M [.fz (.tuple ws), .un, .un, .un, .un] F' σ p := ⟨Lp.fresh, fp, Lp.nP, fun i s d e1 e2 => (ap i s d e1 e2).elim⟩
  have Lr' : Loose M [.fz (.tuple ws), .un, .un, .un, .un] F' σ r := ⟨Lr.fresh, fr, Lr.nP, fun i s d e1 e2 => (ap i s d e1 e2).elim⟩
  by_cases c : i < ws.length
  · have ei : (numD ws)[i]? = some (.tuple [.int (i : Nat), ws[i]]) := by
      unfold numD
      rw [List.getElem?_map, List.getElem?_zipIdx, List.getElem?_eq_getElem c]
      simp
    have hd : ws.drop i = ws[i] :: ws.drop (i + 1) := List.drop_eq_getElem_cons c
    have hw : wishD ws[i] = true := List.all_eq_true.mp c1 _ (List.getElem_mem c)
    refine .inr ⟨ok.go i _ H' S3.sub ei, fun σ' H' => ∃ F' seen least, σ'.length = 5 ∧ σ'[0]? = some (some (.ref a)) ∧ σ'[1]? = some (some (.ref p)) ∧ σ'[2]? = some (some (.ref r)) ∧ Sn K M [.fz (.tuple ws), .un, .un, .un, .un] F' σ H' ∧ Same F F' ∧ F' p = none ∧ F' r = none ∧
      H' p = some (SetK P w p (seenK seen) seen.length) ∧ H' r = some (.lst (least.map V.int)) ∧ seen.length ≤ i + 1 ∧ least.length ≤ i + 1 ∧ least ++ leadF seen (i + 1) (ws.drop (i + 1)) = leadsOf ws, fun σ2 H2 z => ⟨_, by omega, rfl, c, z⟩, fun x H2 y => ?_⟩
    have W := (S3.ward Lp' hp)
    have W2 := W.ward (p := r) (o := .lst (least.map V.int)) ⟨Lr.fresh, fr, by dsimp only; rw [if_neg (fun z => nep z.symm)]; exact Lr.nP, fun i s d e1 e2 => (ap i s d e1 e2).elim⟩ hr
    obtain ⟨F2, S4, s4, b, ys, rfl, hb, hys⟩ := ok.step W2 ei y
    obtain ⟨S5, L5, hr5⟩ := S4.unward (by dsimp only; rw [if_neg (fun z => nep z.symm)]; exact Lr.nP)
    obtain ⟨S6, L6, hp6⟩ := S5.unward Lp.nP
    obtain ⟨y1, r1, rfl, z1, h7⟩ := hys
    obtain ⟨y2, r2, rfl, z2, h8⟩ := h7
    have e8 : r2 = [] := h8
    subst e8
    have e9 : y1 = .int (i : Nat) := z1
    subst e9
    refine ⟨b, _, rfl, SqT.of (S6.sub _ _ hb), rfl, _, _, rfl, _, _, rfl, rfl, ?_⟩
    have j4 : ((σ'.set 3 (some (.int (i : Nat)))).set 4 (some y2))[4]? = some (some y2) := List.getElem?_set_self (by rw [List.length_set]; omega)
    have j3 : ((σ'.set 3 (some (.int (i : Nat)))).set 4 (some y2))[3]? = some (some (.int (i : Nat))) := by rw [List.getElem?_set_ne (by decide)]; exact List.getElem?_set_self (by omega)
    have j2 : ((σ'.set 3 (some (.int (i : Nat)))).set 4 (some y2))[2]? = some (some (.ref r)) := by rw [List.getElem?_set_ne (by decide), List.getElem?_set_ne (by decide)]; exact k2
    have j1 : ((σ'.set 3 (some (.int (i : Nat)))).set 4 (some y2))[1]? = some (some (.ref p)) := by rw [List.getElem?_set_ne (by decide), List.getElem?_set_ne (by decide)]; exact k1
    have j0 : ((σ'.set 3 (some (.int (i : Nat)))).set 4 (some y2))[0]? = some (some (.ref a)) := by rw [List.getElem?_set_ne (by decide), List.getElem?_set_ne (by decide)]; exact k0
    have jl : ((σ'.set 3 (some (.int (i : Nat)))).set 4 (some y2)).length = 5 := by rw [List.length_set, List.length_set]; exact l5
    generalize ((σ'.set 3 (some (.int (i : Nat)))).set 4 (some y2)) = σ2 at j0 j1 j2 j3 j4 jl ⊢
    refine ⟨y2, j4, rfl, _, rfl, ?_⟩
    have skip : ws[i] = .none ∨ (∃ n ∈ seen, ws[i] = .int n) → ∃ F' seen least, σ2.length = 5 ∧ σ2[0]? = some (some (.ref a)) ∧ σ2[1]? = some (some (.ref p)) ∧ σ2[2]? = some (some (.ref r)) ∧ Sn K M [.fz (.tuple ws), .un, .un, .un, .un] F' σ H2 ∧ Same F F' ∧ F' p = none ∧ F' r = none ∧
      H2 p = some (SetK P w p (seenK seen) seen.length) ∧ H2 r = some (.lst (least.map V.int)) ∧ seen.length ≤ i + 1 ∧ least.length ≤ i + 1 ∧ least ++ leadF seen (i + 1) (ws.drop (i + 1)) = leadsOf ws := by
      intro hk
      refine ⟨F2, seen, least, jl, j0, j1, j2, S6, s3.trans s4, L6.nF, L5.nF, hp6, hr5, by omega, by omega, ?_⟩
      rw [hd] at ht
      rcases hk with hk | ⟨n, hn, hk⟩
      · rw [hk] at ht
        exact ht
      · rw [hk] at ht
        unfold leadF at ht
        rw [if_pos hn] at ht
        exact ht
    cases hwi : ws[i] with
    | none =>
      rw [hwi] at z2
      have e : y2 = .non := z2
      subst e
      exact skip (.inl hwi)
    | int n =>
      rw [hwi] at z2
      have e : y2 = .int n := z2
      subst e
      show if (!decide (V.int n = V.non)) = true then _ else _
      rw [if_pos (by simp)]
      refine ⟨_, j4, _, j1, Sum.inl n, p, seenK seen, seen.length, rfl, rfl, hp6, _, rfl, ?_⟩
      by_cases cn : n ∈ seen
      · have : (if true = true then !seenK seen (Sum.inl n) else seenK seen (Sum.inl n)) = false := by
          unfold seenK
          simp [cn]
        rw [this]
        exact skip (.inr ⟨n, cn, hwi⟩)
      · have : (if true = true then !seenK seen (Sum.inl n) else seenK seen (Sum.inl n)) = true := by
          unfold seenK
          simp [cn]
        rw [this]
        dsimp only
        rw [if_pos rfl]
        refine ⟨_, j1, ⟨p, _, _, rfl, hp6⟩, _, j4, p, Sum.inl n, seenK seen, seen.length, rfl, rfl, hp6, ?_, ?_⟩
        · show seen.length + 1 < scanBound
          have : 2000 ≤ scanBound := by decide
          omega
        have S7 := S6.put L6 (SetK P w p (fun j => seenK seen j || decide (j = Sum.inl n)) (if seenK seen (Sum.inl n) = true then seen.length else seen.length + 1))
        have hr7 : (upd H2 p (SetK P w p (fun j => seenK seen j || decide (j = Sum.inl n)) (if seenK seen (Sum.inl n) = true then seen.length else seen.length + 1))) r = some (.lst (least.map V.int)) := by
          rw [upd_ne (fun z => nep z.symm)]
          exact hr5
        have L7 : Loose M [.fz (.tuple ws), .un, .un, .un, .un] F2 σ r := ⟨Lr.fresh, L5.nF, Lr.nP, fun i s d e1 e2 => (ap i s d e1 e2).elim⟩
        refine ⟨_, j2, ty_lst (SqL.of hr7), _, j3, r, least.map V.int, .int (i : Nat), rfl, rfl, hr7, ?_, ?_⟩
        · rw [List.length_map]
          show least.length < 2 ^ 24
          omega
        refine ⟨F2, seen ++ [n], least ++ [(i : Int)], jl, j0, j1, j2, S7.put L7 _, s3.trans s4, L6.nF, L5.nF, ?_, ?_, by rw [List.length_append]; show _ + 1 ≤ _; omega, by rw [List.length_append]; show _ + 1 ≤ _; omega, ?_⟩
        · rw [upd_ne nep, upd_same]
          have e1 : (fun j => seenK seen j || decide (j = Sum.inl n)) = seenK (seen ++ [n]) := by
            funext j
            cases j with
            | inl j =>
              unfold seenK
              by_cases q1 : j ∈ seen <;> by_cases q2 : j = n <;> simp [q1, q2]
            | inr j => simp [seenK]
          have e2 : seenK seen (Sum.inl n) = false := by
            unfold seenK
            simp [cn]
          rw [e1, e2, if_neg (by decide), List.length_append]
          rfl
        · rw [upd_same, List.map_append]
          rfl
        · rw [hd, hwi] at ht
          unfold leadF at ht
          rw [if_neg cn] at ht
          rw [List.append_assoc]
          exact ht
    | bool b => rw [hwi] at hw; cases hw
    | str b => rw [hwi] at hw; cases hw
    | list b => rw [hwi] at hw; cases hw
    | tuple b => rw [hwi] at hw; cases hw
    | dict b => rw [hwi] at hw; cases hw
  · have e : i = ws.length := by omega
    subst e
    refine .inl ⟨ok.stop _ H' S3.sub (by simp [numD]), ?_⟩
    rw [List.drop_length] at ht
    have ht : least ++ [] = leadsOf ws := ht
    rw [List.append_nil] at ht
    subst ht
    refine ⟨_, k2, r, _, rfl, .inl ⟨SqL.of hr, fun l nl => ?_⟩⟩
    obtain ⟨S8, s8⟩ := S3.lay nl (.tup ((leadsOf ws).map V.int))
    have S9 := S8.wipe (σ' := σ') [1, 2, 3, 4] (fun j hj => ?_) (by rw [l5, hl])
    · refine q _ σ' _ _ S9 (s3.trans s8) ⟨l, _, rfl, upd_same, RpA.of_ints _⟩
    · match j, hj with
      | 0, _ => rw [k0, h0]
      | 1, hj => simp at hj
      | 2, hj => simp at hj
      | 3, hj => simp at hj
      | 4, hj => simp at hj
      | n + 5, _ => rw [List.getElem?_eq_none (by omega), List.getElem?_eq_none (by omega)]
end

theorem textFrom_le : ∀ (ts : List Str) (k : Nat) (acc : Str), (textFrom k acc ts).length ≤ acc.length + (ts.map fun t => t.length + 2).sum
  | [], k, acc => by
    show acc.length ≤ acc.length + 0
    omega
  | t :: ts, k, acc => by
    have ih := textFrom_le ts (k + 1) (acc ++ (if k > 0 then ", " else "" : String) ++ t)
    have e : (acc ++ Str.ofString (if k > 0 then ", " else "" : String) ++ t).length ≤ acc.length + 2 + t.length := by
      rw [Str.length_append, Str.length_append]
      have : (Str.ofString (if k > 0 then ", " else "" : String)).length ≤ 2 := by
        split <;> decide +kernel
      omega
    have ih2 : (textFrom k acc (t :: ts)).length ≤ (acc ++ Str.ofString (if k > 0 then ", " else "" : String) ++ t).length + (ts.map fun t => t.length + 2).sum := ih
    rw [List.map_cons, List.sum_cons]
    omega
theorem sum_le_mul : ∀ (ts : List Str) (m : Nat), (∀ t ∈ ts, t.length ≤ m) → (ts.map fun t => t.length + 2).sum ≤ ts.length * (m + 2)
  | [], _, _ => Nat.zero_le _
  | t :: ts, m, h => by
    have ih := sum_le_mul ts m fun t ht => h t (List.mem_cons_of_mem _ ht)
    have h1 := h t List.mem_cons_self
    rw [List.map_cons, List.sum_cons, List.length_cons, Nat.succ_mul]
    omega
theorem listText_le {ts : List Str} {m : Nat} (h : ∀ t ∈ ts, t.length ≤ m) : (listText ts).length ≤ 2 + ts.length * (m + 2) := by
  have h1 := textFrom_le ts 0 "["
  have h2 := sum_le_mul ts m h
  have e : (listText ts).length = (textFrom 0 "[" ts).length + 1 := by
    unfold listText
    rw [Str.length_append]
    rfl
  have e1 : (Str.ofString "[").length = 1 := by decide +kernel
  have h1' : (textFrom 0 (Str.ofString "[") ts).length ≤ (Str.ofString "[").length + (ts.map fun t => t.length + 2).sum := h1
  rw [e1] at h1'
  have e' : (listText ts).length = (textFrom 0 (Str.ofString "[") ts).length + 1 := e
  omega
theorem tupleText_le {ts : List Str} {m : Nat} (h : ∀ t ∈ ts, t.length ≤ m) : (tupleText ts).length ≤ 4 + ts.length * (m + 2) := by
  have h1 := listText_le h
  have e : (listText ts).length = 1 + (Str.join ", " ts).length + 1 := by
    rw [listText_eq_join, Str.length_append, Str.length_append]
    rfl
  have e2 : (tupleText ts).length ≤ 1 + (Str.join ", " ts).length + 2 := by
    unfold tupleText
    rw [Str.length_append, Str.length_append]
    have : (Str.ofString (if ts.length == 1 then ",)" else ")" : String)).length ≤ 2 := by
      split <;> decide +kernel
    have e1 : (Str.ofString "(").length = 1 := by decide +kernel
    show (Str.ofString "(").length + _ + (Str.ofString (if ts.length == 1 then ",)" else ")" : String)).length ≤ _
    omega
  omega
/-! small data, rows of small data -/
structure Small (d : PyData) (n m : Nat) : Prop where
  sh : d.showable = true
  lay : d.canLay0 = true
  dep : d.depth ≤ m
  len : d.shown.length ≤ n
theorem Small.le {d : PyData} {n m n' m' : Nat} (h : Small d n m) (a : n ≤ n') (b : m ≤ m') : Small d n' m' := ⟨h.sh, h.lay, Nat.le_trans h.dep b, Nat.le_trans h.len a⟩
theorem Small.shaped {d : PyData} {n m : Nat} (h : Small d n m) (hm : m ≤ 64) : SeqAt.shaped d = true := by
  show (d.canLay0 && decide (d.depth ≤ 64)) = true
  rw [Bool.and_eq_true]
  exact ⟨h.lay, decide_eq_true (Nat.le_trans h.dep hm)⟩
theorem small_int {i : Int} (h : i.natAbs < 10 ^ 40) : Small (.int i) 60 1 := by
  refine ⟨?_, rfl, by simp [PyData.depth], ?_⟩
  · show decide (i.natAbs.log2 < 1920) = true
    refine decide_eq_true ?_
    by_cases h0 : i.natAbs = 0
    · rw [h0]
      decide
    · rw [Nat.log2_lt h0]
      exact Nat.lt_of_lt_of_le h (by decide +kernel)
  · have z := int_text_length_le10 (a := i) (k := 40) (by decide) h
    show (Str.ofString (toString i)).length ≤ 60
    have e : (Str.ofString (toString i)).length = (toString i).length := PySem.ofString_length _
    omega
theorem small_bl (b : Bool) : Small (.bool b) 60 1 := by cases b <;> exact ⟨rfl, rfl, by simp [PyData.depth], by decide +kernel⟩
theorem small_non : Small .none 60 1 := ⟨rfl, rfl, by simp [PyData.depth], by decide +kernel⟩
theorem showAll_of : ∀ (ds : List PyData), (∀ d ∈ ds, d.showable = true) → PyData.showableAll ds = true
  | [], _ => rfl
  | d :: ds, h => by
    show (d.showable && PyData.showableAll ds) = true
    rw [h d List.mem_cons_self, showAll_of ds fun x hx => h x (List.mem_cons_of_mem _ hx)]
    rfl
theorem layAll_of : ∀ (ds : List PyData), (∀ d ∈ ds, d.canLay0 = true) → PyData.canLayAll0 ds = true
  | [], _ => by simp [PyData.canLayAll0]
  | d :: ds, h => by
    have h1 := h d List.mem_cons_self
    have h2 := layAll_of ds fun x hx => h x (List.mem_cons_of_mem _ hx)
    simp only [PyData.canLayAll0, h1, h2, Bool.and_self]
theorem depAll_of {m : Nat} : ∀ (ds : List PyData), (∀ d ∈ ds, d.depth ≤ m) → PyData.depthAll ds ≤ m
  | [], _ => by simp [PyData.depthAll]
  | d :: ds, h => by
    have h1 := h d List.mem_cons_self
    have h2 := depAll_of ds fun x hx => h x (List.mem_cons_of_mem _ hx)
    simp only [PyData.depthAll]
    omega
theorem shownAll_mem {n : Nat} : ∀ (ds : List PyData), (∀ d ∈ ds, d.shown.length ≤ n) → ∀ t ∈ PyData.shownAll ds, t.length ≤ n
  | d :: ds, h, t, ht => by
    have ht' : t ∈ d.shown :: PyData.shownAll ds := ht
    rcases List.mem_cons.mp ht' with rfl | ht2
    · exact h d List.mem_cons_self
    · exact shownAll_mem ds (fun x hx => h x (List.mem_cons_of_mem _ hx)) t ht2
theorem shownAll_len : ∀ ds : List PyData, (PyData.shownAll ds).length = ds.length
  | [] => rfl
  | d :: ds => congrArg (· + 1) (shownAll_len ds)
theorem small_tuple {ds : List PyData} {n m : Nat} (h : ∀ d ∈ ds, Small d n m) : Small (.tuple ds) (4 + ds.length * (n + 2)) (m + 1) := by
  refine ⟨showAll_of ds fun d hd => (h d hd).sh, ?_, ?_, ?_⟩
  · simp only [PyData.canLay0]
    exact layAll_of ds fun d hd => (h d hd).lay
  · have := depAll_of ds fun d hd => (h d hd).dep
    simp only [PyData.depth]
    omega
  · have z := tupleText_le (shownAll_mem ds fun d hd => (h d hd).len)
    rw [shownAll_len] at z
    exact z
theorem small_list {ds : List PyData} {n m : Nat} (h : ∀ d ∈ ds, Small d n m) : Small (.list ds) (4 + ds.length * (n + 2)) (m + 1) := by
  refine ⟨showAll_of ds fun d hd => (h d hd).sh, ?_, ?_, ?_⟩
  · simp only [PyData.canLay0]
    exact layAll_of ds fun d hd => (h d hd).lay
  · have := depAll_of ds fun d hd => (h d hd).dep
    simp only [PyData.depth]
    omega
  · have z := listText_le (shownAll_mem ds fun d hd => (h d hd).len)
    rw [shownAll_len] at z
    show (listText (PyData.shownAll ds)).length ≤ _
    omega
/-! ### texts of data -/
theorem ok_ofString (s : String) : PyData.strOk (Str.ofString s) = true := by
  unfold PyData.strOk
  rw [Str.ofString_eq_toList]
  simp only [List.all_toArray, List.all_map]
  rw [List.all_eq_true]
  intro c _
  have h := c.valid
  show decide (c.toNat < 0x110000) = true
  refine decide_eq_true ?_
  have h2 : UInt32.isValidChar c.val := h
  show c.val.toNat < 0x110000
  rcases h2 with h2 | ⟨_, h2⟩
  · exact Nat.lt_trans h2 (by decide)
  · exact h2
theorem ok_append {a b : Str} (ha : PyData.strOk a = true) (hb : PyData.strOk b = true) : PyData.strOk (a ++ b) = true := by
  unfold PyData.strOk at *
  show ((a.cps ++ b.cps).all fun x => decide (x < 0x110000)) = true
  rw [Array.all_append, ha, hb]
  rfl
theorem ok_textFrom : ∀ (ts : List Str) (k : Nat) (acc : Str), PyData.strOk acc = true → (∀ t ∈ ts, PyData.strOk t = true) → PyData.strOk (textFrom k acc ts) = true
  | [], _, _, h, _ => h
  | t :: ts, k, acc, h, ht => ok_textFrom ts (k + 1) _ (ok_append (ok_append h (ok_ofString _)) (ht t List.mem_cons_self)) fun x hx => ht x (List.mem_cons_of_mem _ hx)
theorem ok_listText {ts : List Str} (h : ∀ t ∈ ts, PyData.strOk t = true) : PyData.strOk (listText ts) = true := ok_append (ok_textFrom ts 0 _ (ok_ofString _) h) (ok_ofString _)
theorem ok_join : ∀ (ts : List Str), (∀ t ∈ ts, PyData.strOk t = true) → PyData.strOk (Str.join ", " ts) = true
  | [], _ => ok_ofString ""
  | [x], h => h x List.mem_cons_self
  | x :: y :: r, h => ok_append (ok_append (h x List.mem_cons_self) (ok_ofString _)) (ok_join (y :: r) fun z hz => h z (List.mem_cons_of_mem _ hz))
theorem ok_tupleText {ts : List Str} (h : ∀ t ∈ ts, PyData.strOk t = true) : PyData.strOk (tupleText ts) = true := by
  unfold tupleText
  exact ok_append (ok_append (ok_ofString _) (ok_join ts h)) (ok_ofString _)
mutual
def noStr : Dt → Bool
  | .none | .bool _ | .int _ => true
  | .list ds | .tuple ds => noStrs ds
  | _ => false
def noStrs : List Dt → Bool
  | [] => true
  | d :: ds => noStr d && noStrs ds
end
mutual
theorem ok_shown : ∀ d : Dt, noStr d = true → PyData.strOk d.shown = true
  | .none, _ => ok_ofString _
  | .bool b, _ => by cases b <;> exact ok_ofString _
  | .int i, _ => ok_ofString _
  | .list ds, h => ok_listText (ok_shownAll ds (by simpa [noStr] using h))
  | .tuple ds, h => ok_tupleText (ok_shownAll ds (by simpa [noStr] using h))
  | .str _, h => by simp [noStr] at h
  | .dict _, h => by simp [noStr] at h
theorem ok_shownAll : ∀ ds : List Dt, noStrs ds = true → ∀ t ∈ PyData.shownAll ds, PyData.strOk t = true
  | [], _, t, ht => by cases (show t ∈ [] from ht)
  | d :: ds, h, t, ht => by
    have h' : noStr d = true ∧ noStrs ds = true := by simpa [noStrs] using h
    rcases List.mem_cons.mp (show t ∈ d.shown :: PyData.shownAll ds from ht) with rfl | ht2
    · exact ok_shown d h'.1
    · exact ok_shownAll ds h'.2 t ht2
end
theorem noStrs_ints : ∀ ns : List Int, noStrs (ns.map PyData.int) = true
  | [] => rfl
  | n :: ns => by
    show (noStr (.int n) && noStrs (ns.map PyData.int)) = true
    rw [noStrs_ints ns]
    rfl
section
variable {P : Dt → Prop}
theorem o1_repr {d : Dt} {n m : Nat} (h : Small d n m) (hn : n ≤ 16777216) (hm : m ≤ 64) (k : P (.str d.shown)) : W1 (fRepr d) P := by
  refine ⟨_, if_pos ?_, k⟩
  rw [Bool.and_eq_true, Bool.and_eq_true]
  exact ⟨⟨h.sh, h.shaped hm⟩, decide_eq_true (sl_lt h.len hn)⟩
theorem o1_neSame {s : Str} (h : PyData.strOk s = true) (k : P (.bool false)) : W1 (fNe (.str s) (.str s)) P := o1_neS h h (by rw [decide_eq_true rfl]; exact k)
theorem o1_eqSame {s : Str} (h : PyData.strOk s = true) (k : P (.bool true)) : W1 (fEq (.str s) (.str s)) P := by
  refine ⟨_, if_pos ?_, ?_⟩
  · show (SeqAt.shaped (.str s) && SeqAt.shaped (.str s)) = true
    unfold SeqAt.shaped PyData.canLay0
    simp only [h, Bool.true_and]
    rfl
  have e : PyData.eqv (plainD (.str s)) (plainD (.str s)) = true := by
    show (s == s) = _
    simp
  rw [e]
  exact k
end

/-! ### a tuple so many times -/
theorem tuple_mul1 (l : Addr) (its : Array Value) (n : Nat) (dd : Option Addr) (sl : Array (Option Value)) (u : Tok) (c1 : (its.isEmpty || (1 : Int) == 1) = true) :
    Meets (Builtin.«tuple.__mul__» ⟨[.ref l, .int 1 u], []⟩) (fun _ R s => s.heap.get? l = some { cls := .type "tuple", dict := dd, data := .seq its n, slots := sl } ∧ R (.ok (.ret (Value.ref l))) s) := .of_wp fun _ _ A R s z => by
  obtain ⟨hp, g, d, tk, os⟩ := s
  obtain ⟨hl, z⟩ := z
  have f1 := AutoSeq1.idx_int
  wp_walk using wpAny_loadPart' hl
  exact ⟨_, rfl, z⟩
def rRepT1 (K : PySem.W.Frag) : R2 := fun x y H Q => ∃ l xs, x = .ref l ∧ y = .int 1 ∧ SqT K H l xs ∧ Q (.ref l) H
theorem op_repT1 {X : Cx} : OpR X (binaryOp .Mult) (rRepT1 X.K) := by
  rintro pins s σ H _ _ _ _ Q I rx ry ⟨l, xs, rfl, rfl, hT, q⟩
  cases rx
  obtain ⟨t, rfl⟩ := ry
  obtain ⟨its, r, ⟨⟨cls, dd, data, sl⟩, ho, rfl, n, hd⟩, hs⟩ := I.tuple hT
  dsimp only at hd
  subst hd
  refine wpAny_binaryOp_repeat_ref (U := "int") (T := "tuple") (by decide) ⟨_, ho, rfl⟩ (fun s' => typeIs_int s' 1 t) noFill_tuple_mul F.fills_int_mul F.slot_int_rmul repeat_tuple F.slot_int_index.lookup ?_
  refine call_meets F.slot_int_rmul (typeIs_int s 1 t) F.entry_int_rmul (F.args_int_rmul_2 _ _) (int_rmul_tuple 1 t l its.toArray n dd sl) ⟨ho, rfl, ⟨_, ho, rfl⟩, ?_⟩
  refine call_meets F.slot_tuple_mul ⟨_, ho, rfl⟩ F.entry_tuple_mul (F.args_tuple_mul_2 _ _) (tuple_mul1 l its.toArray n dd sl t (by simp)) ⟨ho, ?_⟩
  exact ⟨.ref l, H, I, rfl, q⟩
/-- .. some ten thousand times -/
def rRepTB (K : PySem.W.Frag) : R2 := fun x y H Q => ∃ l k xs, x = .ref l ∧ y = .int k ∧ SqT K H l xs ∧ 0 < xs.length ∧ xs.length ≤ 10 ∧ 2 ≤ k ∧ k ≤ 100000 ∧ ∀ p, H p = none → Q (.ref p) (upd H p (.tup (List.replicate k.toNat xs).flatten))
theorem op_repTB {X : Cx} : OpR X (binaryOp .Mult) (rRepTB X.K) := by
  rintro pins s σ H _ _ _ _ Q I rx ry ⟨l, k, xs, rfl, rfl, hT, x0, x1, k0, k1, q⟩
  cases rx
  obtain ⟨t, rfl⟩ := ry
  obtain ⟨its, r, ⟨⟨cls, dd, data, sl⟩, ho, rfl, n, hd⟩, hs⟩ := I.tuple hT
  dsimp only at hd
  subst hd
  have el : its.length = xs.length := r.length.symm
  have es : its.toArray.size = xs.length := by rw [List.size_toArray, el]
  have ei : its.toArray.isEmpty = false := by
    cases its with
    | nil =>
      have : xs.length = 0 := el.symm
      omega
    | cons a b => rfl
  have em : (xs.length : Int) * k ≤ 10 * 100000 := Int.mul_le_mul (by omega) k1 (by omega) (by omega)
  have ef : (List.replicate k.toNat its).flatten.length ≤ sizeLine := by
    rw [PyProof.Rows.lm_len_rep_flat, el, sizeLine_eq]
    have : k.toNat * xs.length ≤ 100000 * 10 := Nat.mul_le_mul (by omega) x1
    omega
  refine wpAny_binaryOp_repeat_ref (U := "int") (T := "tuple") (by decide) ⟨_, ho, rfl⟩ (fun s' => typeIs_int s' k t) noFill_tuple_mul F.fills_int_mul F.slot_int_rmul repeat_tuple F.slot_int_index.lookup ?_
  refine call_meets F.slot_int_rmul (typeIs_int s k t) F.entry_int_rmul (F.args_int_rmul_2 _ _) (int_rmul_tuple k t l its.toArray n dd sl) ⟨ho, rfl, ⟨_, ho, rfl⟩, ?_⟩
  refine call_meets F.slot_tuple_mul ⟨_, ho, rfl⟩ F.entry_tuple_mul (F.args_tuple_mul_2 _ _) (tuple_mulW l its.toArray n dd sl k t ?_ ?_ ?_ ?_ ?_ ?_) ⟨ho, ?_⟩
  · rw [decide_eq_false (by omega), decide_eq_false (by omega)] <;> rfl
  · rw [ei, Bool.false_or]
    exact beq_eq_false_iff_ne.mpr (by omega)
  · rw [ei, Bool.or_false, decide_eq_false (by omega)]
  · rw [es]
    omega
  · unfold Builtin.Tuple.tupleTooMany
    rw [sizeLine_eq, es, decide_eq_false (by omega)]
  · rw [size_rep, List.size_toArray]
    exact ef
  · rw [size_rep]
    refine ⟨.ref s.heap.objs.size, _, I.laid (t' := s.toks) (o := .tup (List.replicate k.toNat xs).flatten) (fun b ob z => Heap.get?_push_of_some _ z) (Nat.le_refl _) ⟨?_, _, r.rep k.toNat, IsTup.new _ _⟩, rfl, q _ (I.hok.fresh (Nat.le_refl _))⟩
    rw [PyProof.Rows.lm_len_rep_flat, sizeLine_eq]
    have : k.toNat * xs.length ≤ 100000 * 10 := Nat.mul_le_mul (by omega) x1
    omega
def rRepTA (K : PySem.W.Frag) : R2 := fun x y H Q => rRepT1 K x y H Q ∨ rRepTB K x y H Q
theorem k_repT (K : PySem.W.Frag) {X : Cx} (h : X.K = K := by rfl) : OpR X (binaryOp .Mult) (rRepTA K) := by
  subst h
  intro pins s σ H x y v u Q I rx ry z
  rcases z with z | z
  · exact op_repT1 pins s σ H x y v u Q I rx ry z
  · exact op_repTB pins s σ H x y v u Q I rx ry z
def fRepT : Dt → Dt → Option Dt
  | .tuple ds, .int k => if 1 ≤ k ∧ k ≤ 100000 ∧ ds.length ≤ 10 ∧ 0 < ds.length then some (.tuple (List.replicate k.toNat ds).flatten) else none
  | _, _ => none
section
variable {K : PySem.W.Frag}
theorem o_repT : R2k K (rRepTA K) fRepT := fun M env F σ H x y d e z Q S hx hy hf q => by
  unfold fRepT at hf
  split at hf
  · rename_i ds k
    split at hf
    · rename_i c
      cases hf
      obtain ⟨a, xs, rfl, h1, h2⟩ := hx.tup S.sub
      by_cases k1 : k = 1
      · subst k1
        rcases hx with ⟨a', xs', e1, h3, h4⟩ | ⟨a', e1, h⟩
        · cases e1
          refine .inl ⟨a, xs, rfl, hy.int, SqT.of h1, q _ F H S (Same.refl F) ?_⟩
          have e : (List.replicate (1 : Int).toNat ds).flatten = ds := by simp
          rw [e]
          exact ⟨a, xs', rfl, h3, h4⟩
        · rcases h with ⟨_, _, _, h, _⟩ | ⟨_, _, _, h, _⟩ | ⟨_, _, _, h, _⟩ <;> cases h
      · have hl := h2.len
        refine .inr ⟨a, k, xs, rfl, hy.int, SqT.of h1, by omega, by omega, by omega, c.2.1, fun p np => ?_⟩
        obtain ⟨S2, s2⟩ := S.lay np (.tup (List.replicate k.toNat xs).flatten)
        exact q _ _ _ S2 s2 ⟨p, _, rfl, upd_same, (h2.rep k.toNat).mono s2 _ _⟩
    · cases hf
  · cases hf
end
section
variable {P : Dt → Prop}
theorem o1_repT {x : Dt} {k : Int} (h : 1 ≤ k ∧ k ≤ 100000) (q : P (.tuple (List.replicate k.toNat x))) : W1 (fRepT (.tuple [x]) (.int k)) P := by
  refine ⟨.tuple (List.replicate k.toNat [x]).flatten, ?_, ?_⟩
  · show (if _ then _ else _) = _
    rw [if_pos ⟨h.1, h.2, (by show 1 ≤ 10; decide), (by show 0 < 1; decide)⟩]
  · rw [show (List.replicate k.toNat [x]).flatten = List.replicate k.toNat x by simp]
    exact q
end

/-! ### more rules backwards -/
section
variable {env e : Evs} {i j : Nat} {Q : Evs → Dt → Prop} {F : Fl → Prop} {p q : Mx}
theorem w_parFO (k : W2 (p env) fun e x => W2 (q e) fun e1 y => W1 (putF i x e1) fun e2 => W1 (putO j y e2) fun e3 => F (.nx e3)) : W1 (mParK i j false true p q env) F := by
  obtain ⟨e, x, h1, e1, y, h2, e2, h3, e3, h4, h5⟩ := k
  refine ⟨_, ?_, h5⟩
  unfold mParK
  rw [h1]
  show (q e).bind _ = _
  rw [h2]
  show ((putF i x e1).bind _).map _ = _
  rw [h3]
  show (putO j y e2).map _ = _
  rw [h4]
  rfl
theorem w_lstRg1 (k : W2 (p env) fun e d => ∃ n : Int, d = .int n ∧ rgOk 0 n = true ∧ Q e (.list (rgD 0 (n - 0).toNat))) : W2 (mLstRg (mRg1 p) env) Q := by
  obtain ⟨e, _, h1, n, rfl, h2, h3⟩ := k
  refine ⟨e, _, ?_, h3⟩
  unfold mLstRg mRg1
  rw [h1]
  exact if_pos h2
theorem w_slP {lo hi : Mo} (k : Pk i env fun _ => W2 (lo env) fun e1 l => W2 (hi e1) fun e2 h => Pk i e2 fun x => W1 (fSlL x l h) fun z => Q e2 z) : W2 (mSlP i lo hi env) Q := by
  obtain ⟨x0, h0, e1, l, h1, e2, h, h2, x, h3, z, h4, h5⟩ := k
  refine ⟨e2, z, ?_, h5⟩
  unfold mSlP
  rw [h0]
  show (lo env).bind _ = _
  rw [h1]
  show (hi e1).bind _ = _
  rw [h2]
  show (mPeek i e2).bind _ = _
  rw [h3]
  show (fSlL x l h).map _ = _
  rw [h4]
  rfl
def Pp (n : Dt) (l : List Dt) (R : Nat → Dt → Prop) : Prop := ∃ (m : Int) (z : Dt), n = .int m ∧ 0 ≤ m ∧ m < 2 ^ 62 ∧ l[m.toNat]? = some z ∧ R m.toNat z
theorem w_popAt (k : Ln i env fun _ _ => W2 (p env) fun e n => Ln i e fun c l => Pp n l fun j z => St i (c (.list (l.eraseIdx j))) e fun e2 => Q e2 z) : W2 (mPopAt i p env) Q := by
  obtain ⟨c0, l0, a0, _, a1, e, _, h1, c, l, b0, b1, b2, m, z, rfl, h2, h3, h4, h5⟩ := k
  refine ⟨_, z, ?_, h5⟩
  have h0 : isL i env = some () := by
    unfold isL
    rw [a1]
    show (match (c0 (.list l0)).own with | some (.list _) => some () | _ => none) = _
    rw [a0]
  have hm := (List.getElem?_eq_some_iff.mp h4).1
  have hs : seqIndex? m l.length = some m.toNat := by
    have e : (if m < 0 then m + (l.length : Int) else m) = m := if_neg (by omega)
    show (if (decide (0 ≤ (if m < 0 then m + (l.length : Int) else m)) && decide ((if m < 0 then m + (l.length : Int) else m) < l.length)) = true then some ((if m < 0 then m + (l.length : Int) else m)).toNat else none) = _
    rw [e, if_pos (by rw [decide_eq_true h2, decide_eq_true (by omega)]; rfl)]
  unfold mPopAt
  rw [h0]
  show (p env).bind _ = _
  rw [h1]
  show (if -(2 ^ 63) ≤ m ∧ m < 2 ^ 63 then _ else _) = _
  rw [if_pos ⟨by omega, by omega⟩, b2]
  show (match (c (.list l)).own with | some (.list ds) => _ | _ => none) = _
  rw [b0]
  show (seqIndex? m l.length).bind _ = _
  rw [hs]
  show (l[m.toNat]?).map _ = _
  rw [h4]
  show some (e.set i ((c (.list l)).with _), z) = _
  rw [b1]
end

/-! ### not in a row of rows -/
def rNotInTD (K : PySem.W.Frag) : R2 := fun x y H Q => ∃ d ds, Dp K H x d ∧ Dp K H y (.tuple ds) ∧ SeqAt.shaped d = true ∧ SeqAt.shaped (.tuple ds) = true ∧ Q (.bl (!ds.any fun z => PyData.eqv z d)) H
theorem k_notInT (K : PySem.W.Frag) {X : Cx} (hu : X.A.units + 70 < cLine) (h : X.K = K := by rfl) : OpR X (compareOp .NotIn) (rNotInTD K) := by
  subst h
  rintro pins s σ H x y v u Q I rx ry ⟨d, ds, hd, he, sd, se, q⟩
  obtain ⟨as, r1⟩ := Dp.reads I d x v hd rx
  obtain ⟨bs, r2⟩ := Dp.reads I (.tuple ds) y u he ry
  have c2 : PyData.canLayAll0 ds = true := by
    have := SeqAt.canLay_of_shaped se
    simpa [PyData.canLay0] using this
  have dp : d.depth ≤ 64 := by
    unfold SeqAt.shaped at sd
    rw [Bool.and_eq_true, decide_eq_true_eq] at sd
    exact sd.2
  exact SeqAt.notIn_tuple_reads r2 r1 c2 (SeqAt.canLay_of_shaped sd) (by omega) ⟨.bl _, H, I, rfl, q⟩
def fNotInT (d e : Dt) : Option Dt := match e with
  | .tuple ds => if SeqAt.shaped d && SeqAt.shaped (.tuple ds) then some (.bool (!ds.any fun z => PyData.eqv z d)) else none
  | _ => none
theorem o_notInT {K : PySem.W.Frag} : R2k K (rNotInTD K) fNotInT := fun M env F σ H x y d e z Q S hx hy hf q => by
  unfold fNotInT at hf
  split at hf
  · rename_i ds
    split at hf
    · rename_i c
      cases hf
      rw [Bool.and_eq_true] at c
      have p : ∀ d : Dt, SeqAt.shaped d = true → plainD d = d := fun d sd => by
        cases d with
        | dict kvs =>
          have := lay_of sd
          simp [PyData.canLay0] at this
        | _ => rfl
      have e1 := dp_plain (d := d) S.sub (by rw [p d c.1]; exact lay_of c.1) hx
      have e2 := dp_plain (d := .tuple ds) S.sub (lay_of c.2) hy
      rw [p d c.1] at e1
      exact ⟨_, _, e1, e2, c.1, c.2, q _ F H S (Same.refl F) rfl⟩
    · cases hf
  · cases hf

/-! ### a comprehension with two fors -/
def lc2M (g : Mg) (tt : Mb) (mi1 : Ms) (g1 : Mg) (tt1 : Mb) (te : Mx) (vs vs1 : List Nat) : List Dt → Evs → Option (Evs × List Dt)
  | [], env => some (env, [])
  | d :: ds, env => (g d env).bind fun e1 => (tt e1).bind fun p => if p.2 = true then (mi1 p.1).bind fun q => (lcM g1 tt1 te vs1 q.2 (wipeE q.1 vs1)).bind fun r => (lc2M g tt mi1 g1 tt1 te vs vs1 ds (wipeE r.1 vs)).map fun s => (s.1, r.2 ++ s.2)
    else lc2M g tt mi1 g1 tt1 te vs vs1 ds (wipeE p.1 vs)
def mLc2 (mi : Ms) (g : Mg) (tt : Mb) (mi1 : Ms) (g1 : Mg) (tt1 : Mb) (te : Mx) (vs vs1 : List Nat) : Mx := fun env => (mi env).bind fun p => (lc2M g tt mi1 g1 tt1 te vs vs1 p.2 (wipeE p.1 vs)).bind fun q => if q.2.length ≤ sizeLine then some (q.1, .list q.2) else none
section
variable {K : PySem.W.Frag} {vs vs1 : List Nat}
/-- the inner walk, into a list that is begun -/
theorem lc_inner {M : Fm} {D : Addr} {g1 : Mg} {t1 : Mb} {e1 : Mx} {tg1 : TG} {tt1 : TT} {te : TE} (hg : RGw K vs1 tg1 g1) (ht : RT K tt1 t1) (he : RE K te e1) {J : It} {F1 : Hp} {ds : List Dt} {env1 ef : Evs} {out accD0 : List Dt} {acc0 : List V} {σ : L2.St} {H4 : Hp} {Nx : Hp → Prop}
    (ok : ItOk K J F1 ds) (S1 : Sn K M env1 F1 σ H4) (L : Loose M env1 F1 σ D) (hD : H4 D = some (.lst acc0)) (rA : RpA K F1 accD0 acc0) (hrun : lcM g1 t1 e1 vs1 ds (wipeE env1 vs1) = some (ef, out)) (hl : (accD0 ++ out).length ≤ sizeLine)
    (fin : ∀ F' H' acc, Sn K M ef F' σ H' → Same F1 F' → Loose M ef F' σ D → H' D = some (.lst acc) → RpA K F' (accD0 ++ out) acc → Nx H') :
    ∃ W1 : Nat → Nat → Hp → Prop, (∃ m, W1 0 m H4) ∧ ∀ j k H, W1 j k H → (J.stop j H ∧ Nx H) ∨ (J.go j H ∧ ∃ Nx1 : Hp → Prop, (∀ H', Nx1 H' → ∃ k', k' < k ∧ W1 (j + 1) k' H') ∧ ∀ x H', J.yld j H x H' → tg1 x (wipe σ vs1) H' fun σ3 H5 => wipe σ3 vs1 = wipe σ vs1 ∧ tt1 σ3 H5 fun b H6 =>
      if b = true then te σ3 H6 fun y H7 => ∃ acc, H7 D = some (.lst acc) ∧ acc.length < sizeLine ∧ Nx1 (upd H7 D (.lst (acc ++ [y]))) else Nx1 H6) := by
  have S1' : Sn K M (wipeE env1 vs1) F1 σ H4 := S1.wipe vs1 (fun _ _ => rfl) rfl
  have L1' : Loose M (wipeE env1 vs1) F1 σ D := ⟨L.fresh, L.nF, L.nP, fun i s d e q => L.apart i s d (wipeE_get (fun z => by subst z; cases q) e).1 q⟩
  refine ⟨fun i m H => m = ds.length - i ∧ i ≤ ds.length ∧ ∃ env F' acc accD rest, wipeE env vs1 = env ∧ Sn K M env F' σ H ∧ Same F1 F' ∧ Loose M env F' σ D ∧ H D = some (.lst acc) ∧ RpA K F' (accD0 ++ accD) acc ∧ lcM g1 t1 e1 vs1 (ds.drop i) env = some (ef, rest) ∧ accD ++ rest = out,
    ⟨ds.length, by simp, Nat.zero_le _, wipeE env1 vs1, F1, acc0, [], out, wipeE_idem, S1', Same.refl F1, L1', hD, by rw [List.append_nil]; exact rA, hrun, rfl⟩, ?_⟩
  rintro i m H ⟨rfl, hi, env, F', acc, accD, rest, we, S', s', L, hD, rA, hrun, htot⟩
  have ok' := ok.mono s'
  by_cases c : i < ds.length
  · have ei : ds[i]? = some ds[i] := List.getElem?_eq_getElem c
    rw [List.drop_eq_getElem_cons c] at hrun
    obtain ⟨e2, h3, hrun⟩ := bindS hrun
    obtain ⟨⟨e3, b⟩, h4, hrun⟩ := bindS hrun
    dsimp only at hrun
    refine .inr ⟨ok'.go i _ H S'.sub ei, fun H => ∃ env F' acc accD rest, wipeE env vs1 = env ∧ Sn K M env F' σ H ∧ Same F1 F' ∧ Loose M env F' σ D ∧ H D = some (.lst acc) ∧ RpA K F' (accD0 ++ accD) acc ∧ lcM g1 t1 e1 vs1 (ds.drop (i + 1)) env = some (ef, rest) ∧ accD ++ rest = out, fun H2 w => ⟨_, by omega, rfl, c, w⟩, fun x H2 y => ?_⟩
    have W := (S'.ward L hD).wipe (σ' := wipe σ vs1) vs1 (fun j hj => wipe_get hj) (wipe_length σ vs1)
    rw [we] at W
    obtain ⟨F2, S2, s2, r2⟩ := ok'.step W ei y
    refine hg _ env F2 _ H2 e2 _ x _ S2 r2 h3 fun σ3 F3 H3 S3 s3 w3 l3 => ?_
    have pt : ∀ j, j ∉ vs1 → σ[j]? = σ3[j]? := fun j hj => by rw [w3 j hj, wipe_get hj]
    have ln : σ.length = σ3.length := by rw [l3, wipe_length]
    refine ⟨(wipe_eq pt ln).symm, ?_⟩
    refine ht _ e2 F3 σ3 H3 e3 b _ S3 h4 fun F4 H4 S4 s4 => ?_
    have sA := s'.trans (s2.trans (s3.trans s4))
    cases b with
    | true =>
      rw [if_pos rfl] at hrun ⊢
      obtain ⟨⟨e4, z⟩, h5, hrun⟩ := bindS hrun
      obtain ⟨⟨e5, rest'⟩, h6, hrun⟩ := mapS hrun
      cases hrun
      refine he _ e3 F4 σ3 H4 e4 z _ S4 h5 fun u F5 H5 S5 s5 r5 => ?_
      obtain ⟨S6, L6, d6⟩ := (S5.wipe (σ' := σ) vs1 pt ln).unward L.nP
      have sB := (s2.trans (s3.trans s4)).trans s5
      have hlen : acc.length < sizeLine := by
        have z1 := rA.len
        have z2 : (accD0 ++ (accD ++ z :: rest')).length ≤ sizeLine := by
          rw [htot]
          exact hl
        simp only [List.length_append, List.length_cons] at z1 z2
        omega
      refine ⟨acc, d6, hlen, wipeE e4 vs1, F5, acc ++ [u], accD ++ [z], rest', wipeE_idem, S6.put L6 _, sA.trans s5, L6, upd_same, ?_, h6, ?_⟩
      · rw [← List.append_assoc]
        exact (rA.mono sB _ _).append (.one r5)
      · rw [List.append_assoc]
        exact htot
    | false =>
      rw [if_neg (by decide)] at hrun ⊢
      obtain ⟨S6, L6, d6⟩ := (S4.wipe (σ' := σ) vs1 pt ln).unward L.nP
      exact ⟨wipeE e3 vs1, F4, acc, accD, rest, wipeE_idem, S6, sA, L6, d6, rA.mono (s2.trans (s3.trans s4)) _ _, hrun, htot⟩
  · have e : i = ds.length := by omega
    subst e
    rw [List.drop_length] at hrun
    cases hrun
    rw [List.append_nil] at htot
    subst htot
    exact .inl ⟨ok'.stop _ H S'.sub (Nat.le_refl _), fin F' H acc S' s' L hD rA⟩
theorem r_lc2 {wi wi1 : TI} {tg tg1 : TG} {tt tt1 : TT} {te : TE} {mi mi1 : Ms} {g g1 : Mg} {t t1 : Mb} {e : Mx} (hi : RI K wi mi) (hg : RGw K vs tg g) (ht : RT K tt t) (hi1 : RI K wi1 mi1) (hg1 : RGw K vs1 tg1 g1) (ht1 : RT K tt1 t1) (he : RE K te e) : RO K (tLc2 wi tg tt wi1 tg1 tt1 te vs vs1) (mLc2 mi g t mi1 g1 t1 e vs vs1) := fun M env F σ H env' d Q S ee q => by
  obtain ⟨⟨e1, ds⟩, h1, h⟩ := bindS ee
  obtain ⟨⟨ef, out⟩, h2, h⟩ := bindS h
  split at h
  case isFalse => cases h
  rename_i hl
  cases h
  dsimp only at hl h2
  refine hi M env F σ H e1 ds _ S h1 fun J F1 H1 S1 s1 ok D nD => ?_
  have S1' : Sn K M (wipeE e1 vs) F1 σ H1 := S1.wipe vs (fun _ _ => rfl) rfl
  refine ⟨fun i m H => m = ds.length - i ∧ i ≤ ds.length ∧ ∃ env F' acc accD rest, wipeE env vs = env ∧ Sn K M env F' σ H ∧ Same F1 F' ∧ Loose M env F' σ D ∧ H D = some (.lst acc) ∧ RpA K F' accD acc ∧ lc2M g t mi1 g1 t1 e vs vs1 (ds.drop i) env = some (ef, rest) ∧ accD ++ rest = out,
    ⟨ds.length, by simp, Nat.zero_le _, wipeE e1 vs, F1, [], [], out, wipeE_idem, S1'.raw nD _, Same.refl F1, S1'.loose nD, upd_same, rfl, h2, rfl⟩, ?_⟩
  rintro i m H ⟨rfl, hi, env, F', acc, accD, rest, we, S', s', L, hD, rA, hrun, htot⟩
  have ok' := ok.mono s'
  by_cases c : i < ds.length
  · have ei : ds[i]? = some ds[i] := List.getElem?_eq_getElem c
    rw [List.drop_eq_getElem_cons c] at hrun
    obtain ⟨e2, h3, hrun⟩ := bindS hrun
    obtain ⟨⟨e3, b⟩, h4, hrun⟩ := bindS hrun
    dsimp only at hrun
    refine .inr ⟨ok'.go i _ H S'.sub ei, fun H => ∃ env F' acc accD rest, wipeE env vs = env ∧ Sn K M env F' σ H ∧ Same F1 F' ∧ Loose M env F' σ D ∧ H D = some (.lst acc) ∧ RpA K F' accD acc ∧ lc2M g t mi1 g1 t1 e vs vs1 (ds.drop (i + 1)) env = some (ef, rest) ∧ accD ++ rest = out, fun H2 w => ⟨_, by omega, rfl, c, w⟩, fun x H2 y => ?_⟩
    have W := (S'.ward L hD).wipe (σ' := wipe σ vs) vs (fun j hj => wipe_get hj) (wipe_length σ vs)
    rw [we] at W
    obtain ⟨F2, S2, s2, r2⟩ := ok'.step W ei y
    refine hg _ env F2 _ H2 e2 _ x _ S2 r2 h3 fun σ3 F3 H3 S3 s3 w3 l3 => ?_
    have pt : ∀ j, j ∉ vs → σ[j]? = σ3[j]? := fun j hj => by rw [w3 j hj, wipe_get hj]
    have ln : σ.length = σ3.length := by rw [l3, wipe_length]
    refine ⟨(wipe_eq pt ln).symm, ?_⟩
    refine ht _ e2 F3 σ3 H3 e3 b _ S3 h4 fun F4 H4 S4 s4 => ?_
    have sA := s'.trans (s2.trans (s3.trans s4))
    cases b with
    | true =>
      rw [if_pos rfl] at hrun ⊢
      obtain ⟨⟨e4, ds1⟩, h5, hrun⟩ := bindS hrun
      obtain ⟨⟨e5, out1⟩, h6, hrun⟩ := bindS hrun
      obtain ⟨⟨e6, rest'⟩, h7, hrun⟩ := mapS hrun
      cases hrun
      refine hi1 _ e3 F4 σ3 H4 e4 ds1 _ S4 h5 fun J1 F5 H5 S5 s5 ok1 => ?_
      obtain ⟨S6, L6, d6⟩ := S5.unward L.nP
      have sB := (s2.trans (s3.trans s4)).trans s5
      refine lc_inner (M := M) (D := D) hg1 ht1 he ok1 S6 L6 d6 (rA.mono sB _ _) h6 ?_ fun F7 H7 acc7 S7 s7 L7 hD7 rA7 => ?_
      · have z2 : (accD ++ (out1 ++ rest')).length ≤ sizeLine := by
          rw [htot]
          exact hl
        simp only [List.length_append] at z2 ⊢
        omega
      · have L8 : Loose M (wipeE e5 vs) F7 σ D := ⟨L7.fresh, L7.nF, L7.nP, fun i s d e' q' z => by
          obtain ⟨y1, y2⟩ := wipeE_get (fun z => by subst z; cases q') e'
          rw [pt i y2] at z
          exact L7.apart i s d y1 q' z⟩
        refine ⟨wipeE e5 vs, F7, acc7, accD ++ out1, rest', wipeE_idem, S7.wipe (σ' := σ) vs pt ln, sA.trans (s5.trans s7), L8, hD7, rA7, h7, ?_⟩
        rw [List.append_assoc]
        exact htot
    | false =>
      rw [if_neg (by decide)] at hrun ⊢
      obtain ⟨S6, L6, d6⟩ := (S4.wipe (σ' := σ) vs pt ln).unward L.nP
      exact ⟨wipeE e3 vs, F4, acc, accD, rest, wipeE_idem, S6, sA, L6, d6, rA.mono (s2.trans (s3.trans s4)) _ _, hrun, htot⟩
  · have e : i = ds.length := by omega
    subst e
    rw [List.drop_length] at hrun
    cases hrun
    rw [List.append_nil] at htot
    subst htot
    exact .inl ⟨ok'.stop _ H S'.sub (Nat.le_refl _), q D F' H S' (s1.trans s') L (by rw [hD]; exact .inl ⟨acc, _, rfl, rfl, rA⟩)⟩
end
/-! ### rows of numbers by <= -/
theorem k_leT (K : PySem.W.Frag) {X : Cx} (hu : X.A.units < cLine) (h : X.K = K := by rfl) : OpR X (compareOp .LtE) (rLeT K) := h ▸ op_leT hu
def leAt (ns ms : List Int) : Bool := Ob.lexAt (fun j => decide (ns.getD j 0 = ms.getD j 0)) (fun j => decide (ns.getD j 0 ≤ ms.getD j 0)) (decide (ns.length ≤ ms.length)) 0 (min ns.length ms.length)
def fLeT : Dt → Dt → Option Dt
  | .tuple a, .tuple b => (asInts a).bind fun ns => (asInts b).map fun ms => .bool (leAt ns ms)
  | _, _ => none
theorem o_leT {K : PySem.W.Frag} : R2k K (rLeT K) fLeT := fun M env F σ H x y d e z Q S hx hy hf q => by
  unfold fLeT at hf
  split at hf
  · obtain ⟨ns, h1, h2⟩ := bindS hf
    obtain ⟨ms, h3, h4⟩ := mapS h2
    subst h4
    obtain ⟨a, xs, rfl, h5, h6⟩ := hx.tup S.sub
    obtain ⟨b, ys, rfl, h7, h8⟩ := hy.tup S.sub
    rw [asInts_of h1] at h6
    rw [asInts_of h3] at h8
    rw [h6.ints] at h5
    rw [h8.ints] at h7
    exact ⟨a, b, ns, ms, rfl, rfl, SqT.of h5, SqT.of h7, q _ F H S (Same.refl F) rfl⟩
  · cases hf
/-! ### two fors, backwards -/
theorem w_lc2 {env : Evs} {mi : Ms} {g : Mg} {tt : Mb} {mi1 : Ms} {g1 : Mg} {tt1 : Mb} {te : Mx} {vs vs1 : List Nat} {Q : Evs → Dt → Prop} (k : W2 (mi env) fun e ds => Wi vs e fun e1 => W2 (lc2M g tt mi1 g1 tt1 te vs vs1 ds e1) fun e2 out => Fit out.length (Q e2 (.list out))) : W2 (mLc2 mi g tt mi1 g1 tt1 te vs vs1 env) Q := by
  obtain ⟨e, ds, h1, e2, out, h2, h3, h4⟩ := k
  refine ⟨e2, _, ?_, h4⟩
  unfold mLc2
  rw [h1]
  show (lc2M g tt mi1 g1 tt1 te vs vs1 ds (wipeE e vs)).bind _ = _
  rw [h2]
  exact if_pos h3
theorem lc2_map {env : Evs} {g : Mg} {tt : Mb} {mi1 : Ms} {g1 : Mg} {tt1 : Mb} {te : Mx} {vs vs1 : List Nat} (f : Dt → List Dt) : ∀ ds : List Dt, (∀ d ∈ ds, W1 (g d env) fun e1 => W2 (tt e1) fun e2 t => t = true ∧ W2 (mi1 e2) fun e3 ds1 => Wi vs1 e3 fun e4 => W2 (lcM g1 tt1 te vs1 ds1 e4) fun e5 out => out = f d ∧ wipeE e5 vs = env) → lc2M g tt mi1 g1 tt1 te vs vs1 ds env = some (env, ds.flatMap f)
  | [], _ => rfl
  | d :: ds, h => by
    obtain ⟨e1, h1, e2, t, h2, rfl, e3, ds1, h3, e5, out, h4, rfl, h5⟩ := h d List.mem_cons_self
    have ih := lc2_map f ds fun d' hd => h d' (List.mem_cons_of_mem _ hd)
    unfold lc2M
    rw [h1]
    show (tt e1).bind _ = _
    rw [h2]
    show (mi1 e2).bind _ = _
    rw [h3]
    show (lcM g1 tt1 te vs1 ds1 (wipeE e3 vs1)).bind _ = _
    rw [h4]
    show (lc2M g tt mi1 g1 tt1 te vs vs1 ds (wipeE e5 vs)).map _ = _
    rw [h5, ih]
    rfl
theorem lc2_w {env : Evs} {g : Mg} {tt : Mb} {mi1 : Ms} {g1 : Mg} {tt1 : Mb} {te : Mx} {vs vs1 : List Nat} {Q : Evs → List Dt → Prop} {ds : List Dt} (f : Dt → List Dt) (st : ∀ d ∈ ds, W1 (g d env) fun e1 => W2 (tt e1) fun e2 t => t = true ∧ W2 (mi1 e2) fun e3 ds1 => Wi vs1 e3 fun e4 => W2 (lcM g1 tt1 te vs1 ds1 e4) fun e5 out => out = f d ∧ wipeE e5 vs = env) (k : Q env (ds.flatMap f)) : W2 (lc2M g tt mi1 g1 tt1 te vs vs1 ds env) Q := ⟨env, _, lc2_map f ds st, k⟩

/-! ### generator expressions, whatever their elements are: the frame's context -/
section
open GxR (TabB TabG Tabbed)
open GenW
variable {X : Cx}
/-- the context of a generator expression's frame: A: where it is woken; s, H: as it was made; fp: its iterator's objects; pn: its own object -/
abbrev gxc (X : Cx) (A : Around) (s : Shared) (H : Hp) (cenv : Env) (fp : List Addr) (pn : List (Addr × Obj)) : Cx :=
  { X with A := A.deeper cenv, s_0 := s, H_0 := H, env := cenv, outer := X.stack, stack := cenv :: X.stack, ex := fp, fn := fun _ => false, calm := true, pn := pn, xe := fun _ _ => False }
theorem gx_start {pins : List (Addr × Obj)} {σ : L2.St} {H : Hp} {s s2 : Shared} {scope : Scope} {own : List (Str × Nat)} {fp : List Addr} {A : Around} {code : Value} {cenv : Env} {m0 : Str → Option Value} {pn : List (Addr × Obj)}
    (I : Inv X pins σ H s) (ok : BlkOk X.N X.env.scope scope own) (hN : X.N.Nodup) (hfp : ∀ b ∈ fp, FpOk X pins H b ∧ b < s.heap.objs.size)
    (hA : A.handled = none) (hfr : A.frames = some X.stack) (hce : genEnv scope (cloFrom X.env.cells scope.names []) s.heap.objs.size code builtinsNs X.env = cenv)
    (nc : ∀ y ∈ scope.names, y.2 ≠ NameKind.cell)
    (kp : ∀ b o, s.heap.get? b = some o → s2.heap.get? b = some o) (hn : s2.heap.Ns s.heap.objs.size m0) (os : s2.os = s.os) (hb : AllBare s2.gens)
    (hpn : ∀ p ∈ pn, s2.heap.get? p.1 = some p.2 ∧ s.heap.objs.size < p.1 ∧ ∀ v, p.2.data ≠ .cell v) :
    Inv (gxc X A s H cenv fp pn) [] (wipe σ (own.map (·.2))) H s2 := by
  have hfree : ∀ y ∈ scope.names, y.2 = .free → ∃ c, X.env.cells.lookup y.1 = some c := fun y hy e => by
    rcases ok.free y hy e with k | k
    · exact I.ok.has _ (.inl k)
    · exact I.ok.has _ (.inr k)
  have hL : cenv.locals = s.heap.objs.size := by rw [← hce]; rfl
  have hcl : cenv.cells = cloFrom X.env.cells scope.names [] := by rw [← hce]; rfl
  have hsc : cenv.scope = scope := by rw [← hce]; rfl
  have hfm : cenv.frame = some s.heap.objs.size := by rw [← hce]; rfl
  have cm : ∀ {y c}, (y, c) ∈ cloFrom X.env.cells scope.names [] → X.env.cells.lookup y = some c ∧ c < s.heap.objs.size := fun {y c} hm => by
    rcases cloFrom_mem hm with hm | ⟨h1, rfl⟩
    · cases hm
    · obtain ⟨c, hc⟩ := hfree _ h1 rfl
      rw [hc]
      obtain ⟨w, z⟩ := I.cell _ _ hc
      exact ⟨rfl, z.lt⟩
  have mem : ∀ {y c}, cenv.cells.lookup y = some c → X.env.cells.lookup y = some c ∧ c < s.heap.objs.size := fun {y c} e => by
    rw [hcl] at e
    exact cm (PySem.mem_of_lookup e)
  have look : ∀ {y}, scope.names.lookup y = some .free → ∃ c, cenv.cells.lookup y = some c ∧ X.env.cells.lookup y = some c := fun {y} hl => by
    have hy : (y, NameKind.free) ∈ scope.names := PySem.mem_of_lookup hl
    obtain ⟨c', e'⟩ := mem_lookup (cloFrom_has (cells := X.env.cells) (acc := []) hy)
    rw [← hcl] at e'
    exact ⟨c', e', (mem e').1⟩
  have okB : (gxc X A s H cenv fp pn).Ok := by
    refine ⟨I.ok.mod, by show cenv.scope.kind = _; rw [hsc]; exact ok.kind, by show cenv.globals = _; rw [← hce]; exact I.ok.glob, by show cenv.builtins = _; rw [← hce]; rfl, by show s.heap.objs.size ≤ cenv.locals; rw [hL]; exact Nat.le_refl _,
      fun y z c e1 e2 => I.ok.inj y z c (mem e1).1 (mem e2).1, fun y hy => ?_, fun y c z e => (nomatch z), fun _ => hA, Around.frames_deeper hfr, .inr ⟨rfl, ?_⟩, fun b hb => ⟨?_, fun y c e z => ?_⟩, I.bs, Nat.le_trans I.ok.bsz I.sz, fun b o e hb => ?_, fun b hb z => ?_, I.stack, I.stkFree⟩
    · show ∃ c, cenv.cells.lookup y = some c
      have hy : cenv.kindOf y = some .cell ∨ cenv.kindOf y = some .free := hy
      unfold Env.kindOf at hy
      rw [hsc] at hy
      rcases hy with hy | hy
      · exact absurd rfl (nc _ (PySem.mem_of_lookup hy))
      · obtain ⟨c, h1, _⟩ := look hy
        exact ⟨c, h1⟩
    · show cenv.frame = some cenv.locals
      rw [hfm, hL]
    · show b ≠ cenv.locals
      rw [hL]; exact Nat.ne_of_lt (hfp b hb).2
    · have e : cenv.cells.lookup y = some c := e
      exact (hfp b hb).1.2.2.2.2.1 y c (mem e).1 z
    · rcases (hfp b hb).1.2.2.2.1 with z | z
      · exact I.ok.noex b o e z
      · exact absurd (Nat.lt_of_lt_of_le (Heap.lt_size e) (Nat.le_trans I.ok.bsz z)) (Nat.lt_irrefl _)
    · rcases List.mem_cons.mp (I.stkSub b z) with z | z
      · exact (hfp b hb).1.2.1 z
      · exact (hfp b hb).1.2.2.1 z
  refine ⟨okB, os, hb, Un.kept kp, ⟨m0, ?_, fun i y av e1 e2 e3 => ?_⟩, fun y c e => ?_, ?_, fun y c e => ?_, fun p hp => ?_, I.hok.kept kp, by rw [wipe_length]; exact I.len⟩
  · show Heap.Ns _ cenv.locals _
    rw [hL]
    exact hn
  · obtain ⟨e2, hne⟩ := wipe_some e2
    have no : ∀ k, scope.names.lookup y = some k → ¬ (k = .local ∨ k = .cell) := fun k hk hh => by
      rcases ok.own _ (PySem.mem_of_lookup hk) hh with e' | e'
      · obtain ⟨p, hp, hpy⟩ := List.mem_map.mp e'
        have e3 := ok.ix p hp
        have : p.1 = y := hpy
        rw [this] at e3
        exact hne (List.mem_map.mpr ⟨p, hp, nodup_ix hN e3 e1⟩)
      · exact e' (List.mem_of_getElem? e1)
    have e3 : Vis cenv.scope y := e3
    unfold Vis at e3
    rw [hsc] at e3
    have hfr' : scope.names.lookup y = some .free := by
      rcases e3 with e3 | e3 | e3
      · exact absurd (.inl rfl) (no _ e3)
      · exact absurd (.inr rfl) (no _ e3)
      · exact e3
    obtain ⟨m, hn', hl⟩ := I.loc
    have hvis : Vis X.env.scope y := (ok.free _ (PySem.mem_of_lookup hfr') rfl).elim (fun k => .inr (.inl k)) (fun k => .inr (.inr k))
    obtain ⟨w, r, q⟩ := hl i y av e1 e2 hvis
    refine ⟨w, r, .inr ⟨.inr (by show cenv.kindOf y = _; unfold Env.kindOf; rw [hsc]; exact hfr'), ?_⟩⟩
    obtain ⟨c, h1, h2⟩ := look hfr'
    rcases q with ⟨k, _⟩ | ⟨_, c', e', z⟩
    · have k : X.env.scope.names.lookup y = some .local := k
      rcases ok.free _ (PySem.mem_of_lookup hfr') rfl with k' | k' <;> rw [show X.env.scope.names.lookup y = _ from k'] at k <;> cases k
    · rw [h2] at e'; cases e'
      exact ⟨c, h1, z.keeps kp⟩
  · have e : cenv.cells.lookup y = some c := e
    obtain ⟨w, z⟩ := I.cell y c (mem e).1
    exact ⟨w, z.keeps kp⟩
  · show H cenv.locals = none
    rw [hL]; exact I.hok.fresh (Nat.le_refl _)
  · have e : cenv.cells.lookup y = some c := e
    exact I.freeC y c (mem e).1
  · have hp : p ∈ pn ++ [] := hp
    rw [List.append_nil] at hp
    obtain ⟨h1, h2, h3⟩ := hpn p hp
    refine ⟨h1, I.hok.fresh (Nat.le_of_lt h2), ?_, fun z => ?_, h3⟩
    · show p.1 ≠ cenv.locals
      rw [hL]; exact Nat.ne_of_gt h2
    · have z : p.1 ∈ frs X.stack := z
      rcases List.mem_cons.mp (I.stkSub p.1 z) with y | y
      · have h4 : X.env.locals < s.heap.objs.size := I.lt
        have h5 : p.1 = X.env.locals := y
        rw [← h5] at h4
        exact absurd h4 (Nat.lt_asymm h2)
      · exact I.nofs (Nat.le_of_lt h2) y
theorem over_gx {A : Around} {elt : Expr} {gs : List Comprehension} {scope : Scope} {pos : Pos} {it acc : Value} {env : Env} : A.over (.compLoop (.GeneratorExp elt gs scope pos) 0 it acc env) [] = A.deeper env := by
  first
    | rfl
    | (obtain ⟨hd, d, fr, gs, u⟩ := A; simp [Around.over, Around.deeper, marksOver, frameCount, unitsOf, envsOf, guardsOf, pushEnvs, pushGuards, Code.envs, Code.env?, Code.isFrame, Code.guards, Code.isGuard, Code.weight, Code.frames, Code.isCreation, Code.isCaller, Code.cUnits])
theorem over_gs {A : Around} {elt : Expr} {gs : List Comprehension} {scope : Scope} {pos : Pos} {it acc : Value} {env : Env} : A.over (.compStart (.GeneratorExp elt gs scope pos) 0 it acc env) [] = A.deeper env := by
  first
    | rfl
    | (obtain ⟨hd, d, fr, gs, u⟩ := A; simp [Around.over, Around.deeper, marksOver, frameCount, unitsOf, envsOf, guardsOf, pushEnvs, pushGuards, Code.envs, Code.env?, Code.isFrame, Code.guards, Code.isGuard, Code.weight, Code.frames, Code.isCreation, Code.isCaller, Code.cUnits])
end

/-! ### generator expressions: the walk of the frame -/
section
open GxR (TabB TabG Tabbed)
open GenW
/-- what is walked: J's items, each taken by g, tested by tt, told by te; cont: what the end wants of all that was handed out -/
def GxTurn (J : It) (g : TG) (tt : TT) (te : TE) (σ : L2.St) (vs : List Nat) (cont : List V → Hp → Prop) (W : Nat → Nat → List V → Hp → Prop) : Prop :=
  ∀ i m ys H, W i m ys H → ys.length ≤ sizeLine ∧ ((J.stop i H ∧ cont ys H) ∨
    (J.go i H ∧ ∃ Nx : List V → Hp → Prop, (∀ ys' H', Nx ys' H' → ∃ m', m' < m ∧ W (i + 1) m' ys' H') ∧ ∀ x H', J.yld i H x H' → g x (wipe σ vs) H' fun σ2 H2 => wipe σ2 vs = wipe σ vs ∧ tt σ2 H2 fun b H3 =>
      if b = true then te σ2 H3 fun y H4 => ys.length < sizeLine ∧ Nx (ys ++ [y]) H4 else Nx ys H3))
theorem gx_loop {X : Cx} {A : Around} {sc : Shared} {H0 : Hp} {cenv : Env} {fp : List Addr} {a S it : Addr} {gi : Nat} {go : Obj} {tg elt iter : Expr} {ifs : List Expr} {scope : Scope} {pos : Pos} {J : It} {tn : Nat → Heap → Prop} {g : TG} {tt : TT} {te : TE}
    {σ : L2.St} {vs : List Nat} {cont : List V → Hp → Prop} {W : Nat → Nat → List V → Hp → Prop}
    (T : Turn X.prog X.w X.K tg J fp it tn) (pg : PG (gxc X A sc H0 cenv fp [(a, go)]) tg g) (pt : PTs (gxc X A sc H0 cenv fp [(a, go)]) ifs tt) (pe : PE (gxc X A sc H0 cenv fp [(a, go)]) elt te)
    (hgen : ∀ h : Heap, h.get? a = some go → h.IsGen a gi) (hco : cenv.scope.isCoroutine = false) (hap : Apart (gxc X A sc H0 cenv fp [(a, go)]) S) (haS : a ≠ S) (hfS : ∀ b ∈ fp, b ≠ S) (hfa : ∀ b ∈ fp, b ≠ a)
    (turn : GxTurn J g tt te σ vs cont W) :
    ∀ (m n i : Nat) (ys : List V) (H : Hp) (s s₀ : Shared), n + ys.length = sizeLine → W i m ys H → GI (gxc X A sc H0 cenv fp [(a, go)]) S [] ys (wipe σ vs) H s → tn i s.heap → (∀ b ∈ fp, H b = none) →
      Seg (model X.prog X.w) A (REnd X.prog X.w X.stack H0 sc fp S a gi cont (fun _ _ _ => False)) (YItem sc S a gi) n s₀ (.compLoop (.GeneratorExp elt [⟨tg, iter, ifs, 0⟩] scope pos) 0 (.ref it) .none cenv)
        ((model X.prog X.w).den (.compLoop (.GeneratorExp elt [⟨tg, iter, ifs, 0⟩] scope pos) 0 (.ref it) .none cenv)) [] s := by
  intro m
  induction m using Nat.strongRecOn with
  | ind m ih =>
  intro n i ys H s s₀ hn w hG st nf
  obtain ⟨acc, cc, r, I⟩ := hG
  have stat : ∀ {σ' : L2.St} {H' : Hp} {s' : Shared}, Inv (gxc X A sc H0 cenv fp [(a, go)]) [(S, lstObj acc cc)] σ' H' s' → (∀ b ∈ fp, H' b = none) → ∀ b ∈ fp, FpOk (gxc X A sc H0 cenv fp [(a, go)]) [(S, lstObj acc cc)] H' b := fun {σ' H' s'} I' hn b hb =>
    ⟨hn b hb, (I'.ok.exf b hb).1, I'.ok.exfs b hb, .inl hb, fun x c e => (I'.ok.exf b hb).2 x c e, fun p hp z => by
      have hp : p ∈ [(a, go), (S, lstObj acc cc)] := hp
      rcases List.mem_cons.mp hp with y | y
      · rw [y] at z
        exact hfa b hb z.symm
      · rw [List.mem_singleton.mp y] at z
        exact hfS b hb z.symm⟩
  have pinS : ∀ {pl : List (Addr × Obj)} {σ' : L2.St} {H' : Hp} {s' : Shared}, Inv (gxc X A sc H0 cenv fp [(a, go)]) ((S, lstObj acc cc) :: pl) σ' H' s' → s'.heap.get? S = some (lstObj acc cc) ∧ H' S = none := fun {pl σ' H' s'} I' =>
    let z := I'.pin (S, lstObj acc cc) (List.mem_append_right _ List.mem_cons_self)
    ⟨z.1, z.2.1⟩
  obtain ⟨hl0, turn'⟩ := turn i m ys H w
  show Seg _ A _ _ _ s₀ _ ((compTurn (.GeneratorExp elt [⟨tg, iter, ifs, 0⟩] scope pos) 0 (.ref it) .none cenv).onRaise (leaving cenv)) [] s
  rw [compTurn_gen, Sem.onRaise_eq_wrap]
  refine seg_bind_wrap (wpAny_standAt ?_)
  rcases turn' with ⟨stop, q⟩ | ⟨go_, Nx, hNx, step⟩
  · refine seg_bind_wrap ?_
    rw [over_gx]
    refine wpAny_mono (T.done (gxc X A sc H0 cenv fp [(a, go)]) rfl rfl rfl rfl i [(S, lstObj acc cc)] s _ H (fun _ _ => False) I (stat I nf) st stop) (fun r' s6 h6 => ?_) (fun _ _ z => z.elim)
    obtain ⟨hr, I6⟩ := h6
    subst hr
    exact seg_end (.ok .next) (.inl ⟨.inr rfl, H, ys, acc, cc, I6.os, I6.bare, I6.base, I6.hok, (pinS I6).2, (pinS I6).1, r, hl0, q⟩)
  · refine seg_bind_wrap ?_
    rw [over_gx]
    refine wpAny_mono (T.item (gxc X A sc H0 cenv fp [(a, go)]) rfl rfl rfl rfl i [(S, lstObj acc cc)] s _ H (fun _ _ => False) I (stat I nf) st go_) (fun r' s6 h6 => ?_) (fun _ _ z => z.elim)
    obtain ⟨u, hr, h6⟩ := h6
    subst hr
    refine seg_bind_wrap ?_
    rw [over_gx]
    refine wpAny_mono h6 (fun _ s7 h7 => ?_) (fun _ _ z => z.elim)
    obtain ⟨x, H7, I7, r7, y7, st7, n7⟩ := h7
    have I7' := I7.pinned (stat I7 n7) (T.obj _ _ st7)
    refine seg_bind_wrap ?_
    rw [over_gx]
    refine wpAny_mono (pg.run _ s7 _ H7 x u _ I7' r7 (step x H7 y7)) (fun _ s8 h8 => ?_) (fun _ _ z => z.elim)
    obtain ⟨σ8, H8, I8, hw8, q8⟩ := h8
    refine seg_bind_wrap ?_
    rw [over_gx]
    refine wpAny_mono (pt.run _ s8 σ8 H8 _ I8 q8) (fun b s9 h9 => ?_) (fun _ _ z => z.elim)
    obtain ⟨H9, I9, q9⟩ := h9
    -- the turn's end
    have fin : ∀ {ys' : List V} {s' : Shared} {H' : Hp} {n' : Nat} {s₀' : Shared}, n' + ys'.length = sizeLine → GI (gxc X A sc H0 cenv fp [(a, go)]) S (pinsAt fp s7.heap) ys' σ8 H' s' → Nx ys' H' →
        Seg (model X.prog X.w) A (REnd X.prog X.w X.stack H0 sc fp S a gi cont (fun _ _ _ => False)) (YItem sc S a gi) n' s₀' (.compLoop (.GeneratorExp elt [⟨tg, iter, ifs, 0⟩] scope pos) 0 (.ref it) .none cenv)
          ((model X.prog X.w).den (.compLoop (.GeneratorExp elt [⟨tg, iter, ifs, 0⟩] scope pos) 0 (.ref it) .none cenv)) [] s' := fun {ys' s' H' n' s₀'} hn' G' nx => by
      obtain ⟨m', hm, w'⟩ := hNx ys' H' nx
      obtain ⟨acc', cc', r', I'⟩ := G'
      have pin' : ∀ b ∈ fp, ∀ o, s7.heap.get? b = some o → s'.heap.get? b = some o ∧ H' b = none := fun b hb o e =>
        let z := I'.pin (b, o) (List.mem_append_right _ (List.mem_cons_of_mem _ (mem_pinsAt hb e)))
        ⟨z.1, z.2.1⟩
      have hlw : (wipe σ vs).length = σ8.length := by rw [← hw8, wipe_length]
      have I'' : Inv (gxc X A sc H0 cenv fp [(a, go)]) [(S, lstObj acc' cc')] (wipe σ vs) H' s' := (Inv.unpinned (pins := [(S, lstObj acc' cc')]) (pl := pinsAt fp s7.heap) I').weak hlw fun j v e => by
        rw [← hw8] at e
        exact (wipe_some e).1
      refine ih m' hm n' (i + 1) ys' H' s' s₀' hn' w' ⟨acc', cc', r', I''⟩ (T.keep _ _ _ st7 fun b hb o e => (pin' b hb o e).1) fun b hb => ?_
      obtain ⟨o, e, _⟩ := T.obj _ _ st7 b hb
      exact (pin' b hb o e).2
    cases b with
    | false =>
      simp only [Bool.false_eq_true, if_false] at q9 ⊢
      exact seg_again rfl (fin hn ⟨acc, cc, r, I9⟩ q9)
    | true =>
      simp only [if_true] at q9 ⊢
      have hy : ∀ v, yieldOut cenv v = yieldValue v := fun v => by simp only [yieldOut, hco, Bool.false_eq_true, if_false]
      simp only [hy]
      rw [Sem.bind_eq_wrap', Sem.bind_eq_wrap', Sem.wrap_wrap, Sem.wrap_wrap]
      refine seg_wrap ?_
      rw [over_gx]
      refine wpAny_mono (pe.run _ s9 σ8 H9 _ I9 q9) (fun z s10 h10 => ?_) (fun _ _ z => z.elim)
      obtain ⟨yv, H10, I10, r10, hl, nx⟩ := h10
      obtain ⟨n', rfl⟩ : ∃ n', n = n' + 1 := ⟨n - 1, by omega⟩
      have G10 : GI (gxc X A sc H0 cenv fp [(a, go)]) S (pinsAt fp s7.heap) ys σ8 H10 s10 := ⟨acc, cc, r, I10⟩
      have hsz : acc.size = ys.length := by
        have e1 := r.length
        have e2 : acc.toList.length = acc.size := by simp
        omega
      refine seg_at (seg_yield rfl rfl rfl ⟨I10.os, I10.bare, I10.nolimit, hgen _ (I10.pin (a, go) (List.mem_append_left _ (List.mem_singleton.mpr rfl))).1, ⟨acc, cc, (pinS I10).1, by rw [hsz]; exact hn⟩, fun s' sl => ?_⟩)
      refine seg_again rfl (fin (ys' := ys ++ [yv]) (by rw [List.length_append, List.length_singleton]; omega) (GI.woken (fun p hp => ?_) (fun p hp => hfS p.1 (of_pinsAt hp).1) hap G10 r10 sl) nx)
      have hp : p ∈ [(a, go)] := hp
      rw [List.mem_singleton.mp hp]
      exact haS
theorem gx_begin {X : Cx} {A : Around} {cenv : Env} {fp : List Addr} {it : Addr} {n : Nat} {tg elt iter : Expr} {ifs : List Expr} {scope : Scope} {pos : Pos} {J : It} {tn : Nat → Heap → Prop} {R : GenEnd} {Y : Protocol} {s s₀ : Shared}
    (T : Turn X.prog X.w X.K tg J fp it tn) (st : tn 0 s.heap)
    (loop : Seg (model X.prog X.w) A R Y n s₀ (.compLoop (.GeneratorExp elt [⟨tg, iter, ifs, 0⟩] scope pos) 0 (.ref it) .none cenv)
        ((model X.prog X.w).den (.compLoop (.GeneratorExp elt [⟨tg, iter, ifs, 0⟩] scope pos) 0 (.ref it) .none cenv)) [] s) :
    Seg (model X.prog X.w) A R Y n s₀ (.compStart (.GeneratorExp elt [⟨tg, iter, ifs, 0⟩] scope pos) 0 (.ref it) .none cenv)
        ((model X.prog X.w).den (.compStart (.GeneratorExp elt [⟨tg, iter, ifs, 0⟩] scope pos) 0 (.ref it) .none cenv)) [] s := by
  show Seg _ A _ _ _ s₀ _ ((compStart (.GeneratorExp elt [⟨tg, iter, ifs, 0⟩] scope pos) 0 (.ref it) .none cenv).onRaise (leaving cenv)) [] s
  unfold compStart
  rw [Sem.onRaise_eq_wrap]
  show Seg _ A _ _ _ s₀ _ ((ask >>= _).wrap _ _ _ _) [] s
  refine seg_bind_wrap (wpAny_askSetting ?_)
  split
  · exact seg_again rfl loop
  · first
      | exact seg_bind_wrap (wpAny_rule (seg_bind_wrap (wpAny_standAt (seg_bind_wrap (T.self _ 0 s _ _ st (seg_again rfl loop))))))
      | (refine seg_bind_wrap (wpAny_rule ?_); show Seg _ A _ _ _ s₀ _ ((standAt iter.pos >>= _).wrap _ _ _ _) [] s; exact seg_bind_wrap (wpAny_standAt (seg_bind_wrap (T.self _ 0 s _ _ st (seg_again rfl loop)))))
end

/-! ### tuple(generator expression) -/
section
open GxR (TabB TabG Tabbed)
open GenW
/-- a generator that has not begun: what it wants where it is woken -/
def GxMade (P : Program) (w : World) (k : Nat) (outer : List Env) (H : Hp) (s : Shared) (ex : List Addr) (Q : List V → Hp → Prop) (u : Value) (s' : Shared) : Prop :=
  ∃ (a : Addr) (g : Nat) (c : Code), u = .ref a ∧ s.heap.objs.size ≤ a ∧ a < s'.heap.objs.size ∧ s'.heap.IsGen a g ∧ s'.gens[g]? = some (.fresh c) ∧ s'.os = s.os ∧ AllBare s'.gens ∧ s'.heap.NoLimit ∧ (∀ b o, s.heap.get? b = some o → s'.heap.get? b = some o) ∧
    ∀ (A : Around) (S : Addr) (s2 : Shared), Room k A → A.guards = some [] → A.frames = some outer → s'.heap.objs.size ≤ S → (∀ b o, s'.heap.get? b = some o → s2.heap.get? b = some o) → (∃ c, s2.heap.get? S = some (lstObj #[] c)) → s2.os = s.os → AllBare s2.gens →
      Seg (model P w) A (REnd P w outer H s ex S a g Q (fun _ _ _ => False)) (YItem s S a g) sizeLine s2 c ((model P w).den c) [] s2
theorem cx_no {P : Program} {w : World} {outer : List Env} {H : Hp} {s s' : Shared} {e : Value} (h : CX P w outer H s (fun _ _ _ => False) e s') : False := by
  obtain ⟨_, _, _, _, _, _, _, _, _, _, _, _, z⟩ := h
  exact z
theorem collect_gx {P : Program} {w : World} {outer : List Env} {H : Hp} {sc s : Shared} {ex : List Addr} {Q : List V → Hp → Prop} {A : Around} {k : Nat} {a : Addr} {Q' : List Value → Shared → Prop} {E : Value → Shared → Prop}
    (hr : Room (k + 1) A) (hg0 : A.guards = some []) (hfr : A.frames = some outer) (h : GxMade P w k outer H sc ex Q (.ref a) s)
    (hQ : ∀ (s' : Shared) (acc : List Value) (H' : Hp) (ys : List V), s.heap.objs.size ≤ s'.heap.objs.size → Vals ys acc → ys.length ≤ sizeLine → s'.os = sc.os → AllBare s'.gens → Un (frs outer) ex H H' sc.heap s'.heap → HOk P w H' s'.heap → Q ys H' → Q' acc s') :
    wpAny (model P w) A (collect (.ref a)) Q' E s := by
  obtain ⟨a', g, c, ea, ha1, ha2, hg, hgs, hos, hb, hl, hkp, wake⟩ := h
  cases ea
  have hSa : s.heap.objs.size ≠ a := Nat.ne_of_gt ha2
  have hcl : cStatics < s.heap.objs.size := let ⟨_, hn, _⟩ := hl; hn.lt
  have hSc : s.heap.objs.size ≠ cStatics := Nat.ne_of_gt hcl
  unfold collect
  refine wpAny_bind (wpAny_runValue (codeAny_builtin F.entry_proto_collect ?_))
  rw [Around.under_plainId F.plain_proto_collect _]
  show wpAny _ A.in1 (newList [] >>= fun l => again (.builtin "list.__iadd__" ⟨[l, .ref a], []⟩)) _ _ s
  refine wpAny_bind (wpAny_newObj_type ?_)
  refine wpAny_pure ⟨plainId_quiet F.plain_list_iadd _, codeAny_builtin F.entry_list_iadd ?_⟩
  rw [Around.under_plainId F.plain_list_iadd _]
  show wpAny _ A.in1 (Builtin.List.listExtendWith (.ref s.heap.objs.size) (.ref a) (.ref s.heap.objs.size)) _ _ _
  unfold Builtin.List.listExtendWith
  have up : ∀ (h : Heap) (f : Obj → Obj), (∀ b o, s.heap.get? b = some o → h.get? b = some o) → ∀ b o, s.heap.get? b = some o → (h.update s.heap.objs.size f).get? b = some o := fun h f q b o e =>
    (Heap.get?_update_other _ _ (Ne.symm (Nat.ne_of_lt (Heap.lt_size e)))).trans (q b o e)
  have k1 : ∀ b o, s.heap.get? b = some o → (s.heap.push { cls := .type "list", data := .seq ([] : List Value).toArray }).get? b = some o := fun b o e => Heap.get?_push_of_some _ e
  have gty : ∀ {h : Heap}, (∀ b o, s.heap.get? b = some o → h.get? b = some o) → h.IsGen a g := fun {h} q => hg.keeps q
  refine wpAny_bind (wpAny_typeOf (Heap.IsGen.typeIs (s := { s with heap := _ }) (gty k1)) ?_)
  have h1 : Builtin.List.listSameRef (.ref s.heap.objs.size) (.ref a) = false := by simp [Builtin.List.listSameRef, hSa]
  have h2 : (Value.type "generator" == Value.type "list") = false := by decide
  have h3 : (Value.type "generator" == Value.type "tuple") = false := by decide
  simp only [h1, h2, h3, Bool.or_false, Bool.false_eq_true, if_false]
  refine wpAny_bind (wpAny_pyIter_gen (s := { s with heap := _ }) (gty k1) ?_)
  refine wpAny_bind (wpAny_holding ?_)
  unfold Builtin.List.listLengthHint
  refine wpAny_bind (wpAny_specialOf (Heap.IsGen.typeIs (s := { s with heap := _ }) (gty k1)) F.gen_no_len ?_)
  show wpAny _ A.in1 (specialOf (Value.ref a) (Str.ofString "__length_hint__") >>= _) _ _ _
  refine wpAny_bind (wpAny_specialOf (Heap.IsGen.typeIs (s := { s with heap := _ }) (gty k1)) F.gen_no_hint ?_)
  refine wpAny_pure ?_
  show wpAny _ A.in1 (rule "list.extend.makes-room" >>= fun _ => Builtin.List.listTouch (.ref s.heap.objs.size) >>= fun _ =>
    again (.builtin "list.extend.loop" ⟨[.ref s.heap.objs.size, .ref a, .ref s.heap.objs.size], []⟩)) _ _ _
  refine wpAny_bind (wpAny_rule ?_)
  have hS₁ : (s.heap.push { cls := .type "list", data := .seq ([] : List Value).toArray }).get? s.heap.objs.size = some { cls := .type "list", data := .seq ([] : List Value).toArray } := Heap.get?_push_size _ rfl
  refine wpAny_bind ?_
  show wpAny _ A.in1 (updateSeq s.heap.objs.size (·.push .none) >>= fun _ => updateSeq s.heap.objs.size (·.pop)) _ _ _
  refine wpAny_bind (wpAny_updateSeq hS₁ rfl ?_)
  have hS₂ := Heap.get?_update_self (Obj.mapSeq (·.push Value.none)) hS₁ rfl
  refine wpAny_updateSeq hS₂ rfl ?_
  have hS₃ := Heap.get?_update_self (Obj.mapSeq (·.pop)) hS₂ rfl
  have k4 := up _ (Obj.mapSeq (·.pop)) (up _ (Obj.mapSeq (·.push Value.none)) k1)
  have hrD : Room k A.in1.in1 := ⟨hr.hd, by have := hr.dp; show A.depth + 3 * k + 5 < _; omega, by have := hr.un; show A.units + 1 + 1 + 16 * k + 200 < _; omega⟩
  refine wpAny_pure ⟨plainId_quiet F.plain_extend_loop _, ?_⟩
  refine drain (P := P) (w := w) (outer := outer) (H := H) (sc := sc) (ex := ex) (Q := Q) (EX := fun _ _ _ => False) (A := A) (g := g) hr.hd (by have := hr.dp; omega) hSa hSc
    (fun s' acc c H' ys q1 q2 q3 q4 q5 q6 q7 q8 q9 => ?_) (fun e s' hc => (cx_no hc).elim) sizeLine _ (gty k4) (hl.keeps k4) ⟨_, hgs, rfl, ?_⟩
  · show wpAny _ A (load s.heap.objs.size >>= _) _ _ s'
    refine wpAny_bind (wpAny_load q1 ?_)
    exact wpAny_pure (hQ s' acc.toList H' ys (Nat.le_of_lt (Heap.lt_size q1)) q2 q3 q4 q5 q6 q7 q9)
  · exact wake _ _ _ hrD hg0 hfr (Nat.le_refl _) k4 ⟨_, hS₃⟩ hos (allBare_setGen (s := { s with heap := _ }) hb rfl)
theorem code_tuple_gx {P : Program} {w : World} {outer : List Env} {H : Hp} {sc s : Shared} {ex : List Addr} {Q : List V → Hp → Prop} {A : Around} {k : Nat} {a : Addr} {Q₁ : Value → Shared → Prop} {E : Value → Shared → Prop}
    (hr : Room (k + 1) A.in1) (hg0 : A.guards = some []) (hfr : A.frames = some outer) (hM : GxMade P w k outer H sc ex Q (.ref a) s)
    (h : ∀ (s' : Shared) (acc : List Value) (H' : Hp) (ys : List V), s.heap.objs.size ≤ s'.heap.objs.size → Vals ys acc → ys.length ≤ sizeLine → s'.os = sc.os → AllBare s'.gens → Un (frs outer) ex H H' sc.heap s'.heap → HOk P w H' s'.heap → Q ys H' →
      Q₁ (.ref s'.heap.objs.size) { s' with heap := s'.heap.push { cls := .type "tuple", data := .seq acc.toArray } }) :
    codeAny (model P w) A (.call (.builtin "tuple.__new__") ⟨[.type "tuple", .ref a], []⟩) (wants Q₁ E) s := by
  refine codeAny_of_tree ?_
  show wpAny _ A.in1 (do checkBuiltinCall "tuple.__new__" ⟨[.type "tuple", .ref a], []⟩; again (.builtin "tuple.__new__" ⟨[.type "tuple", .ref a], []⟩)) _ _ s
  refine wpAny_bind (wpAny_of_eq (F.newCall_tuple_1 _) (wpAny_pure ⟨plainId_quiet F.plain_tuple_new _, codeAny_builtin F.entry_tuple_new ?_⟩))
  rw [Around.under_plainId F.plain_tuple_new _]
  have hsub := sub_tuple_self
  have hinit := init_tuple_lookup
  have hmh := madeHere_tuple
  have hTI : s.TypeIs (.ref a) "generator" := by
    obtain ⟨a', g, c, ea, _, _, hg, _⟩ := hM
    cases ea
    exact hg.typeIs
  have col : ∀ {E' : Value → Shared → Prop} {Q' : List Value → Shared → Prop}, (∀ (s' : Shared) (acc : List Value) (H' : Hp) (ys : List V), s.heap.objs.size ≤ s'.heap.objs.size → Vals ys acc → ys.length ≤ sizeLine → s'.os = sc.os → AllBare s'.gens → Un (frs outer) ex H H' sc.heap s'.heap → HOk P w H' s'.heap → Q ys H' → Q' acc s') →
      wpAny (model P w) A.in1 (collect (.ref a)) Q' E' s := fun {E' Q'} z => collect_gx hr hg0 hfr hM z
  wp_walk using wpAny_typeOf hTI, col
  intro s' acc H' ys z1 z2 z3 z4 z5 z6 z7 z8
  show wpAny _ _ (Builtin.Tuple.tupleExact acc.toArray >>= fun v => ret v) _ _ _
  unfold Builtin.Tuple.tupleExact
  refine wpAny_bind (wpAny_newObj_type ?_ (by show acc.toArray.size ≤ sizeLine; rw [List.size_toArray, ← z2.length]; exact z3))
  refine wpAny_pure ?_
  exact h s' acc H' ys z1 z2 z3 z4 z5 z6 z7 z8
theorem call_tuple_gx {P : Program} {w : World} {outer : List Env} {H : Hp} {sc s : Shared} {ex : List Addr} {Q : List V → Hp → Prop} {A : Around} {k : Nat} {a : Addr} {Q' : Value → Shared → Prop} {E : Value → Shared → Prop}
    (hr : Room (k + 1) A.in1.in1) (hg0 : A.guards = some []) (hfr : A.frames = some outer) (hM : GxMade P w k outer H sc ex Q (.ref a) s)
    (h : ∀ (s' : Shared) (acc : List Value) (H' : Hp) (ys : List V), s.heap.objs.size ≤ s'.heap.objs.size → Vals ys acc → ys.length ≤ sizeLine → s'.os = sc.os → AllBare s'.gens → Un (frs outer) ex H H' sc.heap s'.heap → HOk P w H' s'.heap → Q ys H' →
      Q' (.ref s'.heap.objs.size) { s' with heap := s'.heap.push { cls := .type "tuple", data := .seq acc.toArray } }) :
    wpAny (model P w) A (call (.type "tuple") [.ref a]) Q' E s := by
  refine callType_codes (Q₁ := fun obj s₁ => s₁.TypeIs obj "tuple" ∧ Q' obj s₁) F.called_tuple (F.typeCall_tuple_1 _) F.entry_object_init
    (code_tuple_gx hr hg0 hfr hM fun s' acc H' ys z1 z2 z3 z4 z5 z6 z7 z8 => ⟨⟨_, Heap.get?_push_size _ rfl, rfl⟩, h s' acc H' ys z1 z2 z3 z4 z5 z6 z7 z8⟩) fun obj s₁ h₁ => ?_
  exact ⟨h₁.1, F.args_object_init_2 obj _, object_init_meets F.called_tuple.init.lookup F.called_tuple.made (by decide) P w A.in1 _ s₁ ⟨h₁.1, rfl, h₁.2⟩⟩
/-- the scope of a generator expression: no cell of its own, its walked thing at «.0» -/
structure GxS (scope : Scope) : Prop where
  co : scope.isCoroutine = false
  cell : ∀ y ∈ scope.names, y.2 ≠ NameKind.cell
  dot : scope.names.lookup (".0" : Str) = some NameKind.local
/-- what tuple(elt for tg in iter if ..) asks -/
def tGx (P : Addr) (wi : TI) (g : TG) (tt : TT) (te : TE) (vs : List Nat) : TE := fun σ H Q => wi σ H fun J H1 => TabG H1 P ∧ ∀ H2, Tabbed P H1 H2 →
  ∃ W : Nat → Nat → List V → Hp → Prop, (∃ m, W 0 m [] H2) ∧ GxTurn J g tt te σ vs (fun ys H' => ∀ p, H' p = none → Q (.ref p) (upd H' p (.tup ys))) W
theorem pe_tupGx {X : Cx} {c P : Addr} {elt tg iter : Expr} {ifs : List Expr} {p pos gpos : Pos} {scope : Scope} {own : List (Str × Nat)} {k : Nat} {wi : TI} {g : TG} {tt : TT} {te : TE}
    (hr : Room (k + 3) X.A) (gd : X.A.guards = some []) (hg : Gl X "tuple") (hm : X.mg "tuple" = none) (TB : TabB X.base X.mg c P) (hcode : X.env.code = .ref c) (GS : GxS scope) (hN : X.N.Nodup)
    (hi : PI X tg iter wi) (ok : BlkOk X.N X.env.scope scope own)
    (hgx : ∀ (A : Around) (s : Shared) (H : Hp) (C : Addr) (cl : List (Str × Addr)) (code : Value) (fp : List Addr) (pn : List (Addr × Obj)), Room k (gxc X A s H (genEnv scope cl C code builtinsNs X.env) fp pn).A → (gxc X A s H (genEnv scope cl C code builtinsNs X.env) fp pn).A.guards = some [] →
      PG (gxc X A s H (genEnv scope cl C code builtinsNs X.env) fp pn) tg g ∧ PTs (gxc X A s H (genEnv scope cl C code builtinsNs X.env) fp pn) ifs tt ∧ PE (gxc X A s H (genEnv scope cl C code builtinsNs X.env) fp pn) elt te)
    (hs : ∀ v, genFold iter X.env v = pure v := by intro _; rfl)
    (he : starEach [.GeneratorExp elt [⟨tg, iter, ifs, 0⟩] scope gpos] X.env = (false, eval (.GeneratorExp elt [⟨tg, iter, ifs, 0⟩] scope gpos) X.env) :: starEach [] X.env := by rfl) :
    PE X (.Call (.Name "tuple" p) [.GeneratorExp elt [⟨tg, iter, ifs, 0⟩] scope gpos] [] pos) (tGx P wi g tt te (own.map (·.2))) := by
  refine ⟨fun pins s σ H Q I h => ?_⟩
  have hfree : ∀ y ∈ scope.names, y.2 = .free → ∃ c, X.env.cells.lookup y.1 = some c := fun y hy e => by
    rcases ok.free y hy e with k | k
    · exact I.ok.has _ (.inl k)
    · exact I.ok.has _ (.inr k)
  refine Call_ (ld_blt I hg hm boot_tuple (PyProof.Rows.callWith_type1 ?_ he (by rfl)))
  rw [he]
  show wpAny _ _ (spliced ((false, eval (.GeneratorExp elt [⟨tg, iter, ifs, 0⟩] scope gpos) X.env) :: backTo pos (starEach [] X.env))) _ _ s
  refine Calls.spliced_cons ?_
  refine wpAny_GeneratorExp_make GS.co (closure_ok hfree) GS.cell GS.dot ok.kind (by have := hr.dp; omega) ?_ hs
  refine thn (hi.run pins s σ H _ I h) fun xv s1 hx => thn hx fun itv s2 h2 => ?_
  obtain ⟨it, fp, tn, J, H2, rfl, I2, T, st2, f2, ⟨ps, hP, ht⟩, q⟩ := h2
  refine ⟨I2.nolimit, ?_⟩
  have hPs : s2.heap.get? P = some { cls := .none, data := .fields ps } := I2.hok P _ hP
  have lP : P < s2.heap.objs.size := Heap.lt_size hPs
  have cd : PySem.W.CodeHd s2.heap c P := TB.code.keeps fun b u e => I2.bk b u e
  have nP : ∀ b, H2 b = none → b ≠ P := fun b e z => by
    rw [z, hP] at e
    cases e
  have go : ∀ (code : Value) (h3 : Heap) (tk : Nat) (more : Array Value), Heap.ExtBut P s2.heap h3 → s2.heap.objs.size ≤ h3.objs.size →
      h3.get? P = some { cls := .none, data := .fields (ps ++ more) } → TriplesOk (ps ++ more).toList →
      wpAny (model X.prog X.w) X.A (builtinsFor X.env.globals X.env.builtins) (fun bi s₄ => ∀ h', h'.Ns s₄.heap.objs.size (fun y => if y = ".0" then some (.ref it) else none) → Heap.SameBut s₄.heap.objs.size (s₄.heap.push { cls := .type "frame", data := .dict #[] }) h' →
        wpAny (model X.prog X.w) X.A (spliced (backTo pos (starEach [] X.env))) (fun vs s6 => wpAny (model X.prog X.w) X.A (call (.type "tuple") (.ref h'.objs.size :: vs)) (EP X pins σ Q) X.xe s6) X.xe { s₄ with
            gens := s₄.gens.push (.fresh (.compStart (.GeneratorExp elt [⟨tg, iter, ifs, 0⟩] scope gpos) 0 (.ref it) .none (genEnv scope (cloFrom X.env.cells scope.names []) s₄.heap.objs.size code bi X.env))),
            toks := s₄.toks + 1 + 1 + 1,
            heap := h'.push { cls := .type "generator", data := .fields #[.int s₄.gens.size 0, .str "<genexpr>" (s₄.toks + 1), .str (X.env.qual ++ "<genexpr>") (s₄.toks + 1 + 1)] } }) X.xe { s2 with heap := h3, toks := tk } := by
    intro code h3 tk more hx hle hP3 ht3
    obtain ⟨bm, ob, b1, b2, b3, b4, b5, b6, b7, b8⟩ := TB.bm
    have keep3 : ∀ b u, b ≠ P → s2.heap.get? b = some u → h3.get? b = some u := fun b u hb e => hx b u hb e
    refine wpAny_builtinsFor (m := X.mg) (by rw [I2.ok.glob]; exact (I2.mod.glob.keeps I2.bk).extBut hx TB.gP) b1 b2 (keep3 _ _ b4 (I2.bk _ _ b5)) b6 b7 b8 ?_
    intro h' hn' hs'
    have J3 : Inv X pins σ (upd H2 P (.tbl (ps ++ more))) { s2 with heap := h3, toks := tk } := GxR.inv_tab (more := more) (h' := h3) (g' := s2.gens) (d' := s2.drawn) (t' := tk) I2 hP keep3 hP3 I2.bare
    have Tb : Tabbed P H2 (upd H2 P (.tbl (ps ++ more))) := ⟨⟨ps ++ more, upd_same, ht3⟩, fun b hb => upd_ne hb⟩
    obtain ⟨W, ⟨m0, w0⟩, turn⟩ := q _ Tb
    generalize hs3 : ({ s2 with heap := h3, toks := tk } : Shared) = s3 at J3 hn' hs' ⊢
    have h3e : s3.heap = h3 := by rw [← hs3]
    generalize hH3 : upd H2 P (.tbl (ps ++ more)) = H3 at J3 w0
    have fpl : ∀ b ∈ fp, b < s3.heap.objs.size := fun b hb => by
      obtain ⟨o, e, _⟩ := T.obj _ _ st2 b hb
      rw [h3e]
      exact Nat.lt_of_lt_of_le (Heap.lt_size e) hle
    have f3 : ∀ b ∈ fp, FpOk X pins H3 b ∧ b < s3.heap.objs.size := fun b hb => by
      refine ⟨⟨?_, (f2 b hb).2⟩, fpl b hb⟩
      rw [← hH3, upd_ne (nP b (f2 b hb).1)]
      exact (f2 b hb).1
    have hex : ∀ b ∈ fp, (b ∈ X.ex ∨ X.s_0.heap.objs.size ≤ b) ∧ b ≠ X.env.locals ∧ (∀ x c, X.env.cells.lookup x = some c → c ≠ b) ∧ ∀ p ∈ X.pn ++ pins, p.1 ≠ b := fun b hb =>
      ⟨(f3 b hb).1.2.2.2.1, (f3 b hb).1.2.1, (f3 b hb).1.2.2.2.2.1, (f3 b hb).1.2.2.2.2.2⟩
    have st3 : tn 0 s3.heap := T.keep _ _ _ st2 fun b hb o e => by
      rw [h3e]
      exact keep3 b o (nP b (f2 b hb).1) e
    have sz' : h'.objs.size = s3.heap.objs.size + 1 := by rw [hs'.1, Heap.size_push]
    have kp' : ∀ b o, s3.heap.get? b = some o → h'.get? b = some o := fun b o e => hs'.extBut b o (Nat.ne_of_lt (Heap.lt_size e)) (Heap.get?_push_of_some _ e)
    refine Calls.spliced_nil ?_
    generalize hgo : ({ cls := .type "generator", data := .fields #[.int s3.gens.size 0, .str "<genexpr>" (s3.toks + 1), .str (X.env.qual ++ "<genexpr>") (s3.toks + 1 + 1)] } : Obj) = gob
    have hpg : (h'.push gob).get? h'.objs.size = some gob := Heap.get?_push_size _ (by rw [← hgo]; rfl)
    have hgen : ∀ hh : Heap, hh.get? h'.objs.size = some gob → hh.IsGen h'.objs.size s3.gens.size := fun hh e => ⟨gob, _, _, e, by rw [← hgo], by rw [← hgo], by rw [← hgo]⟩
    have hgc : ∀ v, gob.data ≠ .cell v := fun v z => by
      rw [← hgo] at z
      cases z
    generalize hce : genEnv scope (cloFrom X.env.cells scope.names []) s3.heap.objs.size code builtinsNs X.env = cenv
    have made : GxMade X.prog X.w (k + 1) X.stack H3 s3 fp (fun ys H' => ∀ p, H' p = none → Q (.ref p) (upd H' p (.tup ys))) (.ref h'.objs.size)
        { s3 with gens := s3.gens.push (.fresh (.compStart (.GeneratorExp elt [⟨tg, iter, ifs, 0⟩] scope gpos) 0 (.ref it) .none cenv)), toks := s3.toks + 1 + 1 + 1, heap := h'.push gob } := by
      refine ⟨h'.objs.size, s3.gens.size, _, rfl, by omega, by show _ < (h'.push gob).objs.size; rw [Heap.size_push]; omega, hgen _ hpg, Array.getElem?_push_size .., rfl, J3.bare.push rfl, (J3.nolimit.keeps kp').keeps fun b o e => Heap.get?_push_of_some _ e, fun b o e => Heap.get?_push_of_some _ (kp' b o e), ?_⟩
      intro Aw S s4 hrw hgw hfw hS hk4 hSo hos hba
      have lS : h'.objs.size < S := by
        have z : (h'.push gob).objs.size ≤ S := hS
        rw [Heap.size_push] at z
        exact z
      have kp4 : ∀ b o, s3.heap.get? b = some o → s4.heap.get? b = some o := fun b o e => hk4 b o (Heap.get?_push_of_some _ (kp' b o e))
      have I4 := gx_start (A := Aw) (code := code) (pn := [(h'.objs.size, gob)]) J3 ok hN f3 hrw.hd hfw hce GS.cell kp4 (hn'.keeps fun b o e => hk4 b o (Heap.get?_push_of_some _ e)) hos hba (fun p hp => by
        rw [List.mem_singleton.mp hp]
        exact ⟨hk4 _ _ hpg, by show _ < h'.objs.size; omega, hgc⟩)
      have hL : cenv.locals = s3.heap.objs.size := by rw [← hce]; rfl
      have hap : Apart (gxc X Aw s3 H3 cenv fp [(h'.objs.size, gob)]) S := by
        refine ⟨?_, ?_, fun x c e z => ?_⟩
        · show s3.heap.objs.size ≤ S
          omega
        · show S ≠ cenv.locals
          rw [hL]
          exact Nat.ne_of_gt (show s3.heap.objs.size < S by omega)
        · obtain ⟨v, y⟩ := I4.cell x c e
          have cl : c < s3.heap.objs.size := by
            have hcl : cenv.cells = cloFrom X.env.cells scope.names [] := by rw [← hce]; rfl
            have e : cenv.cells.lookup x = some c := e
            rw [hcl] at e
            rcases cloFrom_mem (PySem.mem_of_lookup e) with hm | ⟨h1, rfl⟩
            · cases hm
            · obtain ⟨c, hc⟩ := hfree _ h1 rfl
              rw [hc]
              obtain ⟨w, z⟩ := J3.cell _ _ hc
              exact z.lt
          rw [z] at cl
          exact absurd (Nat.lt_trans (Nat.lt_of_lt_of_le cl (by omega)) lS) (Nat.lt_irrefl _)
      obtain ⟨cS, heS⟩ := hSo
      have hHS : H3 S = none := J3.hok.fresh (by omega)
      have G4 : GI (gxc X Aw s3 H3 cenv fp [(h'.objs.size, gob)]) S [] [] (wipe σ (own.map (·.2))) H3 s4 := by
        refine ⟨#[], cS, .nil, I4.pins_of fun p hp => ?_⟩
        rw [List.mem_singleton.mp hp]
        refine ⟨heS, hHS, hap.2.1, fun z => ?_, fun v q => by cases q⟩
        have z : S ∈ frs X.stack := z
        rcases List.mem_cons.mp (J3.stkSub S z) with y | y
        · have h4 : X.env.locals < s3.heap.objs.size := J3.lt
          have h5 : S = X.env.locals := y
          rw [← h5] at h4
          exact absurd (Nat.lt_trans h4 (by omega)) (Nat.lt_asymm lS)
        · exact J3.nofs (by omega) y
      obtain ⟨pg, pt, pe⟩ := hgx Aw s3 H3 s3.heap.objs.size (cloFrom X.env.cells scope.names []) code fp [(h'.objs.size, gob)] (hrw.deeper _) (by show Aw.guards = _; exact hgw)
      rw [hce] at pg pt pe
      have st4 : tn 0 s4.heap := T.keep _ _ _ st3 fun b _ o e => kp4 b o e
      exact gx_begin T st4 (gx_loop T pg pt pe hgen (by rw [← hce]; exact GS.co) hap (Nat.ne_of_lt lS) (fun b hb => Nat.ne_of_lt (Nat.lt_trans (fpl b hb) (show s3.heap.objs.size < S by omega))) (fun b hb => Nat.ne_of_lt (Nat.lt_trans (fpl b hb) (show s3.heap.objs.size < h'.objs.size by omega))) turn m0 sizeLine 0 [] H3 s4 s4 (Nat.add_zero _) w0 G4 st4 (fun b hb => (f3 b hb).1.1))
    refine call_tuple_gx (k := k + 1) ⟨hr.hd, by have := hr.dp; show X.A.depth + 3 * (k + 1 + 1) + 5 < _; omega, by have := hr.un; show X.A.units + 1 + 1 + 16 * (k + 1 + 1) + 200 < _; omega⟩ gd I.ok.frames made ?_
    intro s' acc H' ys z1 z2 z3 z4 z5 z6 z7 z8
    have J4 : Inv X pins σ H' s' := J3.call' (ch := fp) z4 z6 z7 z5 hex
    have fr : H' s'.heap.objs.size = none := z7.fresh (Nat.le_refl _)
    refine ⟨.ref s'.heap.objs.size, _, J4.laid (t' := s'.toks) (o := .tup ys) (fun b u e => Heap.get?_push_of_some _ e) (Nat.le_refl _) ⟨z3, acc, z2, IsTup.new _ _⟩, rfl, z8 _ fr⟩
  have hP2 := hPs
  cases hf : codeAmong gpos ps.toList with
  | none =>
    refine wpAny_genexprCodeX hcode (cd.code hP2 ht) (cd.tab hP2) hf fun c' h' tk hx hge hlt hco' _ htab' _ => ?_
    obtain ⟨_, _, _, _, _, _, _, _, _, _, _, _, _, _, _, _, _, _, _, htr, _⟩ := hco'
    exact go _ h' tk _ hx (Nat.le_trans hge (Nat.le_of_lt hlt)) htab'.2 htr
  | some cv =>
    refine wpAny_genexprCode_hit hcode (cd.code hP2 ht) hf ?_
    refine go cv s2.heap s2.toks #[] (Heap.ExtBut.refl _ _) (Nat.le_refl _) ?_ ?_
    · rw [Array.append_empty]
      exact hP2
    · rw [Array.append_empty]
      exact ht
end

/-! ### tuple(elt for tg in iter if ..), by data -/
section
open GxR (TabB TabG Tabbed)
variable {K : PySem.W.Frag} {vs : List Nat}
def mGx (mi : Ms) (g : Mg) (tt : Mb) (te : Mx) (vs : List Nat) : Mx := fun env => (mi env).bind fun p => (lcM g tt te vs p.2 (wipeE p.1 vs)).bind fun q => if q.2.length ≤ sizeLine then some (q.1, .tuple q.2) else none
theorem r_gx {P : Addr} {wi : TI} {tg : TG} {tt : TT} {te : TE} {mi : Ms} {g : Mg} {t : Mb} {e : Mx} (hP : P ∈ tabs K) (hi : RI K wi mi) (hg : RGw K vs tg g) (ht : RT K tt t) (he : RE K te e) : RE K (tGx P wi tg tt te vs) (mGx mi g t e vs) := fun M env F σ H env' d Q S ee q => by
  obtain ⟨⟨e1, ds⟩, h1, h⟩ := bindS ee
  obtain ⟨⟨ef, out⟩, h2, h⟩ := bindS h
  split at h
  case isFalse => cases h
  rename_i hl
  cases h
  dsimp only at hl h2
  refine hi M env F σ H e1 ds _ S h1 fun J F1 H1 S1 s1 ok => ⟨(S1.tab P hP).1, fun H2 tb => ?_⟩
  have S2 := S1.tabbed hP tb
  have S1' : Sn K M (wipeE e1 vs) F1 σ H2 := S2.wipe vs (fun _ _ => rfl) rfl
  refine ⟨fun i m acc H => m = ds.length - i ∧ i ≤ ds.length ∧ ∃ env F' accD rest, wipeE env vs = env ∧ Sn K M env F' σ H ∧ Same F1 F' ∧ RpA K F' accD acc ∧ lcM g t e vs (ds.drop i) env = some (ef, rest) ∧ accD ++ rest = out,
    ⟨ds.length, by simp, Nat.zero_le _, wipeE e1 vs, F1, [], out, wipeE_idem, S1', Same.refl F1, rfl, h2, rfl⟩, ?_⟩
  rintro i m acc H ⟨rfl, hi, env, F', accD, rest, we, S', s', rA, hrun, htot⟩
  have ok' := ok.mono s'
  have hacc : acc.length ≤ sizeLine := by
    have z1 := rA.len
    have z2 : (accD ++ rest).length ≤ sizeLine := by
      rw [htot]
      exact hl
    rw [List.length_append] at z2
    omega
  refine ⟨hacc, ?_⟩
  by_cases c : i < ds.length
  · have ei : ds[i]? = some ds[i] := List.getElem?_eq_getElem c
    rw [List.drop_eq_getElem_cons c] at hrun
    obtain ⟨e2, h3, hrun⟩ := bindS hrun
    obtain ⟨⟨e3, b⟩, h4, hrun⟩ := bindS hrun
    dsimp only at hrun
    refine .inr ⟨ok'.go i _ H S'.sub ei, fun acc H => ∃ env F' accD rest, wipeE env vs = env ∧ Sn K M env F' σ H ∧ Same F1 F' ∧ RpA K F' accD acc ∧ lcM g t e vs (ds.drop (i + 1)) env = some (ef, rest) ∧ accD ++ rest = out, fun acc H2 w => ⟨_, by omega, rfl, c, w⟩, fun x H2 y => ?_⟩
    have W := S'.wipe (σ' := wipe σ vs) vs (fun j hj => wipe_get hj) (wipe_length σ vs)
    rw [we] at W
    obtain ⟨F2, S2, s2, r2⟩ := ok'.step W ei y
    refine hg _ env F2 _ H2 e2 _ x _ S2 r2 h3 fun σ3 F3 H3 S3 s3 w3 l3 => ?_
    have pt : ∀ j, j ∉ vs → σ[j]? = σ3[j]? := fun j hj => by rw [w3 j hj, wipe_get hj]
    have ln : σ.length = σ3.length := by rw [l3, wipe_length]
    refine ⟨(wipe_eq pt ln).symm, ?_⟩
    refine ht _ e2 F3 σ3 H3 e3 b _ S3 h4 fun F4 H4 S4 s4 => ?_
    have sA := s'.trans (s2.trans (s3.trans s4))
    cases b with
    | true =>
      rw [if_pos rfl] at hrun ⊢
      obtain ⟨⟨e4, z⟩, h5, hrun⟩ := bindS hrun
      obtain ⟨⟨e5, rest'⟩, h6, hrun⟩ := mapS hrun
      cases hrun
      refine he _ e3 F4 σ3 H4 e4 z _ S4 h5 fun u F5 H5 S5 s5 r5 => ?_
      have S6 := S5.wipe (σ' := σ) vs pt ln
      have sB := (s2.trans (s3.trans s4)).trans s5
      have hlen : acc.length < sizeLine := by
        have z1 := rA.len
        have z2 : (accD ++ z :: rest').length ≤ sizeLine := by
          rw [htot]
          exact hl
        rw [List.length_append, List.length_cons] at z2
        omega
      refine ⟨hlen, wipeE e4 vs, F5, accD ++ [z], rest', wipeE_idem, S6, sA.trans s5, (rA.mono sB _ _).append (.one r5), h6, ?_⟩
      rw [List.append_assoc]
      exact htot
    | false =>
      rw [if_neg (by decide)] at hrun ⊢
      have S6 := S4.wipe (σ' := σ) vs pt ln
      exact ⟨wipeE e3 vs, F4, accD, rest, wipeE_idem, S6, sA, rA.mono (s2.trans (s3.trans s4)) _ _, hrun, htot⟩
  · have e : i = ds.length := by omega
    subst e
    rw [List.drop_length] at hrun
    cases hrun
    rw [List.append_nil] at htot
    subst htot
    refine .inl ⟨ok'.stop _ H S'.sub (Nat.le_refl _), fun p np => ?_⟩
    obtain ⟨S3, s3⟩ := S'.lay np (.tup acc)
    exact q _ _ _ S3 ((s1.trans s').trans s3) ⟨p, acc, rfl, upd_same, rA.mono s3 _ _⟩
end
theorem w_gx {mi : Ms} {g : Mg} {tt : Mb} {te : Mx} {vs : List Nat} {env : Evs} {Q : Evs → Dt → Prop} (k : W2 (mi env) fun e ds => Wi vs e fun e1 => W2 (lcM g tt te vs ds e1) fun e2 out => Fit out.length (Q e2 (.tuple out))) : W2 (mGx mi g tt te vs env) Q := by
  obtain ⟨e, ds, h1, e2, out, h2, h3, h4⟩ := k
  refine ⟨e2, _, ?_, h4⟩
  unfold mGx
  rw [h1]
  show ((lcM g tt te vs ds (wipeE e vs)).bind _) = _
  rw [h2]
  show (if out.length ≤ sizeLine then _ else _) = _
  rw [if_pos h3]

/-! ### zip of a list and a tuple, or of any two of these -/
section
/-- t: a tuple, else a list -/
def SqB (t : Bool) (K : PySem.W.Frag) (H : Hp) (a : Addr) (xs : List V) : Prop := match t with
  | true => SqT K H a xs
  | false => SqL K H a xs
def IsIt (t : Bool) (h : Heap) (it a : Addr) (i : Nat) : Prop := match t with
  | true => h.IsTupleIter it a i
  | false => h.IsListIter it a i
def IsSq (t : Bool) (h : Heap) (a : Addr) (xs : Array Value) : Prop := match t with
  | true => h.IsTuple a xs
  | false => h.IsList a xs
theorem IsIt.at {t : Bool} {h h' : Heap} {it a : Addr} {i : Nat} (z : IsIt t h it a i) (k : ∀ o, h.get? it = some o → h'.get? it = some o) : IsIt t h' it a i := by
  cases t
  · exact (show h.IsListIter it a i from z).at k
  · exact (show h.IsTupleIter it a i from z).at k
theorem IsIt.ob {t : Bool} {h : Heap} {it a : Addr} {i : Nat} (z : IsIt t h it a i) : ∃ o, h.get? it = some o ∧ ∀ v, o.data ≠ .cell v := by
  cases t
  · obtain ⟨o, e, _, d⟩ := (show h.IsListIter it a i from z)
    exact ⟨o, e, fun v q => by rw [d] at q; cases q⟩
  · obtain ⟨o, e, _, d⟩ := (show h.IsTupleIter it a i from z)
    exact ⟨o, e, fun v q => by rw [d] at q; cases q⟩
theorem IsSq.lt {t : Bool} {h : Heap} {a : Addr} {xs : Array Value} (z : IsSq t h a xs) : a < h.objs.size := by
  cases t
  · obtain ⟨o, e, _⟩ := (show h.IsList a xs from z)
    exact Heap.lt_size e
  · obtain ⟨o, e, _⟩ := (show h.IsTuple a xs from z)
    exact Heap.lt_size e
theorem sqB_at {X : Cx} {pins : List (Addr × Obj)} {σ : L2.St} {H : Hp} {s : Shared} {t : Bool} {a : Addr} {xs : List V} (I : Inv X pins σ H s) (h : SqB t X.K H a xs) : ∃ its, Vals xs its ∧ IsSq t s.heap a its.toArray := by
  cases t
  · obtain ⟨its, rv, p, _⟩ := I.list h
    exact ⟨its, rv, p.isList⟩
  · obtain ⟨its, rv, p, _⟩ := I.tuple h
    exact ⟨its, rv, p⟩
theorem sqB_inj {X : Cx} {pins : List (Addr × Obj)} {σ : L2.St} {H : Hp} {s : Shared} {t : Bool} {a : Addr} {xs ys : List V} (I : Inv X pins σ H s) (h : SqB t X.K H a xs) (h' : SqB t X.K H a ys) : xs = ys := by
  cases t
  · exact I.list_inj h h'
  · exact I.tuple_inj h h'
theorem draws_sq {prog : Program} {w : World} {A : Around} (t : Bool) (hh : A.handled = none) (it l : Addr) (hne : l ≠ it) (items : Array Value) : Draws prog w A it [it, l] items.size (fun i v => items[i]? = some v) (fun i h => IsIt t h it l i ∧ IsSq t h l items) := by
  cases t
  · exact Draws.list hh it l hne items
  · exact Draws.tuple hh it l hne items
theorem draws_end {prog : Program} {w : World} {A : Around} (t : Bool) (hh : A.handled = none) (it l : Addr) (items : Array Value) (i : Nat) (hi : items.size ≤ i) : Draws prog w A it [it, l] i (fun _ _ => False) (fun j h => j = i ∧ IsIt t h it l i ∧ IsSq t h l items) :=
  { live := fun _ _ z => by
      obtain ⟨o, e, _⟩ := z.2.1.ob
      exact ⟨o, e⟩
    frame := fun _ _ _ z k => ⟨z.1, z.2.1.at fun o q => k it (by simp) o q, by
      cases t
      · exact (show Heap.IsList _ l items from z.2.2).at fun o q => k l (by simp) o q
      · exact (show Heap.IsTuple _ l items from z.2.2).at fun o q => k l (by simp) o q⟩
    item := fun j _ _ _ hj z _ => absurd z.1 (Nat.ne_of_lt hj)
    done := fun s Q E z k => by
      cases t
      · exact wpAny_nextOf_list_end hh z.2.1 z.2.2 (by simp; omega) k
      · exact wpAny_nextOf_tuple_end hh z.2.1 z.2.2 (by simp; omega) k }
/-- the two as they stand at each turn, the items in new pairs -/
def ItzM (K : PySem.W.Frag) (t u : Bool) (a b : Addr) : It :=
  ⟨fun i H => ∃ (xs ys : List V) (x y : V), SqB t K H a xs ∧ SqB u K H b ys ∧ xs[i]? = some x ∧ ys[i]? = some y,
    fun i H v H' => ∃ T x y, v = .ref T ∧ H T = none ∧ H' = upd H T (.tup [x, y]) ∧ (∀ xs, SqB t K H a xs → xs[i]? = some x) ∧ ∀ ys, SqB u K H b ys → ys[i]? = some y,
    fun i H => ∃ xs ys : List V, SqB t K H a xs ∧ SqB u K H b ys ∧ (xs.length ≤ i ∨ ys.length ≤ i)⟩
theorem zsep {z TI TO i1 i2 a b : Addr} (D : ZipApart z TI TO i1 i2 a b) : ZipSep2 z TI TO i1 i2 [i1, a] [i2, b] :=
  { TIz := D.TIz, TOz := D.TOz, TITO := D.TITO, TIi1 := D.TIi1, mem1 := by simp, zf1 := by simp [D.i1z.symm, D.l1z.symm], Tf1 := by simp [D.TOi1, D.l1TO.symm], TIi2 := D.TIi2, mem2 := by simp, zf2 := by simp [D.i2z.symm, D.l2z.symm], Tf2 := by simp [D.TOi2, D.l2TO.symm], sep1_2 := by simp [D.i12, D.l2i1.symm], sep2_1 := by simp [D.i12.symm, D.l1i2.symm] }
theorem turn_zipM {P : Program} {w : World} {K : PySem.W.Frag} {elts : List Expr} {kk : Nat} {tpos : Pos} {t u : Bool} {a b z TI TO i1 i2 : Addr} (D : ZipApart z TI TO i1 i2 a b) :
    Turn P w K (.Tuple elts kk tpos) (ItzM K t u a b) [z, TI, TO, i1, i2] z (fun i h => IsZip h z TI TO .none ∧ IsPair h TI (.ref i1) (.ref i2) ∧ (∃ x y, IsPair h TO x y) ∧ IsIt t h i1 a i ∧ IsIt u h i2 b i) where
  mem := by simp
  obj := fun i h st c hc => by
    obtain ⟨hz, hTI, ⟨x, y, hTO⟩, h1, h2⟩ := st
    have e' : c = z ∨ c = TI ∨ c = TO ∨ c = i1 ∨ c = i2 := by simpa using hc
    rcases e' with q | q | q | q | q
    · rw [q]; exact ⟨_, hz, fun v q => nomatch q⟩
    · rw [q]; exact ⟨_, hTI, fun v q => nomatch q⟩
    · rw [q]; exact ⟨_, hTO, fun v q => nomatch q⟩
    · rw [q]; exact h1.ob
    · rw [q]; exact h2.ob
  keep := fun i h h' st k => by
    obtain ⟨hz, hTI, ⟨x, y, hTO⟩, h1, h2⟩ := st
    exact ⟨k z (by simp) _ hz, k TI (by simp) _ hTI, ⟨x, y, k TO (by simp) _ hTO⟩, h1.at fun o q => k i1 (by simp) o q, h2.at fun o q => k i2 (by simp) o q⟩
  item := by
    intro X hP hw hK hc i pins s σ H E I hf st hg
    subst hP hw hK
    obtain ⟨hz, hTI, ⟨x0, y0, hTO⟩, h1, h2⟩ := st
    obtain ⟨xs, ys, x, y, hqx, hqy, hx, hy⟩ := hg
    obtain ⟨its, rv, p⟩ := sqB_at I hqx
    obtain ⟨its2, rv2, p2⟩ := sqB_at I hqy
    obtain ⟨v1, hu, ru⟩ := rv.get hx
    obtain ⟨v2, hu2, ru2⟩ := rv2.get hy
    have hzl : z < s.heap.objs.size := Heap.lt_size hz
    have D1 := draws_sq (prog := X.prog) (w := X.w) (A := X.A.in1) t (I.ok.hd hc) i1 a D.l1i1 its.toArray
    have D2 := draws_sq (prog := X.prog) (w := X.w) (A := X.A.in1) u (I.ok.hd hc) i2 b D.l2i2 its2.toArray
    refine wpAny_pyNext_zipD2_item (zsep D) D1 D2 hz hTI hTO ⟨h1, p⟩ ⟨h2, p2⟩ (by have := (List.getElem?_eq_some_iff.mp hu).1; simpa using this) (by have := (List.getElem?_eq_some_iff.mp hu2).1; simpa using this) fun y1 y2 h' tk e1 e2 z' TO' h1' h2' hT hsz hk => ?_
    have ey1 : y1 = v1 := by
      have q : its.toArray[i]? = some v1 := by simpa using hu
      rw [q] at e1
      exact (Option.some.inj e1).symm
    have ey2 : y2 = v2 := by
      have q : its2.toArray[i]? = some v2 := by simpa using hu2
      rw [q] at e2
      exact (Option.some.inj e2).symm
    subst ey1 ey2
    refine ⟨_, rfl, wpAny_letOwnedTupleGo_zip (s := { s with heap := h', toks := tk }) z' fun h'' z'' sb => ?_⟩
    have hT2 : h''.get? s.heap.objs.size = some { cls := .type "tuple", data := .seq #[y1, y2] } := (sb.2 _ (Nat.ne_of_gt hzl)).trans hT
    have new : ObjOk X.prog X.w (upd H s.heap.objs.size (.tup [x, y])) h'' s.heap.objs.size (.tup [x, y]) :=
      ⟨by show 2 ≤ sizeLine; decide, [y1, y2], .cons ru (.cons ru2 .nil), ⟨_, hT2, rfl, _, rfl⟩⟩
    have I1 : Inv X pins σ (upd H s.heap.objs.size (.tup [x, y])) { s with heap := h'', toks := tk } :=
      I.turnedNew (t' := tk) (ch := [z, TI, TO, i1, i2]) (fun c o hb q => (sb.2 c (fun q' => hb (by simp [q']))).trans (hk c o (fun q' => hb (by simp [q'])) (fun q' => hb (by simp [q'])) (fun q' => hb (by simp [q'])) (fun q' => hb (by simp [q'])) q)) hf (Nat.le_refl _) new
    refine ⟨.ref s.heap.objs.size, _, I1, rfl, ⟨_, x, y, rfl, I.hok.fresh (Nat.le_refl _), rfl, fun l hl => by rw [sqB_inj I hl hqx]; exact hx, fun l hl => by rw [sqB_inj I hl hqy]; exact hy⟩, ⟨z'', ?_, ⟨y1, y2, ?_⟩, ?_, ?_⟩, fun c hcm => ?_⟩
    · exact (sb.2 _ D.TIz).trans (hk _ _ D.TIz D.TITO D.TIi1 D.TIi2 hTI)
    · exact (sb.2 _ D.TOz).trans TO'
    · exact h1'.1.at fun o q => (sb.2 _ D.i1z).trans q
    · exact h2'.1.at fun o q => (sb.2 _ D.i2z).trans q
    · have hlt : c < s.heap.objs.size := by
        have e' : c = z ∨ c = TI ∨ c = TO ∨ c = i1 ∨ c = i2 := by simpa using hcm
        rcases e' with q | q | q | q | q
        · rw [q]; exact hzl
        · rw [q]; exact Heap.lt_size hTI
        · rw [q]; exact Heap.lt_size hTO
        · rw [q]; obtain ⟨_, e1, _⟩ := h1.ob; exact Heap.lt_size e1
        · rw [q]; obtain ⟨_, e2, _⟩ := h2.ob; exact Heap.lt_size e2
      rw [upd_ne (Nat.ne_of_lt hlt)]
      exact (hf c hcm).1
  done := by
    intro X hP hw hK hc i pins s σ H E I hf st hg
    subst hP hw hK
    obtain ⟨hz, hTI, ⟨x0, y0, hTO⟩, h1, h2⟩ := st
    obtain ⟨xs, ys, hqx, hqy, hend⟩ := hg
    obtain ⟨its, rv, p⟩ := sqB_at I hqx
    obtain ⟨its2, rv2, p2⟩ := sqB_at I hqy
    have l1 := rv.length
    have l2 := rv2.length
    have fin : ∀ (h' : Heap) (tk : Nat), (∀ c o, c ≠ z → c ≠ TO → c ≠ i1 → c ≠ i2 → s.heap.get? c = some o → h'.get? c = some o) → (fun r (s1 : Shared) => r = none ∧ Inv X pins σ H s1) (none : Option Value) { s with heap := h', toks := tk } := fun h' tk hk =>
      ⟨rfl, I.turnedL (t' := tk) (ch := [z, TI, TO, i1, i2]) (fun c o hb q => hk c o (fun q' => hb (by simp [q'])) (fun q' => hb (by simp [q'])) (fun q' => hb (by simp [q'])) (fun q' => hb (by simp [q'])) q) hf⟩
    have D1 := draws_sq (prog := X.prog) (w := X.w) (A := X.A.in1) t (I.ok.hd hc) i1 a D.l1i1 its.toArray
    have D2 := draws_sq (prog := X.prog) (w := X.w) (A := X.A.in1) u (I.ok.hd hc) i2 b D.l2i2 its2.toArray
    have s1 : its.toArray.size = xs.length := by rw [List.size_toArray]; omega
    have s2 : its2.toArray.size = ys.length := by rw [List.size_toArray]; omega
    by_cases c1 : xs.length ≤ i
    · have E1 := draws_end (prog := X.prog) (w := X.w) (A := X.A.in1) t (I.ok.hd hc) i1 a its.toArray i (by omega)
      by_cases c2 : ys.length ≤ i
      · have E2 := draws_end (prog := X.prog) (w := X.w) (A := X.A.in1) u (I.ok.hd hc) i2 b its2.toArray i (by omega)
        exact wpAny_pyNext_zipD2_end (zsep D) E1 E2 hz hTI hTO ⟨rfl, h1, p⟩ ⟨rfl, h2, p2⟩ (Nat.le_refl _) (Nat.le_refl _) (.inl rfl) fin
      · exact wpAny_pyNext_zipD2_end (zsep D) E1 D2 hz hTI hTO ⟨rfl, h1, p⟩ ⟨h2, p2⟩ (Nat.le_refl _) (by omega) (.inl rfl) fin
    · have E2 := draws_end (prog := X.prog) (w := X.w) (A := X.A.in1) u (I.ok.hd hc) i2 b its2.toArray i (by omega)
      exact wpAny_pyNext_zipD2_end (zsep D) D1 E2 hz hTI hTO ⟨h1, p⟩ ⟨rfl, h2, p2⟩ (by omega) (Nat.le_refl _) (.inr rfl) fin
  self := fun A i s Q E st h => wpAny_pyIter_zip st.1 h
def itCls : Bool → String
  | true => "tuple_iterator"
  | false => "list_iterator"
abbrev zmH1 (t : Bool) (h : Heap) (l1 : Addr) : Heap := h.push { cls := .type (itCls t), data := .fields #[.ref l1, .int 0 0] }
abbrev zmH2 (t u : Bool) (h : Heap) (l1 l2 : Addr) : Heap := (zmH1 t h l1).push { cls := .type (itCls u), data := .fields #[.ref l2, .int 0 0] }
abbrev zmH3 (t u : Bool) (h : Heap) (l1 l2 : Addr) : Heap := (zmH2 t u h l1 l2).push { cls := .type "tuple", data := .seq #[.ref h.objs.size, .ref (zmH1 t h l1).objs.size] }
abbrev zmH4 (t u : Bool) (h : Heap) (l1 l2 : Addr) : Heap := (zmH3 t u h l1 l2).push { cls := .type "tuple", data := .seq #[.none, .none] }
abbrev zmH5 (t u : Bool) (h : Heap) (l1 l2 : Addr) : Heap := (zmH4 t u h l1 l2).push { cls := .type "zip", data := .fields #[.none, .bool false, .bool false, .ref (zmH2 t u h l1 l2).objs.size, .ref (zmH3 t u h l1 l2).objs.size] }
theorem meets_zmTL (l1 l2 : Addr) (xs ys : Array Value) :
    Meets (Builtin.«zip.__new__» ⟨[.type "zip", .ref l1, .ref l2], []⟩) (fun _ R s => s.heap.IsTuple l1 xs ∧ s.heap.IsList l2 ys ∧
      R (.ok (.ret (.ref (zmH4 true false s.heap l1 l2).objs.size))) { s with heap := zmH5 true false s.heap l1 l2 }) :=
  .of_wp fun prog w A R s h => by
    obtain ⟨hp, g, d, tk, os⟩ := s; obtain ⟨hl1, hl2, h⟩ := h
    have hsub := sub_zip
    have hL1 : Heap.IsTuple (Shared.heap ⟨hp, g, d, tk, os⟩) l1 xs := hl1
    have hL2 : Heap.IsList (Shared.heap ⟨hp.push { cls := .type "tuple_iterator", data := .fields #[.ref l1, .int 0 0] }, g, d, tk, os⟩) l2 ys := Heap.IsList.push hl2 _
    wp_walk using wpAny_pyIter_tuple hL1, wpAny_pyIter_list hL2
    exact ⟨_, rfl, h⟩
theorem meets_zmLT (l1 l2 : Addr) (xs ys : Array Value) :
    Meets (Builtin.«zip.__new__» ⟨[.type "zip", .ref l1, .ref l2], []⟩) (fun _ R s => s.heap.IsList l1 xs ∧ s.heap.IsTuple l2 ys ∧
      R (.ok (.ret (.ref (zmH4 false true s.heap l1 l2).objs.size))) { s with heap := zmH5 false true s.heap l1 l2 }) :=
  .of_wp fun prog w A R s h => by
    obtain ⟨hp, g, d, tk, os⟩ := s; obtain ⟨hl1, hl2, h⟩ := h
    have hsub := sub_zip
    have hL1 : Heap.IsList (Shared.heap ⟨hp, g, d, tk, os⟩) l1 xs := hl1
    have hL2 : Heap.IsTuple (Shared.heap ⟨hp.push { cls := .type "list_iterator", data := .fields #[.ref l1, .int 0 0] }, g, d, tk, os⟩) l2 ys := Heap.IsTuple.push hl2 _
    wp_walk using wpAny_pyIter_list hL1, wpAny_pyIter_tuple hL2
    exact ⟨_, rfl, h⟩
section
variable {prog : Program} {w : World} {A : Around} {E : Value → Shared → Prop} {s : Shared}
theorem zm_laid (t u : Bool) (l1 l2 : Addr) {R : Prop}
    (h : ∀ h', IsZip h' (s.heap.objs.size + 4) (s.heap.objs.size + 2) (s.heap.objs.size + 3) .none → IsPair h' (s.heap.objs.size + 2) (.ref s.heap.objs.size) (.ref (s.heap.objs.size + 1)) →
      IsPair h' (s.heap.objs.size + 3) .none .none → IsIt t h' s.heap.objs.size l1 0 → IsIt u h' (s.heap.objs.size + 1) l2 0 → h'.objs.size = s.heap.objs.size + 5 →
      (∀ c o, s.heap.get? c = some o → h'.get? c = some o) → h' = zmH5 t u s.heap l1 l2 → (zmH4 t u s.heap l1 l2).objs.size = s.heap.objs.size + 4 → R) : R := by
  have z1 : (zmH1 t s.heap l1).objs.size = s.heap.objs.size + 1 := Heap.size_push ..
  have z2 : (zmH2 t u s.heap l1 l2).objs.size = s.heap.objs.size + 2 := by rw [Heap.size_push, z1]
  have z3 : (zmH3 t u s.heap l1 l2).objs.size = s.heap.objs.size + 3 := by rw [Heap.size_push, z2]
  have z4 : (zmH4 t u s.heap l1 l2).objs.size = s.heap.objs.size + 4 := by rw [Heap.size_push, z3]
  have z5 : (zmH5 t u s.heap l1 l2).objs.size = s.heap.objs.size + 5 := by rw [Heap.size_push, z4]
  have g5 : (zmH5 t u s.heap l1 l2).get? (zmH4 t u s.heap l1 l2).objs.size = some _ := Heap.get?_push_size _ rfl
  have g4 : (zmH5 t u s.heap l1 l2).get? (zmH3 t u s.heap l1 l2).objs.size = some _ := Heap.get?_push_of_some _ (Heap.get?_push_size _ rfl)
  have g3 : (zmH5 t u s.heap l1 l2).get? (zmH2 t u s.heap l1 l2).objs.size = some _ := Heap.get?_push_of_some _ (Heap.get?_push_of_some _ (Heap.get?_push_size _ rfl))
  have g2 : (zmH5 t u s.heap l1 l2).get? (zmH1 t s.heap l1).objs.size = some _ := Heap.get?_push_of_some _ (Heap.get?_push_of_some _ (Heap.get?_push_of_some _ (Heap.get?_push_size _ rfl)))
  have g1 : (zmH5 t u s.heap l1 l2).get? s.heap.objs.size = some _ := Heap.get?_push_of_some _ (Heap.get?_push_of_some _ (Heap.get?_push_of_some _ (Heap.get?_push_of_some _ (Heap.get?_push_size _ rfl))))
  rw [z2, z3, z4] at g5
  rw [z1, z2] at g3
  rw [z3] at g4
  rw [z1] at g2
  refine h _ g5 g3 g4 ?_ ?_ z5 (fun c o x => Heap.get?_push_of_some _ (Heap.get?_push_of_some _ (Heap.get?_push_of_some _ (Heap.get?_push_of_some _ (Heap.get?_push_of_some _ x))))) rfl z4
  · cases t
    · exact ⟨_, g1, rfl, rfl⟩
    · exact ⟨_, g1, rfl, rfl⟩
  · cases u
    · exact ⟨_, g2, rfl, rfl⟩
    · exact ⟨_, g2, rfl, rfl⟩
theorem call_zipM {t u : Bool} {l1 l2 : Addr} {xs ys : Array Value} {Q : Value → Shared → Prop} (htu : t = !u) (hl1 : IsSq t s.heap l1 xs) (hl2 : IsSq u s.heap l2 ys)
    (h : ∀ h', IsZip h' (s.heap.objs.size + 4) (s.heap.objs.size + 2) (s.heap.objs.size + 3) .none → IsPair h' (s.heap.objs.size + 2) (.ref s.heap.objs.size) (.ref (s.heap.objs.size + 1)) →
      IsPair h' (s.heap.objs.size + 3) .none .none → IsIt t h' s.heap.objs.size l1 0 → IsIt u h' (s.heap.objs.size + 1) l2 0 → h'.objs.size = s.heap.objs.size + 5 →
      (∀ c o, s.heap.get? c = some o → h'.get? c = some o) → Q (.ref (s.heap.objs.size + 4)) { s with heap := h' }) :
    wpAny (model prog w) A (call (.type "zip") [.ref l1, .ref l2]) Q E s := by
  subst htu
  cases u with
  | false =>
    refine callType_new F.called_zip (by decide) (F.typeCall_zip_2 _ _) (F.newCall_zip_2 _ _) (fun obj => F.args_object_init_3 obj _ _) F.entry_zip_new (meets_zmTL l1 l2 xs ys) ⟨hl1, hl2, ?_⟩
    show _ ∧ _
    refine zm_laid true false l1 l2 (s := s) fun h' a1 a2 a3 a4 a5 a6 a7 e e4 => ?_
    subst e
    rw [e4]
    exact ⟨⟨_, a1, rfl⟩, h _ a1 a2 a3 a4 a5 a6 a7⟩
  | true =>
    refine callType_new F.called_zip (by decide) (F.typeCall_zip_2 _ _) (F.newCall_zip_2 _ _) (fun obj => F.args_object_init_3 obj _ _) F.entry_zip_new (meets_zmLT l1 l2 xs ys) ⟨hl1, hl2, ?_⟩
    show _ ∧ _
    refine zm_laid false true l1 l2 (s := s) fun h' a1 a2 a3 a4 a5 a6 a7 e e4 => ?_
    subst e
    rw [e4]
    exact ⟨⟨_, a1, rfl⟩, h _ a1 a2 a3 a4 a5 a6 a7⟩
end
def iZipM (K : PySem.W.Frag) (t u : Bool) (ta : TA) : TI := fun σ H R => ta σ H fun vs H1 => ∃ a b xs ys, vs = [.ref a, .ref b] ∧ SqB t K H1 a xs ∧ SqB u K H1 b ys ∧ R (ItzM K t u a b) H1
theorem k_zipM (K : PySem.W.Frag) (t u : Bool) (htu : t = !u) {X : Cx} {e e2 : Expr} {ta : TA} {p pos tpos : Pos} {elts : List Expr} {kk : Nat} (hg : Gl X "zip") (hm : X.mg "zip" = none) (ha : PA X [e, e2] ta) (hK : X.K = K := by rfl)
    (hs : starEach [e, e2] X.env = (false, eval e X.env) :: starEach [e2] X.env := by rfl) (hpl : (backTo pos (starEach [e2] X.env)).any (·.1) = false := by rfl) :
    PI X (.Tuple elts kk tpos) (.Call (.Name "zip" p) [e, e2] [] pos) (iZipM K t u ta) := by
  subst hK
  refine ⟨fun pins s σ H R I h => ?_⟩
  refine Call_ (ld_blt I hg hm PyProof.Rows.boot_zip (PyProof.Rows.callWith_type1 (thn (ha.run pos pins s σ H _ I h) fun us s1 ⟨vs, H1, I1, r1, q1⟩ => ?_) hs hpl))
  obtain ⟨a, b, xs, ys, ex, hqx, hqy, q⟩ := q1
  subst ex
  cases r1 with
  | cons r rr =>
    cases rr with
    | cons r' rr =>
      cases rr
      cases r
      cases r'
      have fresh5 : ∀ c, c ∈ [s1.heap.objs.size + 4, s1.heap.objs.size + 2, s1.heap.objs.size + 3, s1.heap.objs.size, s1.heap.objs.size + 1] → FpOk X pins H1 c := fun c hcm => by
        have e' : c = s1.heap.objs.size + 4 ∨ c = s1.heap.objs.size + 2 ∨ c = s1.heap.objs.size + 3 ∨ c = s1.heap.objs.size ∨ c = s1.heap.objs.size + 1 := by simpa using hcm
        have hle : s1.heap.objs.size ≤ c := by
          rcases e' with z | z | z | z | z
          · rw [z]; exact Nat.le_add_right _ _
          · rw [z]; exact Nat.le_add_right _ _
          · rw [z]; exact Nat.le_add_right _ _
          · rw [z]; exact Nat.le_refl _
          · rw [z]; exact Nat.le_add_right _ _
        exact I1.fpOk hle (I1.hok.fresh hle)
      obtain ⟨its, rv, p1⟩ := sqB_at I1 hqx
      obtain ⟨its2, rv2, p2⟩ := sqB_at I1 hqy
      refine call_zipM htu p1 p2 fun h' hz hTI hTO h1 h2 hsz hk => wpAny_pyIter_zip hz ?_
      have I2 : Inv X pins σ H1 { s1 with heap := h' } := I1.kept (t' := s1.toks) hk
      exact ⟨s1.heap.objs.size + 4, [s1.heap.objs.size + 4, s1.heap.objs.size + 2, s1.heap.objs.size + 3, s1.heap.objs.size, s1.heap.objs.size + 1], _, _, H1, rfl, I2, turn_zipM (PySem.W.ktu_apart s1.heap.objs.size a b p1.lt p2.lt), ⟨hz, hTI, ⟨_, _, hTO⟩, h1, h2⟩, fresh5, q⟩
variable {K : PySem.W.Frag}
theorem SqB.mono {t : Bool} {F G : Hp} {a : Addr} {xs : List V} (s : Same F G) (h : SqB t K F a xs) : SqB t K G a xs := by
  cases t
  · exact SqL.mono s h
  · exact SqT.mono s h
theorem it_zipM {t u : Bool} {F : Hp} {a b : Addr} {xs ys : List V} {ds es : List Dt} (hF : SqB t K F a xs) (r : RpA K F ds xs) (hF' : SqB u K F b ys) (r' : RpA K F es ys) : ItOk K (ItzM K t u a b) F (zipD ds es) := by
  refine ⟨fun i d H s e => ?_, fun i d H H' x s e y => ?_, fun i H s l => ?_⟩
  · obtain ⟨u, w, h0, h1, _⟩ := zipD_get e
    obtain ⟨x, h2, _⟩ := r.get h0
    obtain ⟨y, h3, _⟩ := r'.get h1
    exact ⟨xs, ys, x, y, hF.mono s, hF'.mono s, h2, h3⟩
  · obtain ⟨p, z, z', rfl, h1, rfl, h4, h5⟩ := y
    obtain ⟨u, w, h0, h2, rfl⟩ := zipD_get e
    obtain ⟨x', h6, h7⟩ := r.get h0
    obtain ⟨y', h8, h9⟩ := r'.get h2
    have k1 := h4 xs (hF.mono s)
    have k2 := h5 ys (hF'.mono s)
    rw [h6] at k1
    rw [h8] at k2
    cases k1
    cases k2
    exact .inr ⟨p, _, _, h1, rfl, rfl, rfl, .cons h7 (.one h9)⟩
  · rw [zipD_len] at l
    refine ⟨xs, ys, hF.mono s, hF'.mono s, ?_⟩
    rw [← r.len, ← r'.len]
    omega
def seqD (t : Bool) : Dt → Option (List Dt)
  | .list ds => if t = true then none else some ds
  | .tuple ds => if t = true then some ds else none
  | _ => none
theorem seqD_of {t : Bool} {d : Dt} {ds : List Dt} {F : Hp} {v : V} (h : seqD t d = some ds) (r : Rp K F d v) : ∃ a xs, v = .ref a ∧ SqB t K F a xs ∧ RpA K F ds xs := by
  cases d <;> first | (cases h; done) | skip
  · cases t
    · cases h
      obtain ⟨a, xs, e, h1, h2⟩ := r
      exact ⟨a, xs, e, SqL.of h1, h2⟩
    · cases h
  · cases t
    · cases h
    · cases h
      obtain ⟨a, xs, e, h1, h2⟩ := r
      exact ⟨a, xs, e, SqT.of h1, h2⟩
def zipM (t u : Bool) : List Dt → Option (List Dt)
  | [a, b] => (seqD t a).bind fun as => (seqD u b).map fun bs => zipD as bs
  | _ => none
theorem i_zipM {t u : Bool} {ta : TA} {a : Ms} (ha : RA K ta a) : RI K (iZipM K t u ta) (mRng (zipM t u) a) := fun M env F σ H env' ds R S e q => by
  obtain ⟨⟨e1, x⟩, h1, h⟩ := bindS e
  obtain ⟨ds', h2, h3⟩ := mapS h
  cases h3
  refine ha M env F σ H _ x _ S h1 fun v F1 H1 S1 s1 r1 => ?_
  unfold zipM at h2
  dsimp only at h2
  split at h2
  · obtain ⟨as, k1, h2⟩ := bindS h2
    obtain ⟨bs, k2, h2⟩ := mapS h2
    subst h2
    obtain ⟨u', r, rfl, r2, w, r', rfl, r3, r4⟩ := r1
    have e' : r' = [] := r4
    subst e'
    obtain ⟨a, xs, rfl, k3, k4⟩ := seqD_of k1 r2
    obtain ⟨b, ys, rfl, k5, k6⟩ := seqD_of k2 r3
    exact ⟨a, b, xs, ys, rfl, k3.mono S1.sub, k5.mono S1.sub, q _ F1 H1 S1 s1 (it_zipM k3 k4 k5 k6)⟩
  · cases h2
end

/-! ### {elt for tg in iter if ..}, the elements whole numbers -/
section
open PpSet (compLoopS_any codeAny_compStart_set eval_SetComp newSet_ok)
variable {X : Cx}
/-- the set at D with one more -/
def plusO (w : World) (D : Addr) (S : Int → Bool) (n : Nat) (k : Int) : HO := SetO w D (fun j => S j || decide (j = k)) (if S k = true then n else n + 1)
def ScTurn (w : World) (J : It) (g : TG) (tt : TT) (te : TE) (σ : L2.St) (vs : List Nat) (D : Addr) (fin : Hp → Prop) (W : Nat → Nat → Hp → Prop) : Prop :=
  ∀ i m H, W i m H → (J.stop i H ∧ fin H) ∨ (J.go i H ∧ ∃ Nx : Hp → Prop, (∀ H', Nx H' → ∃ m', m' < m ∧ W (i + 1) m' H') ∧ ∀ x H', J.yld i H x H' → g x (wipe σ vs) H' fun σ2 H2 => wipe σ2 vs = wipe σ vs ∧ tt σ2 H2 fun b H3 =>
    if b = true then te σ2 H3 fun y H4 => ∃ (k : Int) (S : Int → Bool) (n : Nat), y = .int k ∧ H4 D = some (SetO w D S n) ∧ n + 1 < scanBound ∧ Nx (upd H4 D (plusO w D S n k)) else Nx H3)
def tScI (w : World) (wi : TI) (g : TG) (tt : TT) (te : TE) (vs : List Nat) : TE := fun σ H Q => wi σ H fun J H1 => ∀ D, H1 D = none →
  ∃ W : Nat → Nat → Hp → Prop, (∃ m, W 0 m (upd H1 D (SetO w D (fun _ => false) 0))) ∧ ScTurn w J g tt te σ vs D (fun H' => Q (.ref D) H') W
theorem pe_scI {elt tg iter : Expr} {ifs : List Expr} {scope : Scope} {own : List (Str × Nat)} {pos : Pos} {wi : TI} {g : TG} {tt : TT} {te : TE} (hc : X.calm = true) (hN : X.N.Nodup) (hi : PI X tg iter wi) (ok : BlkOk X.N X.env.scope scope own)
    (hb : ∀ (s : Shared) (H : Hp) (C : Addr) (cl : List (Str × Addr)) (fp : List Addr), PG (X.blk s H scope (compEnvC scope cl C X.env) fp) tg g ∧ PTs (X.blk s H scope (compEnvC scope cl C X.env) fp) ifs tt ∧ PE (X.blk s H scope (compEnvC scope cl C X.env) fp) elt te)
    (hs : ∀ x, foldedSetIterable iter X.env x = pure x := by intro _; rfl) :
    PE X (.SetComp elt [⟨tg, iter, ifs, 0⟩] scope pos) (tScI X.w wi g tt te (own.map (·.2))) := by
  refine ⟨fun pins s σ H Q I h => ?_⟩
  rw [eval_SetComp]
  have cap : ∀ y ∈ scope.names, y.2 = .free → ∃ c, X.env.cells.lookup y.1 = some c := fun y hy e => (ok.free y hy e).elim (fun z => I.ok.has _ (.inl z)) fun z => I.ok.has _ (.inr z)
  refine wpAny_comprehension_free rfl hs (closure_ok cap) ok.kind (fun y hy e => (ok.uniq y hy).trans (congrArg some e)) (thn (hi.run pins s σ H _ I h) fun xv sa ha => thn ha fun itv sb hit => ?_)
  obtain ⟨it, fp, tn, J, Hb, rfl, Ib, T, tb, fb, ask⟩ := hit
  refine newSet_ok (newEnv_comp ?_)
  obtain ⟨W, ⟨m0, w0⟩, turn⟩ := ask sb.heap.objs.size (Ib.hok.fresh (Nat.le_refl _))
  -- the set is laid; the block begins
  generalize eo : ({ cls := .type "set", dict := none, data := .set #[] 0 (.fresh 0 0 (!X.w.params.followText "set-order")) } : Obj) = so
  have Ic : Inv X pins σ (upd Hb sb.heap.objs.size (SetO X.w sb.heap.objs.size (fun _ => false) 0)) { sb with heap := sb.heap.push so } := by
    refine Ib.laid (t' := sb.toks) (fun _ _ e => Heap.get?_push_of_some _ e) (Nat.le_refl _) ?_
    rw [← eo]
    exact setO_new (setR_fresh X.w)
  have tc : tn 0 (sb.heap.push so) := T.keep _ _ _ tb fun _ _ _ e => Heap.get?_push_of_some _ e
  have below : ∀ b ∈ fp, b < sb.heap.objs.size := fun b hb => (T.obj _ _ tb b hb).elim fun _ z => Heap.lt_size z.1
  have fc : ∀ b ∈ fp, FpOk X pins (upd Hb sb.heap.objs.size (SetO X.w sb.heap.objs.size (fun _ => false) 0)) b ∧ b < (sb.heap.push so).objs.size := fun b hb =>
    ⟨⟨(upd_ne (Nat.ne_of_lt (below b hb))).trans (fb b hb).1, (fb b hb).2⟩, Nat.lt_of_lt_of_le (below b hb) (by rw [Heap.size_push]; exact Nat.le_succ _)⟩
  generalize upd Hb sb.heap.objs.size (SetO X.w sb.heap.objs.size (fun _ => false) 0) = Hc at Ic fc w0
  generalize ec : ({ sb with heap := sb.heap.push so } : Shared) = sc at Ic
  have hsc : sc.heap = sb.heap.push so := by rw [← ec]
  rw [← hsc] at tc fc
  have Id := block_start Ic ok hN fc
  have dr := hb sc Hc sc.heap.objs.size (cellsFrom (sc.heap.objs.size + 1) scope.names (cloFrom X.env.cells scope.names [])) fp
  show codeAny _ _ (.compStart (.SetComp elt [⟨tg, iter, ifs, 0⟩] scope pos) 0 (.ref it) (.ref sb.heap.objs.size) (compEnvC scope (cellsFrom (sc.heap.objs.size + 1) scope.names (cloFrom X.env.cells scope.names [])) sc.heap.objs.size X.env)) _ { sc with heap := pushCells (sc.heap.push { cls := .type "dict", data := .dict #[] }) scope.names }
  generalize ee : compEnvC scope (cellsFrom (sc.heap.objs.size + 1) scope.names (cloFrom X.env.cells scope.names [])) sc.heap.objs.size X.env = ce at Id dr ⊢
  have cL : ce.locals = sc.heap.objs.size := by rw [← ee]; rfl
  have td : tn 0 ({ sc with heap := pushCells (sc.heap.push { cls := .type "dict", data := .dict #[] }) scope.names } : Shared).heap := T.keep _ _ _ tc fun _ _ _ e => pushCells_keeps _ _ _ _ (Heap.get?_push_of_some _ e)
  generalize ({ sc with heap := pushCells (sc.heap.push { cls := .type "dict", data := .dict #[] }) scope.names } : Shared) = sd at Id td ⊢
  have free : ∀ {pl : List (Addr × Obj)} {τ : L2.St} {H' : Hp} {s' : Shared}, pl = [] → Inv (X.blk sc Hc scope ce fp) pl τ H' s' → (∀ b ∈ fp, H' b = none) → ∀ b ∈ fp, FpOk (X.blk sc Hc scope ce fp) pl H' b := fun {pl τ H' s'} e I' hn b hb => by
    subst e
    exact ⟨hn b hb, (I'.ok.exf b hb).1, I'.ok.exfs b hb, .inl hb, (I'.ok.exf b hb).2, fun p hp => by cases hp⟩
  have loop : codeAny (model X.prog X.w) X.A (.compLoop (.SetComp elt [⟨tg, iter, ifs, 0⟩] scope pos) 0 (.ref it) (.ref sb.heap.objs.size) ce) (compPost (model X.prog X.w) X.A X.xe none (EP X pins σ Q) (.ref sb.heap.objs.size) sc.heap.objs.size) sd := by
    refine compLoopS_any (fun n s' => ∃ i H', Inv (X.blk sc Hc scope ce fp) [] (wipe σ (own.map (·.2))) H' s' ∧ tn i s'.heap ∧ (∀ b ∈ fp, H' b = none) ∧ W i n H') ?_ m0 ⟨0, Hc, Id, td, fun b hb => (fc b hb).1.1, w0⟩
    rintro n s1 ⟨i, H1, I1, t1, n1, w1⟩
    rcases turn i n H1 w1 with ⟨stop, fin⟩ | ⟨go, Nx, nxt, step⟩
    · refine thnF (T.done (X.blk sc Hc scope ce fp) rfl rfl rfl hc i [] s1 _ H1 (fun _ _ => False) I1 (free rfl I1 n1) t1 stop) fun r s2 z => ?_
      obtain ⟨rfl, I2⟩ := z
      have I3 : Inv X pins σ H1 s2 := Ic.call' (ch := fp) I2.os I2.base I2.hok I2.bare fun b hb => ⟨(fc b hb).1.2.2.2.1, (fc b hb).1.2.1, (fc b hb).1.2.2.2.2.1, (fc b hb).1.2.2.2.2.2⟩
      obtain ⟨m, hn, _⟩ := I2.loc
      have hn : s2.heap.Ns ce.locals m := hn
      have nC : H1 ce.locals = none := I2.free
      rw [cL] at hn nC
      refine ⟨m, hn, fun h2 same => ?_⟩
      obtain ⟨f0, f1, _, f3, f4, f5⟩ := Ic.fpOk (Nat.le_refl _) nC
      exact ⟨.ref sb.heap.objs.size, H1, I3.turned (t' := s2.toks) (fun b o hb e => (same.2 b hb).trans e) f0 f1 f3 f4 f5, rfl, fin⟩
    · refine thnF (T.item (X.blk sc Hc scope ce fp) rfl rfl rfl hc i [] s1 _ H1 (fun _ _ => False) I1 (free rfl I1 n1) t1 go) fun r s2 z => ?_
      obtain ⟨u, rfl, z⟩ := z
      refine thnF z fun _ s3 z => ?_
      obtain ⟨x, H3, I3, r3, y3, t3, n3⟩ := z
      refine thnF (dr.1.run _ s3 _ H3 x u _ (I3.pinned (free rfl I3 n3) (T.obj _ _ t3)) r3 (step x H3 y3)) fun _ s4 z => ?_
      obtain ⟨τ, H4, I4, wt, q4⟩ := z
      refine thnF (dr.2.1.run _ s4 τ H4 _ I4 q4) fun b s5 z => ?_
      obtain ⟨H5, I5, q5⟩ := z
      have next : ∀ {s' : Shared} {H' : Hp}, Inv (X.blk sc Hc scope ce fp) ([] ++ pinsAt fp s3.heap) τ H' s' → Nx H' → ∃ m, m < n ∧ ∃ i H', Inv (X.blk sc Hc scope ce fp) [] (wipe σ (own.map (·.2))) H' s' ∧ tn i s'.heap ∧ (∀ b ∈ fp, H' b = none) ∧ W i m H' := fun {s' H'} I' q => by
        obtain ⟨m', lt, w'⟩ := nxt H' q
        have stay : ∀ b ∈ fp, ∀ o, s3.heap.get? b = some o → s'.heap.get? b = some o ∧ H' b = none := fun b hb o e =>
          let z := I'.pin (b, o) (List.mem_append_right _ (List.mem_append_right _ (mem_pinsAt hb e)))
          ⟨z.1, z.2.1⟩
        refine ⟨m', lt, i + 1, H', (I'.unpinned (pins := [])).weak (by rw [← wt, wipe_length]) (fun j v e => (wipe_some (wt ▸ e)).1), T.keep _ _ _ t3 fun b hb o e => (stay b hb o e).1, fun b hb => ?_, w'⟩
        obtain ⟨o, e, _⟩ := T.obj _ _ t3 b hb
        exact (stay b hb o e).2
      cases b with
      | false => exact next I5 q5
      | true =>
        refine thnF (dr.2.2.run _ s5 τ H5 _ I5 q5) fun v s6 z => ?_
        obtain ⟨y, H6, I6, r6, k, S, c, rfl, h6, room, q6⟩ := z
        obtain ⟨tk, rfl⟩ := (show ∃ t, v = Value.int k t from r6)
        refine setR_add (setO_get (X := X.blk sc Hc scope ce fp) I6 h6) room fun h' same R => ?_
        have he : ∃ u, h'.get? sb.heap.objs.size = some u := R.elim fun o z => ⟨o, z.elim fun _ z => z.elim fun _ z => z.elim fun _ z => z.1⟩
        exact next (I6.write (e := sb.heap.objs.size) (t' := s6.toks + 1) (by rw [h6]; trivial) (.inl rfl) (fun b u hb hu => (same.2 b hb).trans hu) he (setO_new R)) q6
  exact codeAny_compStart_set loop (T.self X.A 0 _ _ _ td loop)
theorem k_sortedSet (w : World) {X : Cx} (hc : X.calm = true) (h : X.w = w := by rfl) : CallR X (.builtin "sorted") (rSortedSet w) := h ▸ cr_sortedSet hc
theorem k_scI (w : World) {X : Cx} {elt tg iter : Expr} {ifs : List Expr} {scope : Scope} {own : List (Str × Nat)} {pos : Pos} {wi : TI} {g : TG} {tt : TT} {te : TE} (hc : X.calm = true) (hN : X.N.Nodup) (hi : PI X tg iter wi) (ok : BlkOk X.N X.env.scope scope own)
    (hb : ∀ (s : Shared) (H : Hp) (C : Addr) (cl : List (Str × Addr)) (fp : List Addr), PG (X.blk s H scope (compEnvC scope cl C X.env) fp) tg g ∧ PTs (X.blk s H scope (compEnvC scope cl C X.env) fp) ifs tt ∧ PE (X.blk s H scope (compEnvC scope cl C X.env) fp) elt te)
    (h : X.w = w := by rfl) (hs : ∀ x, foldedSetIterable iter X.env x = pure x := by intro _; rfl) : PE X (.SetComp elt [⟨tg, iter, ifs, 0⟩] scope pos) (tScI w wi g tt te (own.map (·.2))) := h ▸ pe_scI hc hN hi ok hb hs
end

/-! ### sorted({elt for ..}), by data -/
section
variable {K : PySem.W.Frag} {vs : List Nat}
def insU (k : Int) : List Int → List Int
  | [] => [k]
  | x :: l => if k < x then k :: x :: l else if k = x then x :: l else x :: insU k l
/-- the members, rising, each once -/
def srtU : List Int → List Int
  | [] => []
  | k :: l => insU k (srtU l)
theorem insU_mem (k j : Int) : ∀ l : List Int, j ∈ insU k l ↔ j = k ∨ j ∈ l
  | [] => by simp [insU]
  | x :: l => by
    unfold insU
    split
    · simp
    · split
      · rename_i e
        subst e
        simp
      · simp only [List.mem_cons, insU_mem k j l]
        constructor
        · rintro (h | h | h)
          · exact .inr (.inl h)
          · exact .inl h
          · exact .inr (.inr h)
        · rintro (h | h | h)
          · exact .inr (.inl h)
          · exact .inl h
          · exact .inr (.inr h)
theorem insU_pw (k : Int) : ∀ l : List Int, l.Pairwise (· < ·) → (insU k l).Pairwise (· < ·)
  | [], _ => by simp [insU]
  | x :: l, h => by
    obtain ⟨h1, h2⟩ := List.pairwise_cons.mp h
    unfold insU
    split
    · rename_i c
      refine .cons (fun y hy => ?_) h
      rcases List.mem_cons.mp hy with e | hy
      · rw [e]
        exact c
      · have := h1 y hy
        omega
    · split
      · exact h
      · rename_i c1 c2
        refine .cons (fun y hy => ?_) (insU_pw k l h2)
        rcases (insU_mem k y l).mp hy with e | hy
        · omega
        · exact h1 y hy
theorem srtU_mem (j : Int) : ∀ l : List Int, j ∈ srtU l ↔ j ∈ l
  | [] => Iff.rfl
  | k :: l => by
    show j ∈ insU k (srtU l) ↔ _
    rw [insU_mem, srtU_mem j l, List.mem_cons]
theorem srtU_pw : ∀ l : List Int, (srtU l).Pairwise (· < ·)
  | [] => .nil
  | k :: l => insU_pw k _ (srtU_pw l)
theorem pw_one : ∀ {a b : List Int}, a.Pairwise (· < ·) → b.Pairwise (· < ·) → (∀ j, j ∈ a ↔ j ∈ b) → a = b
  | [], [], _, _, _ => rfl
  | [], y :: b, _, _, h => absurd ((h y).mpr List.mem_cons_self) (by simp)
  | x :: a, [], _, _, h => absurd ((h x).mp List.mem_cons_self) (by simp)
  | x :: a, y :: b, ha, hb, h => by
    obtain ⟨a1, a2⟩ := List.pairwise_cons.mp ha
    obtain ⟨b1, b2⟩ := List.pairwise_cons.mp hb
    have e : x = y := by
      rcases List.mem_cons.mp ((h x).mp List.mem_cons_self) with e | e
      · exact e
      · rcases List.mem_cons.mp ((h y).mpr List.mem_cons_self) with e' | e'
        · exact e'.symm
        · have := b1 x e
          have := a1 y e'
          omega
    subst e
    refine congrArg (x :: ·) (pw_one a2 b2 fun j => ?_)
    constructor
    · intro hj
      rcases List.mem_cons.mp ((h j).mp (List.mem_cons_of_mem _ hj)) with e | e
      · have := a1 j hj
        omega
      · exact e
    · intro hj
      rcases List.mem_cons.mp ((h j).mpr (List.mem_cons_of_mem _ hj)) with e | e
      · have := b1 j hj
        omega
      · exact e
theorem asInts_append : ∀ (a b : List Dt) (x y : List Int), asInts a = some x → asInts b = some y → asInts (a ++ b) = some (x ++ y) := by
  intro a b x y ha hb
  rw [asInts_of ha, asInts_of hb, ← List.map_append, asInts_map]
def mSSC (mi : Ms) (g : Mg) (tt : Mb) (te : Mx) (vs : List Nat) : Mx := fun env => (mi env).bind fun p => (lcM g tt te vs p.2 (wipeE p.1 vs)).bind fun q => (asInts q.2).bind fun ks => if ks.length < 64 then some (q.1, .list ((srtU ks).map PyData.int)) else none
theorem asInts_cut : ∀ (a : List Dt) {b : List Dt} {y : List Int}, asInts (a ++ b) = some y → ∃ x z, asInts a = some x ∧ asInts b = some z ∧ y = x ++ z
  | [], b, y, h => ⟨[], y, rfl, h, rfl⟩
  | d :: a, b, y, h => by
    cases d <;> first | (cases h; done) | skip
    rename_i i
    obtain ⟨w, h1, h2⟩ := mapS (show (asInts (a ++ b)).map (fun ns => i :: ns) = some y from h)
    obtain ⟨x, z, h3, h4, rfl⟩ := asInts_cut a h1
    subst h2
    exact ⟨i :: x, z, by show (asInts a).map _ = _; rw [h3]; rfl, h4, rfl⟩
theorem r_ssc {w : World} {wi : TI} {tg : TG} {tt : TT} {te : TE} {mi : Ms} {g : Mg} {t : Mb} {e : Mx} (hi : RI K wi mi) (hg : RGw K vs tg g) (ht : RT K tt t) (he : RE K te e) : RE K (tCB (rSortedSet w) (tCons (tScI w wi tg tt te vs) tNil)) (mSSC mi g t e vs) := fun M env F σ H env' d Q S ee q => by
  obtain ⟨⟨e1, ds⟩, h1, h⟩ := bindS ee
  obtain ⟨⟨ef, out⟩, h2, h⟩ := bindS h
  obtain ⟨ks, hks, h⟩ := bindS h
  split at h
  case isFalse => cases h
  rename_i hl
  cases h
  dsimp only at hks h2
  refine hi M env F σ H e1 ds _ S h1 fun J F1 H1 S1 s1 ok D nD => ?_
  have S1' : Sn K M (wipeE e1 vs) F1 σ H1 := S1.wipe vs (fun _ _ => rfl) rfl
  have big : scanBound > 64 := by decide
  refine ⟨fun i m H => m = ds.length - i ∧ i ≤ ds.length ∧ ∃ env F' acc accD rest S0 n, wipeE env vs = env ∧ Sn K M env F' σ H ∧ Same F1 F' ∧ Loose M env F' σ D ∧ H D = some (SetO w D S0 n) ∧ asInts accD = some acc ∧ n ≤ acc.length ∧ (∀ j, S0 j = true ↔ j ∈ acc) ∧ lcM g t e vs (ds.drop i) env = some (ef, rest) ∧ accD ++ rest = out,
    ⟨ds.length, by simp, Nat.zero_le _, wipeE e1 vs, F1, [], [], out, fun _ => false, 0, wipeE_idem, S1'.raw nD _, Same.refl F1, S1'.loose nD, upd_same, rfl, Nat.le_refl _, fun j => by simp, h2, rfl⟩, ?_⟩
  rintro i m H ⟨rfl, hi, env, F', acc, accD, rest, S0, n, we, S', s', L, hD, hA, hn, hS, hrun, htot⟩
  have ok' := ok.mono s'
  by_cases c : i < ds.length
  · have ei : ds[i]? = some ds[i] := List.getElem?_eq_getElem c
    rw [List.drop_eq_getElem_cons c] at hrun
    obtain ⟨e2, h3, hrun⟩ := bindS hrun
    obtain ⟨⟨e3, b⟩, h4, hrun⟩ := bindS hrun
    dsimp only at hrun
    refine .inr ⟨ok'.go i _ H S'.sub ei, fun H => ∃ env F' acc accD rest S0 n, wipeE env vs = env ∧ Sn K M env F' σ H ∧ Same F1 F' ∧ Loose M env F' σ D ∧ H D = some (SetO w D S0 n) ∧ asInts accD = some acc ∧ n ≤ acc.length ∧ (∀ j, S0 j = true ↔ j ∈ acc) ∧ lcM g t e vs (ds.drop (i + 1)) env = some (ef, rest) ∧ accD ++ rest = out, fun H2 w => ⟨_, by omega, rfl, c, w⟩, fun x H2 y => ?_⟩
    have W := (S'.ward L hD).wipe (σ' := wipe σ vs) vs (fun j hj => wipe_get hj) (wipe_length σ vs)
    rw [we] at W
    obtain ⟨F2, S2, s2, r2⟩ := ok'.step W ei y
    refine hg _ env F2 _ H2 e2 _ x _ S2 r2 h3 fun σ3 F3 H3 S3 s3 w3 l3 => ?_
    have pt : ∀ j, j ∉ vs → σ[j]? = σ3[j]? := fun j hj => by rw [w3 j hj, wipe_get hj]
    have ln : σ.length = σ3.length := by rw [l3, wipe_length]
    refine ⟨(wipe_eq pt ln).symm, ?_⟩
    refine ht _ e2 F3 σ3 H3 e3 b _ S3 h4 fun F4 H4 S4 s4 => ?_
    have sA := s'.trans (s2.trans (s3.trans s4))
    cases b with
    | true =>
      rw [if_pos rfl] at hrun ⊢
      obtain ⟨⟨e4, z⟩, h5, hrun⟩ := bindS hrun
      obtain ⟨⟨e5, rest'⟩, h6, hrun⟩ := mapS hrun
      cases hrun
      have hks' := hks
      rw [← htot] at hks'
      obtain ⟨x1, x2, k1, k2, k3⟩ := asInts_cut accD hks'
      rw [hA] at k1
      cases k1
      obtain ⟨kz, rfl⟩ : ∃ kz : Int, z = .int kz := by
        cases z <;> first | exact ⟨_, rfl⟩ | (cases k2; done)
      have hlen : acc.length + 1 ≤ ks.length := by
        obtain ⟨x3, k4, k5⟩ := mapS (show (asInts rest').map (fun ns => kz :: ns) = some x2 from k2)
        rw [k3, ← k5, List.length_append, List.length_cons]
        omega
      refine he _ e3 F4 σ3 H4 e4 _ _ S4 h5 fun u F5 H5 S5 s5 r5 => ?_
      have r5' : u = .int kz := r5
      subst r5'
      obtain ⟨S6, L6, d6⟩ := (S5.wipe (σ' := σ) vs pt ln).unward L.nP
      refine ⟨kz, S0, n, rfl, d6, by omega, wipeE e4 vs, F5, acc ++ [kz], accD ++ [.int kz], rest', _, _, wipeE_idem, S6.put L6 _, sA.trans s5, L6, upd_same, asInts_append _ _ _ _ hA rfl, ?_, fun j => ?_, h6, ?_⟩
      · rw [List.length_append]
        show (if S0 kz = true then n else n + 1) ≤ acc.length + 1
        split <;> omega
      · rw [Bool.or_eq_true, decide_eq_true_eq, hS j, List.mem_append, List.mem_singleton]
      · rw [List.append_assoc]
        exact htot
    | false =>
      rw [if_neg (by decide)] at hrun ⊢
      obtain ⟨S6, L6, d6⟩ := (S4.wipe (σ' := σ) vs pt ln).unward L.nP
      exact ⟨wipeE e3 vs, F4, acc, accD, rest, S0, n, wipeE_idem, S6, sA, L6, d6, hA, hn, hS, hrun, htot⟩
  · have e : i = ds.length := by omega
    subst e
    rw [List.drop_length] at hrun
    cases hrun
    rw [List.append_nil] at htot
    subst htot
    rw [hA] at hks
    cases hks
    refine .inl ⟨ok'.stop _ H S'.sub (Nat.le_refl _), D, S0, n, rfl, hD, by omega, fun ns p np nm _ fr => ?_⟩
    have en : ns = srtU ks := pw_one np (srtU_pw ks) fun j => by rw [nm j, hS j, srtU_mem]
    subst en
    obtain ⟨S3, s3⟩ := S'.lay fr (.lst ((srtU ks).map V.int))
    exact q _ _ _ S3 ((s1.trans s').trans s3) ⟨p, _, rfl, upd_same, RpA.of_ints _⟩
theorem w_ssc {mi : Ms} {g : Mg} {tt : Mb} {te : Mx} {vs : List Nat} {env : Evs} {Q : Evs → Dt → Prop} (k : W2 (mi env) fun e ds => Wi vs e fun e1 => W2 (lcM g tt te vs ds e1) fun e2 out => ∃ ks : List Int, out = ks.map PyData.int ∧ ks.length < 64 ∧ Q e2 (.list ((srtU ks).map PyData.int))) : W2 (mSSC mi g tt te vs env) Q := by
  obtain ⟨e, ds, h1, e2, out, h2, ks, rfl, h3, h4⟩ := k
  refine ⟨e2, _, ?_, h4⟩
  unfold mSSC
  rw [h1]
  show ((lcM g tt te vs ds (wipeE e vs)).bind _) = _
  rw [h2]
  show (asInts (ks.map PyData.int)).bind _ = _
  rw [asInts_map]
  exact if_pos h3
end

/-! ### x *= e -/
section
variable {X : Cx} {K : PySem.W.Frag}
def ipM : TIp := fun x y H Q => ∃ i j, x = .int i ∧ y = .int j ∧ CMul i j ∧ Q (.int (i * j)) H
theorem ip_mulM : PIp X .Mult ipM := by
  rintro pins s σ H _ _ v u Q I r1 r2 ⟨i, j, rfl, rfl, hm, q⟩
  obtain ⟨t, rfl⟩ := r1
  obtain ⟨t', rfl⟩ := r2
  exact imul_int ⟨.int _, H, I.tok _, ⟨_, rfl⟩, q⟩ hm.ok
def mAugM (i : Nat) (a : Mx) : Mst := fun env => match env[i]? with
  | some (.fz (.int x)) => (a env).bind fun p => match p.2 with
    | .int y => if -(2 ^ 64) < y ∧ y < 2 ^ 64 then (putF i (.int (x * y)) p.1).map .nx else none
    | _ => none
  | _ => none
theorem r_augM {ta : TE} {i : Nat} {a : Mx} (ha : RE K ta a) : RS K (tAug i ta ipM) (mAugM i a) := fun M env F σ H fl D S e q => by
  unfold mAugM at e
  split at e
  · rename_i x h0
    obtain ⟨⟨e1, y⟩, h1, h⟩ := bindS e
    obtain ⟨v, h2, h3⟩ := S.fzS i _ h0
    refine ⟨v, h2, ha M env F σ H e1 y _ S h1 fun u F1 H1 S1 s1 r1 => ?_⟩
    dsimp only at h
    split at h
    · rename_i y0
      split at h
      · rename_i hm
        obtain ⟨e2, h4, h5⟩ := mapS h
        subst h5
        obtain ⟨rfl, h6, h7⟩ := putF_of h4
        exact ⟨x, y0, h3, r1, .inr hm, q _ F1 H1 (S1.setF rfl h6 h7) s1⟩
      · cases h
    · cases h
  · cases e
theorem w_augM {env : Evs} {F : Fl → Prop} {i : Nat} {p : Mx} {u : Int} (h : env[i]? = some (.fz (.int u))) (k : W2 (p env) fun e y => Iv y fun v => (-(2 ^ 64) < v ∧ v < 2 ^ 64) ∧ W1 (putF i (.int (u * v)) e) fun e' => F (.nx e')) : W1 (mAugM i p env) F := by
  obtain ⟨e, _, h1, v, rfl, hm, e', h2, h3⟩ := k
  refine ⟨_, ?_, h3⟩
  unfold mAugM
  rw [h]
  show (p env).bind _ = _
  rw [h1]
  show (if -(2 ^ 64) < v ∧ v < 2 ^ 64 then _ else _) = _
  rw [if_pos hm, h2]
  rfl
end

/-! ### repr of data with dicts by ints within -/
def isIntD : Dt → Bool
  | .int _ => true
  | _ => false
mutual
def okR : Dt → Bool
  | .none | .bool _ | .int _ => true
  | .tuple ds => okRs ds
  | .dict kvs => okRk kvs
  | _ => false
def okRs : List Dt → Bool
  | [] => true
  | d :: ds => okR d && okRs ds
def okRk : List (Dt × Dt) → Bool
  | [] => true
  | (k, d) :: r => isIntD k && okR d && okRk r
end
mutual
/-- without the marks of locked dicts -/
def stripR : Dt → Dt
  | .tuple ds => .tuple (stripRs ds)
  | .dict kvs => .dict (stripRk kvs)
  | d => d
def stripRs : List Dt → List Dt
  | [] => []
  | d :: ds => stripR d :: stripRs ds
def stripRk : List (Dt × Dt) → List (Dt × Dt)
  | [] => []
  | (.bool true, .none) :: r => stripRk r
  | (k, d) :: r => (k, stripR d) :: stripRk r
end
theorem stripRk_key (x : Key) (d : Dt) (r : List (Dt × Dt)) : stripRk ((kD x, d) :: r) = (kD x, stripR d) :: stripRk r := by cases x <;> simp [stripRk, kD]
mutual
theorem strip_ok : ∀ d : Dt, okR d = true → stripR d = d
  | .none, _ => by simp [stripR]
  | .bool _, _ => by simp [stripR]
  | .int _, _ => by simp [stripR]
  | .str _, _ => by simp [stripR]
  | .list _, _ => by simp [stripR]
  | .tuple ds, h => by
    have := strip_oks ds (by simpa [okR] using h)
    simp [stripR, this]
  | .dict kvs, h => by
    have := strip_okk kvs (by simpa [okR] using h)
    simp [stripR, this]
theorem strip_oks : ∀ ds : List Dt, okRs ds = true → stripRs ds = ds
  | [], _ => by simp [stripRs]
  | d :: ds, h => by
    have h' : okR d = true ∧ okRs ds = true := by simpa [okRs] using h
    simp [stripRs, strip_ok d h'.1, strip_oks ds h'.2]
theorem strip_okk : ∀ kvs : List (Dt × Dt), okRk kvs = true → stripRk kvs = kvs
  | [], _ => by simp [stripRk]
  | (k, d) :: kvs, h => by
    have h' : (isIntD k = true ∧ okR d = true) ∧ okRk kvs = true := by simpa [okRk] using h
    cases k with
    | int i => simp [stripRk, strip_ok d h'.1.2, strip_okk kvs h'.2]
    | _ => cases h'.1.1
end
theorem okRs_of : ∀ {ds : List Dt}, (∀ d ∈ ds, okR d = true) → okRs ds = true
  | [], _ => rfl
  | d :: ds, h => by
    show (okR d && okRs ds) = true
    rw [h d List.mem_cons_self, okRs_of fun x hx => h x (List.mem_cons_of_mem _ hx)]
    rfl
theorem okRk_of : ∀ {kvs : List (Dt × Dt)}, (∀ p ∈ kvs, isIntD p.1 = true ∧ okR p.2 = true) → okRk kvs = true
  | [], _ => rfl
  | (k, d) :: kvs, h => by
    show (isIntD k && okR d && okRk kvs) = true
    rw [(h _ List.mem_cons_self).1, (h _ List.mem_cons_self).2, okRk_of fun x hx => h x (List.mem_cons_of_mem _ hx)]
    rfl
section
variable {X : Cx} {pins : List (Addr × Obj)} {σ : L2.St} {H F : Hp} {s : Shared}
theorem rd_mem {a : Addr} {as bs : List Addr} (sm : (a == sysModules) = false) (n1 : sysModules ∉ as) (n2 : sysModules ∉ bs) : sysModules ∉ a :: as ++ bs := by
  intro z
  rcases List.mem_append.mp z with z | z
  · rcases List.mem_cons.mp z with z | z
    · rw [z] at sm
      simp at sm
    · exact n1 z
  · exact n2 z
mutual
theorem rp_reads (I : Inv X pins σ H s) (sb : Same F H) : ∀ (d : Dt) (v : V) (u : Value), okR (stripR d) = true → Rp X.K F d v → RelV v u → ∃ as, Reads s.heap u (stripR d) as ∧ sysModules ∉ as
  | .none, _, _, _, h, r => by
    cases (show _ = _ from h)
    cases r
    simp only [stripR]
    exact ⟨_, Reads.none, by simp⟩
  | .bool b, _, _, _, h, r => by
    cases (show _ = _ from h)
    cases r
    simp only [stripR]
    exact ⟨_, Reads.bool b, by simp⟩
  | .int i, _, _, _, h, r => by
    cases (show _ = _ from h)
    obtain ⟨t, rfl⟩ := r
    simp only [stripR]
    exact ⟨_, Reads.int i t, by simp⟩
  | .str x, _, _, c, _, _ => by cases (show false = true by simpa [okR, stripR] using c)
  | .list ds, _, _, c, _, _ => by cases (show false = true by simpa [okR, stripR] using c)
  | .tuple ds, _, _, c, h, r => by
    obtain ⟨a, xs, rfl, h1, h2⟩ := h
    cases r
    obtain ⟨its, rv, ⟨o, ho, hc, n, hd⟩, _⟩ := I.tuple (SqT.of (sb _ _ h1))
    obtain ⟨as, hr, na⟩ := rp_readsAll I sb ds _ its (by simpa [okR, stripR] using c) h2 rv
    simp only [stripR]
    exact ⟨_, Reads.tuple ho hc hd hr, na⟩
  | .dict kvs, _, _, c, h, r => by
    have ck : okRk (stripRk kvs) = true := by simpa [okR, stripR] using c
    obtain ⟨a, rfl, h⟩ := h
    cases r
    simp only [stripR]
    rcases h with ⟨vs, h2, h3⟩ | ⟨vs, h2, h3⟩ | ⟨ns, h2, h3⟩ | ⟨ob, vs, h2, h3⟩ | ⟨_, _, _, _, _, _, _, h3⟩
    · obtain ⟨_, sm, ws, kv, o, es, ep, e1, e2, e3, _, e5, _⟩ := I.hok a _ (sb _ _ h2)
      obtain ⟨as, bs, q1, q2, n1, n2⟩ := rp_readsK I sb kvs vs ws es.toList ck h3 kv e5
      exact ⟨_, Reads.dict e1 e2.1 e3 q1 q2, rd_mem sm n1 n2⟩
    · cases kvs with
      | nil => exact h3.elim
      | cons p r =>
        obtain ⟨k, d⟩ := p
        obtain ⟨rfl, _, _⟩ := h3
        simp [stripRk, okRk, isIntD] at ck
    · subst h2
      simp [stripRk, okRk, isIntD] at ck
    · cases kvs with
      | nil => exact h3.elim
      | cons p r =>
        obtain ⟨k, d⟩ := p
        obtain ⟨rfl, rfl, h3⟩ := h3
        simp only [stripRk] at ck ⊢
        obtain ⟨_, _, sm, ws, kv, o, es, ep, e1, e2, e3, _, e5, _⟩ := I.hok a _ (sb _ _ h2)
        obtain ⟨as, bs, q1, q2, n1, n2⟩ := rp_readsK I sb r vs ws es.toList ck h3 kv e5
        exact ⟨_, Reads.dict e1 e2.1 e3 q1 q2, rd_mem sm n1 n2⟩
    · cases kvs with
      | nil => exact h3.elim
      | cons p r =>
        obtain ⟨k, d⟩ := p
        obtain ⟨rfl, rfl, _⟩ := h3
        simp [stripRk, okRk, isIntD] at ck
theorem rp_readsAll (I : Inv X pins σ H s) (sb : Same F H) : ∀ (ds : List Dt) (vs : List V) (us : List Value), okRs (stripRs ds) = true → RpA X.K F ds vs → Vals vs us → ∃ as, ReadsAll s.heap us (stripRs ds) as ∧ sysModules ∉ as
  | [], _, _, _, h, r => by
    cases (show _ = _ from h)
    cases r
    simp only [stripRs]
    exact ⟨_, ReadsAll.nil, by simp⟩
  | d :: ds, _, _, c, h, r => by
    have c' : okR (stripR d) = true ∧ okRs (stripRs ds) = true := by simpa [okRs, stripRs] using c
    obtain ⟨x, xs, rfl, h1, h2⟩ := h
    cases r with
    | cons r1 r2 =>
      obtain ⟨as, q1, n1⟩ := rp_reads I sb d _ _ c'.1 h1 r1
      obtain ⟨bs, q2, n2⟩ := rp_readsAll I sb ds _ _ c'.2 h2 r2
      simp only [stripRs]
      refine ⟨_, ReadsAll.cons q1 q2, fun z => ?_⟩
      rcases List.mem_append.mp z with z | z
      · exact n1 z
      · exact n2 z
theorem rp_readsK (I : Inv X pins σ H s) (sb : Same F H) : ∀ (kvs : List (Dt × Dt)) (vs : List (Key × V)) (ws : List (Key × Value)) (es : List DictEntry), okRk (stripRk kvs) = true → RpK X.K F kvs vs → KV vs ws → Pairs (mixKind X.prog X.w) es ws →
    ∃ as bs, ReadsAll s.heap (es.map (·.key)) ((stripRk kvs).map (·.1)) as ∧ ReadsAll s.heap (es.map (·.val)) ((stripRk kvs).map (·.2)) bs ∧ sysModules ∉ as ∧ sysModules ∉ bs
  | [], _, _, _, _, h, kv, p => by
    cases (show _ = _ from h)
    cases kv
    cases p
    simp only [stripRk]
    exact ⟨_, _, ReadsAll.nil, ReadsAll.nil, by simp, by simp⟩
  | (k, d) :: kvs, _, _, _, c, h, kv, p => by
    obtain ⟨x, y, r, rfl, h0, h1, h2⟩ := h
    subst h0
    rw [stripRk_key] at c ⊢
    have c' : (isIntD (kD x) = true ∧ okR (stripR d) = true) ∧ okRk (stripRk kvs) = true := by simpa [okRk] using c
    cases kv with
    | cons f1 f2 =>
      rename_i kw ws
      obtain ⟨g1, g2⟩ := f1
      cases p with
      | cons p1 p2 p3 =>
        rename_i e es
        obtain ⟨as, bs, q1, q2, n1, n2⟩ := rp_readsK I sb kvs _ _ _ c'.2 h2 f2 p3
        obtain ⟨cs, q3, n3⟩ := rp_reads I sb d _ _ c'.1.2 h1 g2
        have kk : ∃ i t, kD x = .int i ∧ e.key = .int i t := by
          cases x with
          | inr z => cases (show false = true from c'.1.1)
          | inl i =>
            have p1' : keyIs kw.1 e.key = true := p1
            rw [← g1] at p1'
            rcases keyIs_shape p1' with ⟨j, t, e1, e2⟩ | ⟨j, t, e1, e2⟩
            · cases e1
              exact ⟨i, t, rfl, e2⟩
            · cases e1
        obtain ⟨i, t, hk, ek⟩ := kk
        refine ⟨[] ++ as, cs ++ bs, ?_, ?_, n1, ?_⟩
        · rw [List.map_cons, List.map_cons, ek, hk]
          exact ReadsAll.cons (Reads.int i t) q1
        · rw [List.map_cons, List.map_cons, p2]
          exact ReadsAll.cons q3 q2
        · intro z
          rcases List.mem_append.mp z with z | z
          · exact n3 z
          · exact n2 z
end
theorem now_reads (I : Inv X pins σ H s) (sb : Same F H) {d : Dt} {v : V} {u : Value} (c : okR (stripR d) = true) (h : Now X.K F H d v) (r : RelV v u) : ∃ as, Reads s.heap u (stripR d) as ∧ sysModules ∉ as := by
  rcases h with h | ⟨a, rfl, h⟩
  · exact rp_reads I sb d v u c h r
  · cases r
    rcases h with ⟨xs, ds, h1, rfl, h3⟩ | ⟨vs, kvs, h1, rfl, h3⟩ | ⟨xs, kvs, h1, rfl, h3⟩
    · cases (show false = true by simpa [okR, stripR] using c)
    · obtain ⟨_, sm, ws, kv, o, es, ep, e1, e2, e3, _, e5, _⟩ := I.hok a _ h1
      obtain ⟨as, bs, q1, q2, n1, n2⟩ := rp_readsK I sb kvs vs ws es.toList (by simpa [okR, stripR] using c) h3 kv e5
      simp only [stripR]
      exact ⟨_, Reads.dict e1 e2.1 e3 q1 q2, rd_mem sm n1 n2⟩
    · have ck : okRk (stripRk kvs) = true := by simpa [okR, stripR] using c
      cases kvs with
      | nil => exact h3.elim
      | cons p r =>
        obtain ⟨k, d⟩ := p
        obtain ⟨rfl, _, _⟩ := h3
        simp [stripRk, okRk, isIntD] at ck
end
def rReprR (K : PySem.W.Frag) : List V → Hp → VK → Prop := fun xs H Q =>
  ∃ (F : Hp) (x : V) (d e : Dt), xs = [x] ∧ Same F H ∧ Now K F H d x ∧ e = stripR d ∧ okR e = true ∧ e.showable = true ∧ e.depth ≤ 64 ∧ e.shown.length ≤ sizeLine ∧ Q (.str e.shown) H
theorem k_reprR {X : Cx} (K : PySem.W.Frag) (gd : X.A.guards = some []) (hu : X.A.units + 70 < cLine) (hK : X.K = K := by rfl) :
    CallR X (.builtin "repr") (rReprR K) := by
  subst hK
  intro pins s σ H xs us Q I r h
  obtain ⟨F, x, d, e, rfl, sb, nw, ee, ok, hs, hd, hz, q⟩ := h
  cases r with
  | cons r rr =>
    cases rr
    rename_i u
    obtain ⟨as, rd, na⟩ := now_reads I sb (by rw [← ee]; exact ok) nw r
    rw [← ee] at rd
    cases rd with
    | none => exact PySem.P.repr_of_none ⟨.str _, H, I.tok _, ⟨_, rfl⟩, q⟩
    | bool b => exact PySem.P.repr_of_bool ⟨.str _, H, I.tok _, ⟨_, rfl⟩, q⟩
    | int i t => exact PySem.P.repr_of_int (of_decide_eq_true hs) ⟨.str _, H, I.tok _, ⟨_, rfl⟩, q⟩
    | str y t => exact PySem.P.repr_of_str ⟨.str _, H, I.tok _, ⟨_, rfl⟩, q⟩ hz
    | list h1 h2 h3 h4 => cases (show false = true by simpa [okR] using ok)
    | tuple h1 h2 h3 h4 =>
      refine repr_of_reads' (h₀ := s.heap) (Reads.tuple h1 h2 h3 h4) hs (fun _ => na) gd (by omega) (fun _ _ e => e) (fun h' v tk hk => ?_) hz
      exact ⟨.str _, H, I.kept (t' := tk) hk, ⟨_, rfl⟩, q⟩
    | dict h1 h2 h3 h4 h5 =>
      refine repr_of_reads' (h₀ := s.heap) (Reads.dict h1 h2 h3 h4 h5) hs (fun _ => na) gd (by omega) (fun _ _ e => e) (fun h' v tk hk => ?_) hz
      exact ⟨.str _, H, I.kept (t' := tk) hk, ⟨_, rfl⟩, q⟩
def fReprR (d : Dt) : Option Dt := if (okR (stripR d) && (stripR d).showable && decide ((stripR d).depth ≤ 64) && decide ((stripR d).shown.length ≤ sizeLine)) = true then some (.str (stripR d).shown) else none
theorem c_reprR {K : PySem.W.Frag} : RC1 K (rReprR K) fReprR := fun M env F σ H x d z Q S hx hf q => by
  unfold fReprR at hf
  split at hf
  · rename_i c
    cases hf
    rw [Bool.and_eq_true, Bool.and_eq_true, Bool.and_eq_true] at c
    exact ⟨F, x, d, stripR d, rfl, S.sub, hx, rfl, c.1.1.1, c.1.1.2, of_decide_eq_true c.1.2, of_decide_eq_true c.2, q _ F H S (Same.refl F) rfl⟩
  · cases hf
/-! small data with dicts -/
structure SmR (d : Dt) (n m : Nat) : Prop where
  sh : d.showable = true
  ok : okR d = true
  dep : d.depth ≤ m
  len : d.shown.length ≤ n
theorem SmR.le {d : Dt} {n m n' m' : Nat} (h : SmR d n m) (a : n ≤ n') (b : m ≤ m') : SmR d n' m' := ⟨h.sh, h.ok, Nat.le_trans h.dep b, Nat.le_trans h.len a⟩
theorem smR_of {d : Dt} {n m : Nat} (h : Small d n m) (o : okR d = true) : SmR d n m := ⟨h.sh, o, h.dep, h.len⟩
theorem smR_tuple {ds : List Dt} {n m : Nat} (h : ∀ d ∈ ds, SmR d n m) : SmR (.tuple ds) (4 + ds.length * (n + 2)) (m + 1) := by
  refine ⟨showAll_of ds fun d hd => (h d hd).sh, ?_, ?_, ?_⟩
  · show okR (.tuple ds) = true
    simp only [okR]
    exact okRs_of fun d hd => (h d hd).ok
  · have := depAll_of ds fun d hd => (h d hd).dep
    simp only [PyData.depth]
    omega
  · have z := tupleText_le (shownAll_mem ds fun d hd => (h d hd).len)
    rw [shownAll_len] at z
    exact z
theorem dictText_len (ps : List Str) : (dictText ps).length = (listText ps).length := by
  have e : (dictText ps).length = 1 + (Str.join ", " ps).length + 1 := by
    unfold dictText
    rw [Str.length_append, Str.length_append]
    rfl
  have e2 : (listText ps).length = 1 + (Str.join ", " ps).length + 1 := by
    rw [listText_eq_join, Str.length_append, Str.length_append]
    rfl
  omega
theorem showKv_of : ∀ kvs : List (Dt × Dt), (∀ p ∈ kvs, p.1.showable = true ∧ p.2.showable = true) → PyData.showableKv kvs = true
  | [], _ => rfl
  | (k, d) :: kvs, h => by
    show (k.showable && d.showable && PyData.showableKv kvs) = true
    rw [(h _ List.mem_cons_self).1, (h _ List.mem_cons_self).2, showKv_of kvs fun x hx => h x (List.mem_cons_of_mem _ hx)]
    rfl
theorem shownKv_mem {n : Nat} : ∀ (kvs : List (Dt × Dt)), (∀ p ∈ kvs, p.1.shown.length ≤ 60 ∧ p.2.shown.length ≤ n) → ∀ t ∈ PyData.shownKv kvs, t.length ≤ 62 + n
  | (k, d) :: kvs, h, t, ht => by
    have ht' : t ∈ (k.shown ++ ": " ++ d.shown) :: PyData.shownKv kvs := ht
    rcases List.mem_cons.mp ht' with rfl | ht2
    · have h1 : k.shown.length ≤ 60 ∧ d.shown.length ≤ n := h _ List.mem_cons_self
      rw [Str.length_append, Str.length_append]
      have e : (Str.ofString ": ").length = 2 := by decide +kernel
      omega
    · exact shownKv_mem kvs (fun x hx => h x (List.mem_cons_of_mem _ hx)) t ht2
theorem shownKv_len : ∀ kvs : List (Dt × Dt), (PyData.shownKv kvs).length = kvs.length
  | [] => rfl
  | (_, _) :: kvs => congrArg (· + 1) (shownKv_len kvs)
theorem isIntD_ok {d : Dt} (h : isIntD d = true) : ∃ i, d = .int i := by
  cases d <;> first | exact ⟨_, rfl⟩ | cases h
theorem smR_dict {kvs : List (Dt × Dt)} {n m : Nat} (hm : 1 ≤ m) (h : ∀ p ∈ kvs, isIntD p.1 = true ∧ Small p.1 60 1 ∧ SmR p.2 n m) : SmR (.dict kvs) (4 + kvs.length * (64 + n)) (m + 1) := by
  refine ⟨showKv_of kvs fun p hp => ⟨(h p hp).2.1.sh, (h p hp).2.2.sh⟩, ?_, ?_, ?_⟩
  · show okR (.dict kvs) = true
    simp only [okR]
    exact okRk_of fun p hp => ⟨(h p hp).1, (h p hp).2.2.ok⟩
  · have : ∀ kvs : List (Dt × Dt), (∀ p ∈ kvs, p.1.depth ≤ m ∧ p.2.depth ≤ m) → PyData.depthKv kvs ≤ m := by
      intro kvs
      induction kvs with
      | nil => intro _; simp [PyData.depthKv]
      | cons p kvs ih =>
        intro h
        obtain ⟨k, d⟩ := p
        have h1 : k.depth ≤ m ∧ d.depth ≤ m := h _ List.mem_cons_self
        have h2 := ih fun x hx => h x (List.mem_cons_of_mem _ hx)
        simp only [PyData.depthKv]
        omega
    have := this kvs fun p hp => ⟨Nat.le_trans (h p hp).2.1.dep hm, (h p hp).2.2.dep⟩
    simp only [PyData.depth]
    omega
  · have z := listText_le (shownKv_mem kvs fun p hp => ⟨(h p hp).2.1.len, (h p hp).2.2.len⟩)
    rw [shownKv_len, ← dictText_len] at z
    have z' : (PyData.shown (.dict kvs)).length ≤ 2 + kvs.length * (62 + n + 2) := by
      show (dictText (PyData.shownKv kvs)).length ≤ _
      exact z
    have e : 62 + n + 2 = 64 + n := by omega
    rw [e] at z'
    omega
theorem o1_reprS {d e : Dt} {n m : Nat} {P : Dt → Prop} (h : SmR e n m) (he : stripR d = e) (hn : n ≤ 16777216) (hm : m ≤ 64) (k : P (.str e.shown)) : W1 (fReprR d) P := by
  subst he
  refine ⟨_, if_pos ?_, k⟩
  rw [Bool.and_eq_true, Bool.and_eq_true, Bool.and_eq_true]
  exact ⟨⟨⟨h.ok, h.sh⟩, decide_eq_true (Nat.le_trans h.dep hm)⟩, decide_eq_true (sl_lt h.len hn)⟩
theorem o1_reprR {d : Dt} {n m : Nat} {P : Dt → Prop} (h : SmR d n m) (hn : n ≤ 16777216) (hm : m ≤ 64) (k : P (.str d.shown)) : W1 (fReprR d) P := o1_reprS h (strip_ok d h.ok) hn hm k
mutual
theorem ok_shownR : ∀ d : Dt, okR d = true → PyData.strOk d.shown = true
  | .none, _ => ok_ofString _
  | .bool b, _ => by cases b <;> exact ok_ofString _
  | .int i, _ => ok_ofString _
  | .list ds, h => by cases (show false = true by simpa [okR] using h)
  | .tuple ds, h => ok_tupleText (ok_shownRs ds (by simpa [okR] using h))
  | .str _, h => by cases (show false = true by simpa [okR] using h)
  | .dict kvs, h => ok_append (ok_append (ok_ofString _) (ok_join _ (ok_shownRk kvs (by simpa [okR] using h)))) (ok_ofString _)
theorem ok_shownRs : ∀ ds : List Dt, okRs ds = true → ∀ t ∈ PyData.shownAll ds, PyData.strOk t = true
  | [], _, t, ht => by cases (show t ∈ [] from ht)
  | d :: ds, h, t, ht => by
    have h' : okR d = true ∧ okRs ds = true := by simpa [okRs] using h
    rcases List.mem_cons.mp (show t ∈ d.shown :: PyData.shownAll ds from ht) with rfl | ht2
    · exact ok_shownR d h'.1
    · exact ok_shownRs ds h'.2 t ht2
theorem ok_shownRk : ∀ kvs : List (Dt × Dt), okRk kvs = true → ∀ t ∈ PyData.shownKv kvs, PyData.strOk t = true
  | [], _, t, ht => by cases (show t ∈ [] from ht)
  | (k, d) :: kvs, h, t, ht => by
    have h' : (isIntD k = true ∧ okR d = true) ∧ okRk kvs = true := by simpa [okRk] using h
    rcases List.mem_cons.mp (show t ∈ (k.shown ++ ": " ++ d.shown) :: PyData.shownKv kvs from ht) with rfl | ht2
    · obtain ⟨i, rfl⟩ := isIntD_ok h'.1.1
      exact ok_append (ok_append (ok_ofString _) (ok_ofString _)) (ok_shownR d h'.1.2)
    · exact ok_shownRk kvs h'.2 t ht2
end

/-! ### three names at once -/
def tPar3 (i j k : Nat) (ta : TA) : TS := fun D σ H => ta σ H fun vs H1 => ∃ u v w, vs = [u, v, w] ∧ D.nx (((σ.set i (some u)).set j (some v)).set k (some w)) H1
theorem ps_par3 {X : Cx} {i j k : Nat} {x y z : Str} {a b c : Expr} {ta : TA} {px py pz pt pos : Pos} {kt k2 pt2} (hc : X.calm = true) (hN : X.N.Nodup) (hi : X.N[i]? = some x) (hj : X.N[j]? = some y) (hk : X.N[k]? = some z) (hij : i ≠ j) (hik : i ≠ k) (hjk : j ≠ k)
    (hx : X.env.scope.names.lookup x = some .local) (hy : X.env.scope.names.lookup y = some .local) (hz : X.env.scope.names.lookup z = some .local) (ha : PA X [a, b, c] ta)
    (hw : swappedStores [.Tuple [.Name x px, .Name y py, .Name z pz] kt pt] (.Tuple [a, b, c] k2 pt2) X.env = pure (some [x, y, z]))
    (hs : swapsWithSole [.Tuple [.Name x px, .Name y py, .Name z pz] kt pt] (.Tuple [a, b, c] k2 pt2) pos.line X.env = pure false := by rfl) :
    PS X (.Assign [.Tuple [.Name x px, .Name y py, .Name z pz] kt pt] (.Tuple [a, b, c] k2 pt2) pos) (tPar3 i j k ta) := by
  refine ⟨fun pins s σ H D I h => ?_⟩
  rw [exec_Assign_arm]
  refine wpAny_bind (wpAny_standAt ?_)
  rw [hs]
  refine wpAny_bind (wpAny_pure ?_)
  rw [if_neg (by decide)]
  refine wpAny_bind (Tuple_ (thn (ha.run _ pins s σ H _ I h) fun us s1 ⟨vs, H1, I1, r1, q1⟩ => ?_))
  obtain ⟨u, v, w, e1, q1⟩ := q1
  subst e1
  obtain ⟨u1, u2, u3, rfl, ru, rv, rw'⟩ : ∃ u1 u2 u3, us = [u1, u2, u3] ∧ RelV u u1 ∧ RelV v u2 ∧ RelV w u3 := by
    cases r1 with
    | cons p q =>
      cases q with
      | cons p' q' =>
        cases q' with
        | cons p2 q2 =>
          cases q2
          exact ⟨_, _, _, rfl, p, p', p2⟩
  refine wpAny_newObj_type ?_ (by show 3 ≤ sizeLine; decide)
  have I2 : Inv X pins σ H1 { s1 with heap := s1.heap.push { cls := .type "tuple", data := .seq [u1, u2, u3].toArray } } := I1.kept (t' := s1.toks) fun b o e => Heap.get?_push_of_some _ e
  rw [hw]
  refine wpAny_bind (wpAny_pure ?_)
  show wpAny (model X.prog X.w) X.A (do rule "assign.swapped-stores"; let items ← unpackItems (.ref s1.heap.objs.size) 3 none; assignInOrder [fun v => bindName X.env z v, fun v => bindName X.env y v, fun v => bindName X.env x v] items.reverse; pure Flow.next) _ _ _
  refine wpAny_bind (wpAny_rule (wpAny_bind (unpackItems_tuple (items := #[u1, u2, u3]) (I.ok.hd hc) (IsTup.new s1.heap _) fun h' hx' => ?_)))
  have I3 := I2.kept (h' := h') (t' := s1.toks) fun b o e => hx' b o (Nat.ne_of_lt (Heap.lt_size e)) e
  show wpAny _ _ (assignInOrder [fun v => bindName X.env z v, fun v => bindName X.env y v, fun v => bindName X.env x v] [u3, u2, u1] >>= fun _ => pure Flow.next) _ _ _
  refine wpAny_bind (assignInOrder_cons (wpAny_bindName (store_ok I3 hN hk (.inl hz) rw' (fun s2 I4 => ?_) (.inr hz))))
  refine assignInOrder_cons (wpAny_bindName (store_ok I4 hN hj (.inl hy) rv (fun s3 I5 => ?_) (.inr hy)))
  refine assignInOrder_cons (wpAny_bindName (store_ok I5 hN hi (.inl hx) ru (fun s4 I6 => assignInOrder_nil (wpAny_pure ?_)) (.inr hx)))
  rw [List.set_comm _ _ (Ne.symm hij), List.set_comm _ _ (Ne.symm hik), List.set_comm _ _ (Ne.symm hjk)] at I6
  exact ⟨_, H1, I6, q1⟩
section
variable {K : PySem.W.Frag}
def mPar3 (i j k : Nat) (a : Ms) : Mst := fun env => (a env).bind fun p => match p.2 with
  | [x, y, z] => (((putF i x p.1).bind (putF j y)).bind (putF k z)).map .nx
  | _ => none
theorem r_par3 {ta : TA} {i j k : Nat} {a : Ms} (ha : RA K ta a) : RS K (tPar3 i j k ta) (mPar3 i j k a) := fun M env F σ H fl D S e q => by
  obtain ⟨⟨e1, ds⟩, h1, h⟩ := bindS e
  dsimp only at h
  split at h
  · rename_i x y z
    obtain ⟨e2, h2, h3⟩ := mapS h
    subst h3
    obtain ⟨e4, h4, h5⟩ := bindS h2
    obtain ⟨e3, h6, h7⟩ := bindS h4
    obtain ⟨rfl, k1, k2⟩ := putF_of h6
    obtain ⟨rfl, k3, k4⟩ := putF_of h7
    obtain ⟨rfl, k5, k6⟩ := putF_of h5
    refine ha M env F σ H e1 _ _ S h1 fun vs F1 H1 S1 s1 r1 => ?_
    obtain ⟨v, r, rfl, r2, u, r', rfl, r3, w, r'', rfl, r4, r5⟩ := r1
    have e' : r'' = [] := r5
    subst e'
    exact ⟨v, u, w, rfl, q _ F1 H1 (((S1.setF r2 k1 k2).setF r3 k3 k4).setF r4 k5 k6) s1⟩
  · cases h
end
theorem w_par3 {i j k : Nat} {p q r : Mx} {env : Evs} {F : Fl → Prop} (h : W2 (p env) fun e x => W2 (q e) fun e1 y => W2 (r e1) fun e2 z => W1 (putF i x e2) fun e3 => W1 (putF j y e3) fun e4 => W1 (putF k z e4) fun e5 => F (.nx e5)) : W1 (mPar3 i j k (mCons p (mCons q (mCons r mNil))) env) F := by
  obtain ⟨e, x, h1, e1, y, h2, e2, z, h3, e3, h4, e4, h5, e5, h6, h7⟩ := h
  refine ⟨_, ?_, h7⟩
  unfold mPar3
  rw [cons_ev h1 (cons_ev h2 (cons_ev h3 rfl))]
  show (((putF i x e2).bind (putF j y)).bind (putF k z)).map Fl.nx = some (Fl.nx e5)
  rw [h4]
  show ((putF j y e3).bind (putF k z)).map Fl.nx = _
  rw [h5]
  show (putF k z e4).map Fl.nx = _
  rw [h6]
  rfl

/-! ### len of a dict -/
def rLenDc : List V → Hp → VK → Prop := fun xs H Q => ∃ (p : Addr) (n : Nat), xs = [.ref p] ∧ ((∃ kvs : List (Key × V), Rd H p (.dK kvs) ∧ n = kvs.length) ∨ ∃ kvs : List (List Key × V), H p = some (.dT kvs) ∧ n = kvs.length) ∧ Q (.int (n : Int)) H
theorem k_lenD {X : Cx} : CallR X (.builtin "len") rLenDc := by
  intro pins s σ H xs us Q I r h
  obtain ⟨a, n, rfl, ⟨kvs, ha, rfl⟩ | ⟨kvs, ha, rfl⟩, q⟩ := h
  · obtain ⟨u, rfl, ru⟩ := vals1 r
    cases ru
    exact d_len I ha fun t s' I' => ⟨.int kvs.length, H, I', ⟨t, rfl⟩, q⟩
  · exact call_len_dT pins s σ H _ us Q I r ⟨a, kvs, rfl, ha, q⟩
def fLenDc : Dt → Option Dt
  | .dict ((.none, .tuple []) :: r) => some (.int r.length)
  | .dict ((.bool true, .none) :: r) => some (.int r.length)
  | .dict kvs => if isMark kvs = true then none else some (.int kvs.length)
  | _ => none
theorem c_lenD {K : PySem.W.Frag} : RC1 K rLenDc fLenDc := fun M env F σ H x d z Q S hx hf q => by
  unfold fLenDc at hf
  split at hf
  · rename_i r
    cases hf
    obtain ⟨a, rfl, ⟨vs, h3, h4⟩ | ⟨vs, h3, h4⟩ | ⟨ns, h3⟩ | ⟨ob, vs, h3, h4⟩ | ⟨c', r', h3⟩⟩ := dct_at S.sub hx
    · have z := notMark h4
      cases z
    · obtain ⟨r', e, h6⟩ := mark_of h4
      cases e
      refine ⟨a, _, rfl, .inr ⟨vs, h3, rfl⟩, q _ F H S (Same.refl F) ?_⟩
      rw [← h6.to.len]
      rfl
    · cases h3
    · obtain ⟨h4, _⟩ := h4
      cases h4
    · cases h3
  · rename_i r
    cases hf
    obtain ⟨a, rfl, ⟨vs, h3, h4⟩ | ⟨vs, h3, h4⟩ | ⟨ns, h3⟩ | ⟨ob, vs, h3, h4⟩ | ⟨c', r', h3⟩⟩ := dct_at S.sub hx
    · have z := notMark h4
      cases z
    · obtain ⟨h4, _⟩ := h4
      cases h4
    · cases h3
    · obtain ⟨_, _, h6⟩ := h4
      refine ⟨a, _, rfl, .inl ⟨vs, .inr ⟨ob, h3⟩, rfl⟩, q _ F H S (Same.refl F) ?_⟩
      rw [← h6.to.len]
      rfl
    · cases h3
  · rename_i kvs _
    split at hf
    · cases hf
    rename_i nm
    cases hf
    obtain ⟨a, rfl, ⟨vs, h3, h4⟩ | ⟨vs, h3, h4⟩ | ⟨ns, h3⟩ | ⟨ob, vs, h3, h4⟩ | ⟨c', r', h3⟩⟩ := dct_at S.sub hx
    · refine ⟨a, _, rfl, .inl ⟨vs, .inl h3, rfl⟩, q _ F H S (Same.refl F) ?_⟩
      rw [← h4.to.len]
      rfl
    · obtain ⟨r', e, h6⟩ := mark_of h4
      subst e
      exact absurd rfl nm
    · subst h3
      exact absurd rfl nm
    · obtain ⟨r', e, h6⟩ := lock_of h4
      subst e
      exact absurd rfl nm
    · subst h3
      exact absurd rfl nm
  · cases hf

/-! ### dicts locked as they are let be, and walked -/
def tLk (t : TE) : TE := fun σ H Q => t σ H fun x H1 => Q x H1 ∨ ∃ a u, x = .ref a ∧ H1 a = some u ∧ Mut (some u) ∧ ∀ od, Q x (upd H1 a (.frz od u))
theorem pe_lk {X : Cx} {e : Expr} {t : TE} (h : PE X e t) : PE X e (tLk t) := by
  refine ⟨fun pins s σ H Q I hw => ?_⟩
  refine thn (h.run pins s σ H _ I hw) fun v s1 ⟨x, H1, I1, r, q⟩ => ?_
  rcases q with q | ⟨a, u, e1, hu, mu, q⟩
  · exact ⟨x, H1, I1, r, q⟩
  · obtain ⟨od, I2⟩ := I1.lock hu mu
    exact ⟨x, _, I2, r, q od⟩
section
variable {K : PySem.W.Frag} {M : Fm} {env : Evs} {F : Hp} {σ : L2.St} {H : Hp}
/-- what is loose is let be, and otherwise from now on -/
theorem Sn.iceL (S : Sn K M env F σ H) {p : Addr} (o' : HO) (L : Loose M env F σ p) : Sn K M env (upd F p o') σ (upd H p o') ∧ Same F (upd F p o') := by
  have sF : Same F (upd F p o') := same_upd L.nF
  have nM : ∀ {a u}, M.H a = some u → a ≠ p := fun e => by
    rintro rfl
    rw [L.fresh] at e
    cases e
  refine ⟨⟨fun a u e => ?_, fun a u e n nt => ?_, fun a u e => ?_, fun a u e => sF a u (S.mon a u e), fun a u e => ?_, fun i d e => ?_, fun i s d e q => ?_, S.owF, S.boF, S.apt, fun c u e => ?_, fun t ht => ?_, S.len, S.pnt⟩, sF⟩
  · by_cases q : a = p
    · subst q
      rw [upd_same] at e ⊢
      exact e
    · rw [upd_ne q] at e ⊢
      exact S.sub a u e
  · rw [upd_ne (nM e)]
    exact S.old a u e n nt
  · rw [upd_ne (nM e)]
    exact S.dom a u e
  · by_cases q : a = p
    · subst q
      exact .inr (.inl L.fresh)
    · rw [upd_ne q] at e
      exact S.new a u e
  · obtain ⟨v, z1, z2⟩ := S.fzS i d e
    exact ⟨v, z1, z2.mono sF _ _⟩
  · obtain ⟨a, z1, z2, z3⟩ := S.owS i s d e q
    have ne : a ≠ p := by
      rintro rfl
      exact L.apart i s d e q z1
    refine ⟨a, z1, ?_, ?_⟩
    · rw [upd_ne ne]
      exact z2
    · rw [upd_ne ne]
      exact z3.mono sF
  · have ne : c ≠ p := by
      rintro rfl
      rw [L.nP] at e
      cases e
    rw [upd_ne ne, upd_ne ne]
    exact S.prt c u e
  · obtain ⟨y1, y2, y3⟩ := S.tab t ht
    have ne : t ≠ p := by
      obtain ⟨o', z⟩ := y3
      exact nM z
    rw [upd_ne ne, upd_ne ne]
    exact ⟨y1, y2, y3⟩
end
abbrev lkD (kvs : List (Dt × Dt)) : Dt := .dict ((.bool true, .none) :: kvs)
section
variable {K : PySem.W.Frag}
theorem lock_rp {F F' : Hp} {p : Addr} {o : HO} {kvs : List (Dt × Dt)} (h : OwOk K F (some o) (.dict kvs)) (nm : isMark kvs = false) (s : Same F F') : Mut (some o) ∧ ∀ od, F' p = some (.frz od o) → Rp K F' (lkD kvs) (.ref p) := by
  rcases h with ⟨xs, ds, h1, h2, h3⟩ | ⟨vs, ds, h1, h2, h3⟩ | ⟨xs, ds, h1, h2, h3⟩
  · cases h2
  · cases h1
    cases h2
    exact ⟨True.intro, fun od e => ⟨p, rfl, .inr (.inr (.inr (.inl ⟨od, vs, e, rfl, rfl, RpK.mono s _ _ h3⟩)))⟩⟩
  · cases h2
    obtain ⟨r, e, _⟩ := mark_of h3
    subst e
    cases nm
def mLk (a : Mx) : Mx := fun env => (a env).bind fun p => match p.2 with
  | .dict kvs => if isMark kvs = true then none else some (p.1, lkD kvs)
  | _ => none
theorem r_lk {t : TE} {m : Mx} (h : RO K t m) : RE K (tLk t) (mLk m) := fun M env F σ H env' d Q S e q => by
  obtain ⟨⟨e1, x⟩, h1, h2⟩ := bindS e
  dsimp only at h2
  split at h2
  · rename_i kvs
    split at h2
    · cases h2
    rename_i nm
    cases h2
    refine h M env F σ H _ _ _ S h1 fun p F' H' S' s L o => .inr ?_
    obtain ⟨u, hu⟩ := o.some
    rw [hu] at o
    have nm' : isMark kvs = false := by simpa using nm
    refine ⟨p, u, rfl, hu, (lock_rp (p := p) o nm' (Same.refl F')).1, fun od => ?_⟩
    obtain ⟨S2, s2⟩ := S'.iceL (.frz od u) L
    exact q _ _ _ S2 (s.trans s2) ((lock_rp o nm' s2).2 od upd_same)
  · cases h2
/-- an owned dict in a slot, let be from now on -/
def mVarL (i : Nat) : Mx := fun env => match env[i]? with
  | some (.fz d) => some (env, d)
  | some (.ow (.dict kvs)) => if isMark kvs = true then none else some (env.set i (.fz (lkD kvs)), lkD kvs)
  | _ => none
theorem r_varL (i : Nat) : RE K (tLk (tVar i)) (mVarL i) := fun M env F σ H env' d Q S e q => by
  unfold mVarL at e
  split at e
  · rename_i d' h1
    cases e
    obtain ⟨v, h2, h3⟩ := S.fzS i _ h1
    exact ⟨v, h2, .inl (q v F H S (Same.refl F) h3)⟩
  · rename_i kvs h1
    split at e
    · cases e
    rename_i nm
    cases e
    have nm' : isMark kvs = false := by simpa using nm
    obtain ⟨a, z1, z2, z3⟩ := S.owS i _ (.dict kvs) h1 rfl
    have hi : i < env.length := (List.getElem?_eq_some_iff.mp h1).1
    have L : Loose M (env.set i .un) F σ a := by
      refine ⟨S.owF i _ a h1 z1, z2, ?_, fun j s e' hj ho z => ?_⟩
      · cases ep : M.P a with
        | none => rfl
        | some o => exact absurd z1 ((S.prt a o ep).2.2.2 i _ _ h1 rfl)
      by_cases c : i = j
      · subst c
        rw [List.getElem?_set_self hi] at hj
        cases hj
        cases ho
      · rw [List.getElem?_set_ne c] at hj
        exact S.apt i j _ s _ e' a c h1 hj rfl ho z1 z
    obtain ⟨u, hu⟩ := z3.some
    rw [hu] at z3
    refine ⟨_, z1, .inr ⟨a, u, rfl, hu, (lock_rp (p := a) z3 nm' (Same.refl F)).1, fun od => ?_⟩⟩
    obtain ⟨S2, s2⟩ := (S.unset i).iceL (.frz od u) L
    have r2 := (lock_rp z3 nm' s2).2 od upd_same
    have S3 := S2.setF (i := i) r2 (fun e z => by rw [List.getElem?_set_self hi] at z; cases z) (by rw [List.length_set]; exact hi)
    have e1 : (env.set i Sl.un).set i (.fz (lkD kvs)) = env.set i (.fz (lkD kvs)) := List.set_set ..
    have e2 : σ.set i (some (V.ref a)) = σ := by
      obtain ⟨l1, l2⟩ := List.getElem?_eq_some_iff.mp z1
      rw [← l2]
      exact List.set_getElem_self l1
    rw [e1, e2] at S3
    exact q _ _ _ S3 s2 r2
  · cases e
end

/-! for k in d, d.values(), d.items() -/
section
variable {K : PySem.W.Frag}
def keysL : Dt → Option (List Dt)
  | .dict ((.bool true, .none) :: r) => some (r.map (·.1))
  | _ => none
def valsL : Dt → Option (List Dt)
  | .dict ((.bool true, .none) :: r) => some (r.map (·.2))
  | _ => none
def itemsL : Dt → Option (List Dt)
  | .dict ((.bool true, .none) :: r) => some (r.map fun q => .tuple [q.1, q.2])
  | _ => none
theorem rpk_at {F : Hp} : ∀ {ds : List (Dt × Dt)} {vs : List (Key × V)}, RpK K F ds vs → ds.length = vs.length ∧ ∀ (i : Nat) (k : Key) (v : V), vs[i]? = some (k, v) → ∃ d, ds[i]? = some (kD k, d) ∧ Rp K F d v
  | [], _, h => by
    cases (show _ = _ from h)
    exact ⟨rfl, fun i k v e => by simp at e⟩
  | (k, d) :: ds, _, h => by
    obtain ⟨x, y, r, rfl, rfl, h1, h2⟩ := h
    obtain ⟨l, at_⟩ := rpk_at h2
    refine ⟨by rw [List.length_cons, List.length_cons, l], fun i k v e => ?_⟩
    cases i with
    | zero =>
      simp at e
      obtain ⟨rfl, rfl⟩ := e
      exact ⟨d, rfl, h1⟩
    | succ i =>
      obtain ⟨d', e1, e2⟩ := at_ i k v (by simpa using e)
      exact ⟨d', by simpa using e1, e2⟩
theorem rp_kD {F : Hp} (k : Key) : Rp K F (kD k) (kV k) := by cases k <;> rfl
theorem lkd_at {F : Hp} {r : List (Dt × Dt)} {v : V} (h : Rp K F (lkD r) v) : ∃ a ob vs, v = .ref a ∧ F a = some (.frz ob (.dK vs)) ∧ RpK K F r vs := by
  obtain ⟨a, rfl, ⟨vs, h2, h3⟩ | ⟨vs, h2, h3⟩ | ⟨ns, h2, h3⟩ | ⟨ob, vs, h2, h3⟩ | ⟨_, _, _, _, _, _, _, h3⟩⟩ := h
  · have z := notMark h3
    cases z
  · obtain ⟨h4, _⟩ := h3
    cases h4
  · cases h2
  · exact ⟨a, ob, vs, rfl, h2, h3.2.2⟩
  · obtain ⟨h4, _⟩ := h3
    cases h4
theorem i_keysL {te : TE} {a : Mx} (ha : RE K te a) : RI K (iKeys te) (mItems keysL a) := fun M env F σ H env' ds R S e q => by
  obtain ⟨⟨e1, x⟩, h1, h⟩ := bindS e
  obtain ⟨es, h2, h3⟩ := mapS h
  cases h3
  refine ha M env F σ H _ x _ S h1 fun v F1 H1 S1 s1 r1 => ?_
  unfold keysL at h2
  dsimp only at h2
  split at h2
  · rename_i r
    cases h2
    obtain ⟨a, ob, vs, rfl, h3, h4⟩ := lkd_at r1
    obtain ⟨ln, at_⟩ := rpk_at h4
    refine ⟨a, ob, rfl, .inl ⟨vs, S1.sub _ _ h3, q (Itk a ob vs) F1 H1 S1 s1 ⟨fun i d H' s e => ?_, fun i d H' H2 y s e hy => ?_, fun i H' s l => ?_⟩⟩⟩
    · have := (List.getElem?_eq_some_iff.mp e).1
      rw [List.length_map] at this
      exact ⟨s _ _ h3, by omega⟩
    · obtain ⟨rfl, k, w, e1, rfl⟩ := hy
      obtain ⟨d', e2, e3⟩ := at_ i k w e1
      rw [List.getElem?_map, e2] at e
      cases e
      exact .inl ⟨rfl, rp_kD k⟩
    · rw [List.length_map] at l
      exact ⟨s _ _ h3, by omega⟩
  · cases h2
theorem i_valsL {te : TE} {a : Mx} (ha : RE K te a) : RI K (iVals te) (mItems valsL a) := fun M env F σ H env' ds R S e q => by
  obtain ⟨⟨e1, x⟩, h1, h⟩ := bindS e
  obtain ⟨es, h2, h3⟩ := mapS h
  cases h3
  refine ha M env F σ H _ x _ S h1 fun v F1 H1 S1 s1 r1 => ?_
  unfold valsL at h2
  dsimp only at h2
  split at h2
  · rename_i r
    cases h2
    obtain ⟨a, ob, vs, rfl, h3, h4⟩ := lkd_at r1
    obtain ⟨ln, at_⟩ := rpk_at h4
    refine ⟨a, ob, vs, rfl, S1.sub _ _ h3, q (Itd a ob vs) F1 H1 S1 s1 ⟨fun i d H' s e => ?_, fun i d H' H2 y s e hy => ?_, fun i H' s l => ?_⟩⟩
    · have := (List.getElem?_eq_some_iff.mp e).1
      rw [List.length_map] at this
      exact ⟨s _ _ h3, by omega⟩
    · obtain ⟨rfl, k, e1⟩ := hy
      obtain ⟨d', e2, e3⟩ := at_ i k y e1
      rw [List.getElem?_map, e2] at e
      cases e
      exact .inl ⟨rfl, e3⟩
    · rw [List.length_map] at l
      exact ⟨s _ _ h3, by omega⟩
  · cases h2
theorem i_itemsL {te : TE} {a : Mx} (ha : RE K te a) : RI K (iItems te) (mItems itemsL a) := fun M env F σ H env' ds R S e q => by
  obtain ⟨⟨e1, x⟩, h1, h⟩ := bindS e
  obtain ⟨es, h2, h3⟩ := mapS h
  cases h3
  refine ha M env F σ H _ x _ S h1 fun v F1 H1 S1 s1 r1 => ?_
  unfold itemsL at h2
  dsimp only at h2
  split at h2
  · rename_i r
    cases h2
    obtain ⟨a, ob, vs, rfl, h3, h4⟩ := lkd_at r1
    obtain ⟨ln, at_⟩ := rpk_at h4
    refine ⟨a, ob, vs, rfl, S1.sub _ _ h3, q (Iti a ob vs) F1 H1 S1 s1 ⟨fun i d H' s e => ?_, fun i d H' H2 y s e hy => ?_, fun i H' s l => ?_⟩⟩
    · have := (List.getElem?_eq_some_iff.mp e).1
      rw [List.length_map] at this
      exact ⟨s _ _ h3, by omega⟩
    · obtain ⟨T, k, w, e1, rfl, np, rfl⟩ := hy
      obtain ⟨d', e2, e3⟩ := at_ i k w e1
      rw [List.getElem?_map, e2] at e
      cases e
      exact .inr ⟨T, _, _, np, rfl, rfl, rfl, .cons (rp_kD k) (.one e3)⟩
    · rw [List.length_map] at l
      exact ⟨s _ _ h3, by omega⟩
  · cases h2
end
section
variable {r : List (Dt × Dt)} {P : List Dt → Prop}
theorem o1_keysL (k : P (r.map (·.1))) : W1 (keysL (lkD r)) P := ⟨_, rfl, k⟩
theorem o1_valsL (k : P (r.map (·.2))) : W1 (valsL (lkD r)) P := ⟨_, rfl, k⟩
theorem o1_itemsL (k : P (r.map fun q => .tuple [q.1, q.2])) : W1 (itemsL (lkD r)) P := ⟨_, rfl, k⟩
theorem w_lk {m : Mx} {env : Evs} {Q : Evs → Dt → Prop} (h : W2 (m env) fun e d => ∃ kvs, d = .dict kvs ∧ isMark kvs = false ∧ Q e (lkD kvs)) : W2 (mLk m env) Q := by
  obtain ⟨e, _, h1, kvs, rfl, nm, h2⟩ := h
  refine ⟨e, _, ?_, h2⟩
  unfold mLk
  rw [h1]
  show (if isMark kvs = true then none else some (e, lkD kvs)) = _
  rw [if_neg (by rw [nm]; decide)]
theorem w_varLf {i : Nat} {d : Dt} {env : Evs} {Q : Evs → Dt → Prop} (h : env[i]? = some (.fz d)) (k : Q env d) : W2 (mVarL i env) Q := by
  refine ⟨env, d, ?_, k⟩
  unfold mVarL
  rw [h]
theorem w_varLo {i : Nat} {kvs : List (Dt × Dt)} {env : Evs} {Q : Evs → Dt → Prop} (h : env[i]? = some (.ow (.dict kvs))) (nm : isMark kvs = false) (k : St i (.fz (lkD kvs)) env fun e => Q e (lkD kvs)) : W2 (mVarL i env) Q := by
  refine ⟨_, _, ?_, k⟩
  unfold mVarL
  rw [h]
  show (if isMark kvs = true then none else some (_, lkD kvs)) = _
  rw [if_neg (by rw [nm]; decide)]
end

/-! ### sorted of a list of tuples (of ints, of tuples) -/
def isTupC : Dt → Bool
  | .tuple (_ :: _) => true
  | _ => false
def okS (ds : List Dt) : Bool := (ds.all fun d => okR d && decide (d.depth ≤ 60)) && (decide (ds.length < 2) || ((ds.all isTupC) && ds.all fun d => ds.all fun e => W.alike d e))
def srtD (ds : List Dt) : List Dt := ds.mergeSort (W.dataLe false id)
def fSortedD : Dt → Option Dt
  | .list ds => if okS ds = true then some (.list (srtD ds)) else none
  | _ => none
def rSortedD (K : PySem.W.Frag) : List V → Hp → VK → Prop := fun xs H Q =>
  ∃ (F : Hp) (a : Addr) (ds : List Dt) (vs : List V), xs = [V.ref a] ∧ Same F H ∧ SqL K H a vs ∧ RpA K F ds vs ∧ okS ds = true ∧
    ∀ (ws : List V) (p : Addr), RpA K F (srtD ds) ws → H p = none → Q (.ref p) (upd H p (.lst ws))
theorem okS_each {ds : List Dt} (h : okS ds = true) : (∀ d ∈ ds, okR d = true ∧ d.depth ≤ 60) ∧ (ds.length < 2 ∨ (∀ d ∈ ds, isTupC d = true) ∧ ∀ d ∈ ds, ∀ e ∈ ds, W.alike d e = true) := by
  unfold okS at h
  rw [Bool.and_eq_true, List.all_eq_true, Bool.or_eq_true] at h
  refine ⟨fun d hd => ?_, ?_⟩
  · have z := h.1 d hd
    rw [Bool.and_eq_true] at z
    exact ⟨z.1, of_decide_eq_true z.2⟩
  · rcases h.2 with h2 | h2
    · exact .inl (of_decide_eq_true h2)
    · rw [Bool.and_eq_true, List.all_eq_true, List.all_eq_true] at h2
      exact .inr ⟨h2.1, fun d hd e he => List.all_eq_true.mp (h2.2 d hd) e he⟩
theorem srt_short : ∀ {ds : List Dt}, ds.length < 2 → srtD ds = ds
  | [], _ => by unfold srtD; exact List.mergeSort_nil
  | [d], _ => by unfold srtD; exact List.mergeSort_singleton d
  | _ :: _ :: _, h => by
    simp only [List.length_cons] at h
    omega
theorem perm_short {α : Type} : ∀ {l m : List α}, l.Perm m → m.length < 2 → l = m
  | l, [], h, _ => List.perm_nil.mp h
  | l, [x], h, _ => List.perm_singleton.mp h
  | _, _ :: _ :: _, _, h => by
    simp only [List.length_cons] at h
    omega
theorem sortable_of {ds : List Dt} (h : ∀ d ∈ ds, isTupC d = true) : W.Sortable ds := .inl fun d hd => by
  have z := h d hd
  cases d with
  | tuple xs => cases xs with
    | nil => cases z
    | cons x r => exact ⟨x, r, rfl⟩
  | _ => cases z
section
variable {prog : Program} {w : World} {A : Around} {E : Value → Shared → Prop} {s : Shared} {vs : List Value} {ds : List Dt} {R : Value → Dt → Prop}
/-- xs.sort(), of what reads as such data -/
theorem lsort {a : Addr} {n : Nat} {Q : Value → Shared → Prop} (ho : s.heap.get? a = some (seqObj "list" vs.toArray n)) (e : W.EachIs R vs ds) (er : W.EachIs (fun v d => ∃ as, Reads s.heap v (id d) as ∧ a ∉ as) vs ds) (ok : okS ds = true)
    (hL : ds.length ≤ sizeLine) (hu : A.units + 62 < cLine) (h : ∀ out, out.length = ds.length → W.EachIs R out (srtD ds) → Q .none { s with heap := sortedHeap s.heap a vs (List.toArray out) }) : wpAny (model prog w) A (call (.builtin "list.sort") [.ref a]) Q E s := by
  obtain ⟨o1, o2⟩ := okS_each ok
  have el := e.length
  rcases o2 with lt | ⟨o2, o3⟩
  · refine wpAny_call_entry PyProof.Rows.slot_list_sort ⟨_, ho, rfl⟩ PyProof.Rows.entry_list_sort
      (SrtO.list_sort_ord SrtO.swo_int ho (by omega) (fun h2 => by omega) fun out h1 h2 => ⟨.none, rfl, ?_⟩) (PyProof.Rows.args_list_sort _)
    have eo : out = vs := perm_short h2.perm (by omega)
    subst eo
    exact h out el (by rw [srt_short lt]; exact e)
  · refine W.list_sort_data (enc := id) ho e er ?_ ?_ hL (fun d hd => ?_) fun out ho eo => h out ho eo
    · rw [List.map_id]
      exact o3
    · rw [List.map_id]
      exact sortable_of o2
    · have := (o1 d hd).2
      show A.units + 1 + d.depth < cLine
      omega
end
theorem each_of_rp {K : PySem.W.Frag} {F : Hp} : ∀ {ds : List Dt} {vs : List V} {us : List Value}, RpA K F ds vs → Vals vs us → W.EachIs (fun u d => ∃ v, Rp K F d v ∧ RelV v u) us ds
  | [], _, _, h, r => by
    cases (show _ = _ from h)
    cases r
    exact .nil
  | d :: ds, _, _, h, r => by
    obtain ⟨x, xs, rfl, h1, h2⟩ := h
    cases r with
    | cons r1 r2 => exact .cons ⟨x, h1, r1⟩ (each_of_rp h2 r2)
theorem rp_of_each {K : PySem.W.Frag} {F : Hp} : ∀ {ds : List Dt} {us : List Value}, W.EachIs (fun u d => ∃ v, Rp K F d v ∧ RelV v u) us ds → ∃ vs, RpA K F ds vs ∧ Vals vs us
  | _, _, .nil => ⟨[], rfl, .nil⟩
  | _, _, .cons ⟨x, h1, r1⟩ t => by
    obtain ⟨vs, h2, r2⟩ := rp_of_each t
    exact ⟨x :: vs, ⟨x, vs, rfl, h1, h2⟩, .cons r1 r2⟩
theorem each_reads {X : Cx} {pins : List (Addr × Obj)} {σ : L2.St} {H F : Hp} {s : Shared} (I : Inv X pins σ H s) (sb : Same F H) : ∀ {ds : List Dt} {vs : List V} {us : List Value}, (∀ d ∈ ds, okR d = true) → RpA X.K F ds vs → Vals vs us →
    W.EachIs (fun u d => ∃ as, Reads s.heap u (id d) as) us ds
  | [], _, _, _, h, r => by
    cases (show _ = _ from h)
    cases r
    exact .nil
  | d :: ds, _, _, c, h, r => by
    obtain ⟨x, xs, rfl, h1, h2⟩ := h
    cases r with
    | cons r1 r2 =>
      have e := strip_ok d (c d List.mem_cons_self)
      obtain ⟨as, q1, _⟩ := rp_reads I sb d _ _ (by rw [e]; exact c d List.mem_cons_self) h1 r1
      rw [e] at q1
      exact .cons ⟨as, q1⟩ (each_reads I sb (fun z hz => c z (List.mem_cons_of_mem _ hz)) h2 r2)
theorem k_sortedD {X : Cx} (K : PySem.W.Frag) (hu : X.A.units + 70 < cLine) (hK : X.K = K := by rfl) : CallR X (.builtin "sorted") (rSortedD K) := by
  subst hK
  intro pins s σ H xs us Q I r h
  obtain ⟨F, a, ds, vs, rfl, sb, hs, hr, ok, q⟩ := h
  obtain ⟨its, rv, hl, hz⟩ := I.list hs
  obtain ⟨o1, o2⟩ := okS_each ok
  rw [Vals.ref1 r]
  have e := each_of_rp hr rv
  have er := each_reads I sb (fun d hd => (o1 d hd).1) hr rv
  have el := e.length
  have l1 := rv.length
  have fin : ∀ out : List Value, out.length = ds.length → W.EachIs (fun u d => ∃ v, Rp X.K F d v ∧ RelV v u) out (srtD ds) → ∃ (v' : V) (H' : Hp), Inv X pins σ H' { s with heap := sortedAll s.heap its (List.toArray out) } ∧ RelV v' (.ref (s.heap.objs.size + 1)) ∧ Q v' H' := fun out ho eo => by
    obtain ⟨ws, w1, w2⟩ := rp_of_each eo
    obtain ⟨ep, he'⟩ := PyProof.Rows.sortedAll_at s.heap its out.toArray
    have hlen : ws.length ≤ sizeLine := by
      have := w2.length
      omega
    exact ⟨.ref _, upd H (s.heap.objs.size + 1) (.lst ws), I.laid (t' := s.toks) (fun _ _ => PyProof.Rows.sortedAll_old) (Nat.le_succ _) ⟨hlen, out, ep, w2, he'⟩, rfl, q ws _ w1 (I.hok.fresh (Nat.le_succ _))⟩
  rcases o2 with lt | ⟨o2, o3⟩
  · refine SrtO.sorted_ord SrtO.swo_int hl.isList (by omega) (fun h2 h₁ a' _ _ => by omega) fun out h1 h2 => ?_
    have eo : out = its := perm_short h2.perm (by omega)
    subst eo
    exact fin out el (by rw [srt_short lt]; exact e)
  · refine W.sorted_data (enc := id) hl.isList e er ?_ ?_ (by omega) (fun d hd => ?_) fun out ho eo => fin out ho eo
    · rw [List.map_id]
      exact o3
    · rw [List.map_id]
      exact sortable_of o2
    · have := (o1 d hd).2
      show X.A.units + 2 + d.depth < cLine
      omega
theorem fSortedD_some {d z : Dt} (h : fSortedD d = some z) : ∃ ds, d = .list ds ∧ okS ds = true ∧ z = .list (srtD ds) := by
  cases d with
  | list ds =>
    simp only [fSortedD] at h
    by_cases c : okS ds = true
    · rw [if_pos c] at h
      exact ⟨ds, rfl, c, (Option.some.inj h).symm⟩
    · rw [if_neg c] at h
      cases h
  | _ => simp [fSortedD] at h
theorem c_sortedD {K : PySem.W.Frag} : RC1o K (rSortedD K) fSortedD := fun M env F σ H x d z Q S hx hf q => by
  obtain ⟨ds, rfl, c, rfl⟩ := fSortedD_some hf
  obtain ⟨a, xs, rfl, h3, h4⟩ := hx.lst S.sub
  refine ⟨F, a, ds, xs, rfl, S.sub, SqL.of h3, h4, c, fun ws p hw np => ?_⟩
  obtain ⟨S2, L2, o2⟩ := S.newO np hw
  exact q p F _ S2 (Same.refl F) L2 o2
section
variable {P : Dt → Prop}
theorem o1_sortedD {ds : List Dt} (h : okS ds = true) (k : P (.list (srtD ds))) : W1 (fSortedD (.list ds)) P := ⟨_, if_pos h, k⟩
end
theorem srtD_perm (ds : List Dt) : (srtD ds).Perm ds := List.mergeSort_perm ds _
theorem dataLe_id (a b : Dt) : W.dataLe false id a b = !W.dataLt b a := by
  rw [W.dataLe_eq]
  rfl
theorem srtD_le (ds : List Dt) : (srtD ds).Pairwise fun a b => W.dataLt b a = false := by
  have z := W.sort_pairwise (W.sortLe_total (listOrd itemOrd) false fun b : Dt => W.keyToks (id b)) ds
  refine List.Pairwise.imp (fun {a b} h => ?_) z
  have h' : W.dataLe false id a b = true := h
  rw [dataLe_id] at h'
  simpa using h'
theorem pw_both {α : Type} {r : α → α → Prop} : ∀ {l : List α}, l.Pairwise r → ∀ a ∈ l, ∀ b ∈ l, a = b ∨ r a b ∨ r b a
  | x :: l, h, a, ha, b, hb => by
    rw [List.pairwise_cons] at h
    rcases List.mem_cons.mp ha with ea | ha
    · rcases List.mem_cons.mp hb with eb | hb
      · exact .inl (ea.trans eb.symm)
      · exact .inr (.inl (ea ▸ h.1 b hb))
    · rcases List.mem_cons.mp hb with eb | hb
      · exact .inr (.inr (eb ▸ h.1 a ha))
      · exact pw_both h.2 a ha b hb
/-- a list in strict order is what sorting gives -/
theorem srtD_of {ds m : List Dt} (p : m.Perm ds) (h : m.Pairwise fun a b => W.dataLt a b = true) (as : ∀ a ∈ m, ∀ b ∈ m, W.dataLt a b = true → W.dataLt b a = false) : srtD ds = m := by
  have hm : m.Pairwise fun a b => W.dataLt b a = false := List.Pairwise.imp_of_mem (fun {a b} ha hb q => as a ha b hb q) h
  refine ((srtD_perm ds).trans p.symm).eq_of_pairwise (fun a b ha hb q1 q2 => ?_) (srtD_le ds) hm
  have hb' : b ∈ m := hb
  have ha' : a ∈ m := ((srtD_perm ds).trans p.symm).mem_iff.mp ha
  rcases pw_both h a ha' b hb' with e | e | e
  · exact e
  · rw [e] at q2
    cases q2
  · rw [e] at q1
    cases q1
theorem dataLt_tup (xs ys : List Int) : W.dataLt (.tuple (xs.map .int)) (.tuple (ys.map .int)) = decide (xs < ys) := by
  rw [← W.dataLt_ints]
  rfl
theorem alike_tup (xs ys : List Int) : W.alike (.tuple (xs.map .int)) (.tuple (ys.map .int)) = true := by
  simp only [W.alike]
  exact W.alike_ints xs ys
theorem dataLt_tp (xs ys : List Int) (n m : Int) : W.dataLt (.tuple [.tuple (xs.map .int), .int n]) (.tuple [.tuple (ys.map .int), .int m]) = (if xs = ys then decide (n < m) else decide (xs < ys)) := by
  rw [W.dataLt_pair (alike_tup xs ys) (by simp [W.alike]), W.dataLt_int, dataLt_tup]
  have e : PyData.eqv (.tuple (xs.map .int)) (.tuple (ys.map .int)) = decide (xs = ys) := by
    simp only [PyData.eqv]
    exact eqv_ints xs ys
  have e2 : PyData.eqv (.int n) (.int m) = decide (n = m) := by
    simp only [PyData.eqv]
    by_cases h2 : n = m <;> simp [h2]
  rw [e, e2]
  by_cases h : xs = ys
  · rw [if_pos (by simp [h]), if_pos h]
    by_cases h2 : n = m <;> simp [h2]
  · rw [if_neg (by simp [h]), if_neg h]

/-! ### sorted of a dict by tuples of ints: its keys, in order -/
def keysT (kvs : List (List Key × V)) : List Dt := kvs.map fun kv => .tuple (kv.1.map kD)
def tupIs : Dt → Bool
  | .tuple ds => ds.all isIntD
  | _ => false
def rSortedDT (K : PySem.W.Frag) : List V → Hp → VK → Prop := fun xs H Q =>
  ∃ (a : Addr) (kvs : List (List Key × V)), xs = [V.ref a] ∧ Rd H a (.dT kvs) ∧ okS (keysT kvs) = true ∧ (keysT kvs).all tupIs = true ∧
    ∀ (bs : List Addr) (ns : List (List Int)) (p : Addr), srtD (keysT kvs) = (ns.map fun n => .tuple (n.map .int)) → Paired (fun b n => H b = some (.tup (n.map V.int))) bs ns → H p = none →
      Q (.ref p) (upd H p (.lst (bs.map V.ref)))
theorem tup_ints : ∀ {ks : List Key}, tupIs (.tuple (ks.map kD)) = true → ∃ ns : List Int, ks = ns.map Sum.inl
  | [], _ => ⟨[], rfl⟩
  | k :: ks, h => by
    have h' : (isIntD (kD k) && (ks.map kD).all isIntD) = true := h
    rw [Bool.and_eq_true] at h'
    obtain ⟨ns, rfl⟩ := tup_ints (ks := ks) h'.2
    cases k with
    | inl i => exact ⟨i :: ns, rfl⟩
    | inr x => cases (show false = true from h'.1)
theorem keys_ints : ∀ {kvs : List (List Key × V)}, (keysT kvs).all tupIs = true → ∃ ns : List (List Int), kvs.map (·.1) = ns.map fun n => n.map Sum.inl
  | [], _ => ⟨[], rfl⟩
  | (k, v) :: kvs, h => by
    have h' : (tupIs (.tuple (k.map kD)) && (keysT kvs).all tupIs) = true := h
    rw [Bool.and_eq_true] at h'
    obtain ⟨ns, e⟩ := keys_ints (kvs := kvs) h'.2
    obtain ⟨n, rfl⟩ := tup_ints h'.1
    exact ⟨n :: ns, by rw [List.map_cons, List.map_cons, e]⟩
theorem reads_ints {h : Heap} : ∀ {its : List Value} {ns : List Int}, IntsAre its ns → ReadsAll h its (ns.map .int) []
  | _, _, .nil => .nil
  | _, _, .cons _ _ t => ReadsAll.cons (as := []) (bs := []) (.int _ _) (reads_ints t)
theorem vals_ints {ns : List Int} {its : List Value} (h : Vals (ns.map V.int) its) : IntsAre its ns := h.ints
section
variable {X : Cx} {pins : List (Addr × Obj)} {σ : L2.St} {H : Hp} {s : Shared}
theorem tup_reads (I : Inv X pins σ H s) {b : Addr} {ns : List Int} (h : H b = some (.tup (ns.map V.int))) : Reads s.heap (.ref b) (.tuple (ns.map .int)) [] := by
  obtain ⟨its, rv, ⟨o, ho, hc, n, hd⟩, _⟩ := I.tuple (SqT.of h)
  exact Reads.tuple ho hc hd (reads_ints (vals_ints rv))
theorem each_of_ix {R : Value → Dt → Prop} : ∀ {us : List Value} {ds : List Dt}, us.length = ds.length → (∀ (i : Nat) (u : Value) (d : Dt), us[i]? = some u → ds[i]? = some d → R u d) → W.EachIs R us ds
  | [], [], _, _ => .nil
  | u :: us, d :: ds, l, h => .cons (h 0 u d rfl rfl) (each_of_ix (by simpa using l) fun i u' d' e e' => h (i + 1) u' d' (by simpa using e) (by simpa using e'))
  | [], _ :: _, l, _ => by simp at l
  | _ :: _, [], l, _ => by simp at l
/-- what a sorted list of keys stands for -/
theorem keys_out : ∀ {us : List Value} {ds : List Dt}, W.EachIs (fun u d => ∃ (b : Addr) (n : List Int), u = .ref b ∧ d = .tuple (n.map .int) ∧ H b = some (.tup (n.map V.int))) us ds →
    ∃ (bs : List Addr) (ns : List (List Int)), us = bs.map Value.ref ∧ (ds = ns.map fun n => .tuple (n.map .int)) ∧ Paired (fun b n => H b = some (.tup (n.map V.int))) bs ns
  | _, _, .nil => ⟨[], [], rfl, rfl, .nil⟩
  | _, _, .cons ⟨b, n, h1, h2, h3⟩ t => by
    obtain ⟨bs, ns, e1, e2, e3⟩ := keys_out t
    exact ⟨b :: bs, n :: ns, by rw [h1, e1]; rfl, by rw [h2, e2]; rfl, .cons h3 e3⟩
theorem vals_refs : ∀ bs : List Addr, Vals (bs.map V.ref) (bs.map Value.ref)
  | [] => .nil
  | _ :: bs => .cons rfl (vals_refs bs)
theorem k_sortedDT {X : Cx} (K : PySem.W.Frag) (hcalm : X.calm = true) (hu : X.A.units + 70 < cLine) (hK : X.K = K := by rfl) : CallR X (.builtin "sorted") (rSortedDT K) := by
  subst hK
  intro pins s σ H xs us Q I r h
  obtain ⟨a, kvs, rfl, hd, ok, okt, q⟩ := h
  rw [Vals.ref1 r]
  obtain ⟨z, lo, xs, rel, dd⟩ := dt_rd I.hok hd
  obtain ⟨es, ep, hraw, hsz, hent⟩ := dd.raw
  have lx : kvs.length = xs.length := Paired.length rel
  have h16 : es.size ≤ sizeLine := by omega
  obtain ⟨o1, o2⟩ := okS_each ok
  have lk : (keysT kvs).length = kvs.length := by rw [keysT, List.length_map]
  refine Calls.call_function_entry PyProof.Rows.kind_sorted PyProof.Rows.plain_sorted PyProof.Rows.entry_sorted (PyProof.Rows.args_sorted1 _) ?_
  unfold Builtin.«sorted»
  refine wpAny_bind (m := checkCount "sorted" 1 1 _) (wpAny_pure ?_)
  refine wpAny_bind (W.kdu_collect (A := X.A.in1) (KdlSrc.rawDict lo) (I.ok.hd hcalm) hraw h16 fun h' tk acc hk hacc => ?_)
  have I1 : Inv X pins σ H { s with heap := h', toks := tk } := I.kept hk
  have hal : acc.toList.length = (keysT kvs).length := by
    rw [Array.length_toList, hacc.1, keysT, List.length_map]
    omega
  have e0 : W.EachIs (fun u d => ∃ (b : Addr) (n : List Int), u = .ref b ∧ d = .tuple (n.map .int) ∧ H b = some (.tup (n.map V.int))) acc.toList (keysT kvs) := by
    refine each_of_ix hal fun i u d eu ed => ?_
    obtain ⟨hi, rfl⟩ := hacc.2 i u (by rw [← Array.getElem?_toList]; exact eu)
    obtain ⟨y, ey, ek, _, _⟩ := hent i hi
    obtain ⟨kv, ekv, k1, k2, _⟩ := DX.pget rel ey
    have ed' : d = .tuple (kv.1.map kD) := by
      unfold keysT at ed
      rw [List.getElem?_map, ekv] at ed
      exact (Option.some.inj ed).symm
    have hm : d ∈ keysT kvs := List.mem_of_getElem? ed
    have ht : tupIs d = true := List.all_eq_true.mp okt d hm
    subst ed'
    obtain ⟨n, en⟩ := tup_ints ht
    refine ⟨y.2.1, n, ek, by rw [en, List.map_map]; rfl, ?_⟩
    rw [k2, en, List.map_map]
    rfl
  refine wpAny_bind (wpAny_newList ?_ (by omega))
  have hoL : (h'.push (seqObj "list" acc.toList.toArray 0)).get? h'.objs.size = some (seqObj "list" acc.toList.toArray 0) := Heap.get?_push_size _ rfl
  show wpAny _ _ _ _ _ { s with heap := h'.push (seqObj "list" acc.toList.toArray 0), toks := tk }
  have I2 : Inv X pins σ H { s with heap := h'.push (seqObj "list" acc.toList.toArray 0), toks := tk } := I1.kept (t' := tk) fun b o e => Heap.get?_push_of_some _ e
  refine wpAny_bind (wpAny_holding (lsort (s := { s with heap := h'.push (seqObj "list" acc.toList.toArray 0), toks := tk }) hoL e0 (e0.mono fun u d ⟨b, n, h1, h2, h3⟩ => ⟨[], by subst h1 h2; exact tup_reads I2 h3, by simp⟩) ok (by omega) (by show X.A.units + 1 + 62 < cLine; omega) fun out ho eo => ?_))
  obtain ⟨bs, ns, e1, e2, e3⟩ := keys_out eo
  obtain ⟨e', he'⟩ := PyProof.Rows.sortedHeap_at (vs := acc.toList) (out := out.toArray) hoL
  have lb : bs.length = out.length := by rw [e1, List.length_map]
  have hlen : (bs.map V.ref).length ≤ sizeLine := by
    rw [List.length_map]
    omega
  refine wpAny_pure ⟨_, rfl, .ref h'.objs.size, upd H h'.objs.size (.lst (bs.map V.ref)), I1.laid (t' := tk) (fun b u e => ?_) (Nat.le_refl _)
    (show ObjOk X.prog X.w _ _ _ (.lst (bs.map V.ref)) from ⟨hlen, out, e', by rw [e1]; exact vals_refs bs, he'⟩), rfl, q bs ns _ e2 e3 (I1.hok.fresh (Nat.le_refl _))⟩
  have hb : b < h'.objs.size := Heap.lt_size e
  rw [PyProof.Rows.sortedHeap_old (Nat.ne_of_lt hb) (by rw [size_push']; exact Nat.lt_succ_of_lt hb)]
  exact Heap.get?_push_of_some _ e
end
section
variable {K : PySem.W.Frag} {M : Fm} {env : Evs} {F : Hp} {σ : L2.St} {H : Hp}
theorem Sn.iceTs : ∀ {bs : List Addr} {ns : List (List Int)} {F : Hp}, Sn K M env F σ H → Paired (fun b n => H b = some (.tup (n.map V.int))) bs ns →
    ∃ F', Sn K M env F' σ H ∧ Same F F' ∧ RpA K F' (ns.map fun n => .tuple (n.map .int)) (bs.map V.ref)
  | _, _, F, S, .nil => ⟨F, S, Same.refl F, rfl⟩
  | b :: bs, n :: ns, F, S, .cons h t => by
    obtain ⟨S1, s1⟩ := S.iceT h
    obtain ⟨F', S2, s2, r⟩ := Sn.iceTs S1 t
    exact ⟨F', S2, s1.trans s2, .ref b, bs.map V.ref, rfl, ⟨b, _, rfl, s2 _ _ upd_same, RpA.of_ints n⟩, r⟩
def fSortedDT : Dt → Option Dt
  | .dict ((.none, .tuple []) :: kvs) => if (okS (kvs.map (·.1)) && (kvs.map (·.1)).all tupIs) = true then some (.list (srtD (kvs.map (·.1)))) else none
  | _ => none
theorem fSortedDT_some {d z : Dt} (h : fSortedDT d = some z) : ∃ kvs, d = .dict ((.none, .tuple []) :: kvs) ∧ okS (kvs.map (·.1)) = true ∧ (kvs.map (·.1)).all tupIs = true ∧ z = .list (srtD (kvs.map (·.1))) := by
  unfold fSortedDT at h
  split at h
  · rename_i kvs
    by_cases c : (okS (kvs.map (·.1)) && (kvs.map (·.1)).all tupIs) = true
    · rw [if_pos c] at h
      rw [Bool.and_eq_true] at c
      exact ⟨kvs, rfl, c.1, c.2, (Option.some.inj h).symm⟩
    · rw [if_neg c] at h
      cases h
  · cases h
theorem RpT.keys : ∀ {ds : List (Dt × Dt)} {vs : List (List Key × V)}, RpT K F ds vs → keysT vs = ds.map (·.1)
  | [], _, h => by
    cases (show _ = _ from h)
    rfl
  | (k, d) :: ds, _, h => by
    obtain ⟨x, y, r, rfl, rfl, _, h2⟩ := h
    show PyData.tuple (x.map kD) :: keysT r = _
    rw [RpT.keys h2]
    rfl
theorem c_sortedDT : RC1o K (rSortedDT K) fSortedDT := fun M env F σ H x d z Q S hx hf q => by
  obtain ⟨kvs, rfl, c1, c2, rfl⟩ := fSortedDT_some hf
  obtain ⟨a, rfl, h⟩ := dct_at S.sub hx
  rcases h with ⟨vs, _, h3⟩ | ⟨vs, h2, h3⟩ | ⟨ns, h3⟩ | ⟨o, vs, _, h3⟩ | ⟨c', r', h3⟩
  · obtain ⟨x, _, _, _, h4, _⟩ := h3
    cases x <;> cases h4
  · obtain ⟨_, _, h4⟩ := h3
    have ek := RpT.keys h4
    refine ⟨a, vs, rfl, .inl h2, by rw [ek]; exact c1, by rw [ek]; exact c2, fun bs ns p e1 e2 np => ?_⟩
    obtain ⟨F', S1, s1, r1⟩ := S.iceTs e2
    rw [← ek, e1] at q
    obtain ⟨S2, L2, o2⟩ := S1.newO np r1
    exact q p F' _ S2 s1 L2 o2
  · cases h3
  · obtain ⟨h4, _⟩ := h3
    cases h4
  · cases h3
theorem o1_sortedDT {kvs : List (Dt × Dt)} {P : Dt → Prop} (h : okS (kvs.map (·.1)) = true) (h2 : (kvs.map (·.1)).all tupIs = true) (k : P (.list (srtD (kvs.map (·.1))))) : W1 (fSortedDT (.dict ((.none, .tuple []) :: kvs))) P := ⟨_, if_pos (by rw [h, h2]; rfl), k⟩
end
/-! ### lots, and pairs of a lot and a number, in their order -/
abbrev tupI (n : List Int) : Dt := .tuple (n.map .int)
abbrev tupP (p : List Int × Int) : Dt := .tuple [tupI p.1, .int p.2]
theorem okR_ints : ∀ n : List Int, okRs (n.map PyData.int) = true
  | [] => rfl
  | _ :: n => by
    show (okR (.int _) && okRs (n.map PyData.int)) = true
    rw [okR_ints n]
    rfl
theorem okR_tupI (n : List Int) : okR (tupI n) = true := by
  simp only [tupI, okR]
  exact okR_ints n
theorem dep_tupI (n : List Int) : (tupI n).depth ≤ 1 := by
  simp only [tupI, PyData.depth]
  rw [W.depth_ints]
  omega
theorem tupIs_tupI (n : List Int) : tupIs (tupI n) = true := by
  show (n.map PyData.int).all isIntD = true
  rw [List.all_map]
  exact List.all_eq_true.mpr fun _ _ => rfl
theorem all_tupIs (ns : List (List Int)) : (ns.map tupI).all tupIs = true := by
  rw [List.all_map]
  exact List.all_eq_true.mpr fun n _ => tupIs_tupI n
theorem okS_of {ds : List Dt} (h1 : ∀ d ∈ ds, okR d = true ∧ d.depth ≤ 60) (h2 : ds.length < 2 ∨ (∀ d ∈ ds, isTupC d = true) ∧ ∀ d ∈ ds, ∀ e ∈ ds, W.alike d e = true) : okS ds = true := by
  unfold okS
  rw [Bool.and_eq_true, List.all_eq_true, Bool.or_eq_true]
  refine ⟨fun d hd => ?_, ?_⟩
  · rw [(h1 d hd).1, decide_eq_true (h1 d hd).2]
    rfl
  · rcases h2 with h2 | ⟨h2, h3⟩
    · exact .inl (decide_eq_true h2)
    · refine .inr ?_
      rw [Bool.and_eq_true, List.all_eq_true, List.all_eq_true]
      exact ⟨h2, fun d hd => List.all_eq_true.mpr fun e he => h3 d hd e he⟩
theorem okS_lots {ns : List (List Int)} (h : ns.length < 2 ∨ ∀ n ∈ ns, n ≠ []) : okS (ns.map tupI) = true := by
  refine okS_of (fun d hd => ?_) ?_
  · obtain ⟨n, _, rfl⟩ := List.mem_map.mp hd
    exact ⟨okR_tupI n, by have := dep_tupI n; omega⟩
  · rcases h with h | h
    · exact .inl (by rw [List.length_map]; exact h)
    · refine .inr ⟨fun d hd => ?_, fun d hd e he => ?_⟩
      · obtain ⟨n, hn, rfl⟩ := List.mem_map.mp hd
        cases n with
        | nil => exact absurd rfl (h _ hn)
        | cons _ _ => rfl
      · obtain ⟨n, _, rfl⟩ := List.mem_map.mp hd
        obtain ⟨m, _, rfl⟩ := List.mem_map.mp he
        exact alike_tup n m
theorem okS_pairs (ps : List (List Int × Int)) : okS (ps.map tupP) = true := by
  refine okS_of (fun d hd => ?_) (.inr ⟨fun d hd => ?_, fun d hd e he => ?_⟩)
  · obtain ⟨p, _, rfl⟩ := List.mem_map.mp hd
    refine ⟨?_, ?_⟩
    · simp only [tupP, okR, okRs, okR_ints, Bool.and_self]
    · have := dep_tupI p.1
      simp only [tupP, PyData.depth, PyData.depthAll] at this ⊢
      omega
  · obtain ⟨p, _, rfl⟩ := List.mem_map.mp hd
    rfl
  · obtain ⟨p, _, rfl⟩ := List.mem_map.mp hd
    obtain ⟨q, _, rfl⟩ := List.mem_map.mp he
    simp only [tupP, W.alike, W.alikeAll, tupI, W.alike_ints, Bool.and_self]
/-- lots in strict order are what sorting gives -/
theorem srtD_lots {ns m : List (List Int)} (p : m.Perm ns) (h : m.Pairwise (· < ·)) : srtD (ns.map tupI) = m.map tupI := by
  refine srtD_of (p.map tupI) ?_ fun a ha b hb q => ?_
  · rw [List.pairwise_map]
    exact h.imp fun {a b} q => by rw [dataLt_tup]; exact decide_eq_true q
  · obtain ⟨x, _, rfl⟩ := List.mem_map.mp ha
    obtain ⟨y, _, rfl⟩ := List.mem_map.mp hb
    rw [dataLt_tup] at q ⊢
    exact decide_eq_false fun z => absurd (of_decide_eq_true q) (List.lt_asymm z)
/-- pairs by lots that are all different -/
theorem srtD_pairs {ps m : List (List Int × Int)} (p : m.Perm ps) (h : m.Pairwise fun a b => a.1 < b.1) : srtD (ps.map tupP) = m.map tupP := by
  have irr : ∀ x : List Int, ¬ x < x := fun x => List.lt_irrefl x
  have lt : ∀ a b : List Int × Int, a.1 < b.1 → W.dataLt (tupP a) (tupP b) = true := fun a b q => by
    rw [dataLt_tp, if_neg (fun z => irr _ (z ▸ q))]
    exact decide_eq_true q
  refine srtD_of (p.map tupP) ?_ fun a ha b hb q => ?_
  · rw [List.pairwise_map]
    exact h.imp fun {a b} q => lt a b q
  · obtain ⟨x, hx, rfl⟩ := List.mem_map.mp ha
    obtain ⟨y, hy, rfl⟩ := List.mem_map.mp hb
    rw [dataLt_tp] at q ⊢
    by_cases e : x.1 = y.1
    · rw [if_pos e] at q
      rw [if_pos e.symm]
      exact decide_eq_false fun z => by
        have := of_decide_eq_true q
        omega
    · rw [if_neg e] at q
      rw [if_neg fun z => e z.symm]
      exact decide_eq_false fun z => absurd (of_decide_eq_true q) (List.lt_asymm z)

abbrev natD (x : Nat) : Dt := .int (x : Int)
abbrev lotD (l : List Nat) : Dt := .tuple (l.map natD)

def m_sign_of_many : Mst :=
 (mRet (mIf (mB (mOp fEq (mOp fMod (mVar 0) (mK (.int 2))) (mK (.int 0)))) (mK (.int 1)) (mUn fNeg (mK (.int 1)))))
def b_sign_of_many : Gf := bodyG 1 [false] m_sign_of_many

abbrev g_sign_of_many : Gf := b_sign_of_many
theorem g_sign_of_many_ok : ∀ ds z, g_sign_of_many ds = some z → b_sign_of_many ds = some z := fun _ _ h => h

def m_laid : Mst :=
 (mSeq (mIfS (mB (mC1 fAny (mLc (mItems tupOf (mVar 1)) (putF 2) mYes (mOp (fIn false) (mVar 2) (mVar 0)) [2])))
 (mRet (mTup (mCons (mK (.int 0)) (mCons (mTup mNil) mNil))))
 mNext)
 (mSeq (mSet 3 (mC1 fSum (mLc (mItems tupOf (mVar 1)) (putF 2) mYes (mC1 fLen (mLc (mItems tupOf (mVar 0)) (putF 4) (mB (mOp fGt (mVar 4) (mVar 2))) (mVar 4) [4])) [2])))
 (mRet (mTup (mCons (mCallF [false] g_sign_of_many (aVal (mVar 3) aNil)) (mCons (mC1 fTupOf (mC1 fSortedT (mOp fCatT (mVar 0) (mVar 1)))) mNil))))))
def b_laid : Gf := bodyG 5 [false, false] m_laid

abbrev g_laid : Gf := b_laid
theorem g_laid_ok : ∀ ds z, g_laid ds = some z → b_laid ds = some z := fun _ _ h => h

def m_part : Mst :=
 (mSeq (mFor (mItems tupOf (mVar 0)) (mgTup 2 (mgCons (putF 2) (mgCons (putF 3) mgNil)))
 (mIfS (mB (mOp fEq (mVar 2) (mVar 1)))
 (mRet (mVar 3))
 mNext))
 (mRet (mK (.int 0))))
def b_part : Gf := bodyG 4 [false, false] m_part

abbrev g_part : Gf := b_part
theorem g_part_ok : ∀ ds z, g_part ds = some z → b_part ds = some z := fun _ _ h => h

def m_gathered : Mst :=
 (mSeq (mSetO 2 (mK (.dict [(.none, .tuple [])])))
 (mSeq (mFor (mItems lstOf (mVar 1)) (mgTup 2 (mgCons (putF 3) (mgCons (putF 4) mgNil)))
 (mDPut 2 (mVar 3) (mOp fMod (mOp fAdd (mDGet2P 2 (mVar 3) (mK (.int 0))) (mVar 4)) (mVar 0))))
 (mRet (mGx (mItems lstOf (mC1 fSortedDT (mPeek 2))) (putF 3) (mTruth (mOpP fDGet 2 (mVar 3))) (mTup (mCons (mVar 3) (mCons (mOpP fDGet 2 (mVar 3)) mNil))) [3]))))
def b_gathered : Gf := bodyG 5 [false, false] m_gathered

abbrev g_gathered : Gf := b_gathered
theorem g_gathered_ok : ∀ ds z, g_gathered ds = some z → b_gathered ds = some z := fun _ _ h => h

def m_outer : Mst :=
 (mSeq (mSetO 3 (mLst mNil))
 (mSeq (mFor (mItems tupOf (mVar 1)) (mgTup 2 (mgCons (putF 4) (mgCons (putF 5) mgNil)))
 (mFor (mItems tupOf (mVar 2)) (mgTup 2 (mgCons (putF 6) (mgCons (putF 7) mgNil)))
 (mSeq (mAsg (mCallF [false, false] g_laid (aVal (mVar 4) (aVal (mVar 6) aNil))) (mgTup 2 (mgCons (putF 8) (mgCons (putF 9) mgNil))))
 (mIfS (mB (mOp fNe (mVar 8) (mK (.int 0))))
 (mApp 3 (mTup (mCons (mVar 9) (mCons (mOp fMulS (mOp fMulS (mVar 8) (mVar 5)) (mVar 7)) mNil))))
 mNext))))
 (mRet (mCallF [false, false] g_gathered (aVal (mVar 0) (aVal (mVar 3) aNil))))))
def b_outer : Gf := bodyG 10 [false, false, false] m_outer

abbrev g_outer : Gf := b_outer
theorem g_outer_ok : ∀ ds z, g_outer ds = some z → b_outer ds = some z := fun _ _ h => h

def m_pot : Mst :=
 (mSeq (mSet 2 (mIf (mB (mOp fLt (mVar 1) (mC1 fLen (mVar 0)))) (mOp fIxL (mVar 0) (mVar 1)) (mK (.int 0))))
 (mSeq (mSet 3 (mIf (mB (mOp fGe (mC1 fAbs (mVar 2)) (mOp fPow (mK (.int 10)) (mK (.int 18))))) (mOp fMod (mC1 fAbs (mVar 2)) (mOp fPowW (mOp fPow (mK (.int 10)) (mK (.int 60))) (mK (.int 4)))) (mK (.int 0))))
 (mRetO (mLst (mCons (mVar 3) (mCons (mOp fMod (mOp fAdd (mOp fAdd (mOp fMulS (mOp fMod (mVar 2) (mK (.int 2305843009213693951))) (mK (.int 1000003))) (mOp fMulS (mOp fMulS (mK (.int 7919)) (mVar 1)) (mVar 1))) (mK (.int 61))) (mK (.int 2305843009213693921))) (mCons (mK (.int 0)) mNil)))))))
def b_pot : Gf := bodyG 4 [false, false] m_pot

abbrev g_pot : Gf := b_pot
theorem g_pot_ok : ∀ ds z, g_pot ds = some z → b_pot ds = some z := fun _ _ h => h

def m_take : Mst :=
 (mSeq (mIfS (mB (mOp fGt (mOpP fIxL 0 (mK (.int 0))) (mK (.int 0))))
 (mSeq (mSet 2 (mOp fMod (mOpP fIxL 0 (mK (.int 0))) (mVar 1)))
 (mSeq (mPut 0 (mK (.int 0)) (mOp fDiv (mOpP fIxL 0 (mK (.int 0))) (mVar 1)))
 (mRet (mVar 2))))
 mNext)
 (mSeq (mPut 0 (mK (.int 2)) (mOp fAdd (mOpP fIxL 0 (mK (.int 2))) (mK (.int 1))))
 (mSeq (mSet 3 (mOp fAdd (mOpP fIxL 0 (mK (.int 1))) (mOp fMulS (mK (.int 15485863)) (mOpP fIxL 0 (mK (.int 2))))))
 (mSeq (mSet 4 (mOp fAdd (mOp fAdd (mOp fMod (mOpP fIxL 0 (mK (.int 1))) (mK (.int 7919))) (mOp fMulS (mK (.int 32452867)) (mOpP fIxL 0 (mK (.int 2))))) (mK (.int 17))))
 (mSeq (mSet 5 (mOp fMod (mOp fMulS (mVar 3) (mVar 4)) (mK (.int 2305843009213693951))))
 (mSeq (mSet 6 (mOp fAdd (mOp fAdd (mOp fMod (mVar 5) (mK (.int 1000003))) (mOp fMulS (mK (.int 6700417)) (mOpP fIxL 0 (mK (.int 2))))) (mK (.int 3))))
 (mRet (mOp fMod (mOp fDiv (mOp fMod (mOp fMulS (mOp fAdd (mVar 5) (mK (.int 19))) (mVar 6)) (mK (.int 2305843009213693907))) (mK (.int 64))) (mVar 1)))))))))
def b_take : Gf := bodyG 7 [true, false] m_take

abbrev g_take : Gf := b_take
theorem g_take_ok : ∀ ds z, g_take ds = some z → b_take ds = some z := fun _ _ h => h

def m_pick : Mst :=
 (mRet (mOp fIxL (mVar 1) (mCallF [true, false] g_take (aSl 0 (aVal (mC1 fLen (mVar 1)) aNil)))))
def b_pick : Gf := bodyG 2 [true, false] m_pick

abbrev g_pick : Gf := b_pick
theorem g_pick_ok : ∀ ds z, g_pick ds = some z → b_pick ds = some z := fun _ _ h => h

def m_pick_b : Mst :=
 (mRet (mOpP fIxL 1 (mCallF [true, false] g_take (aSl 0 (aVal (mC1 fLen (mPeek 1)) aNil)))))
def b_pick_b : Gf := bodyG 2 [true, true] m_pick_b

abbrev g_pick_b : Gf := b_pick_b
theorem g_pick_b_ok : ∀ ds z, g_pick_b ds = some z → b_pick_b ds = some z := fun _ _ h => h

def m_orders : Mst :=
 (mSeq (mSet 1 (mLst (mCons (mTup (mCons (mTup mNil) (mCons (mK (.int 1)) mNil))) mNil)))
 (mSeq (mFor (mRng rg1 (mCons (mVar 0) mNil)) (putF 2)
 (mSeq (mSetO 3 (mLst mNil))
 (mSeq (mFor (mItems lstOf (mVar 1)) (mgTup 2 (mgCons (putF 4) (mgCons (putF 5) mgNil)))
 (mFor (mRng rg1 (mCons (mOp fAdd (mC1 fLen (mVar 4)) (mK (.int 1))) mNil)) (putF 6)
 (mApp 3 (mTup (mCons (mOp fCatT (mOp fCatT (mSl fSlT (mVar 4) mNoPart (mPart (mVar 6))) (mTup (mCons (mVar 2) mNil))) (mSl fSlT (mVar 4) (mPart (mVar 6)) mNoPart)) (mCons (mOp fMulS (mVar 5) (mOp fSub (mK (.int 1)) (mOp fMulS (mK (.int 2)) (mOp fMod (mOp fSub (mC1 fLen (mVar 4)) (mVar 6)) (mK (.int 2)))))) mNil))))))
 (mSet 1 (mVar 3)))))
 (mRet (mVar 1))))
def b_orders : Gf := bodyG 7 [false] m_orders

abbrev g_orders : Gf := b_orders
theorem g_orders_ok : ∀ ds z, g_orders ds = some z → b_orders ds = some z := fun _ _ h => h

def m_minor : Mst :=
 (mSeq (mSet 4 (mK (.int 0)))
 (mSeq (mFor (mItems lstOf (mVar 3)) (mgTup 2 (mgCons (putF 5) (mgCons (putF 6) mgNil)))
 (mSeq (mSet 7 (mVar 6))
 (mSeq (mFor (mItems (fun d => (lstOf d).map numD) (mVar 1)) (mgTup 2 (mgCons (putF 8) (mgCons (putF 9) mgNil)))
 (mSet 7 (mOp fMod (mOp fMulS (mVar 7) (mOp fIxL (mVar 9) (mOp fIxT (mVar 2) (mOp fIxT (mVar 5) (mVar 8))))) (mVar 0))))
 (mSet 4 (mOp fAdd (mVar 4) (mVar 7))))))
 (mRet (mOp fMod (mVar 4) (mVar 0)))))
def b_minor : Gf := bodyG 10 [false, false, false, false] m_minor

abbrev g_minor : Gf := b_minor
theorem g_minor_ok : ∀ ds z, g_minor ds = some z → b_minor ds = some z := fun _ _ h => h

def m_all : Mst :=
 (mSeq (mSet 2 (mLst (mCons (mTup mNil) mNil)))
 (mSeq (mFor (mRng rg1 (mCons (mVar 0) mNil)) (putF 3)
 (mSet 2 (mOp fCatL (mVar 2) (mLc (mItems lstOf (mVar 2)) (putF 4) (mB (mOp fLt (mC1 fLen (mVar 4)) (mVar 1))) (mOp fCatT (mVar 4) (mTup (mCons (mVar 3) mNil))) [4]))))
 (mRetO (mLc (mItems lstOf (mVar 2)) (putF 4) (mB (mOp fEq (mC1 fLen (mVar 4)) (mVar 1))) (mVar 4) [4]))))
def b_all : Gf := bodyG 5 [false, false] m_all

abbrev g_all : Gf := b_all
theorem g_all_ok : ∀ ds z, g_all ds = some z → b_all ds = some z := fun _ _ h => h

def m_right : Mst :=
 (mSeq (mSet 1 (mCallF [true, false] g_pick (aSl 0 (aVal (mLst (mCons (mK (.int 2)) (mCons (mK (.int 3)) (mCons (mK (.int 5)) (mCons (mK (.int 7)) (mCons (mK (.int 97)) (mCons (mK (.int 999999937)) mNil))))))) aNil))))
 (mSeq (mSet 2 (mOp fAdd (mK (.int 1)) (mCallF [true, false] g_take (aSl 0 (aVal (mK (.int 7)) aNil)))))
 (mSeq (mSetO 3 (mLst mNil))
 (mSeq (mFor (mRng rg1 (mCons (mOp fAdd (mK (.int 1)) (mCallF [true, false] g_take (aSl 0 (aVal (mK (.int 5)) aNil)))) mNil)) (putF 4)
 (mSeq (mSet 5 (mLc (mRng rg1 (mCons (mVar 2) mNil)) (putF 6) mYes (mCallF [true, false] g_pick (aSl 0 (aVal (mLst (mCons (mK (.int 0)) (mCons (mK (.int 1)) (mCons (mOp fSub (mVar 1) (mK (.int 1))) (mCons (mCallF [true, false] g_take (aSl 0 (aVal (mVar 1) aNil))) mNil))))) aNil))) [6]))
 (mSeq (mIfS (mAnd (mB (mOpP fNe 3 (mLst mNil))) (mB (mOp fEq (mCallF [true, false] g_take (aSl 0 (aVal (mK (.int 6)) aNil))) (mK (.int 0)))))
 (mSet 5 (mLc (mItems (fun d => (lstOf d).map numD) (mCallF [true, true] g_pick_b (aSl 0 (aSl 3 aNil)))) (mgTup 2 (mgCons (putF 7) (mgCons (putF 8) mgNil))) mYes (mOp fMod (mOp fAdd (mVar 8) (mOp fIxL (mOpP fIxL 3 (mK (.int 0))) (mVar 7))) (mVar 1)) [7, 8]))
 mNext)
 (mApp 3 (mVar 5)))))
 (mSeq (mSet 9 (mTup (mCons (mTup (mCons (mTup mNil) (mCons (mK (.int 1)) mNil))) mNil)))
 (mSeq (mFor (mItems lstOf (mVar 3)) (putF 5)
 (mSet 9 (mCallF [false, false, false] g_outer (aVal (mVar 1) (aVal (mVar 9) (aVal (mC1 fTupOf (mLc (mItems (fun d => (lstOf d).map numD) (mVar 5)) (mgTup 2 (mgCons (putF 6) (mgCons (putF 8) mgNil))) (mB (mOp fGt (mVar 8) (mK (.int 0)))) (mTup (mCons (mTup (mCons (mVar 6) mNil)) (mCons (mVar 8) mNil))) [6, 8])) aNil))))))
 (mSeq (mPar 10 11 (mCons (mC1 fLen (mVar 3)) (mCons (mCallF [false] g_orders (aVal (mC1 fLen (mVar 3)) aNil)) mNil)))
 (mSeq (mIfS (mB (mOp fGt (mVar 10) (mVar 2)))
 (mRet (mOp fEq (mVar 9) (mTup mNil)))
 mNext)
 (mSeq (mSetO 12 (mK (.dict [(.none, .tuple [])])))
 (mSeq (mFor (mItems lstOf (mCallO [false, false] g_all (aVal (mVar 2) (aVal (mVar 10) aNil)))) (putF 13)
 (mSeq (mDPut 12 (mVar 13) (mCallF [false, false, false, false] g_minor (aVal (mVar 1) (aVal (mVar 3) (aVal (mVar 13) (aVal (mVar 11) aNil))))))
 (mIfS (mB (mOp fNe (mCallF [false, false] g_part (aVal (mVar 9) (aVal (mVar 13) aNil))) (mOpP fDGet 12 (mVar 13))))
 (mRet (mK (.bool false)))
 mNext)))
 (mRet (mOp fEq (mVar 9) (mC1 fTupOf (mLc (mItems lstOf (mC1 fSortedDT (mPeek 12))) (putF 13) (mB (mOp fGt (mOpP fDGet 12 (mVar 13)) (mK (.int 0)))) (mTup (mCons (mVar 13) (mCons (mOpP fDGet 12 (mVar 13)) mNil))) [13]))))))))))))))
def b_right : Gf := bodyG 14 [true] m_right

abbrev g_right : Gf := b_right
theorem g_right_ok : ∀ ds z, g_right ds = some z → b_right ds = some z := fun _ _ h => h

def m_law : Mst :=
 (mRet (mC1 fAll (mLc (mRng rg1 (mCons (mCs fMax2 (mCons (mK (.int 1)) (mCons (mCs fMin2 (mCons (mC1 fLen (mVar 0)) (mCons (mK (.int 3)) mNil))) mNil))) mNil)) (putF 1) mYes (mCallTF 0 g_right (mCallO [false, false] g_pot (aVal (mVar 0) (aVal (mVar 1) aNil))) mNil) [1])))
def b_law : Gf := bodyG 2 [false] m_law

abbrev g_law : Gf := b_law
theorem g_law_ok : ∀ ds z, g_law ds = some z → b_law ds = some z := fun _ _ h => h

-- after: law
structure PotK (B : Nat) (d : Dt) : Prop where
  ex : ∃ g s c : Int, d = .list [.int g, .int s, .int c] ∧ 0 ≤ g ∧ 0 ≤ s ∧ s < 2 ^ 61 ∧ 0 ≤ c ∧ c ≤ B
theorem PotK.up {B C : Nat} {d : Dt} (h : PotK B d) (l : B ≤ C) : PotK C d := by
  obtain ⟨g, s, c, rfl, h1, h2, h3, h4, h5⟩ := h
  exact ⟨g, s, c, rfl, h1, h2, h3, h4, by omega⟩
theorem take_w {pot : Dt} {size : Int} {B : Nat} {R : List Dt → Sl → Prop} (h : PotK B pot) (hz : 0 < size) (hz2 : size < 2 ^ 60) (hB : B + 1 ≤ 1000000)
    (k : ∀ (r : Int) (pot' : Dt), 0 ≤ r → r < size → PotK (B + 1) pot' → R [pot', .none] (.fz (.int r))) : W2 (b_take [pot, .int size]) R := by
  obtain ⟨g, s, c, rfl, hg, hs0, hs1, hc0, hc1⟩ := h
  refine w_body (env := [.bo (.list [.int g, .int s, .int c]), .fz (.int size), .un, .un, .un, .un, .un]) rfl ?_
  unfold m_take
  by_cases hgp : 0 < g
  · walk_at "wp"
    exact k _ _ (Int.emod_nonneg _ (by omega)) (Int.emod_lt_of_pos _ hz) ⟨_, _, _, rfl, Int.ediv_nonneg hg (by omega), hs0, hs1, hc0, by omega⟩
  · walk_at "wp"
    exact k _ _ (Int.emod_nonneg _ (by omega)) (Int.emod_lt_of_pos _ hz) ⟨_, _, _, rfl, hg, hs0, hs1, by omega, by omega⟩
theorem pick_w {pot : Dt} {ds : List Dt} {B : Nat} {R : List Dt → Sl → Prop} (h : PotK B pot) (hl : 0 < ds.length) (hl2 : ds.length < 2 ^ 50) (hB : B + 1 ≤ 1000000)
    (k : ∀ (i : Nat) (z : Dt) (pot' : Dt), ds[i]? = some z → PotK (B + 1) pot' → R [pot', .none] (.fz z)) : W2 (b_pick [pot, .list ds]) R := by
  refine w_body (env := [.bo pot, .fz (.list ds)]) rfl ?_
  unfold m_pick
  walk_at "wp"
  refine take_w h (by omega) (by omega) hB fun r pot' r0 r1 hp => ?_
  walk_at "wp"
  have hi : r.toNat < ds.length := by omega
  refine o1_ixL r0 (List.getElem?_eq_getElem hi) ?_
  walk_at "wp"
  exact k r.toNat _ _ (List.getElem?_eq_getElem hi) hp
theorem pot_w {ns : List Int} {j : Int} {R : List Dt → Sl → Prop} (hj : 0 ≤ j) (hj2 : j < 1000) (k : ∀ pot, PotK 0 pot → R [.none, .none] (.ow pot)) : W2 (b_pot [scD ns, .int j]) R := by
  refine w_body (env := [.fz (scD ns), .fz (.int j), .un, .un]) rfl ?_
  unfold m_pot
  walk_at "wp"
  refine ite_c (fun hc => ?_) (fun hc => ?_)
  all_goals
    walk_at "wp"
    refine ite_c (fun c => ?_) (fun c => ?_)
    · walk_at "wp"
      exact k _ ⟨_, _, _, rfl, Int.emod_nonneg _ (by decide), Int.emod_nonneg _ (by decide), Int.lt_trans (Int.emod_lt_of_pos _ (by decide)) (by decide), Int.le_refl _, by decide⟩
    · walk_at "wp"
      exact k _ ⟨_, _, _, rfl, Int.le_refl _, Int.emod_nonneg _ (by decide), Int.lt_trans (Int.emod_lt_of_pos _ (by decide)) (by decide), Int.le_refl _, by decide⟩
theorem rgD0 (h : Nat) : rgD 0 h = (List.range h).map natD := by
  unfold rgD
  refine List.map_congr_left fun i _ => ?_
  show PyData.int (0 + (i : Int)) = _
  rw [Int.zero_add]

theorem lcx_w {env : Evs} {g : Mg} {tt : Mb} {te : Mx} {vs : List Nat} {Q : Evs → List Dt → Prop} {α : Type} {sub : List α} (F : α → Dt) (p : α → Bool) (f : α → Dt) (st : ∀ x ∈ sub, W1 (g (F x) env) fun e1 => W2 (tt e1) fun e2 t => t = p x ∧ wipeE e2 vs = env ∧ (p x = true → W2 (te e2) fun e3 z => z = f x ∧ wipeE e3 vs = env)) (k : Q env ((sub.filter p).map f)) : W2 (lcM g tt te vs (sub.map F) env) Q := by
  refine lci_w (fun j e acc => e = env ∧ acc = ((sub.take j).filter p).map f) ⟨rfl, rfl⟩ ?_ ?_
  · rintro j d e acc hj ⟨rfl, rfl⟩
    rw [List.getElem?_map] at hj
    obtain ⟨x, hx, rfl⟩ := Option.map_eq_some_iff.mp hj
    obtain ⟨e1, h1, e2, t, h2, rfl, h3, h4⟩ := st x (List.mem_of_getElem? hx)
    have et : (sub.take (j + 1)).filter p = (sub.take j).filter p ++ [x].filter p := by rw [List.take_add_one, hx, Option.toList_some, List.filter_append]
    refine ⟨e1, h1, e2, p x, h2, ?_⟩
    cases hp : p x with
    | true =>
      rw [if_pos rfl]
      obtain ⟨e3, z, h5, rfl, h6⟩ := h4 hp
      refine ⟨e3, _, h5, h6, ?_⟩
      rw [et, List.filter_cons_of_pos hp, List.map_append]
      rfl
    | false =>
      rw [if_neg (by decide)]
      refine ⟨h3, ?_⟩
      rw [et, List.filter_cons_of_neg (by rw [hp]; decide), List.filter_nil, List.append_nil]
  · rintro e out ⟨rfl, rfl⟩
    rw [List.length_map, List.take_length]
    exact k

/-! ### dicts of data -/
section
variable {κ : Type} [DecidableEq κ] {ak : Dt → Option κ} {kd : κ → Dt}
def kvD (kd : κ → Dt) (L : List (κ × Dt)) : List (Dt × Dt) := L.map fun q => (kd q.1, q.2)
theorem putD_new (hk : ∀ k, ak (kd k) = some k) {L : List (κ × Dt)} {k : κ} {d : Dt} (n : k ∉ L.map (·.1)) : putD ak kd (kvD kd L) k d = kvD kd (L ++ [(k, d)]) := by
  unfold putD
  rw [if_neg]
  · unfold kvD
    rw [List.map_append]
    rfl
  · intro h
    rw [List.any_eq_true] at h
    obtain ⟨p, hp, h⟩ := h
    obtain ⟨q, hq, rfl⟩ := List.mem_map.mp hp
    have h' : ak (kd q.1) = some k := of_decide_eq_true h
    rw [hk] at h'
    cases h'
    exact n (List.mem_map.mpr ⟨q, hq, rfl⟩)
theorem mergeD_new (hk : ∀ k, ak (kd k) = some k) : ∀ (P L : List (κ × Dt)), ((L ++ P).map (·.1)).Nodup → mergeD ak kd (kvD kd L) (P.map fun q => .tuple [kd q.1, q.2]) = some (kvD kd (L ++ P))
  | [], L, _ => by
    rw [List.append_nil]
    rfl
  | (k, d) :: P, L, h => by
    have h2 : L ++ (k, d) :: P = (L ++ [(k, d)]) ++ P := by rw [List.append_assoc]; rfl
    show (ak (kd k)).bind _ = _
    rw [hk]
    show mergeD ak kd (putD ak kd (kvD kd L) k d) _ = _
    rw [putD_new hk, h2]
    · exact mergeD_new hk P (L ++ [(k, d)]) (by rw [← h2]; exact h)
    · rw [List.map_append, List.nodup_append] at h
      intro z
      exact h.2.2 k z k (List.mem_map.mpr ⟨(k, d), List.mem_cons_self, rfl⟩) rfl
theorem valD_mem (hk : ∀ k, ak (kd k) = some k) : ∀ {L : List (κ × Dt)} {k : κ} {d : Dt}, (L.map (·.1)).Nodup → (k, d) ∈ L → valD ak (kvD kd L) k = some d
  | [], _, _, _, h => by cases h
  | (k0, d0) :: L, k, d, n, h => by
    unfold valD kvD
    rw [List.map_cons, List.find?_cons]
    rw [List.map_cons, List.nodup_cons] at n
    by_cases c : k0 = k
    · subst c
      have e : decide (ak (kd k0) = some k0) = true := decide_eq_true (hk k0)
      dsimp only
      rw [e]
      rcases List.mem_cons.mp h with h | h
      · cases h
        rfl
      · exact absurd (List.mem_map.mpr ⟨_, h, rfl⟩) n.1
    · have e : decide (ak (kd k0) = some k) = false := decide_eq_false (by rw [hk]; intro z; cases z; exact c rfl)
      dsimp only
      rw [e]
      rcases List.mem_cons.mp h with h | h
      · cases h
        exact absurd rfl c
      · exact valD_mem hk n.2 h
theorem valD_no (hk : ∀ k, ak (kd k) = some k) {L : List (κ × Dt)} {k : κ} (n : k ∉ L.map (·.1)) : valD ak (kvD kd L) k = none := by
  unfold valD kvD
  rw [List.find?_eq_none.mpr]
  · rfl
  · intro p hp z
    obtain ⟨q, hq, rfl⟩ := List.mem_map.mp hp
    have h' : ak (kd q.1) = some k := of_decide_eq_true z
    rw [hk] at h'
    cases h'
    exact n (List.mem_map.mpr ⟨q, hq, rfl⟩)
end
/-- a dict by ints -/
abbrev kI (i : Int) : Key := .inl i
def dI (L : List (Int × Dt)) : List (Dt × Dt) := L.map fun q => (.int q.1, q.2)
def lI (L : List (Int × Dt)) : List (Key × Dt) := L.map fun q => (kI q.1, q.2)
theorem dI_kv (L : List (Int × Dt)) : dI L = kvD kD (lI L) := by
  unfold dI kvD lI
  rw [List.map_map]
  rfl
theorem lI_keys (L : List (Int × Dt)) : (lI L).map (·.1) = (L.map (·.1)).map kI := by
  unfold lI
  rw [List.map_map, List.map_map]
  rfl
theorem kI_mem {L : List Int} {k : Int} : kI k ∈ L.map kI ↔ k ∈ L := by
  constructor
  · intro h
    obtain ⟨x, hx, e⟩ := List.mem_map.mp h
    cases e
    exact hx
  · exact fun h => List.mem_map.mpr ⟨k, h, rfl⟩
theorem kI_nodup {L : List Int} (h : L.Nodup) : (L.map kI).Nodup := by
  unfold List.Nodup
  rw [List.pairwise_map]
  exact h.imp fun n z => n (by cases z; rfl)
theorem dI_nm : ∀ L : List (Int × Dt), isMark (dI L) = false
  | [] => rfl
  | _ :: _ => rfl
theorem dget_I (L : List (Int × Dt)) (k : Int) : dget (.dict (dI L)) (.int k) = some (valD asKey (dI L) (kI k)) := by
  cases L <;> rfl
theorem dgetI_mem {L : List (Int × Dt)} {k : Int} {d : Dt} (n : (L.map (·.1)).Nodup) (h : (k, d) ∈ L) : dget (.dict (dI L)) (.int k) = some (some d) := by
  rw [dget_I, dI_kv, valD_mem (L := lI L) asKey_kD (by rw [lI_keys]; exact kI_nodup n) (List.mem_map.mpr ⟨(k, d), h, rfl⟩)]
theorem dgetI_no {L : List (Int × Dt)} {k : Int} (n : k ∉ L.map (·.1)) : dget (.dict (dI L)) (.int k) = some none := by
  rw [dget_I, dI_kv, valD_no (L := lI L) asKey_kD (by rw [lI_keys, kI_mem]; exact n)]
theorem fdgetI {L : List (Int × Dt)} {k : Int} {d : Dt} (n : (L.map (·.1)).Nodup) (h : (k, d) ∈ L) : fDGet (.dict (dI L)) (.int k) = some d := by
  unfold fDGet
  rw [dgetI_mem n h]
  rfl
theorem dputI_new {L : List (Int × Dt)} {k : Int} {d : Dt} (n : k ∉ L.map (·.1)) (hl : L.length < sizeLine) : dput (.dict (dI L)) (.int k) d = some (.dict (dI (L ++ [(k, d)]))) := by
  have e : dput (.dict (dI L)) (.int k) d = some (.dict (putD asKey kD (dI L) (kI k) d)) := by
    have z : dput (.dict (dI L)) (.int k) d = (if (isMark (dI L) || !decide ((dI L).length < sizeLine)) = true then none else (asKey (.int k)).map fun x => .dict (putD asKey kD (dI L) x d)) := by cases L <;> rfl
    rw [z, if_neg]
    · rfl
    · rw [dI_nm, Bool.false_or, decide_eq_true (by unfold dI; rw [List.length_map]; exact hl)]
      decide
  rw [e, dI_kv, putD_new asKey_kD (by rw [lI_keys, kI_mem]; exact n), dI_kv]
  unfold lI
  rw [List.map_append]
  rfl
theorem w_dput {i : Nat} {k v : Mx} {env : Evs} {F : Fl → Prop} (h : W2 (v env) fun e d => Pk i e fun _ => W2 (k e) fun e' y => ∃ (c : Dt → Sl) (D D' : Dt), (∀ d, (c d).own = some d) ∧ (∀ d d', (c d).with d' = c d') ∧ e'[i]? = some (c D) ∧ dput D y d = some D' ∧ St i (c D') e' fun e2 => F (.nx e2)) : W1 (mDPut i k v env) F := by
  obtain ⟨e, d, h1, x, h2, e', y, h3, c, D, D', b0, b1, b2, h4, h5⟩ := h
  refine ⟨_, ?_, h5⟩
  unfold mDPut
  rw [h1]
  show (mPeek i e).bind _ = _
  rw [h2]
  show (k e).bind _ = _
  rw [h3]
  show (e'[i]?).bind _ = _
  rw [b2]
  show ((c D).own).bind _ = _
  rw [b0]
  show (dput D y d).map _ = _
  rw [h4]
  show some (Fl.nx (e'.set i ((c D).with D'))) = _
  rw [b1]
/-- a dict by lots -/
abbrev kL (l : List Nat) : List Key := l.map fun x : Nat => kI (x : Int)
theorem tD_kL (l : List Nat) : tD (kL l) = lotD l := by
  show PyData.tuple _ = PyData.tuple _
  congr 1
  unfold kL
  rw [List.map_map]
  rfl
theorem kL_inj {a b : List Nat} (h : kL a = kL b) : a = b := by
  refine List.map_inj_right (f := fun x : Nat => kI (x : Int)) (fun x y e => ?_) |>.mp h
  have e' : (x : Int) = (y : Int) := by
    injection e
  omega
def dL (L : List (List Nat × Dt)) : List (Dt × Dt) := L.map fun q => (lotD q.1, q.2)
def lL (L : List (List Nat × Dt)) : List (List Key × Dt) := L.map fun q => (kL q.1, q.2)
theorem dL_kv (L : List (List Nat × Dt)) : dL L = kvD tD (lL L) := by
  unfold dL kvD lL
  rw [List.map_map]
  refine List.map_congr_left fun q _ => ?_
  show (lotD q.1, q.2) = (tD (kL q.1), q.2)
  rw [tD_kL]
theorem lL_keys (L : List (List Nat × Dt)) : (lL L).map (·.1) = (L.map (·.1)).map kL := by
  unfold lL
  rw [List.map_map, List.map_map]
  rfl
theorem kL_nodup {L : List (List Nat)} (h : L.Nodup) : (L.map kL).Nodup := by
  unfold List.Nodup
  rw [List.pairwise_map]
  exact h.imp fun n z => n (kL_inj z)
theorem asT_lot (l : List Nat) : asTKey (lotD l) = some (kL l) := by rw [← tD_kL]; exact asTKey_tD _
theorem dgetL_mem {L : List (List Nat × Dt)} {l : List Nat} {d : Dt} (n : (L.map (·.1)).Nodup) (h : (l, d) ∈ L) : dget (.dict ((.none, .tuple []) :: dL L)) (lotD l) = some (some d) := by
  have e : dget (.dict ((.none, .tuple []) :: dL L)) (lotD l) = (asTKey (lotD l)).map fun x => valD asTKey (dL L) x := rfl
  rw [e, asT_lot, Option.map_some, dL_kv, valD_mem (L := lL L) asTKey_tD (by rw [lL_keys]; exact kL_nodup n) (List.mem_map.mpr ⟨(l, d), h, rfl⟩)]
theorem fdgetL {L : List (List Nat × Dt)} {l : List Nat} {d : Dt} (n : (L.map (·.1)).Nodup) (h : (l, d) ∈ L) : fDGet (.dict ((.none, .tuple []) :: dL L)) (lotD l) = some d := by
  unfold fDGet
  rw [dgetL_mem n h]
  rfl
theorem dictT_lots {L : List (List Nat × Dt)} (n : (L.map (·.1)).Nodup) : fDictT (.list (L.map fun q => .tuple [lotD q.1, q.2])) = some (.dict ((.none, .tuple []) :: dL L)) := by
  show (mergeD asTKey tD [] _).map _ = _
  have e : (L.map fun q => PyData.tuple [lotD q.1, q.2]) = (lL L).map fun q => .tuple [tD q.1, q.2] := by
    unfold lL
    rw [List.map_map]
    refine List.map_congr_left fun q _ => ?_
    show PyData.tuple [lotD q.1, q.2] = PyData.tuple [tD (kL q.1), q.2]
    rw [tD_kL]
  have m := mergeD_new (ak := asTKey) (kd := tD) asTKey_tD (lL L) [] (by rw [List.nil_append, lL_keys]; exact kL_nodup n)
  rw [e]
  show (mergeD asTKey tD (kvD tD []) _).map _ = _
  rw [m, dL_kv]
  rfl

-- after: law
/-! ### inversions, crossings, signs -/
def sg (n : Nat) : Int := if n % 2 = 0 then 1 else -1
theorem sg_add (a b : Nat) : sg (a + b) = sg a * sg b := by
  unfold sg
  have h1 := Nat.mod_two_eq_zero_or_one a
  have h2 := Nat.mod_two_eq_zero_or_one b
  rcases h1 with h1 | h1 <;> rcases h2 with h2 | h2 <;> simp [Nat.add_mod, h1, h2]
theorem sg_succ (a : Nat) : sg (a + 1) = 0 - sg a := by
  rw [sg_add, show sg 1 = -1 from rfl]
  omega
theorem sg_cases (a : Nat) : sg a = 1 ∨ sg a = -1 := by
  unfold sg
  by_cases h : a % 2 = 0
  · exact .inl (if_pos h)
  · exact .inr (if_neg h)
theorem sg_abs (a : Nat) : (-2 : Int) < sg a ∧ sg a < 2 := by
  rcases sg_cases a with h | h <;> rw [h] <;> decide
theorem sg_mod (n : Nat) : (1 : Int) - 2 * ((n : Int) % 2) = sg n := by
  unfold sg
  by_cases h : n % 2 = 0
  · rw [if_pos h]
    omega
  · rw [if_neg h]
    omega
def bel (l : List Int) (h : Int) : Nat := (l.filter fun x => decide (x < h)).length
def abv (l : List Int) (h : Int) : Nat := (l.filter fun x => decide (x > h)).length
def crs (a b : List Int) : Nat := (b.map (abv a)).sum
def inv : List Int → Nat
  | [] => 0
  | x :: t => bel t x + inv t
theorem bel_cons (x : Int) (l : List Int) (h : Int) : bel (x :: l) h = (if x < h then 1 else 0) + bel l h := by
  unfold bel
  rw [List.filter_cons]
  by_cases e : x < h
  · rw [if_pos (by simpa using e), if_pos e, List.length_cons]
    omega
  · rw [if_neg (by simpa using e), if_neg e]
    omega
theorem abv_cons (x : Int) (l : List Int) (h : Int) : abv (x :: l) h = (if h < x then 1 else 0) + abv l h := by
  unfold abv
  rw [List.filter_cons]
  by_cases e : h < x
  · rw [if_pos (by simpa using e), if_pos e, List.length_cons]
    omega
  · rw [if_neg (by simpa using e), if_neg e]
    omega
theorem bel_app (a b : List Int) (h : Int) : bel (a ++ b) h = bel a h + bel b h := by
  unfold bel
  rw [List.filter_append, List.length_append]
theorem crs_nil (b : List Int) : crs [] b = 0 := by
  unfold crs
  induction b with
  | nil => rfl
  | cons y b ih =>
    rw [List.map_cons, List.sum_cons, ih]
    rfl
theorem crs_cons (a : List Int) (y : Int) (b : List Int) : crs a (y :: b) = abv a y + crs a b := by
  unfold crs
  rw [List.map_cons, List.sum_cons]
theorem crs_consL (x : Int) (a : List Int) : ∀ b : List Int, crs (x :: a) b = bel b x + crs a b
  | [] => rfl
  | y :: b => by
    have ih := crs_consL x a b
    rw [crs_cons, crs_cons, ih, abv_cons, bel_cons]
    omega
theorem crs_appL (a b c : List Int) : crs (a ++ b) c = crs a c + crs b c := by
  induction a with
  | nil => rw [List.nil_append, crs_nil, Nat.zero_add]
  | cons x a ih =>
    rw [List.cons_append, crs_consL, crs_consL, ih]
    omega
theorem crs_appR (a b c : List Int) : crs a (b ++ c) = crs a b + crs a c := by
  unfold crs
  rw [List.map_append, List.sum_append]
theorem abv_perm {a a' : List Int} (p : a.Perm a') (h : Int) : abv a h = abv a' h := (p.filter _).length_eq
theorem bel_perm {a a' : List Int} (p : a.Perm a') (h : Int) : bel a h = bel a' h := (p.filter _).length_eq
theorem crs_perm {a a' b b' : List Int} (p : a.Perm a') (q : b.Perm b') : crs a b = crs a' b' := by
  unfold crs
  have e : abv a = abv a' := funext fun h => abv_perm p h
  rw [e]
  exact (q.map _).sum_nat
theorem inv_app (a b : List Int) : inv (a ++ b) = inv a + inv b + crs a b := by
  induction a with
  | nil =>
    rw [List.nil_append, crs_nil]
    show inv b = 0 + inv b + 0
    omega
  | cons x a ih =>
    show bel (a ++ b) x + inv (a ++ b) = (bel a x + inv a) + inv b + crs (x :: a) b
    rw [bel_app, ih, crs_consL]
    omega
theorem bel_abv {b : List Int} {x : Int} (h : x ∉ b) : bel b x + abv b x = b.length := by
  induction b with
  | nil => rfl
  | cons y b ih =>
    have h1 : x ≠ y := fun e => h (e ▸ List.mem_cons_self)
    have h2 := ih fun m => h (List.mem_cons_of_mem _ m)
    rw [bel_cons, abv_cons, List.length_cons]
    by_cases e : y < x
    · rw [if_pos e, if_neg (by omega)]
      omega
    · rw [if_neg e, if_pos (by omega)]
      omega
theorem crs_swap {a b : List Int} (h : ∀ x ∈ a, x ∉ b) : crs a b + crs b a = a.length * b.length := by
  induction a with
  | nil =>
    rw [crs_nil]
    show 0 + 0 = 0 * b.length
    omega
  | cons x a ih =>
    have h1 := bel_abv (h x List.mem_cons_self)
    have h2 := ih fun y hy => h y (List.mem_cons_of_mem _ hy)
    rw [crs_consL, crs_cons, List.length_cons, Nat.succ_mul]
    omega
theorem inv_swap {a b : List Int} {x y : Int} (h : y < x) : inv (a ++ x :: y :: b) = inv (a ++ y :: x :: b) + 1 := by
  rw [inv_app, inv_app, crs_perm (List.Perm.refl a) (List.Perm.swap y x b)]
  show inv a + (bel (y :: b) x + (bel b y + inv b)) + _ = inv a + (bel (x :: b) y + (bel b x + inv b)) + _ + 1
  rw [bel_cons, bel_cons, if_pos h, if_neg (by omega)]
  omega
theorem bel_none {l : List Int} {x : Int} (h : ∀ y ∈ l, x ≤ y) : bel l x = 0 := by
  induction l with
  | nil => rfl
  | cons y l ih =>
    have h1 := h y List.mem_cons_self
    rw [bel_cons, if_neg (by omega), ih fun z hz => h z (List.mem_cons_of_mem _ hz)]
theorem inv_zero : ∀ {l : List Int}, l.Pairwise (· ≤ ·) → inv l = 0
  | [], _ => rfl
  | x :: l, p => by
    have h := List.pairwise_cons.mp p
    show bel l x + inv l = 0
    rw [bel_none h.1, inv_zero h.2]
/-! ### the sorted row -/
def srt (l : List Int) : List Int := l.mergeSort fun a b => decide (a ≤ b)
theorem srt_perm (l : List Int) : (srt l).Perm l := List.mergeSort_perm ..
theorem srt_pw (l : List Int) : (srt l).Pairwise (· ≤ ·) := by
  have h := List.pairwise_mergeSort (le := fun a b : Int => decide (a ≤ b)) (fun a b c h1 h2 => by
    have := of_decide_eq_true h1
    have := of_decide_eq_true h2
    exact decide_eq_true (by omega)) (fun a b => by
    rw [Bool.or_eq_true, decide_eq_true_eq, decide_eq_true_eq]
    omega) l
  exact h.imp fun h => of_decide_eq_true h
theorem pw_eq {l m : List Int} (h1 : l.Pairwise (· ≤ ·)) (h2 : m.Pairwise (· ≤ ·)) (p : l.Perm m) : l = m :=
  List.Perm.eq_of_pairwise (fun a b _ _ x y => by omega) h1 h2 p
theorem srt_eq {l m : List Int} (h : m.Pairwise (· ≤ ·)) (p : m.Perm l) : m = srt l := pw_eq h (srt_pw l) (p.trans (srt_perm l).symm)
theorem srt_congr {l m : List Int} (p : l.Perm m) : srt l = srt m := srt_eq (srt_pw l) ((srt_perm l).trans p)
theorem srt_of {l : List Int} (h : l.Pairwise (· ≤ ·)) : srt l = l := (srt_eq h (List.Perm.refl l)).symm
theorem srt_nil : srt [] = [] := srt_of List.Pairwise.nil
theorem srt_len (l : List Int) : (srt l).length = l.length := (srt_perm l).length_eq
/-! ### neighbours exchanged -/
theorem split2 {l : List Int} {m : Nat} (h : m + 1 < l.length) : ∃ a x y b, l = a ++ x :: y :: b ∧ a.length = m := by
  refine ⟨l.take m, l[m], l[m + 1], l.drop (m + 2), ?_, by rw [List.length_take]; omega⟩
  rw [List.getElem_cons_drop, List.getElem_cons_drop, List.take_append_drop]
theorem sp_get0 {a b : List Int} {x y : Int} {m : Nat} (h : a.length = m) : (a ++ x :: y :: b)[m]? = some x := by
  rw [List.getElem?_append_right (by omega), h, Nat.sub_self]
  rfl
theorem sp_get1 {a b : List Int} {x y : Int} {m : Nat} (h : a.length = m) : (a ++ x :: y :: b)[m + 1]? = some y := by
  rw [List.getElem?_append_right (by omega), show m + 1 - a.length = 1 by omega]
  rfl
theorem sp_set {a b : List V} {x y u v : V} {m : Nat} (h : a.length = m) : ((a ++ x :: y :: b).set m u).set (m + 1) v = a ++ u :: v :: b := by
  subst h
  rw [List.set_append_right _ _ (Nat.le_refl _), Nat.sub_self, List.set_cons_zero, List.set_append_right _ _ (by omega), show a.length + 1 - a.length = 1 by omega]
  rfl
theorem sp_getD {a b : List Int} {x y : Int} {m : Nat} (h : a.length = m) (i : Nat) : (a ++ y :: x :: b).getD i 0 = if i = m then y else if i = m + 1 then x else (a ++ x :: y :: b).getD i 0 := by
  subst h
  by_cases h1 : i = a.length
  · rw [if_pos h1, List.getD_eq_getElem?_getD, h1, sp_get0 rfl]
    rfl
  · rw [if_neg h1]
    by_cases h2 : i = a.length + 1
    · rw [if_pos h2, List.getD_eq_getElem?_getD, h2, sp_get1 rfl]
      rfl
    · rw [if_neg h2, List.getD_eq_getElem?_getD, List.getD_eq_getElem?_getD]
      congr 1
      by_cases h3 : i < a.length
      · rw [List.getElem?_append_left h3, List.getElem?_append_left h3]
      · rw [List.getElem?_append_right (by omega), List.getElem?_append_right (by omega)]
        obtain ⟨j, hj⟩ : ∃ j, i - a.length = j + 2 := ⟨i - a.length - 2, by omega⟩
        rw [hj]
        rfl
/-- all behind place e is in its place -/
def Fin (l : List Int) (e : Nat) : Prop := ∀ i j, i < j → e < j → j < l.length → l.getD i 0 ≤ l.getD j 0
/-- the greatest of the first m + 1 stands at m -/
def Top (l : List Int) (m : Nat) : Prop := ∀ i, i < m → l.getD i 0 ≤ l.getD m 0
theorem fin_pw {l : List Int} (h : Fin l 0) : l.Pairwise (· ≤ ·) := by
  refine List.pairwise_iff_getElem.mpr fun i j hi hj hij => ?_
  have z := h i j hij (by omega) hj
  rw [List.getD_eq_getElem?_getD, List.getD_eq_getElem?_getD, List.getElem?_eq_getElem hi, List.getElem?_eq_getElem hj] at z
  exact z
theorem fin_down {l : List Int} {e : Nat} (h : Fin l (e + 1)) (t : Top l (e + 1)) : Fin l e := fun i j hij he hj => by
  by_cases z : j = e + 1
  · subst z
    exact t i hij
  · exact h i j hij (by omega) hj
/-- a step without an exchange -/
theorem top_up {l : List Int} {m : Nat} (t : Top l m) (h : l.getD m 0 ≤ l.getD (m + 1) 0) : Top l (m + 1) := fun i hi => by
  by_cases z : i = m
  · subst z
    exact h
  · have := t i (by omega)
    omega
/-- a step with one -/
theorem swap_fin {a b : List Int} {x y : Int} {m e : Nat} (h : a.length = m) (he : m + 1 ≤ e) (f : Fin (a ++ x :: y :: b) e) : Fin (a ++ y :: x :: b) e := fun i j hij hej hj => by
  have hj' : j < (a ++ x :: y :: b).length := by
    rw [List.length_append] at hj ⊢
    exact hj
  rw [sp_getD h i, sp_getD h j, if_neg (show ¬ j = m by omega), if_neg (show ¬ j = m + 1 by omega)]
  have g0 : (a ++ x :: y :: b).getD m 0 = x := by
    rw [List.getD_eq_getElem?_getD, sp_get0 h]
    rfl
  have g1 : (a ++ x :: y :: b).getD (m + 1) 0 = y := by
    rw [List.getD_eq_getElem?_getD, sp_get1 h]
    rfl
  by_cases h1 : i = m
  · rw [if_pos h1]
    have z := f (m + 1) j (by omega) hej hj'
    rw [g1] at z
    exact z
  · rw [if_neg h1]
    by_cases h2 : i = m + 1
    · rw [if_pos h2]
      have z := f m j (by omega) hej hj'
      rw [g0] at z
      exact z
    · rw [if_neg h2]
      exact f i j hij hej hj'
theorem swap_top {a b : List Int} {x y : Int} {m : Nat} (h : a.length = m) (hxy : y < x) (t : Top (a ++ x :: y :: b) m) : Top (a ++ y :: x :: b) (m + 1) := fun i hi => by
  rw [sp_getD h i, sp_getD h (m + 1), if_neg (show ¬ m + 1 = m by omega), if_pos (rfl : m + 1 = m + 1)]
  have g0 : (a ++ x :: y :: b).getD m 0 = x := by
    rw [List.getD_eq_getElem?_getD, sp_get0 h]
    rfl
  by_cases h1 : i = m
  · rw [if_pos h1]
    omega
  · rw [if_neg h1, if_neg (by omega)]
    have z := t i (by omega)
    rw [g0] at z
    exact z
/-! ### one hand less -/
theorem bel_ne {l : List Int} {g h : Int} (nd : l.Nodup) (hg : g ∈ l) : bel l h = bel (l.filter fun k => k != g) h + (if g < h then 1 else 0) := by
  induction l with
  | nil => cases hg
  | cons x l ih =>
    have n := List.nodup_cons.mp nd
    by_cases e : x = g
    · subst e
      have z : (l.filter fun k => k != x) = l := by
        rw [List.filter_eq_self]
        intro k hk
        have : k ≠ x := fun q => n.1 (q ▸ hk)
        simpa using this
      rw [List.filter_cons, if_neg (by simp), z, bel_cons]
      omega
    · have m : g ∈ l := by
        rcases List.mem_cons.mp hg with q | q
        · exact absurd q.symm e
        · exact q
      rw [List.filter_cons, if_pos (by simpa using e), bel_cons, bel_cons, ih n.2 m]
      omega
theorem two_out {l : List Int} {g h : Int} (nd : l.Nodup) (hg : g ∈ l) (hh : h ∈ l) (ne : g ≠ h) :
    sg (bel l g) * sg (bel (l.filter fun k => k != g) h) + sg (bel l h) * sg (bel (l.filter fun k => k != h) g) = 0 := by
  have e1 := bel_ne (h := h) nd hg
  have e2 := bel_ne (h := g) nd hh
  rw [← sg_add, ← sg_add]
  by_cases c : g < h
  · rw [if_pos c] at e1
    rw [if_neg (by omega)] at e2
    rw [show bel l h + bel (l.filter fun k => k != h) g = (bel l g + bel (l.filter fun k => k != g) h) + 1 by omega, sg_succ]
    omega
  · rw [if_neg c] at e1
    rw [if_pos (by omega)] at e2
    rw [show bel l g + bel (l.filter fun k => k != g) h = (bel l h + bel (l.filter fun k => k != h) g) + 1 by omega, sg_succ]
    omega

-- after: law
/-! ### two lots laid together, and a row sorted by exchanges -/
theorem srt_srtI (l : List Int) : srtI l = srt l := srt_eq (srtI_up l) (srtI_perm l)
def shares (a b : List Int) : Bool := (b.map fun y => a.contains y).any id
def lsg (a b : List Int) : Int := if shares a b = true then 0 else sg (crs a b)
def lsr (a b : List Int) : List Int := if shares a b = true then [] else srt (a ++ b)
theorem any_int (y : Int) : ∀ a : List Int, ((a.map PyData.int).any fun x => eqF x (.int y)) = a.contains y
  | [] => rfl
  | x :: a => by
    rw [List.map_cons, List.any_cons, any_int y a, List.contains_cons]
    congr 1
    show (x == y) = (y == x)
    rw [Bool.eq_iff_iff, beq_iff_eq, beq_iff_eq]
    exact eq_comm
theorem flat_int (a : List Int) : (a.map PyData.int).all flatD = true := by
  rw [List.all_map]
  exact List.all_eq_true.mpr fun _ _ => rfl
theorem sum_nat (l : List Int) (f : Int → Nat) : (l.map fun y => ((f y : Nat) : Int)).sum = ((l.map f).sum : Nat) := by
  induction l with
  | nil => rfl
  | cons x l ih =>
    rw [List.map_cons, List.map_cons, List.sum_cons, List.sum_cons, ih]
    omega
theorem fil_all {α : Type} (l : List α) : l.filter (fun _ => true) = l := List.filter_eq_self.mpr fun _ _ => rfl
theorem sign_of_many_w {n : Nat} {R : List Dt → Sl → Prop} (k : R [.none] (.fz (.int (sg n)))) : W2 (b_sign_of_many [.int n]) R := by
  refine w_body (env := [.fz (.int n)]) rfl ?_
  unfold m_sign_of_many
  unfold sg at k
  walk_at "wp"
  refine ite_c (fun c => ?_) (fun c => ?_)
  · rw [if_pos (by omega)] at k
    walk_at "wp"
    exact k
  · rw [if_neg (by omega)] at k
    walk_at "wp"
    exact k
theorem laid_w {a b : List Int} {R : List Dt → Sl → Prop} (ha : a.length ≤ 100) (hb : b.length ≤ 100) (k : R [.none, .none] (.fz (.tuple [.int (lsg a b), tupI (lsr a b)]))) : W2 (b_laid [tupI a, tupI b]) R := by
  refine w_body (env := [.fz (tupI a), .fz (tupI b), .un, .un, .un]) rfl ?_
  unfold m_laid
  walk_at "wp"
  refine lcx_w (fun y : Int => PyData.int y) (fun _ => true) (fun y => .bool (a.contains y)) (fun y _ => ?_) ?_
  · walk_at "wp"
    refine ⟨rfl, rfl, fun _ => ?_⟩
    walk_at "wp"
    refine o1_inF (ds := a.map PyData.int) rfl rfl (flat_int a) ?_
    rw [any_int]
    exact ⟨rfl, rfl⟩
  rw [fil_all]
  refine fit_w (sl_lt (m := 100) (by rw [List.length_map]; omega) (by decide)) ?_
  refine o1_rfl (z := .bool (shares a b)) ?_ ?_
  · show (asBools _).map _ = _
    rw [show (b.map fun y => PyData.bool (a.contains y)) = (b.map fun y => a.contains y).map PyData.bool by rw [List.map_map]; rfl, asBools_map]
    rfl
  refine wt_b ?_
  unfold lsg lsr at k
  refine ite_b (fun c => ?_) (fun c => ?_)
  · rw [if_pos c, if_pos c] at k
    walk_at "wp"
    exact k
  · rw [if_neg (by rw [c]; decide), if_neg (by rw [c]; decide)] at k
    walk_at "wp"
    refine lcx_w (fun y : Int => PyData.int y) (fun _ => true) (fun y => .int ((abv a y : Nat) : Int)) (fun y _ => ?_) ?_
    · walk_at "wp"
      refine ⟨rfl, rfl, fun _ => ?_⟩
      walk_at "wp"
      refine lcx_w (fun y : Int => PyData.int y) (fun x => decide (x > y)) (fun x => .int x) (fun x _ => ?_) ?_
      · walk_at "wp"
        refine ⟨rfl, rfl, fun _ => ?_⟩
        walk_at "wp"
        exact ⟨rfl, rfl⟩
      refine fit_w (sl_lt (m := 100) (by rw [List.length_map]; exact Nat.le_trans (List.length_filter_le _ _) ha) (by decide)) ?_
      walk_at "wp"
      rw [List.length_map]
      exact ⟨rfl, rfl⟩
    rw [fil_all]
    refine fit_w (sl_lt (m := 100) (by rw [List.length_map]; omega) (by decide)) ?_
    walk_at "wp"
    refine o1_rfl (z := .int ((crs a b : Nat) : Int)) ?_ ?_
    · show (asInts _).map _ = _
      rw [show (b.map fun y => PyData.int ((abv a y : Nat) : Int)) = (b.map fun y => ((abv a y : Nat) : Int)).map PyData.int by rw [List.map_map]; rfl, asInts_map]
      show some (PyData.int _) = _
      rw [sum_nat]
      rfl
    walk_at "wp"
    refine sign_of_many_w ?_
    walk_at "wp"
    refine o1_catT (sl_lt (m := 200) (by rw [List.length_map, List.length_map]; omega) (by decide)) ?_
    refine o1_rfl (z := .list ((srt (a ++ b)).map PyData.int)) ?_ ?_
    · show (asInts _).map _ = _
      rw [← List.map_append, asInts_map]
      show some (PyData.list _) = _
      rw [srt_srtI]
    walk_at "wp"
    exact k
/-- of two rising rows both tell the same -/
theorem up_nodup {l : List Int} (h : l.Pairwise (· < ·)) : l.Nodup := h.imp fun h => by omega
theorem up_le {l : List Int} (h : l.Pairwise (· < ·)) : l.Pairwise (· ≤ ·) := h.imp fun h => by omega
theorem lsr_len {a b : List Int} (h : lsg a b ≠ 0) : (lsr a b).length = a.length + b.length := by
  unfold lsg at h
  unfold lsr
  by_cases c : shares a b = true
  · rw [if_pos c] at h
    exact absurd rfl h
  · rw [if_neg c, srt_len, List.length_append]
theorem lsg_abs (a b : List Int) : -2 < lsg a b ∧ lsg a b < 2 := by
  unfold lsg
  by_cases c : shares a b = true
  · rw [if_pos c]
    decide
  · rw [if_neg c]
    exact sg_abs _
theorem lsr_mem {a b : List Int} {x : Int} (h : x ∈ lsr a b) : x ∈ a ∨ x ∈ b := by
  unfold lsr at h
  by_cases c : shares a b = true
  · rw [if_pos c] at h
    cases h
  · rw [if_neg c] at h
    exact List.mem_append.mp ((srt_perm _).mem_iff.mp h)

-- after: law
/-! ### dicts of lots, with numbers -/
abbrev LV := List (List Int × Int)
def dTI (D : LV) : List (Dt × Dt) := D.map fun q => (tupI q.1, .int q.2)
def kvI (l : List Int) : List Key := l.map Sum.inl
theorem tD_kvI (l : List Int) : tD (kvI l) = tupI l := by
  show PyData.tuple _ = PyData.tuple _
  congr 1
  unfold kvI
  rw [List.map_map]
  rfl
theorem asT_I (l : List Int) : asTKey (tupI l) = some (kvI l) := by rw [← tD_kvI]; exact asTKey_tD _
theorem kvI_inj {a b : List Int} (h : kvI a = kvI b) : a = b :=
  List.map_inj_right (f := (Sum.inl : Int → Key)) (fun x y e => by injection e) |>.mp h
theorem key_dec (a l : List Int) : decide (asTKey (tupI a) = some (kvI l)) = decide (a = l) := by
  rw [asT_I]
  by_cases c : a = l
  · subst c
    rw [decide_eq_true rfl, decide_eq_true rfl]
  · rw [decide_eq_false c, decide_eq_false]
    intro z
    exact c (kvI_inj (Option.some.inj z))
def fgI (D : LV) (l : List Int) : Option Int := (D.find? fun q => decide (q.1 = l)).map (·.2)
def getI (D : LV) (l : List Int) : Int := (fgI D l).getD 0
def putI (D : LV) (l : List Int) (v : Int) : LV := if (D.any fun q => decide (q.1 = l)) = true then D.map (fun q => if q.1 = l then (q.1, v) else q) else D ++ [(l, v)]
theorem valD_I (D : LV) (l : List Int) : valD asTKey (dTI D) (kvI l) = (fgI D l).map PyData.int := by
  unfold valD fgI
  induction D with
  | nil => rfl
  | cons q D ih =>
    unfold dTI at ih ⊢
    rw [List.map_cons, List.find?_cons, List.find?_cons]
    dsimp only
    rw [key_dec]
    cases decide (q.1 = l) with
    | true => rfl
    | false => exact ih
theorem putD_I (D : LV) (l : List Int) (v : Int) : putD asTKey tD (dTI D) (kvI l) (.int v) = dTI (putI D l v) := by
  unfold putD putI
  have e1 : ((dTI D).any fun p => decide (asTKey p.1 = some (kvI l))) = D.any fun q => decide (q.1 = l) := by
    unfold dTI
    rw [List.any_map]
    congr 1
    funext q
    exact key_dec q.1 l
  rw [e1]
  by_cases c : (D.any fun q => decide (q.1 = l)) = true
  · rw [if_pos c, if_pos c]
    unfold dTI
    rw [List.map_map, List.map_map]
    refine List.map_congr_left fun q _ => ?_
    show (if asTKey (tupI q.1) = some (kvI l) then _ else _) = (tupI (if q.1 = l then (q.1, v) else q).1, PyData.int (if q.1 = l then (q.1, v) else q).2)
    rw [asT_I]
    by_cases e : q.1 = l
    · rw [if_pos (by rw [e]), if_pos e]
    · rw [if_neg (fun z => e (kvI_inj (Option.some.inj z))), if_neg e]
  · rw [if_neg c, if_neg c]
    unfold dTI
    rw [List.map_append, tD_kvI]
    rfl
theorem put_mem {D : LV} {l : List Int} {v : Int} {q : List Int × Int} (h : q ∈ putI D l v) : q ∈ D ∨ q = (l, v) := by
  unfold putI at h
  by_cases c : (D.any fun q => decide (q.1 = l)) = true
  · rw [if_pos c] at h
    obtain ⟨p, hp, rfl⟩ := List.mem_map.mp h
    by_cases e : p.1 = l
    · rw [if_pos e, e]
      exact .inr rfl
    · rw [if_neg e]
      exact .inl hp
  · rw [if_neg c] at h
    rcases List.mem_append.mp h with h | h
    · exact .inl h
    · exact .inr (List.mem_singleton.mp h)
theorem put_nodup {D : LV} {l : List Int} {v : Int} (h : (D.map (·.1)).Nodup) : ((putI D l v).map (·.1)).Nodup := by
  unfold putI
  by_cases c : (D.any fun q => decide (q.1 = l)) = true
  · rw [if_pos c, List.map_map]
    have e : ((fun x : List Int × Int => x.1) ∘ fun q : List Int × Int => if q.1 = l then (q.1, v) else q) = fun q => q.1 := by
      funext q
      show (if q.1 = l then (q.1, v) else q).1 = q.1
      by_cases e : q.1 = l
      · rw [if_pos e]
      · rw [if_neg e]
    rw [e]
    exact h
  · rw [if_neg c, List.map_append]
    refine List.nodup_append.mpr ⟨h, by simp, fun x hx y hy e => ?_⟩
    rw [List.map_singleton, List.mem_singleton] at hy
    subst hy
    subst e
    obtain ⟨p, hp, e⟩ := List.mem_map.mp hx
    exact c (List.any_eq_true.mpr ⟨p, hp, decide_eq_true e⟩)
theorem put_len (D : LV) (l : List Int) (v : Int) : (putI D l v).length ≤ D.length + 1 := by
  unfold putI
  by_cases c : (D.any fun q => decide (q.1 = l)) = true
  · rw [if_pos c, List.length_map]
    omega
  · rw [if_neg c, List.length_append]
    exact Nat.le_refl _
/-- a sum of parts: its lots, its numbers, how many -/
structure Pt (A : List Int → Prop) (B : Int → Prop) (m : Nat) (D : LV) : Prop where
  a : ∀ q ∈ D, A q.1
  b : ∀ q ∈ D, B q.2
  len : D.length ≤ m
structure Dc (A : List Int → Prop) (B : Int → Prop) (m : Nat) (D : LV) : Prop extends Pt A B m D where
  nd : (D.map (·.1)).Nodup
theorem Dc.nil (A : List Int → Prop) (B : Int → Prop) : Dc A B 0 [] := ⟨⟨by simp, by simp, Nat.le_refl _⟩, by simp⟩
theorem Dc.put {A : List Int → Prop} {B : Int → Prop} {m : Nat} {D : LV} {l : List Int} {v : Int} (h : Dc A B m D) (ha : A l) (hb : B v) : Dc A B (m + 1) (putI D l v) := by
  refine ⟨⟨fun q hq => ?_, fun q hq => ?_, ?_⟩, put_nodup h.nd⟩
  · rcases put_mem hq with z | rfl
    · exact h.a q z
    · exact ha
  · rcases put_mem hq with z | rfl
    · exact h.b q z
    · exact hb
  · have := put_len D l v
    have := h.len
    omega
theorem dput_I {D : LV} {l : List Int} {v : Int} (h : D.length < sizeLine) : dput (.dict ((.none, .tuple []) :: dTI D)) (tupI l) (.int v) = some (.dict ((.none, .tuple []) :: dTI (putI D l v))) := by
  show (if (dTI D).length < sizeLine then (asTKey (tupI l)).map fun x => PyData.dict ((.none, .tuple []) :: putD asTKey tD (dTI D) x (.int v)) else none) = _
  rw [if_pos (by unfold dTI; rw [List.length_map]; exact h), asT_I, Option.map_some, putD_I]
theorem dget_I' (D : LV) (l : List Int) : dget (.dict ((.none, .tuple []) :: dTI D)) (tupI l) = some ((fgI D l).map PyData.int) := by
  show (asTKey (tupI l)).map _ = _
  rw [asT_I, Option.map_some, valD_I]
theorem fgI_in {D : LV} {l : List Int} (h : l ∈ D.map (·.1)) : fgI D l = some (getI D l) := by
  obtain ⟨q, hq, e⟩ := List.mem_map.mp h
  unfold getI
  cases c : fgI D l with
  | some v => rfl
  | none =>
    unfold fgI at c
    rw [Option.map_eq_none_iff, List.find?_eq_none] at c
    exact absurd (decide_eq_true e) (c q hq)
theorem getI_mem {D : LV} {l : List Int} (h : l ∈ D.map (·.1)) : (l, getI D l) ∈ D := by
  have z := fgI_in h
  unfold fgI at z
  obtain ⟨q, h1, h2⟩ := Option.map_eq_some_iff.mp z
  have h3 := List.find?_some h1
  have h4 : q.1 = l := of_decide_eq_true h3
  have h5 : q = (l, getI D l) := Prod.ext h4 h2
  exact h5 ▸ List.mem_of_find?_eq_some h1
theorem w_dget2P {i : Nat} {k x : Mx} {env : Evs} {Q : Evs → Dt → Prop} {s : Sl} {ds : List (Dt × Dt)} (h1 : env[i]? = some s) (h2 : s.own = some (.dict ds)) (h : W2 (k env) fun e y => W2 (x e) fun e2 z => Pk i e2 fun D => ∃ o, dget D y = some o ∧ Q e2 (o.getD z)) : W2 (mDGet2P i k x env) Q := by
  obtain ⟨e, y, h3, e2, z, h4, D, h5, o, h6, h7⟩ := h
  refine ⟨e2, _, ?_, h7⟩
  unfold mDGet2P isDc
  rw [h1]
  show (match s.own with | some (.dict _) => some () | _ => none).bind _ = _
  rw [h2]
  show (k env).bind _ = _
  rw [h3]
  show (x e).bind _ = _
  rw [h4]
  show (mPeek i e2).bind _ = _
  rw [h5]
  show (dget D y).map _ = _
  rw [h6]
  rfl
/-! ### what is gathered -/
def gst (p : Int) (D : LV) (r : List Int × Int) : LV := putI D r.1 ((getI D r.1 + r.2) % p)
def gat (p : Int) (rows : LV) : LV := rows.foldl (gst p) []
theorem gat_step {p : Int} {rows : LV} {j : Nat} {r : List Int × Int} (h : rows[j]? = some r) : gat p (rows.take (j + 1)) = gst p (gat p (rows.take j)) r := by
  unfold gat
  rw [List.take_add_one, h, Option.toList_some, List.foldl_append]
  rfl
theorem gat_ok {A : List Int → Prop} {p : Int} {rows : LV} (hp : 0 < p) (h : ∀ q ∈ rows, A q.1) : ∀ j, j ≤ rows.length → Dc A (fun v => 0 ≤ v ∧ v < p) j (gat p (rows.take j))
  | 0, _ => Dc.nil _ _
  | j + 1, hj => by
    have hj' : rows[j]? = some rows[j] := List.getElem?_eq_getElem (by omega)
    rw [gat_step hj']
    exact (gat_ok hp h j (by omega)).put (h _ (List.getElem_mem _)) ⟨Int.emod_nonneg _ (by omega), Int.emod_lt_of_pos _ hp⟩
def unT : Dt → List Int
  | .tuple ds => (asInts ds).getD []
  | _ => []
theorem unT_I (l : List Int) : unT (tupI l) = l := by
  show (asInts (l.map PyData.int)).getD [] = l
  rw [asInts_map]
  rfl
def ksO (D : LV) : List (List Int) := (srtD (D.map fun q => tupI q.1)).map unT
theorem ksO_mem {D : LV} {l : List Int} (h : l ∈ ksO D) : l ∈ D.map (·.1) := by
  obtain ⟨d, hd, rfl⟩ := List.mem_map.mp h
  obtain ⟨q, hq, rfl⟩ := List.mem_map.mp ((srtD_perm _).mem_iff.mp hd)
  rw [unT_I]
  exact List.mem_map.mpr ⟨q, hq, rfl⟩
theorem ksO_eq (D : LV) : srtD (D.map fun q => tupI q.1) = (ksO D).map tupI := by
  unfold ksO
  rw [List.map_map]
  conv => lhs; rw [← List.map_id (srtD (D.map fun q => tupI q.1))]
  refine List.map_congr_left fun d hd => ?_
  obtain ⟨q, hq, rfl⟩ := List.mem_map.mp ((srtD_perm _).mem_iff.mp hd)
  show tupI q.1 = tupI (unT (tupI q.1))
  rw [unT_I]
theorem ksO_len (D : LV) : (ksO D).length = D.length := by
  unfold ksO
  rw [List.length_map, (srtD_perm _).length_eq, List.length_map]
def gL (D : LV) : LV := ((ksO D).filter fun l => getI D l != 0).map fun l => (l, getI D l)
theorem gL_len (D : LV) : (gL D).length ≤ D.length := by
  unfold gL
  rw [List.length_map, ← ksO_len D]
  exact List.length_filter_le _ _
theorem gL_mem {D : LV} {q : List Int × Int} (h : q ∈ gL D) : q ∈ D := by
  obtain ⟨l, hl, rfl⟩ := List.mem_map.mp h
  exact getI_mem (ksO_mem (List.mem_filter.mp hl).1)
theorem keys_okS {n m : Nat} {A : List Int → Prop} {B : Int → Prop} {D : LV} (h : Dc A B m D) (hn : ∀ l, A l → l.length = n) : okS ((dTI D).map (·.1)) = true ∧ ((dTI D).map (·.1)).all tupIs = true ∧ srtD ((dTI D).map (·.1)) = (ksO D).map tupI := by
  have e : (dTI D).map (·.1) = (D.map (·.1)).map tupI := by
    unfold dTI
    rw [List.map_map, List.map_map]
    rfl
  have e2 : (D.map (·.1)).map tupI = D.map fun q => tupI q.1 := by
    rw [List.map_map]
    rfl
  refine ⟨?_, by rw [e]; exact all_tupIs _, by rw [e, e2, ksO_eq]⟩
  rw [e]
  refine okS_lots ?_
  cases n with
  | succ n =>
    refine .inr fun l hl z => ?_
    obtain ⟨q, hq, rfl⟩ := List.mem_map.mp hl
    have := hn _ (h.a q hq)
    rw [z] at this
    cases this
  | zero =>
    refine .inl ?_
    have nd := h.nd
    have z : ∀ l ∈ D.map (·.1), l = [] := fun l hl => by
      obtain ⟨q, hq, rfl⟩ := List.mem_map.mp hl
      exact List.eq_nil_of_length_eq_zero (hn _ (h.a q hq))
    generalize D.map (·.1) = L at nd z ⊢
    match L, nd, z with
    | [], _, _ => exact Nat.zero_lt_succ _
    | [_], _, _ => exact Nat.lt_succ_self _
    | a :: b :: r, nd, z =>
      rw [List.nodup_cons] at nd
      exact absurd (by rw [z a List.mem_cons_self, z b (List.mem_cons_of_mem _ List.mem_cons_self)]; exact List.mem_cons_self) nd.1

-- after: law
theorem gl_w {p : Int} {rows : LV} {n m : Nat} {A : List Int → Prop} {v1 : Sl} {F : Fl → Prop} (hp : 0 < p) (h : Pt A (fun _ => True) m rows) (hm : m ≤ 1000)
    (k : ∀ v3 v4 : Option Dt, F (.nx [.fz (.int p), v1, .ow (.dict ((.none, .tuple []) :: dTI (gat p rows))), Sl.fzo v3, Sl.fzo v4])) :
    W1 (loopM (mgTup 2 (mgCons (putF 3) (mgCons (putF 4) mgNil))) (mDPut 2 (mVar 3) (mOp fMod (mOp fAdd (mDGet2P 2 (mVar 3) (mK (.int 0))) (mVar 4)) (mVar 0))) (rows.map tupP) [.fz (.int p), v1, .ow (.dict [(.none, .tuple [])]), .un, .un]) F := by
  refine loop_w (fun j env => ∃ v3 v4 : Option Dt, env = [.fz (.int p), v1, .ow (.dict ((.none, .tuple []) :: dTI (gat p (rows.take j)))), Sl.fzo v3, Sl.fzo v4]) ⟨none, none, rfl⟩ ?_ ?_
  · rintro j d _ hj ⟨v3, v4, rfl⟩
    rw [List.getElem?_map] at hj
    obtain ⟨r, hr, rfl⟩ := Option.map_eq_some_iff.mp hj
    have lj := (List.getElem?_eq_some_iff.mp hr).1
    have hl := (gat_ok hp h.a j (by omega)).len
    have := h.len
    walk_at "wp"
    refine w_dput ?_
    walk_at "wp"
    refine w_dget2P (ds := (.none, .tuple []) :: dTI (gat p (rows.take j))) rfl rfl ?_
    walk_at "wp"
    refine ⟨_, dget_I' _ _, ?_⟩
    have eg : ((fgI (gat p (rows.take j)) r.1).map PyData.int).getD (.int 0) = .int (getI (gat p (rows.take j)) r.1) := by
      unfold getI
      cases fgI (gat p (rows.take j)) r.1 <;> rfl
    rw [eg]
    walk_at "wp"
    refine ⟨.ow, _, _, fun _ => rfl, fun _ _ => rfl, rfl, dput_I (Nat.lt_of_le_of_lt (show _ ≤ 1000 by omega) (by show 1000 < 2 ^ 24; decide)), ?_⟩
    rw [← show gat p (rows.take (j + 1)) = putI (gat p (rows.take j)) r.1 ((getI (gat p (rows.take j)) r.1 + r.2) % p) from gat_step hr]
    walk_at "wp"
    exact ⟨some (tupI r.1), some (.int r.2), rfl⟩
  · rintro _ ⟨v3, v4, rfl⟩
    rw [List.length_map, List.take_length]
    exact k v3 v4
theorem fdg {D : LV} {l : List Int} (h : l ∈ D.map (·.1)) : fDGet (.dict ((.none, .tuple []) :: dTI D)) (tupI l) = some (.int (getI D l)) := by
  unfold fDGet
  rw [dget_I', fgI_in h]
  rfl
theorem gathered_w {p : Int} {rows : LV} {n m : Nat} {A : List Int → Prop} {R : List Dt → Sl → Prop} (hp : 0 < p) (h : Pt A (fun _ => True) m rows) (hm : m ≤ 1000) (hn : ∀ l, A l → l.length = n)
    (k : R [.none, .none] (.fz (.tuple ((gL (gat p rows)).map tupP)))) : W2 (b_gathered [.int p, .list (rows.map tupP)]) R := by
  refine w_body (env := [.fz (.int p), .fz (.list (rows.map tupP)), .un, .un, .un]) rfl ?_
  unfold m_gathered
  have go := gat_ok (p := p) hp h.a rows.length (Nat.le_refl _)
  rw [List.take_length] at go
  have hm' := h.len
  obtain ⟨k1, k2, k3⟩ := keys_okS go hn
  walk_at "wp"
  refine gl_w (n := n) hp h hm fun v3 v4 => ?_
  walk_at "wp"
  refine w_gx ?_
  walk_at "wp"
  refine o1_sortedDT k1 k2 ?_
  rw [k3]
  walk_at "wp"
  refine lcx_w tupI (fun l => getI (gat p rows) l != 0) (fun l => tupP (l, getI (gat p rows) l)) (fun l hl => ?_) ?_
  · have hf := fdg (ksO_mem hl)
    walk_at "wp"
    refine o1_rfl hf ?_
    walk_at "wp"
    refine ⟨_, rfl, rfl, rfl, fun _ => ?_⟩
    walk_at "wp"
    refine o1_rfl hf ?_
    walk_at "wp"
    exact ⟨rfl, rfl⟩
  have e : (((ksO (gat p rows)).filter fun l => getI (gat p rows) l != 0).map fun l => tupP (l, getI (gat p rows) l)) = (gL (gat p rows)).map tupP := by
    unfold gL
    rw [List.map_map]
    rfl
  rw [e]
  refine fit_w (sl_lt (m := 1000) (by rw [List.length_map]; have := gL_len (gat p rows); have := go.len; omega) (by decide)) ?_
  walk_at "wp"
  exact k
/-! ### outer -/
def rw1 (a : List Int × Int) (B : LV) : LV := B.filterMap fun b => if lsg a.1 b.1 = 0 then none else some (lsr a.1 b.1, lsg a.1 b.1 * a.2 * b.2)
def rws (A B : LV) : LV := A.flatMap fun a => rw1 a B
theorem rw1_len (a : List Int × Int) (B : LV) : (rw1 a B).length ≤ B.length := List.length_filterMap_le _ _
theorem rws_len (A B : LV) : (rws A B).length ≤ A.length * B.length := by
  induction A with
  | nil => simp [rws]
  | cons a A ih =>
    show ((rw1 a B) ++ rws A B).length ≤ _
    rw [List.length_append, List.length_cons, Nat.succ_mul]
    have := rw1_len a B
    omega
theorem rw1_step {a b : List Int × Int} {B : LV} {j : Nat} (h : B[j]? = some b) : rw1 a (B.take (j + 1)) = rw1 a (B.take j) ++ (if lsg a.1 b.1 = 0 then [] else [(lsr a.1 b.1, lsg a.1 b.1 * a.2 * b.2)]) := by
  unfold rw1
  rw [List.take_add_one, h, Option.toList_some, List.filterMap_append]
  congr 1
  by_cases c : lsg a.1 b.1 = 0
  · simp [c]
  · simp [c]
theorem rws_step {a : List Int × Int} {A B : LV} {j : Nat} (h : A[j]? = some a) : rws (A.take (j + 1)) B = rws (A.take j) B ++ rw1 a B := by
  unfold rws
  rw [List.take_add_one, h, Option.toList_some, List.flatMap_append]
  simp
/-- a lot of so many hands below 60 -/
structure Lt60 (hh n : Nat) (l : List Int) : Prop where
  up : l.Pairwise (· < ·)
  len : l.length = n
  bd : ∀ x ∈ l, 0 ≤ x ∧ x < hh
def Ln60 (n : Nat) (l : List Int) : Prop := l.length = n ∧ ∀ x ∈ l, 0 ≤ x ∧ x < 60
theorem lsr_up {a b : List Int} (ha : a.Pairwise (· < ·)) (hb : b.Pairwise (· < ·)) (h : lsg a b ≠ 0) : (lsr a b).Pairwise (· < ·) := by
  have ns : ¬ shares a b = true := fun z => by
    unfold lsg at h
    rw [if_pos z] at h
    exact h rfl
  unfold lsr
  rw [if_neg ns]
  have nd : (srt (a ++ b)).Nodup := by
    refine (srt_perm _).nodup_iff.mpr (List.nodup_append.mpr ⟨up_nodup ha, up_nodup hb, fun x hx y hy e => ns ?_⟩)
    subst e
    unfold shares
    rw [List.any_map, List.any_eq_true]
    exact ⟨x, hy, List.contains_iff_mem.mpr hx⟩
  exact ((srt_pw _).and nd).imp fun h => by omega
def Nb40 (v : Int) : Prop := 0 ≤ v ∧ v < 1000000000
theorem rws_ok {A B : LV} {n1 n2 m1 m2 : Nat} (hA : Pt (Lt60 hh n1) Nb40 m1 A) (hB : Pt (Lt60 hh n2) Nb40 m2 B) : Pt (Lt60 hh (n1 + n2)) (fun _ => True) (m1 * m2) (rws A B) := by
  refine ⟨fun q hq => ?_, fun _ _ => trivial, Nat.le_trans (rws_len A B) (Nat.mul_le_mul hA.len hB.len)⟩
  obtain ⟨a, ha, h⟩ := List.mem_flatMap.mp hq
  obtain ⟨b, hb, h⟩ := List.mem_filterMap.mp h
  by_cases c : lsg a.1 b.1 = 0
  · rw [if_pos c] at h
    cases h
  · rw [if_neg c] at h
    cases h
    have xa := hA.a a ha
    have xb := hB.a b hb
    refine ⟨lsr_up xa.up xb.up c, by rw [lsr_len c, xa.len, xb.len], fun x hx => ?_⟩
    rcases lsr_mem hx with z | z
    · exact xa.bd x z
    · exact xb.bd x z
theorem outer_w {p : Int} {A B : LV} {n1 n2 m1 m2 : Nat} {R : List Dt → Sl → Prop} (hp : 0 < p) (hA : Pt (Lt60 hh n1) Nb40 m1 A) (hB : Pt (Lt60 hh n2) Nb40 m2 B) (h1 : n1 ≤ 50) (h2 : n2 ≤ 50) (hm : m1 * m2 ≤ 1000)
    (k : R [.none, .none, .none] (.fz (.tuple ((gL (gat p (rws A B))).map tupP)))) : W2 (b_outer [.int p, .tuple (A.map tupP), .tuple (B.map tupP)]) R := by
  refine w_body (env := [.fz (.int p), .fz (.tuple (A.map tupP)), .fz (.tuple (B.map tupP)), .un, .un, .un, .un, .un, .un, .un]) rfl ?_
  unfold m_outer
  have fits : ∀ r : Nat, r ≤ m1 * m2 → r < sizeLine := fun r hr => Nat.lt_of_le_of_lt (show r ≤ 1000 by omega) (by show 1000 < 2 ^ 24; decide)
  walk_at "wp"
  refine loop_w (fun j env => ∃ v4 v5 v6 v7 v8 v9 : Option Dt, env = [.fz (.int p), .fz (.tuple (A.map tupP)), .fz (.tuple (B.map tupP)), .ow (.list ((rws (A.take j) B).map tupP)), Sl.fzo v4, Sl.fzo v5, Sl.fzo v6, Sl.fzo v7, Sl.fzo v8, Sl.fzo v9]) ⟨none, none, none, none, none, none, rfl⟩ ?_ ?_
  · rintro j d _ hj ⟨v4, v5, v6, v7, v8, v9, rfl⟩
    rw [List.getElem?_map] at hj
    obtain ⟨a, hj', rfl⟩ := Option.map_eq_some_iff.mp hj
    clear hj
    have hj := hj'
    have xa := hA.a a (List.mem_of_getElem? hj)
    have ba := hA.b a (List.mem_of_getElem? hj)
    have lj := (List.getElem?_eq_some_iff.mp hj).1
    walk_at "wp"
    refine loop_w (fun i env => ∃ v6 v7 v8 v9 : Option Dt, env = [.fz (.int p), .fz (.tuple (A.map tupP)), .fz (.tuple (B.map tupP)), .ow (.list ((rws (A.take j) B ++ rw1 a (B.take i)).map tupP)), .fz (tupI a.1), .fz (.int a.2), Sl.fzo v6, Sl.fzo v7, Sl.fzo v8, Sl.fzo v9]) ⟨v6, v7, v8, v9, by rw [show rw1 a (B.take 0) = [] from rfl, List.append_nil]⟩ ?_ ?_
    · rintro i d _ hi ⟨v6, v7, v8, v9, rfl⟩
      rw [List.getElem?_map] at hi
      obtain ⟨b, hi', rfl⟩ := Option.map_eq_some_iff.mp hi
      clear hi
      have hi := hi'
      have xb := hB.a b (List.mem_of_getElem? hi)
      have bb := hB.b b (List.mem_of_getElem? hi)
      have li := (List.getElem?_eq_some_iff.mp hi).1
      have e := rw1_step (a := a) hi
      have ls := lsg_abs a.1 b.1
      have l0 : ((rws (A.take j) B ++ rw1 a (B.take i)).map tupP).length ≤ m1 * m2 := by
        rw [List.length_map, List.length_append]
        have q1 := rws_len (A.take j) B
        have q2 := rw1_len a (B.take i)
        rw [List.length_take] at q1 q2
        have q3 : (j + 1) * B.length ≤ A.length * B.length := Nat.mul_le_mul_right _ lj
        have q4 : A.length * B.length ≤ m1 * m2 := Nat.mul_le_mul hA.len hB.len
        rw [Nat.min_eq_left (by omega)] at q1
        rw [Nat.succ_mul] at q3
        have : min i B.length ≤ B.length := Nat.min_le_right _ _
        omega
      have fl := fits _ l0
      walk_at "wp"
      refine laid_w (a := a.1) (b := b.1) (by have := xa.len; omega) (by have := xb.len; omega) ?_
      walk_at "wp"
      refine ite_nc (fun c => ?_) (fun c => ?_)
      · rw [if_neg c] at e
        walk_at "wp"
        refine o1_mul (.inr (by unfold Nb40 at bb; omega)) ?_
        walk_at "wp"
        refine fil_w fl ?_
        walk_at "wp"
        refine ⟨some (tupI b.1), some (.int b.2), some (.int (lsg a.1 b.1)), some (tupI (lsr a.1 b.1)), ?_⟩
        rw [e, ← List.append_assoc, List.map_append (l₂ := [_])]
        rfl
      · rw [if_pos c, List.append_nil] at e
        walk_at "wp"
        exact ⟨some (tupI b.1), some (.int b.2), some (.int (lsg a.1 b.1)), some (tupI (lsr a.1 b.1)), by rw [e]; rfl⟩
    · rintro _ ⟨v6, v7, v8, v9, rfl⟩
      rw [List.length_map, List.take_length, ← rws_step hj]
      exact ⟨some (tupI a.1), some (.int a.2), v6, v7, v8, v9, rfl⟩
  · rintro _ ⟨v4, v5, v6, v7, v8, v9, rfl⟩
    rw [List.length_map, List.take_length]
    walk_at "wp"
    refine gathered_w hp (rws_ok hA hB) hm (fun l h => h.len) ?_
    walk_at "wp"
    exact k
theorem fit_1000 {r : Nat} (h : r ≤ 1000) : r ≤ sizeLine := sl_lt h (by decide)

-- after: law
theorem lotI (l : List Nat) : lotD l = tupI (l.map fun x : Nat => (x : Int)) := by
  show PyData.tuple _ = PyData.tuple _
  congr 1
  rw [List.map_map]
  rfl
theorem small_I {l : List Int} (h : ∀ x ∈ l, 0 ≤ x ∧ x < 60) : Small (tupI l) (4 + l.length * 62) 2 := by
  have := small_tuple (ds := l.map PyData.int) (n := 60) (m := 1) fun d hd => by
    obtain ⟨y, hy, rfl⟩ := List.mem_map.mp hd
    have := h y hy
    exact small_int (Nat.lt_trans (show y.natAbs < 10000000000 by omega) (by decide))
  rw [List.length_map] at this
  exact this
theorem small_P {q : List Int × Int} {n : Nat} (hq : Ln60 n q.1) (hn : n ≤ 8) (hv : Nb40 q.2) : Small (tupP q) 1008 3 := by
  refine (small_tuple (ds := [tupI q.1, .int q.2]) (n := 500) (m := 2) fun d hd => ?_).le (by show 4 + 2 * 502 ≤ 1008; decide) (by decide)
  unfold Nb40 at hv
  simp only [List.mem_cons, List.not_mem_nil, or_false] at hd
  rcases hd with rfl | rfl
  · refine (small_I hq.2).le ?_ (by decide)
    rw [hq.1]
    omega
  · exact (small_int (Nat.lt_trans (show q.2.natAbs < 10000000000 by omega) (by decide))).le (by decide) (by decide)
theorem small_S {S : LV} {n m : Nat} (h : Pt (Ln60 n) Nb40 m S) (hn : n ≤ 8) : Small (.tuple (S.map tupP)) (4 + m * 1010) 4 := by
  have := small_tuple (ds := S.map tupP) (n := 1008) (m := 3) fun d hd => by
    obtain ⟨q, hq, rfl⟩ := List.mem_map.mp hd
    exact small_P (h.a q hq) hn (h.b q hq)
  refine this.le ?_ (by decide)
  rw [List.length_map]
  have := Nat.mul_le_mul_right 1010 h.len
  omega
theorem pt_ln {n m : Nat} {S : LV} (h60 : hh ≤ 60) (h : Pt (Lt60 hh n) Nb40 m S) : Pt (Ln60 n) Nb40 m S := ⟨fun q hq => ⟨(h.a q hq).len, fun x hx => by have := (h.a q hq).bd x hx; omega⟩, h.b, h.len⟩
theorem pt_res {p : Int} {A B : LV} {n1 n2 m1 m2 : Nat} (hp : 0 < p) (p9 : p < 1000000000) (hA : Pt (Lt60 hh n1) Nb40 m1 A) (hB : Pt (Lt60 hh n2) Nb40 m2 B) : Pt (Lt60 hh (n1 + n2)) Nb40 (m1 * m2) (gL (gat p (rws A B))) := by
  have r := rws_ok hA hB
  have go := gat_ok (p := p) hp r.a (rws A B).length (Nat.le_refl _)
  rw [List.take_length] at go
  refine ⟨fun q hq => go.a q (gL_mem hq), fun q hq => ?_, ?_⟩
  · have := go.b q (gL_mem hq)
    unfold Nb40
    omega
  · have := gL_len (gat p (rws A B))
    have := go.len
    have := r.len
    omega
theorem neT {d : Dt} {n m : Nat} {P : Dt → Prop} (h : Small d n m) (hm : m ≤ 64) (hp : plainD d = d) (k : P (.bool false)) : W1 (fNe d d) P := by
  refine ⟨_, if_pos ?_, ?_⟩
  · rw [hp, h.shaped hm]
    rfl
  · rw [hp, SeqAt.eqv_refl d h.lay]
    exact k

-- after: law
/-! ### sums as what they tell of each lot -/
def Ssum (rows : LV) (l : List Int) : Int := (rows.map fun r => if r.1 = l then r.2 else 0).sum
def Tsum (f : List Int → Int) (rows : LV) : Int := (rows.map fun r => f r.1 * r.2).sum
theorem Tsum_nil (f : List Int → Int) : Tsum f [] = 0 := rfl
theorem Tsum_cons (f : List Int → Int) (r : List Int × Int) (L : LV) : Tsum f (r :: L) = f r.1 * r.2 + Tsum f L := by
  unfold Tsum
  rw [List.map_cons, List.sum_cons]
theorem Tsum_app (f : List Int → Int) (A B : LV) : Tsum f (A ++ B) = Tsum f A + Tsum f B := by
  unfold Tsum
  rw [List.map_append, List.sum_append]
theorem Tsum_S (rows : LV) (l : List Int) : Ssum rows l = Tsum (fun x => if x = l then 1 else 0) rows := by
  unfold Ssum Tsum
  congr 1
  refine List.map_congr_left fun r _ => ?_
  show _ = (if r.1 = l then 1 else 0) * r.2
  by_cases c : r.1 = l
  · rw [if_pos c, if_pos c, Int.one_mul]
  · rw [if_neg c, if_neg c, Int.zero_mul]
theorem getI_nil (l : List Int) : getI [] l = 0 := rfl
theorem getI_cons (q : List Int × Int) (D : LV) (l : List Int) : getI (q :: D) l = if q.1 = l then q.2 else getI D l := by
  unfold getI fgI
  rw [List.find?_cons]
  by_cases c : q.1 = l
  · rw [decide_eq_true c, if_pos c]
    rfl
  · rw [decide_eq_false c, if_neg c]
theorem getI_no {D : LV} {l : List Int} (h : l ∉ D.map (·.1)) : getI D l = 0 := by
  induction D with
  | nil => rfl
  | cons q D ih =>
    rw [List.map_cons, List.mem_cons, not_or] at h
    rw [getI_cons, if_neg fun z => h.1 z.symm]
    exact ih h.2
theorem Tsum_put (f : List Int → Int) {D : LV} (l : List Int) (v : Int) (nd : (D.map (·.1)).Nodup) : Tsum f (putI D l v) = Tsum f D + f l * (v - getI D l) := by
  unfold putI
  by_cases c : (D.any fun q => decide (q.1 = l)) = true
  · rw [if_pos c]
    have hl : l ∈ D.map (·.1) := by
      obtain ⟨q, hq, e⟩ := List.any_eq_true.mp c
      exact List.mem_map.mpr ⟨q, hq, of_decide_eq_true e⟩
    clear c
    induction D with
    | nil => cases hl
    | cons q D ih =>
      rw [List.map_cons, List.nodup_cons] at nd
      rw [List.map_cons, Tsum_cons, Tsum_cons, getI_cons]
      by_cases e : q.1 = l
      · rw [if_pos e, if_pos e, e]
        show f l * v + _ = _
        have id : (D.map fun q => if q.1 = l then (q.1, v) else q) = D := by
          conv => rhs; rw [← List.map_id D]
          refine List.map_congr_left fun x hx => ?_
          rw [if_neg fun z => nd.1 (List.mem_map.mpr ⟨x, hx, z.trans e.symm⟩)]
          rfl
        rw [id, Int.mul_sub]
        omega
      · rw [if_neg e, if_neg e]
        rw [List.map_cons, List.mem_cons] at hl
        rw [ih nd.2 (hl.resolve_left fun z => e z.symm)]
        omega
  · rw [if_neg c, Tsum_app, Tsum_cons, Tsum_nil]
    have hl : l ∉ D.map (·.1) := fun z => by
      obtain ⟨q, hq, e⟩ := List.mem_map.mp z
      exact c (List.any_eq_true.mpr ⟨q, hq, decide_eq_true e⟩)
    rw [getI_no hl]
    show _ + (f l * v + 0) = _ + f l * (v - 0)
    rw [Int.sub_zero, Int.add_zero]
theorem gat_nd (p : Int) (rows : LV) : ((gat p rows).map (·.1)).Nodup := by
  unfold gat
  have g : ∀ (rows D : LV), (D.map (·.1)).Nodup → ((rows.foldl (gst p) D).map (·.1)).Nodup := fun rows => by
    induction rows with
    | nil => exact fun D h => h
    | cons r rows ih => exact fun D h => ih _ (put_nodup h)
  exact g rows [] (by simp)
/-- what is gathered tells the same, by the prime -/
theorem Tsum_gat (f : List Int → Int) (p : Int) (rows : LV) : Tsum f (gat p rows) % p = Tsum f rows % p := by
  unfold gat
  have g : ∀ (rows D : LV), (D.map (·.1)).Nodup → Tsum f (rows.foldl (gst p) D) % p = (Tsum f D + Tsum f rows) % p := fun rows => by
    induction rows with
    | nil => exact fun D h => by rw [List.foldl_nil, Tsum_nil, Int.add_zero]
    | cons r rows ih =>
      intro D h
      rw [List.foldl_cons, ih (gst p D r) (put_nodup h)]
      unfold gst
      rw [Tsum_put f _ _ h, Tsum_cons]
      have e : (getI D r.1 + r.2) % p - getI D r.1 = r.2 - p * ((getI D r.1 + r.2) / p) := by
        have := Int.emod_def (getI D r.1 + r.2) p
        omega
      rw [e, Int.mul_sub, show Tsum f D + (f r.1 * r.2 - f r.1 * (p * ((getI D r.1 + r.2) / p))) + Tsum f rows = (Tsum f D + (f r.1 * r.2 + Tsum f rows)) - p * (f r.1 * ((getI D r.1 + r.2) / p)) by
        rw [Int.mul_left_comm]; omega, Int.sub_mul_emod_self_left]
  rw [g rows [] (by simp), Tsum_nil, Int.zero_add]
theorem sum_perm {a b : List Int} (h : a.Perm b) : a.sum = b.sum := by
  induction h with
  | nil => rfl
  | cons x _ ih => rw [List.sum_cons, List.sum_cons, ih]
  | swap x y l =>
    rw [List.sum_cons, List.sum_cons, List.sum_cons, List.sum_cons]
    omega
  | trans _ _ h1 h2 => exact h1.trans h2
theorem Tsum_perm (f : List Int → Int) {A B : LV} (h : A.Perm B) : Tsum f A = Tsum f B := by
  unfold Tsum
  exact sum_perm (h.map _)
theorem D_keys : ∀ {D : LV}, (D.map (·.1)).Nodup → D = (D.map (·.1)).map fun l => (l, getI D l)
  | [], _ => rfl
  | q :: D, nd => by
    rw [List.map_cons, List.nodup_cons] at nd
    rw [List.map_cons, List.map_cons, getI_cons, if_pos rfl]
    congr 1
    conv => lhs; rw [D_keys nd.2]
    refine List.map_congr_left fun l hl => ?_
    rw [getI_cons, if_neg fun z => nd.1 (by rw [z]; exact hl)]
theorem ks_perm (D : LV) : (ksO D).Perm (D.map (·.1)) := by
  have h := ((srtD_perm (D.map fun q => tupI q.1)).map unT)
  rw [List.map_map] at h
  refine h.trans ?_
  rw [show (unT ∘ fun q : List Int × Int => tupI q.1) = fun q => q.1 from funext fun q => unT_I q.1]
theorem Tsum_nz (f : List Int → Int) (g : List Int → Int) (L : List (List Int)) : Tsum f ((L.filter fun l => g l != 0).map fun l => (l, g l)) = Tsum f (L.map fun l => (l, g l)) := by
  induction L with
  | nil => rfl
  | cons l L ih =>
    rw [List.map_cons, Tsum_cons, ← ih]
    by_cases c : g l = 0
    · rw [List.filter_cons_of_neg (by simp [c]), c, Int.mul_zero, Int.zero_add]
    · rw [List.filter_cons_of_pos (by simp [c]), List.map_cons, Tsum_cons]
theorem Tsum_gL (f : List Int → Int) {D : LV} (nd : (D.map (·.1)).Nodup) : Tsum f (gL D) = Tsum f D := by
  unfold gL
  rw [Tsum_nz]
  conv => rhs; rw [D_keys nd]
  exact Tsum_perm f ((ks_perm D).map _)
/-- the sum that rows tell -/
def res (p : Int) (rows : LV) : LV := gL (gat p rows)
theorem Tsum_res (f : List Int → Int) (p : Int) (rows : LV) : Tsum f (res p rows) % p = Tsum f rows % p := by
  unfold res
  rw [Tsum_gL f (gat_nd p rows), Tsum_gat]

-- after: law
def dl1 (l x : List Int) : Int := if x = l then 1 else 0
theorem Tsum_congr {f g : List Int → Int} {A : LV} (h : ∀ q ∈ A, f q.1 = g q.1) : Tsum f A = Tsum g A := by
  unfold Tsum
  congr 1
  exact List.map_congr_left fun q hq => by rw [h q hq]
theorem Tsum_mod {f g : List Int → Int} {A : LV} {p : Int} (h : ∀ q ∈ A, f q.1 % p = g q.1 % p) : Tsum f A % p = Tsum g A % p := by
  induction A with
  | nil => rfl
  | cons q A ih =>
    rw [Tsum_cons, Tsum_cons, Int.add_emod, ih fun x hx => h x (List.mem_cons_of_mem _ hx), Int.mul_emod, h q List.mem_cons_self, ← Int.mul_emod, ← Int.add_emod]
theorem Tsum_mul (f : List Int → Int) (k : Int) (A : LV) : Tsum (fun x => k * f x) A = k * Tsum f A := by
  induction A with
  | nil => rw [Tsum_nil, Tsum_nil, Int.mul_zero]
  | cons q A ih => rw [Tsum_cons, Tsum_cons, ih, Int.mul_add, Int.mul_assoc]
theorem Tsum_add (f g : List Int → Int) (A : LV) : Tsum (fun x => f x + g x) A = Tsum f A + Tsum g A := by
  induction A with
  | nil => rfl
  | cons q A ih =>
    rw [Tsum_cons, Tsum_cons, Tsum_cons, ih, Int.add_mul]
    omega
theorem Tsum_zero {f : List Int → Int} {A : LV} (h : ∀ q ∈ A, f q.1 = 0) : Tsum f A = 0 := by
  induction A with
  | nil => rfl
  | cons q A ih => rw [Tsum_cons, h q List.mem_cons_self, ih fun x hx => h x (List.mem_cons_of_mem _ hx), Int.zero_mul, Int.add_zero]
theorem Tsum_scale (f : List Int → Int) (s : Int) (A : LV) : Tsum f (A.map fun q => (q.1, q.2 * s)) = s * Tsum f A := by
  induction A with
  | nil => rw [List.map_nil, Tsum_nil, Int.mul_zero]
  | cons q A ih =>
    rw [List.map_cons, Tsum_cons, Tsum_cons, ih, Int.mul_add]
    congr 1
    show f q.1 * (q.2 * s) = s * (f q.1 * q.2)
    rw [← Int.mul_assoc, Int.mul_comm]
theorem Tsum_swap (g : List Int → List Int → Int) (A B : LV) : Tsum (fun x => Tsum (fun y => g x y) B) A = Tsum (fun y => Tsum (fun x => g x y) A) B := by
  induction A with
  | nil => rw [Tsum_nil, Tsum_zero fun q _ => Tsum_nil _]
  | cons q A ih =>
    rw [Tsum_cons, ih]
    have e : Tsum (fun y => Tsum (fun x => g x y) (q :: A)) B = Tsum (fun y => q.2 * g q.1 y + Tsum (fun x => g x y) A) B := Tsum_congr fun r _ => by rw [Tsum_cons, Int.mul_comm]
    rw [e, Tsum_add, Tsum_mul, Int.mul_comm]
theorem Tsum_rw1 (f : List Int → Int) (a : List Int × Int) (B : LV) : Tsum f (rw1 a B) = a.2 * Tsum (fun y => lsg a.1 y * f (lsr a.1 y)) B := by
  induction B with
  | nil =>
    rw [Tsum_nil, Int.mul_zero]
    rfl
  | cons b B ih =>
    unfold rw1 at ih ⊢
    rw [List.filterMap_cons, Tsum_cons, Int.mul_add, ← ih]
    by_cases c : lsg a.1 b.1 = 0
    · rw [if_pos c]
      simp only [c, Int.zero_mul, Int.mul_zero, Int.zero_add]
    · rw [if_neg c]
      dsimp only
      rw [Tsum_cons]
      congr 1
      show f (lsr a.1 b.1) * (lsg a.1 b.1 * a.2 * b.2) = a.2 * (lsg a.1 b.1 * f (lsr a.1 b.1) * b.2)
      rw [show lsg a.1 b.1 * a.2 * b.2 = a.2 * (lsg a.1 b.1 * b.2) by rw [Int.mul_comm (lsg a.1 b.1) a.2, Int.mul_assoc], Int.mul_left_comm]
      congr 1
      rw [← Int.mul_assoc, Int.mul_comm (f _) (lsg _ _)]
theorem Tsum_rws (f : List Int → Int) (A B : LV) : Tsum f (rws A B) = Tsum (fun x => Tsum (fun y => lsg x y * f (lsr x y)) B) A := by
  induction A with
  | nil => rfl
  | cons a A ih =>
    show Tsum f (rw1 a B ++ rws A B) = _
    rw [Tsum_app, ih, Tsum_rw1, Tsum_cons, Int.mul_comm]
/-! which sums are the same -/
theorem getI_T {D : LV} {l : List Int} (nd : (D.map (·.1)).Nodup) : Tsum (dl1 l) D = getI D l := by
  induction D with
  | nil => rfl
  | cons q D ih =>
    rw [List.map_cons, List.nodup_cons] at nd
    rw [Tsum_cons, getI_cons, ih nd.2]
    unfold dl1
    by_cases c : q.1 = l
    · rw [if_pos c, if_pos c, getI_no (c ▸ nd.1)]
      omega
    · rw [if_neg c, if_neg c]
      omega
theorem gat_bd {p : Int} (hp : 0 < p) (rows : LV) (l : List Int) : 0 ≤ getI (gat p rows) l ∧ getI (gat p rows) l < p := by
  by_cases h : l ∈ (gat p rows).map (·.1)
  · have go := gat_ok (A := fun _ => True) (p := p) hp (rows := rows) (fun _ _ => trivial) rows.length (Nat.le_refl _)
    rw [List.take_length] at go
    exact go.b _ (getI_mem h)
  · rw [getI_no h]
    omega
theorem gat_get {p : Int} (hp : 0 < p) (rows : LV) (l : List Int) : getI (gat p rows) l = Tsum (dl1 l) rows % p := by
  have h := gat_bd hp rows l
  rw [← Tsum_gat, getI_T (gat_nd p rows), Int.emod_eq_of_lt h.1 h.2]
theorem ks_le (D : LV) : (ksO D).Pairwise fun a b => ¬ b < a := by
  have h := srtD_le (D.map fun q => tupI q.1)
  rw [ksO_eq, List.pairwise_map] at h
  refine h.imp fun {a b} q => ?_
  rw [dataLt_tup] at q
  exact of_decide_eq_false q
theorem ll_antisymm {a b : List Int} (h1 : ¬ b < a) (h2 : ¬ a < b) : a = b := List.le_antisymm h1 h2
theorem ks_nd {D : LV} (nd : (D.map (·.1)).Nodup) : (ksO D).Nodup := (ks_perm D).nodup_iff.mpr nd
theorem ks_in {D : LV} {l : List Int} (h : getI D l ≠ 0) : l ∈ ksO D := by
  refine (ks_perm D).mem_iff.mpr (Classical.byContradiction fun z => h (getI_no z))
theorem gL_ext {D E : LV} (nd : (D.map (·.1)).Nodup) (ne : (E.map (·.1)).Nodup) (h : ∀ l, getI D l = getI E l) : gL D = gL E := by
  unfold gL
  have e : (fun l => getI D l) = fun l => getI E l := funext h
  have k : (ksO D).filter (fun l => getI D l != 0) = (ksO E).filter fun l => getI E l != 0 := by
    refine ((List.perm_ext_iff_of_nodup ((ks_nd nd).filter _) ((ks_nd ne).filter _)).mpr fun l => ?_).eq_of_pairwise (fun a b _ _ h1 h2 => ll_antisymm h1 h2) ((ks_le D).filter _) ((ks_le E).filter _)
    rw [List.mem_filter, List.mem_filter, h l]
    constructor
    · rintro ⟨_, z⟩
      exact ⟨ks_in (by simpa using z), z⟩
    · rintro ⟨_, z⟩
      exact ⟨ks_in (by rw [h l]; simpa using z), z⟩
  rw [k]
  exact List.map_congr_left fun l _ => by rw [h l]
theorem res_eq {p : Int} (hp : 0 < p) {R S : LV} (h : ∀ l, Tsum (dl1 l) R % p = Tsum (dl1 l) S % p) : res p R = res p S :=
  gL_ext (gat_nd p R) (gat_nd p S) fun l => by rw [gat_get hp, gat_get hp, h l]
theorem res_nil {p : Int} (hp : 0 < p) {R : LV} (h : ∀ l, Tsum (dl1 l) R % p = 0) : res p R = [] := by
  have z : res p [] = [] := List.eq_nil_of_length_eq_zero (Nat.le_zero.mp (gL_len []))
  rw [← z]
  exact res_eq hp fun l => by rw [h l, Tsum_nil, Int.zero_emod]
/-! ### lots laid together -/
theorem sh_iff {a b : List Int} : shares a b = true ↔ ∃ x ∈ a, x ∈ b := by
  unfold shares
  rw [List.any_map, List.any_eq_true]
  constructor
  · rintro ⟨y, hy, h⟩
    exact ⟨y, List.contains_iff_mem.mp h, hy⟩
  · rintro ⟨x, h1, h2⟩
    exact ⟨x, h2, List.contains_iff_mem.mpr h1⟩
theorem sh_comm (a b : List Int) : shares a b = shares b a := by
  rw [Bool.eq_iff_iff, sh_iff, sh_iff]
  exact ⟨fun ⟨x, h1, h2⟩ => ⟨x, h2, h1⟩, fun ⟨x, h1, h2⟩ => ⟨x, h2, h1⟩⟩
theorem sh_srtL (a b c : List Int) : shares (srt (a ++ b)) c = (shares a c || shares b c) := by
  rw [Bool.eq_iff_iff, Bool.or_eq_true, sh_iff, sh_iff, sh_iff]
  constructor
  · rintro ⟨x, h1, h2⟩
    rcases List.mem_append.mp ((srt_perm _).mem_iff.mp h1) with z | z
    · exact .inl ⟨x, z, h2⟩
    · exact .inr ⟨x, z, h2⟩
  · rintro (⟨x, h1, h2⟩ | ⟨x, h1, h2⟩)
    · exact ⟨x, (srt_perm _).mem_iff.mpr (List.mem_append.mpr (.inl h1)), h2⟩
    · exact ⟨x, (srt_perm _).mem_iff.mpr (List.mem_append.mpr (.inr h1)), h2⟩
theorem sh_srtR (a b c : List Int) : shares a (srt (b ++ c)) = (shares a b || shares a c) := by rw [sh_comm, sh_srtL, sh_comm b a, sh_comm c a]
theorem crs_srtL (a b c : List Int) : crs (srt (a ++ b)) c = crs a c + crs b c := by rw [crs_perm (srt_perm _) (List.Perm.refl c), crs_appL]
theorem crs_srtR (a b c : List Int) : crs a (srt (b ++ c)) = crs a b + crs a c := by rw [crs_perm (List.Perm.refl a) (srt_perm _), crs_appR]
theorem srt_assoc (a b c : List Int) : srt (srt (a ++ b) ++ c) = srt (a ++ srt (b ++ c)) := by
  refine srt_congr ?_
  refine ((srt_perm (a ++ b)).append_right c).trans ?_
  rw [List.append_assoc]
  exact ((srt_perm (b ++ c)).symm.append_left a)
theorem lsg_y {a b : List Int} (h : shares a b = true) : lsg a b = 0 := by
  unfold lsg
  rw [if_pos h]
theorem lsg_n {a b : List Int} (h : shares a b = false) : lsg a b = sg (crs a b) := by
  unfold lsg
  rw [if_neg (by rw [h]; decide)]
theorem lsr_n {a b : List Int} (h : shares a b = false) : lsr a b = srt (a ++ b) := by
  unfold lsr
  rw [if_neg (by rw [h]; decide)]
/-- laid together in rows -/
theorem lay_assoc (F : List Int → Int) (a b c : List Int) : lsg a b * (lsg (lsr a b) c * F (lsr (lsr a b) c)) = lsg b c * (lsg a (lsr b c) * F (lsr a (lsr b c))) := by
  cases h1 : shares a b with
  | true =>
    rw [lsg_y h1, Int.zero_mul]
    cases h2 : shares b c with
    | true => rw [lsg_y h2, Int.zero_mul]
    | false => rw [lsr_n h2, lsg_y (a := a) (b := srt (b ++ c)) (by rw [sh_srtR, h1]; rfl), Int.zero_mul, Int.mul_zero]
  | false =>
    rw [lsr_n h1]
    cases h2 : shares b c with
    | true => rw [lsg_y h2, lsg_y (a := srt (a ++ b)) (by rw [sh_srtL, h2, Bool.or_true]), Int.zero_mul, Int.mul_zero, Int.zero_mul]
    | false =>
      rw [lsr_n h2]
      cases h3 : shares a c with
      | true => rw [lsg_y (a := srt (a ++ b)) (by rw [sh_srtL, h3]; rfl), lsg_y (a := a) (b := srt (b ++ c)) (by rw [sh_srtR, h3, Bool.or_true]), Int.zero_mul, Int.zero_mul, Int.mul_zero, Int.mul_zero]
      | false =>
        have e1 : shares (srt (a ++ b)) c = false := by rw [sh_srtL, h3, h2]; rfl
        have e2 : shares a (srt (b ++ c)) = false := by rw [sh_srtR, h1, h3]; rfl
        rw [lsg_n h1, lsg_n h2, lsg_n e1, lsg_n e2, lsr_n e1, lsr_n e2, crs_srtL, crs_srtR, srt_assoc, ← Int.mul_assoc, ← Int.mul_assoc, ← sg_add, ← sg_add]
        congr 2
        omega
/-- turned about -/
theorem lay_turn (a b : List Int) : lsg b a = sg (a.length * b.length) * lsg a b ∧ lsr b a = lsr a b := by
  unfold lsg lsr
  rw [sh_comm b a]
  cases h : shares a b with
  | true => exact ⟨by rw [if_pos rfl, if_pos rfl, Int.mul_zero], by rw [if_pos rfl, if_pos rfl]⟩
  | false =>
    rw [if_neg (by decide), if_neg (by decide), if_neg (by decide), if_neg (by decide)]
    refine ⟨?_, srt_congr List.perm_append_comm⟩
    have e := crs_swap (a := a) (b := b) fun x h1 h2 => by
      have := sh_iff.mpr ⟨x, h1, h2⟩
      rw [h] at this
      cases this
    rw [← e, ← sg_add, show crs a b + crs b a + crs a b = crs b a + 2 * crs a b by omega]
    unfold sg
    rw [show (crs b a + 2 * crs a b) % 2 = crs b a % 2 by omega]

-- after: law
/-! ### determinants: along the first row, along the first column -/
def ent (r : List Int) (x : Int) : Int := r.getD x.toNat 0
def picks {α : Type} : List α → List (α × List α)
  | [] => []
  | a :: l => (a, l) :: (picks l).map fun q => (q.1, a :: q.2)
def alt : List Int → Int
  | [] => 0
  | x :: l => x - alt l
theorem alt_mul (k : Int) {α : Type} (f : α → Int) : ∀ l : List α, alt (l.map fun x => k * f x) = k * alt (l.map f)
  | [] => (Int.mul_zero k).symm
  | x :: l => by
    rw [List.map_cons, List.map_cons, alt, alt, alt_mul k f l, Int.mul_sub]
theorem alt_sub {α : Type} (f g : α → Int) : ∀ l : List α, alt (l.map fun x => f x - g x) = alt (l.map f) - alt (l.map g)
  | [] => rfl
  | x :: l => by
    rw [List.map_cons, List.map_cons, List.map_cons, alt, alt, alt, alt_sub f g l]
    omega
theorem alt_zero {α : Type} : ∀ l : List α, alt (l.map fun _ => 0) = 0
  | [] => rfl
  | x :: l => by
    rw [List.map_cons, alt, alt_zero l]
    rfl
theorem alt_swap {α β : Type} (g : α → β → Int) (A : List α) : ∀ B : List β, alt (A.map fun a => alt (B.map fun b => g a b)) = alt (B.map fun b => alt (A.map fun a => g a b))
  | [] => by
    show alt (A.map fun a => 0) = 0
    exact alt_zero A
  | b :: B => by
    rw [List.map_cons, alt, ← alt_swap g A B, ← alt_sub]
    rfl
theorem picks_len {α : Type} : ∀ {l : List α} {q : α × List α}, q ∈ picks l → q.2.length + 1 = l.length
  | [], q, h => by cases h
  | a :: l, q, h => by
    rcases List.mem_cons.mp h with rfl | h
    · rfl
    · obtain ⟨q', h', rfl⟩ := List.mem_map.mp h
      have := picks_len h'
      show q'.2.length + 1 + 1 = l.length + 1
      omega
def detR : List (List Int) → List Int → Int
  | [], [] => 1
  | [], _ :: _ => 0
  | r :: R, C => alt ((picks C).map fun q => ent r q.1 * detR R q.2)
def detC : Nat → List (List Int) → List Int → Int
  | 0, R, [] => if R = [] then 1 else 0
  | _, _, [] => 0
  | 0, _, _ :: _ => 0
  | n + 1, R, c :: C => alt ((picks R).map fun q => ent q.1 c * detC n q.2 C)
theorem detC_s (n : Nat) (R : List (List Int)) (c : Int) (C : List Int) : detC (n + 1) R (c :: C) = alt ((picks R).map fun q => ent q.1 c * detC n q.2 C) := rfl
theorem detR_s (r : List Int) (R : List (List Int)) (C : List Int) : detR (r :: R) C = alt ((picks C).map fun q => ent r q.1 * detR R q.2) := by rw [detR]
theorem alt_congr {α : Type} {f g : α → Int} {l : List α} (h : ∀ x ∈ l, f x = g x) : alt (l.map f) = alt (l.map g) := by rw [List.map_congr_left h]
theorem det_eq : ∀ (n : Nat) (R : List (List Int)) (C : List Int), R.length = n → C.length = n → detR R C = detC n R C := by
  intro n
  induction n using Nat.strongRecOn with
  | ind n ih =>
    intro R C hR hC
    match n, R, C, hR, hC, ih with
    | 0, [], [], _, _, _ => rfl
    | n + 1, r :: R, c :: C, hR, hC, ih =>
      have hR : R.length = n := by simpa using hR
      have hC : C.length = n := by simpa using hC
      rw [detR_s, detC_s, picks, picks, List.map_cons, List.map_cons, alt, alt, List.map_map, List.map_map]
      dsimp only
      rw [ih n (by omega) R C hR hC]
      congr 1
      have e1 : ∀ q ∈ picks C, ((fun q : Int × List Int => ent r q.1 * detR R q.2) ∘ fun q : Int × List Int => (q.1, c :: q.2)) q = alt ((picks R).map fun s => ent r q.1 * (ent s.1 c * detC (n - 1) s.2 q.2)) := fun q hq => by
        have ql := picks_len hq
        show ent r q.1 * detR R (c :: q.2) = _
        rw [ih n (by omega) R (c :: q.2) hR (by rw [List.length_cons]; omega), alt_mul]
        obtain ⟨m, rfl⟩ : ∃ m, n = m + 1 := ⟨n - 1, by omega⟩
        rw [detC_s]
        rfl
      have e2 : ∀ s ∈ picks R, ((fun q : List Int × List (List Int) => ent q.1 c * detC n q.2 C) ∘ fun q : List Int × List (List Int) => (q.1, r :: q.2)) s = alt ((picks C).map fun q => ent r q.1 * (ent s.1 c * detC (n - 1) s.2 q.2)) := fun s hs => by
        have sl := picks_len hs
        show ent s.1 c * detC n (r :: s.2) C = _
        rw [← ih n (by omega) (r :: s.2) C (by rw [List.length_cons]; omega) hC, detR_s, ← alt_mul]
        refine alt_congr fun q hq => ?_
        have ql := picks_len hq
        rw [ih (n - 1) (by omega) s.2 q.2 (by omega) (by omega), Int.mul_left_comm]
      rw [alt_congr e1, alt_congr e2]
      exact alt_swap _ _ _
/-! sums by places and by things -/
theorem sg_s (n : Nat) : sg (n + 1) = - sg n := by
  unfold sg
  have : n % 2 = 0 ∨ n % 2 = 1 := by omega
  rcases this with h | h
  · have h2 : (n + 1) % 2 = 1 := by omega
    rw [h, h2]
    rfl
  · have h2 : (n + 1) % 2 = 0 := by omega
    rw [h, h2]
    rfl
theorem alt_range {α : Type} (d : α) : ∀ (Q : List α) (g : α → List α → Int), alt ((picks Q).map fun q => g q.1 q.2) = ((List.range Q.length).map fun j => sg j * g (Q.getD j d) (Q.eraseIdx j)).sum
  | [], _ => rfl
  | a :: Q, g => by
    rw [picks, List.map_cons, alt, List.map_map, List.length_cons, List.range_succ_eq_map, List.map_cons, List.sum_cons, List.map_map]
    have ih := alt_range d Q fun b m => g b (a :: m)
    have e : ((fun q : α × List α => g q.1 q.2) ∘ fun q : α × List α => (q.1, a :: q.2)) = fun q => g q.1 (a :: q.2) := rfl
    rw [e, ih]
    have e2 : ((fun j => sg j * g ((a :: Q).getD j d) ((a :: Q).eraseIdx j)) ∘ Nat.succ) = fun j => -1 * (sg j * g (Q.getD j d) (a :: Q.eraseIdx j)) := by
      funext j
      show sg (j + 1) * g ((a :: Q).getD (j + 1) d) ((a :: Q).eraseIdx (j + 1)) = _
      rw [show sg (j + 1) = -1 * sg j by rw [sg_s]; omega, Int.mul_assoc]
      rfl
    rw [e2]
    have e3 : ∀ (l : List Nat) (f : Nat → Int), (l.map fun j => -1 * f j).sum = -1 * (l.map f).sum := fun l f => by
      induction l with
      | nil => rfl
      | cons x l ih => rw [List.map_cons, List.map_cons, List.sum_cons, List.sum_cons, ih]; omega
    rw [e3]
    show g a Q - _ = sg 0 * g a Q + _
    rw [show sg 0 = 1 from rfl]
    omega
def offI (l : List Int) (x : Int) : List Int := l.filter fun y => !decide (y = x)
def abvI (l : List Int) (x : Int) : Nat := (l.filter fun y => decide (x < y)).length
theorem sum_neg {α : Type} (f : α → Int) : ∀ l : List α, (l.map fun x => - f x).sum = - (l.map f).sum
  | [] => rfl
  | x :: l => by
    rw [List.map_cons, List.map_cons, List.sum_cons, List.sum_cons, sum_neg f l]
    omega
theorem alt_down : ∀ (C : List Int) (g : Int → List Int → Int), C.Pairwise (· > ·) → alt ((picks C).map fun q => g q.1 q.2) = (C.map fun x => sg (abvI C x) * g x (offI C x)).sum
  | [], _, _ => rfl
  | c :: C, g, pw => by
    obtain ⟨p1, p2⟩ := List.pairwise_cons.mp pw
    rw [picks, List.map_cons, alt, List.map_map, List.map_cons, List.sum_cons]
    have e : ((fun q : Int × List Int => g q.1 q.2) ∘ fun q : Int × List Int => (q.1, c :: q.2)) = fun q => g q.1 (c :: q.2) := rfl
    rw [e, alt_down C (fun b m => g b (c :: m)) p2]
    have a0 : abvI (c :: C) c = 0 := by
      unfold abvI
      rw [List.length_eq_zero_iff, List.filter_eq_nil_iff]
      intro y hy
      rcases List.mem_cons.mp hy with rfl | hy
      · simp
      · have := p1 y hy
        simp
        omega
    have o0 : offI (c :: C) c = C := by
      unfold offI
      rw [List.filter_cons_of_neg (by simp), List.filter_eq_self]
      intro y hy
      have := p1 y hy
      simp
      omega
    rw [a0, o0, show sg 0 = 1 from rfl, Int.one_mul]
    have ec : ∀ x ∈ C, sg (abvI (c :: C) x) * g x (offI (c :: C) x) = - (sg (abvI C x) * g x (c :: offI C x)) := fun x hx => by
      have h1 := p1 x hx
      have q1 : abvI (c :: C) x = abvI C x + 1 := by
        unfold abvI
        rw [List.filter_cons_of_pos (by simp; omega)]
        rfl
      have q2 : offI (c :: C) x = c :: offI C x := by
        unfold offI
        rw [List.filter_cons_of_pos (by simp; omega)]
      rw [q1, q2, sg_s, Int.neg_mul]
    rw [List.map_congr_left ec, sum_neg]
    show g c C - _ = g c C + - _
    omega
/-- the determinant of a rising lot, from its things -/
def dtm (R : List (List Int)) (l : List Int) : Int := detR R l.reverse
theorem dtm_s (r : List Int) (R : List (List Int)) {l : List Int} (up : l.Pairwise (· < ·)) : dtm (r :: R) l = (l.map fun x => sg (abvI l x) * (ent r x * dtm R (offI l x))).sum := by
  unfold dtm
  rw [detR_s, alt_down l.reverse (fun x m => ent r x * detR R m) (by rw [List.pairwise_reverse]; exact up), List.map_reverse, sum_perm (List.reverse_perm _)]
  refine congrArg List.sum (List.map_congr_left fun x _ => ?_)
  have q1 : abvI l.reverse x = abvI l x := by
    unfold abvI
    rw [List.filter_reverse, List.length_reverse]
  have q2 : offI l.reverse x = (offI l x).reverse := by
    unfold offI
    rw [List.filter_reverse]
  rw [q1, q2]

-- after: law
/-! ### all orders, each with its sign -/
def OR : Nat → List (List Nat × Int)
  | 0 => [([], 1)]
  | k + 1 => (OR k).flatMap fun q => (List.range (q.1.length + 1)).map fun i => (q.1.take i ++ k :: q.1.drop i, q.2 * sg (q.1.length - i))
theorem OR_ok : ∀ {k : Nat} {q : List Nat × Int}, q ∈ OR k → q.1.length = k ∧ (∀ i ∈ q.1, i < k) ∧ (q.2 = 1 ∨ q.2 = -1)
  | 0, q, h => by
    rw [List.mem_singleton.mp h]
    exact ⟨rfl, fun i hi => (by cases hi), .inl rfl⟩
  | k + 1, q, h => by
    obtain ⟨q', h1, h2⟩ := List.mem_flatMap.mp h
    obtain ⟨i, hi, rfl⟩ := List.mem_map.mp h2
    obtain ⟨a, b, c⟩ := OR_ok h1
    have hi := List.mem_range.mp hi
    refine ⟨?_, fun x hx => ?_, ?_⟩
    · show (q'.1.take i ++ k :: q'.1.drop i).length = _
      rw [List.length_append, List.length_cons, List.length_take, List.length_drop]
      omega
    · rcases List.mem_append.mp hx with z | z
      · have := b x (List.mem_of_mem_take z)
        omega
      · rcases List.mem_cons.mp z with rfl | z
        · omega
        · have := b x (List.mem_of_mem_drop z)
          omega
    · show q'.2 * sg _ = 1 ∨ q'.2 * sg _ = -1
      have s : sg (q'.1.length - i) = 1 ∨ sg (q'.1.length - i) = -1 := by
        unfold sg
        split
        · exact .inl rfl
        · exact .inr rfl
      rcases c with c | c <;> rcases s with s | s <;> rw [c, s] <;> simp
theorem flat_lenE {α β : Type} {f : α → List β} {n : Nat} : ∀ {l : List α}, (∀ a ∈ l, (f a).length = n) → (l.flatMap f).length = l.length * n
  | [], _ => by simp
  | a :: l, h => by
    rw [List.flatMap_cons, List.length_append, h a List.mem_cons_self, flat_lenE fun b hb => h b (List.mem_cons_of_mem _ hb), List.length_cons, Nat.succ_mul]
    omega
theorem OR_len (k : Nat) : (OR (k + 1)).length = (OR k).length * (k + 1) := flat_lenE fun q hq => by
  rw [List.length_map, List.length_range, (OR_ok hq).1]
theorem OR_120 : ∀ {k : Nat}, k ≤ 5 → (OR k).length ≤ 120
  | 0, _ => by decide
  | 1, _ => by decide
  | 2, _ => by decide
  | 3, _ => by decide
  | 4, _ => by decide
  | 5, _ => by decide
  | n + 6, h => by omega
def pr : List (List Int) → List Int → List Nat → Int
  | r :: R, l, i :: w => ent r (l.getD i 0) * pr R l w
  | _, _, _ => 1
theorem pr_ins (l : List Int) (k : Nat) : ∀ (i : Nat) (R : List (List Int)) (w : List Nat), i ≤ w.length → R.length = w.length + 1 → pr R l (w.take i ++ k :: w.drop i) = ent (R.getD i []) (l.getD k 0) * pr (R.eraseIdx i) l w
  | 0, r :: R, w, _, _ => rfl
  | i + 1, r :: R, x :: w, hi, hR => by
    have ih := pr_ins l k i R w (by simpa using hi) (by simpa using hR)
    show ent r (l.getD x 0) * pr R l (w.take i ++ k :: w.drop i) = ent (R.getD i []) (l.getD k 0) * (ent r (l.getD x 0) * pr (R.eraseIdx i) l w)
    rw [ih, Int.mul_left_comm]
  | i + 1, r :: R, [], hi, _ => by simp at hi
  | i, [], w, _, hR => by simp at hR
theorem pr_cut {l : List Int} {n : Nat} : ∀ {R : List (List Int)} {w : List Nat}, (∀ i ∈ w, i < n) → pr R (l.take n) w = pr R l w
  | [], _, _ => by simp [pr]
  | _ :: _, [], _ => by simp [pr]
  | r :: R, i :: w, h => by
    show ent r ((l.take n).getD i 0) * pr R (l.take n) w = ent r (l.getD i 0) * pr R l w
    rw [pr_cut fun x hx => h x (List.mem_cons_of_mem _ hx), List.getD_eq_getElem?_getD, List.getElem?_take, if_pos (h i List.mem_cons_self), List.getD_eq_getElem?_getD]
def SO (R : List (List Int)) (l : List Int) : Int := ((OR R.length).map fun q => q.2 * pr R l q.1).sum
theorem sum_flat {α β : Type} (f : α → List β) (g : β → Int) : ∀ l : List α, ((l.flatMap f).map g).sum = (l.map fun a => ((f a).map g).sum).sum
  | [] => rfl
  | a :: l => by rw [List.flatMap_cons, List.map_append, List.sum_append, List.map_cons, List.sum_cons, sum_flat f g l]
theorem sum_addI {α : Type} (f g : α → Int) : ∀ l : List α, (l.map fun x => f x + g x).sum = (l.map f).sum + (l.map g).sum
  | [] => rfl
  | x :: l => by
    rw [List.map_cons, List.map_cons, List.map_cons, List.sum_cons, List.sum_cons, List.sum_cons, sum_addI f g l]
    omega
theorem sum_0 {α : Type} : ∀ l : List α, (l.map fun _ => (0 : Int)).sum = 0
  | [] => rfl
  | x :: l => by rw [List.map_cons, List.sum_cons, sum_0 l]; rfl
theorem sum_swapI {α β : Type} (g : α → β → Int) (A : List α) : ∀ B : List β, (A.map fun a => (B.map fun b => g a b).sum).sum = (B.map fun b => (A.map fun a => g a b).sum).sum
  | [] => by
    show (A.map fun _ => (0 : Int)).sum = 0
    exact sum_0 A
  | b :: B => by
    rw [List.map_cons, List.sum_cons, ← sum_swapI g A B, ← sum_addI]
    rfl
theorem sum_mulI {α : Type} (k : Int) (f : α → Int) : ∀ l : List α, (l.map fun x => k * f x).sum = k * (l.map f).sum
  | [] => (Int.mul_zero k).symm
  | x :: l => by rw [List.map_cons, List.map_cons, List.sum_cons, List.sum_cons, sum_mulI k f l, Int.mul_add]
theorem range_turn (n : Nat) (F : Nat → Int) : ((List.range (n + 1)).map F).sum = ((List.range (n + 1)).map fun i => F (n - i)).sum := by
  have e : ((List.range (n + 1)).map fun i => F (n - i)) = ((List.range (n + 1)).map F).reverse := by
    refine List.ext_getElem? fun i => ?_
    by_cases c : i < n + 1
    · rw [List.getElem?_reverse (by rw [List.length_map, List.length_range]; exact c), List.length_map, List.length_range, List.getElem?_map, List.getElem?_map, List.getElem?_range c, List.getElem?_range (by omega)]
      show some (F (n - i)) = some (F (n + 1 - 1 - i))
      rw [show n + 1 - 1 - i = n - i by omega]
    · rw [List.getElem?_eq_none (by rw [List.length_map, List.length_range]; omega), List.getElem?_eq_none (by rw [List.length_reverse, List.length_map, List.length_range]; omega)]
  rw [e]
  exact (sum_perm (List.reverse_perm _)).symm
theorem rev_erase {α : Type} (R : List α) {n i : Nat} (h : R.length = n + 1) (hi : i ≤ n) : R.reverse.eraseIdx (n - i) = (R.eraseIdx i).reverse := by
  rw [List.eraseIdx_eq_take_drop_succ, List.eraseIdx_eq_take_drop_succ, List.reverse_append, List.take_reverse, List.drop_reverse, h]
  rw [show n + 1 - (n - i) = i + 1 by omega, show n + 1 - (n - i + 1) = i by omega]
theorem rev_get {α : Type} (R : List α) (d : α) {n i : Nat} (h : R.length = n + 1) (hi : i ≤ n) : R.reverse.getD (n - i) d = R.getD i d := by
  rw [List.getD_eq_getElem?_getD, List.getElem?_reverse (by omega), List.getD_eq_getElem?_getD, h, show n + 1 - 1 - (n - i) = i by omega]
theorem so_det : ∀ (n : Nat) (R : List (List Int)) (l : List Int), R.length = n → l.length = n → SO R l = detC n R.reverse l.reverse
  | 0, [], [], _, _ => by decide
  | n + 1, R, l, hR, hl => by
    have el : l = l.take n ++ [l.getD n 0] := by
      have e := List.take_append_drop n l
      have : l.drop n = [l.getD n 0] := by
        rw [List.getD_eq_getElem?_getD, List.getElem?_eq_getElem (by omega)]
        rw [List.drop_eq_getElem_cons (by omega), List.drop_eq_nil_of_le (by omega)]
        rfl
      rw [this] at e
      exact e.symm
    have er : l.reverse = l.getD n 0 :: (l.take n).reverse := by
      conv => lhs; rw [el]
      rw [List.reverse_append]
      rfl
    rw [er, detC_s, alt_range [] R.reverse fun q m => ent q (l.getD n 0) * detC n m (l.take n).reverse, List.length_reverse, hR, range_turn]
    unfold SO
    rw [hR]
    show (((OR n).flatMap _).map _).sum = _
    rw [sum_flat]
    have e1 : ∀ q ∈ OR n, (((List.range (q.1.length + 1)).map fun i => (q.1.take i ++ n :: q.1.drop i, q.2 * sg (q.1.length - i))).map fun q => q.2 * pr R l q.1).sum = ((List.range (n + 1)).map fun i => sg (n - i) * (ent (R.getD i []) (l.getD n 0) * (q.2 * pr (R.eraseIdx i) (l.take n) q.1))).sum := fun q hq => by
      obtain ⟨a, b, c⟩ := OR_ok hq
      rw [List.map_map, a]
      refine congrArg List.sum (List.map_congr_left fun i hi => ?_)
      have hi := List.mem_range.mp hi
      show q.2 * sg (n - i) * pr R l (q.1.take i ++ n :: q.1.drop i) = _
      rw [pr_ins l n i R q.1 (by omega) (by omega), ← pr_cut (R := R.eraseIdx i) b, Int.mul_comm q.2, Int.mul_assoc, Int.mul_left_comm q.2]
    rw [List.map_congr_left e1, sum_swapI]
    refine congrArg List.sum (List.map_congr_left fun i hi => ?_)
    have hi := List.mem_range.mp hi
    rw [sum_mulI, sum_mulI, rev_get R [] hR (by omega), rev_erase R hR (by omega)]
    have le : (R.eraseIdx i).length = n := by
      rw [List.length_eraseIdx, if_pos (by omega)]
      omega
    have ih := so_det n (R.eraseIdx i) (l.take n) le (by rw [List.length_take]; omega)
    unfold SO at ih
    rw [le] at ih
    rw [ih]
/-- the law's sum over all orders is the determinant -/
theorem so_dtm {R : List (List Int)} {l : List Int} (h : l.length = R.length) : SO R l = dtm R.reverse l := by
  unfold dtm
  rw [det_eq R.length R.reverse l.reverse (by rw [List.length_reverse]) (by rw [List.length_reverse, h]), so_det R.length R l rfl h]

-- after: law
section
variable {R : List Dt → Sl → Prop}
abbrev orD (q : List Nat × Int) : Dt := .tuple [lotD q.1, .int q.2]
theorem cutL_to {l : List Nat} {i : Nat} : cutD (l.map natD) none (some (i : Int)) = (l.take i).map natD := by rw [cut_to, List.map_take]
theorem cutL_from {l : List Nat} {i : Nat} : cutD (l.map natD) (some (i : Int)) none = (l.drop i).map natD := by rw [cut_from, List.map_drop]
theorem orders_w {n : Nat} (hn : n ≤ 5) (k : R [.none] (.fz (.list ((OR n).map orD)))) : W2 (b_orders [natD n]) R := by
  refine w_body (env := [.fz (natD n), .un, .un, .un, .un, .un, .un]) rfl ?_
  unfold m_orders
  walk_at "wp"
  rw [Int.toNat_natCast]
  refine rng_w (fun j env => ∃ v2 v3 v4 v5 v6 : Option Dt, env = [.fz (natD n), .fz (.list ((OR j).map orD)), Sl.fzo v2, Sl.fzo v3, Sl.fzo v4, Sl.fzo v5, Sl.fzo v6]) ⟨none, none, none, none, none, rfl⟩ ?_ ?_
  · rintro j _ hj ⟨v2, v3, v4, v5, v6, rfl⟩
    have o120 := OR_120 (k := j + 1) (by omega)
    have ol : ∀ m, (((OR j).take m).flatMap fun q => (List.range (q.1.length + 1)).map fun i => (q.1.take i ++ j :: q.1.drop i, q.2 * sg (q.1.length - i))).length ≤ 120 := fun m => by
      refine Nat.le_trans ?_ o120
      show _ ≤ ((OR j).flatMap _).length
      conv => rhs; rw [← List.take_append_drop m (OR j)]
      rw [List.flatMap_append, List.length_append]
      omega
    rw [Int.zero_add]
    walk_at "wp"
    refine loop_w (fun m env => ∃ v4 v5 v6 : Option Dt, env = [.fz (natD n), .fz (.list ((OR j).map orD)), .fz (.int (j : Int)), .ow (.list ((((OR j).take m).flatMap fun q => (List.range (q.1.length + 1)).map fun i => (q.1.take i ++ j :: q.1.drop i, q.2 * sg (q.1.length - i))).map orD)), Sl.fzo v4, Sl.fzo v5, Sl.fzo v6]) ⟨v4, v5, v6, rfl⟩ ?_ ?_
    · rintro m d _ hm ⟨v4, v5, v6, rfl⟩
      rw [List.getElem?_map] at hm
      obtain ⟨q, hq, rfl⟩ := Option.map_eq_some_iff.mp hm
      obtain ⟨q1, q2, q3⟩ := OR_ok (List.mem_of_getElem? hq)
      have om := ol m
      walk_at "wp"
      rw [show ((q.1.map natD).length : Int) + 1 = ((j + 1 : Nat) : Int) by rw [List.length_map, q1]; omega]
      refine w_rg1 (by omega) ?_
      rw [Int.toNat_natCast]
      refine rng_w (fun i env => ∃ v6 : Option Dt, env = [.fz (natD n), .fz (.list ((OR j).map orD)), .fz (.int (j : Int)), .ow (.list ((((OR j).take m).flatMap fun q => (List.range (q.1.length + 1)).map fun i => (q.1.take i ++ j :: q.1.drop i, q.2 * sg (q.1.length - i))).map orD ++ (List.range i).map fun i => orD (q.1.take i ++ j :: q.1.drop i, q.2 * sg (q.1.length - i)))), .fz (lotD q.1), .fz (.int q.2), Sl.fzo v6]) ⟨v6, by rw [List.range_zero, List.map_nil, List.append_nil]⟩ ?_ ?_
      · rintro i _ hi ⟨v6, rfl⟩
        rw [Int.zero_add]
        walk_at "wp"
        rw [cutL_to]
        refine o1_catT (sl_lt (m := 100) (by rw [List.length_map, List.length_take]; show _ + 1 ≤ 100; omega) (by decide)) ?_
        walk_at "wp"
        rw [cutL_from]
        refine o1_catT (sl_lt (m := 100) (by rw [List.length_append, List.length_map, List.length_map, List.length_take, List.length_drop]; show _ + 1 + _ ≤ 100; omega) (by decide)) ?_
        walk_at "wp"
        have l2 : ((((OR j).take m).flatMap fun q => (List.range (q.1.length + 1)).map fun i => (q.1.take i ++ j :: q.1.drop i, q.2 * sg (q.1.length - i))).map orD ++ (List.range i).map fun i => orD (q.1.take i ++ j :: q.1.drop i, q.2 * sg (q.1.length - i))).length ≤ 130 := by
          rw [List.length_append, List.length_map, List.length_map, List.length_range]
          omega
        refine fil_w (Nat.lt_of_le_of_lt l2 (by show 130 < 2 ^ 24; decide)) ?_
        walk_at "wp"
        have es : (1 : Int) - 2 * ((((q.1.map natD).length : Int) - (i : Int)) % 2) = sg (q.1.length - i) := by
          rw [List.length_map]
          unfold sg
          split <;> omega
        rw [es]
        refine ⟨some (.int (i : Int)), ?_⟩
        rw [List.range_succ, List.map_append, ← List.append_assoc]
        have ec : q.1.take i ++ j :: q.1.drop i = q.1.take i ++ [j] ++ q.1.drop i := by rw [List.append_assoc]; rfl
        show _ = [_, _, _, Sl.ow (.list (_ ++ [orD (q.1.take i ++ j :: q.1.drop i, q.2 * sg (q.1.length - i))])), _, _, _]
        rw [ec]
        show _ = [_, _, _, Sl.ow (.list (_ ++ [.tuple [.tuple ((q.1.take i ++ [j] ++ q.1.drop i).map natD), .int (q.2 * sg (q.1.length - i))]])), _, _, _]
        rw [List.map_append, List.map_append]
        rfl
      · rintro _ ⟨v6, rfl⟩
        refine ⟨some (lotD q.1), some (.int q.2), v6, ?_⟩
        rw [List.take_add_one, hq, Option.toList_some, List.flatMap_append, List.flatMap_cons, List.flatMap_nil, List.append_nil, List.map_append, List.map_map, q1]
        rfl
    · rintro _ ⟨v4, v5, v6, rfl⟩
      walk_at "wp"
      rw [List.length_map, List.take_length]
      exact ⟨some _, some _, v4, v5, v6, rfl⟩
  · rintro _ ⟨v2, v3, v4, v5, v6, rfl⟩
    walk_at "wp"
    exact k
end

-- after: law
section
variable {R : List Dt → Sl → Prop}
theorem eqv_tupI (a b : List Int) : PyData.eqv (tupI a) (tupI b) = decide (a = b) := by
  have e := eqvT_ints a b
  show PyData.eqv (.tuple (intsD a)) (.tuple (intsD b)) = _
  rw [e]
def B60 (l : List Int) : Prop := l.length ≤ 60 ∧ ∀ x ∈ l, 0 ≤ x ∧ x < 60
theorem o1_eqI2 {a b : List Int} {P : Dt → Prop} (ha : B60 a) (hb : B60 b) (k : P (.bool (decide (a = b)))) : W1 (fEq (tupI a) (tupI b)) P := by
  refine ⟨_, if_pos ?_, ?_⟩
  · rw [Bool.and_eq_true]
    exact ⟨(small_I ha.2).shaped (by decide), (small_I hb.2).shaped (by decide)⟩
  show P (.bool (PyData.eqv (tupI a) (tupI b)))
  rw [eqv_tupI]
  exact k
theorem part_w {W : LV} {l : List Int} (hW : ∀ q ∈ W, B60 q.1) (hl : B60 l) (k : R [.none, .none] (.fz (.int (getI W l)))) : W2 (b_part [.tuple (W.map tupP), tupI l]) R := by
  refine w_body (env := [.fz (.tuple (W.map tupP)), .fz (tupI l), .un, .un]) rfl ?_
  unfold m_part
  walk_at "wp"
  refine loop_w (fun j env => ∃ v2 v3, env = [.fz (.tuple (W.map tupP)), .fz (tupI l), Sl.fzo v2, Sl.fzo v3] ∧ getI W l = getI (W.drop j) l) ⟨none, none, rfl, rfl⟩ ?_ ?_
  · rintro j d _ hj ⟨v2, v3, rfl, hno⟩
    rw [List.getElem?_map] at hj
    obtain ⟨q, hq, rfl⟩ := Option.map_eq_some_iff.mp hj
    obtain ⟨jl, je⟩ := List.getElem?_eq_some_iff.mp hq
    rw [List.drop_eq_getElem_cons jl, je, getI_cons] at hno
    walk_at "wp"
    refine o1_eqI2 (hW q (List.mem_of_getElem? hq)) hl ?_
    refine wt_b ?_
    refine ite_b (fun c => ?_) (fun c => ?_)
    · rw [if_pos (of_decide_eq_true c)] at hno
      walk_at "wp"
      rw [hno] at k
      exact k
    · rw [if_neg (of_decide_eq_false c)] at hno
      walk_at "wp"
      exact ⟨some _, some _, rfl, hno⟩
  · rintro _ ⟨v2, v3, rfl, hno⟩
    rw [List.length_map, List.drop_length] at hno
    walk_at "wp"
    rw [hno] at k
    exact k
/-! all lots -/
def AF (c : Nat) : Nat → List (List Int)
  | 0 => [[]]
  | h + 1 => AF c h ++ ((AF c h).filter fun l => decide (l.length < c)).map fun l => l ++ [(h : Int)]
theorem AF_ok {c : Nat} : ∀ {h : Nat} {l : List Int}, l ∈ AF c h → l.Pairwise (· < ·) ∧ (∀ x ∈ l, 0 ≤ x ∧ x < (h : Int)) ∧ l.length ≤ h
  | 0, l, hl => by
    rw [List.mem_singleton.mp hl]
    exact ⟨List.Pairwise.nil, fun x hx => (by cases hx), Nat.le_refl _⟩
  | h + 1, l, hl => by
    rcases List.mem_append.mp hl with hl | hl
    · obtain ⟨a, b, c⟩ := AF_ok hl
      exact ⟨a, fun x hx => by have := b x hx; omega, by omega⟩
    · obtain ⟨m, hm, rfl⟩ := List.mem_map.mp hl
      obtain ⟨a, b, c⟩ := AF_ok (List.mem_filter.mp hm).1
      refine ⟨List.pairwise_append.mpr ⟨a, List.pairwise_singleton _ _, fun x hx y hy => ?_⟩, fun x hx => ?_, by rw [List.length_append]; show _ + 1 ≤ _; omega⟩
      · rw [List.mem_singleton.mp hy]
        exact (b x hx).2
      · rcases List.mem_append.mp hx with z | z
        · have := b x z
          omega
        · rw [List.mem_singleton.mp z]
          omega
theorem AF_nd {c : Nat} : ∀ h, (AF c h).Nodup
  | 0 => by simp [AF]
  | h + 1 => by
    show (AF c h ++ _).Nodup
    refine List.nodup_append.mpr ⟨AF_nd h, ?_, fun a ha b hb e => ?_⟩
    · unfold List.Nodup
      rw [List.pairwise_map]
      exact ((AF_nd h).filter _).imp fun n z => n (List.append_cancel_right z)
    · obtain ⟨m, hm, rfl⟩ := List.mem_map.mp hb
      have := (AF_ok ha).2.1 (h : Int) (by rw [e]; exact List.mem_append.mpr (.inr (List.mem_singleton.mpr rfl)))
      omega
theorem AF_all {c : Nat} : ∀ {h : Nat} {l : List Int}, l.Pairwise (· < ·) → (∀ x ∈ l, 0 ≤ x ∧ x < (h : Int)) → l.length ≤ c → l ∈ AF c h
  | 0, l, _, hb, _ => by
    cases l with
    | nil => exact List.mem_singleton.mpr rfl
    | cons x l =>
      have := hb x List.mem_cons_self
      omega
  | h + 1, l, pw, hb, hc => by
    show l ∈ AF c h ++ _
    rcases List.eq_nil_or_concat l with rfl | ⟨m, x, rfl⟩
    · exact List.mem_append.mpr (.inl (AF_all (h := h) List.Pairwise.nil (fun x hx => by cases hx) (Nat.zero_le _)))
    · rw [List.concat_eq_append] at pw hb hc ⊢
      obtain ⟨p1, _, p3⟩ := List.pairwise_append.mp pw
      have bx := hb x (List.mem_append.mpr (.inr (List.mem_singleton.mpr rfl)))
      have bm : ∀ y ∈ m, 0 ≤ y ∧ y < x := fun y hy => ⟨(hb y (List.mem_append.mpr (.inl hy))).1, p3 y hy x (List.mem_singleton.mpr rfl)⟩
      rw [List.length_append] at hc
      have hc : m.length + 1 ≤ c := hc
      by_cases e : x = (h : Int)
      · subst e
        refine List.mem_append.mpr (.inr (List.mem_map.mpr ⟨m, List.mem_filter.mpr ⟨AF_all p1 bm (by omega), decide_eq_true (by omega)⟩, rfl⟩))
      · refine List.mem_append.mpr (.inl (AF_all pw (fun y hy => ?_) (by rw [List.length_append]; exact hc)))
        rcases List.mem_append.mp hy with z | z
        · have := bm y z
          omega
        · rw [List.mem_singleton.mp z]
          omega
theorem AF_128 (c : Nat) : ∀ h, (AF c h).length ≤ 2 ^ h
  | 0 => Nat.le_refl 1
  | h + 1 => by
    show (AF c h ++ _).length ≤ _
    rw [List.length_append, List.length_map, Nat.pow_succ]
    have := AF_128 c h
    have := List.length_filter_le (fun l : List Int => decide (l.length < c)) (AF c h)
    omega
def AL (h c : Nat) : List (List Int) := (AF c h).filter fun l => decide (l.length = c)
theorem AL_mem {h c : Nat} {l : List Int} : l ∈ AL h c ↔ Lt60 h c l := by
  unfold AL
  rw [List.mem_filter, decide_eq_true_iff]
  constructor
  · rintro ⟨h1, h2⟩
    obtain ⟨a, b, _⟩ := AF_ok h1
    exact ⟨a, h2, b⟩
  · rintro ⟨a, b, d⟩
    exact ⟨AF_all a d (by omega), b⟩
theorem AL_len (h c : Nat) (hh : h ≤ 7) : (AL h c).length ≤ 128 := Nat.le_trans (List.length_filter_le _ _) (Nat.le_trans (AF_128 c h) (Nat.le_trans (Nat.pow_le_pow_right (by decide) hh) (by decide)))
theorem AL_nd (h c : Nat) : (AL h c).Nodup := (AF_nd h).filter _
theorem all_lots_w {h c : Nat} (hh : h ≤ 7) (k : R [.none, .none] (.ow (.list ((AL h c).map tupI)))) : W2 (b_all [natD h, natD c]) R := by
  refine w_body (env := [.fz (natD h), .fz (natD c), .un, .un, .un]) rfl ?_
  unfold m_all
  walk_at "wp"
  rw [Int.toNat_natCast]
  refine rng_w (fun j env => ∃ v3 : Option Dt, env = [.fz (natD h), .fz (natD c), .fz (.list ((AF c j).map tupI)), Sl.fzo v3, .un]) ⟨none, rfl⟩ ?_ ?_
  · rintro j _ hj ⟨v3, rfl⟩
    have fl := AF_128 c j
    have p7 : 2 ^ j ≤ 2 ^ 7 := Nat.pow_le_pow_right (by decide) (by omega)
    have ff := List.length_filter_le (fun l : List Int => decide (l.length < c)) (AF c j)
    rw [Int.zero_add]
    walk_at "wp"
    refine lcx_w tupI (fun l => decide (l.length < c)) (fun l => tupI (l ++ [(j : Int)])) ?_ ?_
    · intro l hl
      obtain ⟨_, _, ll⟩ := AF_ok hl
      walk_at "wp"
      refine ⟨by rw [List.length_map, decide_eq_decide]; omega, rfl, fun _ => ?_⟩
      walk_at "wp"
      refine o1_catT (sl_lt (m := 100) (by rw [List.length_map]; show _ + 1 ≤ 100; omega) (by decide)) ?_
      refine ⟨?_, rfl⟩
      show _ = PyData.tuple ((l ++ [(j : Int)]).map PyData.int)
      rw [List.map_append]
      rfl
    refine fit_w (sl_lt (m := 128) (by rw [List.length_map]; omega) (by decide)) ?_
    refine o1_catL (sl_lt (m := 256) (by rw [List.length_map, List.length_map]; omega) (by decide)) ?_
    walk_at "wp"
    refine ⟨some (.int (j : Int)), ?_⟩
    show _ = [_, _, Sl.fz (.list ((AF c j ++ ((AF c j).filter fun l => decide (l.length < c)).map fun l => l ++ [(j : Int)]).map tupI)), _, _]
    rw [List.map_append, List.map_map]
    rfl
  · rintro _ ⟨v3, rfl⟩
    walk_at "wp"
    refine lcx_w tupI (fun l => decide (l.length = c)) tupI ?_ ?_
    · intro l hl
      walk_at "wp"
      refine ⟨by rw [List.length_map, decide_eq_decide]; omega, rfl, fun _ => ?_⟩
      walk_at "wp"
      exact ⟨rfl, rfl⟩
    have := AL_len h c hh
    unfold AL at this
    refine fit_w (sl_lt (m := 128) (by rw [List.length_map]; exact this) (by decide)) ?_
    walk_at "wp"
    exact k
end

-- after: law
section
variable {R : List Dt → Sl → Prop}
abbrev rowD (r : List Int) : Dt := .list (r.map PyData.int)
theorem pr_snoc {r : List Int} {l : List Int} {x : Nat} : ∀ {A : List (List Int)} {w : List Nat}, A.length = w.length → pr (A ++ [r]) l (w ++ [x]) = pr A l w * ent r (l.getD x 0)
  | [], [], _ => by
    show ent r (l.getD x 0) * 1 = 1 * _
    rw [Int.mul_one, Int.one_mul]
  | a :: A, i :: w, h => by
    show ent a (l.getD i 0) * pr (A ++ [r]) l (w ++ [x]) = ent a (l.getD i 0) * pr A l w * _
    rw [pr_snoc (A := A) (w := w) (by simpa using h), Int.mul_assoc]
theorem getD_nn {l : List Int} {n : Int} (h : ∀ x ∈ l, 0 ≤ x ∧ x < n) (hn : 0 < n) (i : Nat) : 0 ≤ l.getD i 0 ∧ l.getD i 0 < n := by
  rw [List.getD_eq_getElem?_getD]
  cases e : l[i]? with
  | none => exact ⟨Int.le_refl _, hn⟩
  | some x => exact h x (List.mem_of_getElem? e)
theorem minor_w {p : Int} {h : Nat} {Rs : List (List Int)} {l : List Int} (hp : 1 < p) (p9 : p < 1000000000) (hR : Rs.length ≤ 5) (hr : ∀ r ∈ Rs, r.length = h ∧ ∀ v ∈ r, 0 ≤ v ∧ v < p) (hl : Lt60 h Rs.length l)
    (k : R [.none, .none, .none, .none] (.fz (.int (SO Rs l % p)))) : W2 (b_minor [.int p, .list (Rs.map rowD), tupI l, .list ((OR Rs.length).map orD)]) R := by
  refine w_body (env := [.fz (.int p), .fz (.list (Rs.map rowD)), .fz (tupI l), .fz (.list ((OR Rs.length).map orD)), .un, .un, .un, .un, .un, .un]) rfl ?_
  unfold m_minor
  walk_at "wp"
  refine loop_w (fun j env => ∃ (tot : Int) (v5 v6 v7 v8 v9 : Option Dt), env = [.fz (.int p), .fz (.list (Rs.map rowD)), .fz (tupI l), .fz (.list ((OR Rs.length).map orD)), .fz (.int tot), Sl.fzo v5, Sl.fzo v6, Sl.fzo v7, Sl.fzo v8, Sl.fzo v9] ∧ tot % p = (((OR Rs.length).take j).map fun q => q.2 * pr Rs l q.1).sum % p) ⟨0, none, none, none, none, none, rfl, rfl⟩ ?_ ?_
  · rintro j d _ hj ⟨tot, v5, v6, v7, v8, v9, rfl, ht⟩
    rw [List.getElem?_map] at hj
    obtain ⟨q, hq, rfl⟩ := Option.map_eq_some_iff.mp hj
    obtain ⟨q1, q2, q3⟩ := OR_ok (List.mem_of_getElem? hq)
    walk_at "wp"
    refine loop_w (fun i env => ∃ (v : Int) (v8 v9 : Option Dt), env = [.fz (.int p), .fz (.list (Rs.map rowD)), .fz (tupI l), .fz (.list ((OR Rs.length).map orD)), .fz (.int tot), .fz (lotD q.1), .fz (.int q.2), .fz (.int v), Sl.fzo v8, Sl.fzo v9] ∧ (-1000000000 < v ∧ v < 1000000000) ∧ v % p = (q.2 * pr (Rs.take i) l (q.1.take i)) % p) ⟨q.2, v8, v9, rfl, by omega, by rw [show pr (Rs.take 0) l (q.1.take 0) = 1 by simp [pr], Int.mul_one]⟩ ?_ ?_
    · rintro i d _ hi ⟨v, v8, v9, rfl, hv, he⟩
      obtain ⟨x, hx, rfl⟩ := numD_get hi
      rw [List.getElem?_map] at hx
      obtain ⟨r, hr', rfl⟩ := Option.map_eq_some_iff.mp hx
      obtain ⟨r1, r2⟩ := hr r (List.mem_of_getElem? hr')
      have il := (List.getElem?_eq_some_iff.mp hr').1
      have ew : q.1[i]? = some (q.1[i]'(by omega)) := List.getElem?_eq_getElem (by omega)
      have wm := q2 _ (List.getElem_mem (l := q.1) (n := i) (by omega))
      generalize q.1[i]'(by omega) = w at ew wm
      have el : l[w]? = some (l.getD w 0) := by
        rw [List.getD_eq_getElem?_getD, List.getElem?_eq_getElem (by have := hl.len; omega)]
        rfl
      have xl := hl.bd _ (List.mem_of_getElem? el)
      have er : r[(l.getD w 0).toNat]? = some (ent r (l.getD w 0)) := by
        unfold ent
        generalize l.getD w 0 = x at xl
        rw [List.getD_eq_getElem?_getD, List.getElem?_eq_getElem (by omega)]
        rfl
      have be := r2 _ (List.mem_of_getElem? er)
      walk_at "wp"
      refine o1_ixT (by omega) (z := natD w) (by rw [Int.toNat_natCast, List.getElem?_map, ew]; rfl) ?_
      walk_at "wp"
      refine o1_ixT (by omega) (z := .int (l.getD w 0)) (by rw [Int.toNat_natCast, List.getElem?_map, el]; rfl) ?_
      walk_at "wp"
      refine o1_ixL xl.1 (z := .int (ent r (l.getD w 0))) (by rw [List.getElem?_map, er]; rfl) ?_
      walk_at "wp"
      have m0 := Int.emod_nonneg (v * ent r (l.getD w 0)) (show p ≠ 0 by omega)
      have m1 := Int.emod_lt_of_pos (v * ent r (l.getD w 0)) (show 0 < p by omega)
      refine ⟨v * ent r (l.getD w 0) % p, some _, some _, rfl, by omega, ?_⟩
      rw [Int.emod_emod, List.take_add_one, hr', Option.toList_some, List.take_add_one, ew, Option.toList_some, pr_snoc (by rw [List.length_take, List.length_take]; omega), ← Int.mul_assoc, Int.mul_emod, he, ← Int.mul_emod]
    · rintro _ ⟨v, v8, v9, rfl, hv, he⟩
      rw [numD_len, List.length_map, List.take_length, List.take_of_length_le (by omega)] at he
      walk_at "wp"
      refine ⟨tot + v, some _, some _, some _, v8, v9, rfl, ?_⟩
      rw [List.take_add_one, hq, Option.toList_some, List.map_append, List.sum_append, List.map_singleton, Int.add_emod, ht, he, ← Int.add_emod]
      simp
  · rintro _ ⟨tot, v5, v6, v7, v8, v9, rfl, ht⟩
    rw [List.length_map, List.take_length] at ht
    walk_at "wp"
    unfold SO at k
    rw [← ht] at k
    exact k
/-! ### one row more -/
/-- a row as a sum of grade 1 -/
def lineI (r : List Int) : LV := ((List.range r.length).filter fun i => decide (r.getD i 0 > 0)).map fun i : Nat => ([(i : Int)], r.getD i 0)
theorem line_ok {p : Int} {h : Nat} {r : List Int} (p9 : p < 1000000000) (hr : r.length = h) (hv : ∀ v ∈ r, 0 ≤ v ∧ v < p) (h7 : h ≤ 7) : Pt (Lt60 h 1) Nb40 7 (lineI r) := by
  refine ⟨fun q hq => ?_, fun q hq => ?_, ?_⟩
  · obtain ⟨i, hi, rfl⟩ := List.mem_map.mp hq
    have := List.mem_range.mp (List.mem_filter.mp hi).1
    refine ⟨List.pairwise_singleton _ _, rfl, fun x hx => ?_⟩
    rw [List.mem_singleton.mp hx]
    omega
  · obtain ⟨i, hi, rfl⟩ := List.mem_map.mp hq
    have hi := List.mem_range.mp (List.mem_filter.mp hi).1
    have := hv (r.getD i 0) (by rw [List.getD_eq_getElem?_getD, List.getElem?_eq_getElem hi]; exact List.getElem_mem _)
    unfold Nb40
    dsimp only
    omega
  · unfold lineI
    rw [List.length_map]
    have := List.length_filter_le (fun i => decide (r.getD i 0 > 0)) (List.range r.length)
    rw [List.length_range] at this
    omega
theorem line_sum {r : List Int} (hv : ∀ v ∈ r, 0 ≤ v) (f : List Int → Int) : Tsum f (lineI r) = ((List.range r.length).map fun i : Nat => f [(i : Int)] * r.getD i 0).sum := by
  have g : ∀ L : List Nat, (∀ i ∈ L, i < r.length) → Tsum f ((L.filter fun i => decide (r.getD i 0 > 0)).map fun i : Nat => ([(i : Int)], r.getD i 0)) = (L.map fun i : Nat => f [(i : Int)] * r.getD i 0).sum := fun L => by
    induction L with
    | nil => exact fun _ => rfl
    | cons i L ih =>
      intro hL
      have ih := ih fun x hx => hL x (List.mem_cons_of_mem _ hx)
      have hi := hL i List.mem_cons_self
      have v0 := hv (r.getD i 0) (by rw [List.getD_eq_getElem?_getD, List.getElem?_eq_getElem hi]; exact List.getElem_mem _)
      rw [List.map_cons, List.sum_cons, ← ih]
      by_cases c : r.getD i 0 > 0
      · rw [List.filter_cons_of_pos (p := fun i => decide (r.getD i 0 > 0)) (decide_eq_true c), List.map_cons, Tsum_cons]
      · rw [List.filter_cons_of_neg (p := fun i => decide (r.getD i 0 > 0)) (by rw [decide_eq_false c]; decide), show r.getD i 0 = 0 by omega, Int.mul_zero, Int.zero_add]
  exact g _ fun i hi => List.mem_range.mp hi
theorem off_mem {l : List Int} {x y : Int} : y ∈ offI l x ↔ y ∈ l ∧ y ≠ x := by
  unfold offI
  rw [List.mem_filter]
  simp
theorem off_up {l : List Int} (up : l.Pairwise (· < ·)) (x : Int) : (offI l x).Pairwise (· < ·) := up.filter _
theorem up_extI {a b : List Int} (ha : a.Pairwise (· < ·)) (hb : b.Pairwise (· < ·)) (h : ∀ x, x ∈ a ↔ x ∈ b) : a = b :=
  List.Perm.eq_of_pairwise (le := (· < ·)) (fun a b _ _ h1 h2 => by omega) ha hb ((List.perm_ext_iff_of_nodup (up_nodup ha) (up_nodup hb)).mpr h)
/-- one hand laid behind a lot -/
theorem one_behind {a l : List Int} {x : Int} (ha : a.Pairwise (· < ·)) (hl : l.Pairwise (· < ·)) : lsg a [x] * dl1 l (lsr a [x]) = if x ∈ l ∧ a = offI l x then sg (abvI l x) else 0 := by
  unfold dl1
  by_cases c : x ∈ a
  · rw [lsg_y (sh_iff.mpr ⟨x, c, List.mem_singleton.mpr rfl⟩), Int.zero_mul, if_neg]
    rintro ⟨_, rfl⟩
    exact (off_mem.mp c).2 rfl
  · have ns : shares a [x] = false := by
      rw [Bool.eq_false_iff]
      intro z
      obtain ⟨y, y1, y2⟩ := sh_iff.mp z
      rw [List.mem_singleton.mp y2] at y1
      exact c y1
    rw [lsg_n ns, lsr_n ns]
    have up : (srt (a ++ [x])).Pairwise (· < ·) := by
      have nd : (srt (a ++ [x])).Nodup := (srt_perm _).nodup_iff.mpr (List.nodup_append.mpr ⟨up_nodup ha, by simp, fun y hy z hz e => by
        rw [List.mem_singleton.mp hz] at e
        exact c (e ▸ hy)⟩)
      exact ((srt_pw _).and nd).imp fun h => by omega
    have mm : ∀ y, y ∈ srt (a ++ [x]) ↔ y ∈ a ∨ y = x := fun y => by rw [(srt_perm _).mem_iff, List.mem_append, List.mem_singleton]
    by_cases d : x ∈ l ∧ a = offI l x
    · obtain ⟨d1, d2⟩ := d
      have e : srt (a ++ [x]) = l := up_extI up hl fun y => by
        rw [mm, d2, off_mem]
        constructor
        · rintro (z | rfl)
          · exact z.1
          · exact d1
        · intro z
          by_cases q : y = x
          · exact .inr q
          · exact .inl ⟨z, q⟩
      rw [if_pos e, if_pos ⟨d1, d2⟩, Int.mul_one]
      congr 1
      show _ + 0 = _
      rw [Nat.add_zero, d2]
      unfold abv abvI offI
      rw [List.filter_filter]
      congr 1
      refine List.filter_congr fun y _ => ?_
      rw [Bool.eq_iff_iff]
      simp
      omega
    · rw [if_neg, Int.mul_zero, if_neg d]
      intro e
      refine d ⟨by rw [← e, mm]; exact .inr rfl, up_extI ha (off_up hl x) fun y => ?_⟩
      rw [off_mem, ← e, mm]
      constructor
      · exact fun z => ⟨.inl z, fun q => c (q ▸ z)⟩
      · rintro ⟨z | z, q⟩
        · exact z
        · exact absurd z q
end

-- after: law
/-! ### the rows' outer sum -/
theorem sum_modI {α : Type} {f g : α → Int} {p : Int} : ∀ {l : List α}, (∀ x ∈ l, f x % p = g x % p) → (l.map f).sum % p = (l.map g).sum % p
  | [], _ => rfl
  | x :: l, h => by
    rw [List.map_cons, List.map_cons, List.sum_cons, List.sum_cons, Int.add_emod, h x List.mem_cons_self, sum_modI fun y hy => h y (List.mem_cons_of_mem _ hy), ← Int.add_emod]
theorem getI_gL {D : LV} (nd : (D.map (·.1)).Nodup) (l : List Int) : getI (gL D) l = getI D l := by
  have nd2 : ((gL D).map (·.1)).Nodup := by
    unfold gL
    rw [List.map_map]
    show (((ksO D).filter _).map id).Nodup
    rw [List.map_id]
    exact (ks_nd nd).filter _
  rw [← getI_T nd2, ← getI_T nd, Tsum_gL _ nd]
theorem gL_nd {D : LV} (nd : (D.map (·.1)).Nodup) : ((gL D).map (·.1)).Nodup := by
  unfold gL
  rw [List.map_map]
  show (((ksO D).filter _).map id).Nodup
  rw [List.map_id]
  exact (ks_nd nd).filter _
structure WH (p : Int) (h : Nat) (Rs : List (List Int)) (W : LV) : Prop where
  pt : ∀ q ∈ W, Lt60 h Rs.length q.1 ∧ Nb40 q.2
  nd : (W.map (·.1)).Nodup
  get : ∀ l, Lt60 h Rs.length l → getI W l = dtm Rs.reverse l % p
theorem WH.len {p : Int} {h : Nat} {Rs : List (List Int)} {W : LV} (H : WH p h Rs W) (h7 : h ≤ 7) : W.length ≤ 128 := by
  have g : ∀ {ks ws : List (List Int)}, ks.Nodup → (∀ i ∈ ks, i ∈ ws) → ks.length ≤ ws.length := fun {ks} => by
    induction ks with
    | nil => intro ws _ _; exact Nat.zero_le _
    | cons k ks ih =>
      intro ws nd h
      obtain ⟨n1, n2⟩ := List.nodup_cons.mp nd
      have hm := h k List.mem_cons_self
      have := ih (ws := ws.erase k) n2 fun i hi => (List.mem_erase_of_ne (fun z => by subst z; exact n1 hi)).mpr (h i (List.mem_cons_of_mem _ hi))
      rw [List.length_erase_of_mem hm] at this
      have := List.length_pos_of_mem hm
      rw [List.length_cons]
      omega
  have := g H.nd (ws := AL h Rs.length) fun i hi => by
    obtain ⟨q, hq, rfl⟩ := List.mem_map.mp hi
    exact AL_mem.mpr (H.pt q hq).1
  rw [List.length_map] at this
  exact Nat.le_trans this (AL_len h _ h7)
theorem WH.p7 {p : Int} {h : Nat} {Rs : List (List Int)} {W : LV} (H : WH p h Rs W) (h7 : h ≤ 7) : Pt (Lt60 h Rs.length) Nb40 128 W := ⟨fun q hq => (H.pt q hq).1, fun q hq => (H.pt q hq).2, H.len h7⟩
theorem WH.nil {p : Int} {h : Nat} (hp : 1 < p) : WH p h [] [([], 1)] := by
  refine ⟨fun q hq => ?_, by simp, fun l hl => ?_⟩
  · rw [List.mem_singleton.mp hq]
    exact ⟨⟨List.Pairwise.nil, rfl, fun x hx => by cases hx⟩, by unfold Nb40; decide⟩
  · have := List.eq_nil_of_length_eq_zero hl.len
    subst this
    show (1 : Int) = 1 % p
    rw [Int.emod_eq_of_lt (by decide) hp]
theorem sum_in {h : Nat} {l : List Int} (up : l.Pairwise (· < ·)) (bd : ∀ x ∈ l, 0 ≤ x ∧ x < (h : Int)) (g : Int → Int) : ((List.range h).map fun i : Nat => if (i : Int) ∈ l then g (i : Int) else 0).sum = (l.map g).sum := by
  have e : (((List.range h).map fun i : Nat => (i : Int)).filter fun x => decide (x ∈ l)) = l := by
    refine up_extI (List.Pairwise.filter _ ?_) up fun x => ?_
    · rw [List.pairwise_map]
      exact List.pairwise_lt_range.imp fun h => by omega
    · rw [List.mem_filter, decide_eq_true_iff, List.mem_map]
      constructor
      · exact fun z => z.2
      · exact fun z => ⟨⟨x.toNat, List.mem_range.mpr (by have := bd x z; omega), by have := bd x z; omega⟩, z⟩
  have g2 : ∀ L : List Nat, (L.map fun i : Nat => if (i : Int) ∈ l then g (i : Int) else 0).sum = (((L.map fun i : Nat => (i : Int)).filter fun x => decide (x ∈ l)).map g).sum := fun L => by
    induction L with
    | nil => rfl
    | cons i L ih =>
      rw [List.map_cons, List.sum_cons, ih, List.map_cons]
      by_cases c : (i : Int) ∈ l
      · rw [if_pos c, List.filter_cons_of_pos (p := fun x => decide (x ∈ l)) (decide_eq_true c), List.map_cons, List.sum_cons]
      · rw [if_neg c, List.filter_cons_of_neg (p := fun x => decide (x ∈ l)) (by rw [decide_eq_false c]; decide), Int.zero_add]
  rw [g2, e]
theorem Tsum_sumr {h : Nat} (f : List Int → Nat → Int) (W : LV) : Tsum (fun x => ((List.range h).map fun i => f x i).sum) W = ((List.range h).map fun i => Tsum (fun x => f x i) W).sum := by
  induction W with
  | nil =>
    rw [Tsum_nil]
    exact (sum_0 _).symm
  | cons q W ih =>
    rw [Tsum_cons, ih]
    have e : ((List.range h).map fun i => Tsum (fun x => f x i) (q :: W)) = (List.range h).map fun i => q.2 * f q.1 i + Tsum (fun x => f x i) W := List.map_congr_left fun i _ => by rw [Tsum_cons, Int.mul_comm]
    rw [e, sum_addI, sum_mulI, Int.mul_comm]
theorem WH.step {p : Int} {h : Nat} {Rs : List (List Int)} {W : LV} {r : List Int} (H : WH p h Rs W) (hp : 1 < p) (p9 : p < 1000000000) (h7 : h ≤ 7) (hr : r.length = h) (hv : ∀ v ∈ r, 0 ≤ v ∧ v < p) : WH p h (Rs ++ [r]) (gL (gat p (rws W (lineI r)))) := by
  have ro := rws_ok (H.p7 h7) (line_ok p9 hr hv h7)
  have go := gat_ok (p := p) (by omega) ro.a (rws W (lineI r)).length (Nat.le_refl _)
  rw [List.take_length] at go
  have nd := gat_nd p (rws W (lineI r))
  have rl : (Rs ++ [r]).length = Rs.length + 1 := by rw [List.length_append]; rfl
  rw [show WH p h (Rs ++ [r]) = fun W => WH p h (Rs ++ [r]) W from rfl]
  refine ⟨fun q hq => ?_, gL_nd nd, fun l hl => ?_⟩
  · rw [rl]
    refine ⟨go.a q (gL_mem hq), ?_⟩
    have := go.b q (gL_mem hq)
    unfold Nb40
    omega
  · rw [rl] at hl
    rw [getI_gL nd, gat_get (by omega), Tsum_rws, List.reverse_append]
    show _ = dtm (r :: Rs.reverse) l % p
    rw [dtm_s _ _ hl.up]
    have e1 : Tsum (fun x => Tsum (fun y => lsg x y * dl1 l (lsr x y)) (lineI r)) W = ((List.range h).map fun i : Nat => if (i : Int) ∈ l then (fun x : Int => r.getD x.toNat 0 * (sg (abvI l x) * getI W (offI l x))) (i : Int) else 0).sum := by
      have e : Tsum (fun x => Tsum (fun y => lsg x y * dl1 l (lsr x y)) (lineI r)) W = Tsum (fun x => ((List.range h).map fun i : Nat => r.getD i 0 * if (i : Int) ∈ l ∧ x = offI l (i : Int) then sg (abvI l (i : Int)) else 0).sum) W := by
        refine Tsum_congr fun q hq => ?_
        rw [line_sum (fun v hv' => (hv v hv').1), hr]
        refine congrArg List.sum (List.map_congr_left fun i _ => ?_)
        rw [one_behind (H.pt q hq).1.up hl.up, Int.mul_comm]
      rw [e, Tsum_sumr]
      refine congrArg List.sum (List.map_congr_left fun i _ => ?_)
      rw [Tsum_mul]
      by_cases c : (i : Int) ∈ l
      · rw [if_pos c]
        show _ = r.getD ((i : Int)).toNat 0 * _
        rw [Int.toNat_natCast]
        congr 1
        rw [← getI_T H.nd, ← Tsum_mul]
        refine Tsum_congr fun q _ => ?_
        unfold dl1
        by_cases d : q.1 = offI l (i : Int)
        · rw [if_pos ⟨c, d⟩, if_pos d, Int.mul_one]
        · rw [if_neg fun z => d z.2, if_neg d, Int.mul_zero]
      · rw [if_neg c, Tsum_zero fun q _ => if_neg fun z => c z.1, Int.mul_zero]
    rw [e1]
    refine (congrArg (fun z => z % p) (sum_in hl.up hl.bd fun x : Int => r.getD x.toNat 0 * (sg (abvI l x) * getI W (offI l x)))).trans ?_
    refine sum_modI fun x hx => ?_
    have ol : Lt60 h Rs.length (offI l x) := by
      refine ⟨off_up hl.up x, ?_, fun y hy => hl.bd y (off_mem.mp hy).1⟩
      have el : offI l x = l.erase x := by
        rw [(up_nodup hl.up).erase_eq_filter]
        unfold offI
        refine List.filter_congr fun y _ => ?_
        rw [Bool.eq_iff_iff]
        simp
      rw [el, List.length_erase_of_mem hx, hl.len]
      omega
    rw [H.get _ ol]
    unfold ent
    rw [Int.mul_left_comm, Int.mul_emod, Int.mul_emod (r.getD x.toNat 0), Int.emod_emod, ← Int.mul_emod (r.getD x.toNat 0), ← Int.mul_emod]

-- after: law
section
variable {R : List Dt → Sl → Prop}
def RowOk (p : Int) (h : Nat) (r : List Int) : Prop := r.length = h ∧ ∀ v ∈ r, 0 ≤ v ∧ v < p
theorem num_rowI (r : List Int) : numD (r.map PyData.int) = (List.range r.length).map fun i : Nat => PyData.tuple [.int (i : Int), .int (r.getD i 0)] := by
  refine List.ext_getElem? fun i => ?_
  unfold numD
  rw [List.getElem?_map, List.getElem?_zipIdx, List.getElem?_map, List.getElem?_map]
  by_cases c : i < r.length
  · have e : r.getD i 0 = r[i] := by
      rw [List.getD_eq_getElem?_getD, List.getElem?_eq_getElem c]
      rfl
    rw [List.getElem?_range c, List.getElem?_eq_getElem c]
    show some (PyData.tuple [.int ((0 + i : Nat) : Int), .int r[i]]) = some (PyData.tuple [.int (i : Int), .int (r.getD i 0)])
    rw [e, Nat.zero_add]
  · rw [List.getElem?_eq_none (l := r) (by omega), List.getElem?_eq_none (l := List.range r.length) (by rw [List.length_range]; omega)]
    rfl
theorem small_row {r : List Int} {p : Int} {h : Nat} (h7 : h ≤ 7) (p9 : p < 1000000000) (hr : RowOk p h r) : Small (rowD r) 500 2 := by
  have := small_list (ds := r.map PyData.int) (n := 60) (m := 1) fun d hd => by
    obtain ⟨y, hy, rfl⟩ := List.mem_map.mp hd
    have := hr.2 y hy
    exact small_int (Nat.lt_trans (show y.natAbs < 10000000000 by omega) (by decide))
  refine this.le ?_ (by decide)
  rw [List.length_map, hr.1]
  omega
theorem small_rows {Rs : List (List Int)} {p : Int} {h : Nat} (h7 : h ≤ 7) (p9 : p < 1000000000) (hr : ∀ r ∈ Rs, RowOk p h r) (hl : Rs.length ≤ 5) : Small (.list (Rs.map rowD)) 4000 3 := by
  have := small_list (ds := Rs.map rowD) (n := 500) (m := 2) fun d hd => by
    obtain ⟨r, hr', rfl⟩ := List.mem_map.mp hd
    exact small_row h7 p9 (hr r hr')
  refine this.le ?_ (by decide)
  rw [List.length_map]
  omega
theorem neXX {d e : Dt} {n m n' m' : Nat} {P : Dt → Prop} (h : Small d n m) (hm : m ≤ 64) (h' : Small e n' m') (hm' : m' ≤ 64) (hp : plainD d = d) (hp' : plainD e = e) (k : ∀ b, P (.bool b)) : W1 (fNe d e) P := by
  refine ⟨_, if_pos ?_, k _⟩
  rw [hp, hp', h.shaped hm, h'.shaped hm']
  rfl
theorem eqX {d : Dt} {n m : Nat} {P : Dt → Prop} (h : Small d n m) (hm : m ≤ 64) (hp : plainD d = d) (k : P (.bool true)) : W1 (fEq d d) P := by
  refine ⟨_, if_pos ?_, ?_⟩
  · rw [hp, h.shaped hm]
    rfl
  · rw [hp, SeqAt.eqv_refl d h.lay]
    exact k
theorem pick_b_w {pot : Dt} {ds : List Dt} {B : Nat} (h : PotK B pot) (hl : 0 < ds.length) (hl2 : ds.length < 2 ^ 50) (hB : B + 1 ≤ 1000000)
    (k : ∀ (i : Nat) (z : Dt) (pot' : Dt), ds[i]? = some z → PotK (B + 1) pot' → R [pot', .list ds] (.fz z)) : W2 (b_pick_b [pot, .list ds]) R := by
  refine w_body (env := [.bo pot, .bo (.list ds)]) rfl ?_
  unfold m_pick_b
  walk_at "wp"
  refine take_w h (by omega) (by omega) hB fun r pot' r0 r1 hp => ?_
  walk_at "wp"
  have hi : r.toNat < ds.length := by omega
  refine o1_ixL r0 (List.getElem?_eq_getElem hi) ?_
  walk_at "wp"
  exact k r.toNat _ _ (List.getElem?_eq_getElem hi) hp
theorem put_new {D : LV} {l : List Int} {v : Int} (h : l ∉ D.map (·.1)) : putI D l v = D ++ [(l, v)] := by
  unfold putI
  rw [if_neg]
  intro z
  obtain ⟨q, hq, e⟩ := List.any_eq_true.mp z
  exact h (List.mem_map.mpr ⟨q, hq, of_decide_eq_true e⟩)
def dueL (p : Int) (Rs : List (List Int)) (A : List (List Int)) : LV := A.map fun l => (l, SO Rs l % p)
theorem due_keys (p : Int) (Rs : List (List Int)) (A : List (List Int)) : (dueL p Rs A).map (·.1) = A := by
  unfold dueL
  rw [List.map_map]
  exact List.map_id _
theorem due_get {p : Int} {Rs : List (List Int)} {A : List (List Int)} {l : List Int} (nd : A.Nodup) (h : l ∈ A) : getI (dueL p Rs A) l = SO Rs l % p := by
  have m := getI_mem (D := dueL p Rs A) (l := l) (by rw [due_keys]; exact h)
  obtain ⟨l', _, e⟩ := List.mem_map.mp m
  injection e with e1 e2
  rw [← e2, e1]
theorem right_w {pot : Dt} (hp : PotK 0 pot) (k : ∀ pot', R [pot'] (.fz (.bool true))) : W2 (b_right [pot]) R := by
  refine w_body (env := [.bo pot, .un, .un, .un, .un, .un, .un, .un, .un, .un, .un, .un, .un, .un]) rfl ?_
  unfold m_right
  walk_at "wp"
  refine pick_w hp (by show 0 < 6; decide) (by show 6 < 2 ^ 50; decide) (by omega) fun i z p1 hz hp1 => ?_
  have ez : ∃ p : Int, z = .int p ∧ 1 < p ∧ p < 1000000000 := by
    have mm := List.mem_of_getElem? hz
    simp only [List.mem_cons, List.not_mem_nil, or_false] at mm
    rcases mm with rfl | rfl | rfl | rfl | rfl | rfl
    all_goals exact ⟨_, rfl, by decide, by decide⟩
  obtain ⟨p, rfl, pp, p9⟩ := ez
  have p0 : 0 < p := by omega
  walk_at "wp"
  refine take_w hp1 (by decide) (by decide) (by omega) fun a p2 a0 a1 hp2 => ?_
  walk_at "wp"
  obtain ⟨h, eh, h1, h7⟩ : ∃ h : Nat, 1 + a = (h : Int) ∧ 1 ≤ h ∧ h ≤ 7 := ⟨(1 + a).toNat, by omega, by omega, by omega⟩
  rw [eh]
  refine take_w hp2 (by decide) (by decide) (by omega) fun b p3 b0 b1 hp3 => ?_
  walk_at "wp"
  obtain ⟨n, en, n1, n5⟩ : ∃ n : Nat, (1 + b).toNat = n ∧ 1 ≤ n ∧ n ≤ 5 := ⟨(1 + b).toNat, rfl, by omega, by omega⟩
  rw [en]
  refine rng_w (fun j env => ∃ (Rs : List (List Int)) (pot : Dt) (v4 v5 : Option Dt), env = [.bo pot, .fz (.int p), .fz (natD h), .ow (.list (Rs.map rowD)), Sl.fzo v4, Sl.fzo v5, .un, .un, .un, .un, .un, .un, .un, .un] ∧ Rs.length = j ∧ (∀ r ∈ Rs, RowOk p h r) ∧ PotK (3 + 20 * j) pot) ⟨[], p3, none, none, rfl, rfl, fun r hr => (by cases hr), hp3⟩ ?_ ?_
  · rintro j _ hj ⟨Rs, pot, v4, v5, rfl, hl, hR, hp⟩
    walk_at "wp"
    rw [Int.toNat_natCast]
    refine lci_w (fun i env acc => ∃ (r : List Int) (pot : Dt), env = [.bo pot, .fz (.int p), .fz (natD h), .ow (.list (Rs.map rowD)), .fz (.int (0 + (j : Int))), Sl.fzo v5, .un, .un, .un, .un, .un, .un, .un, .un] ∧ acc = r.map PyData.int ∧ r.length = i ∧ (∀ v ∈ r, 0 ≤ v ∧ v < p) ∧ PotK (3 + 20 * j + 2 * i) pot) ⟨[], pot, rfl, rfl, rfl, fun v hv => (by cases hv), hp⟩ ?_ ?_
    · rintro i d _ acc hi ⟨r, pot, rfl, rfl, rl, rv, hp⟩
      obtain ⟨i1, rfl⟩ := rgD_get hi
      walk_at "wp"
      refine take_w hp (by omega) (by omega) (by omega) fun u q1 u0 u1 hq1 => ?_
      walk_at "wp"
      refine pick_w hq1 (by show 0 < 4; decide) (by show 4 < 2 ^ 50; decide) (by omega) fun i' z q2 hz hq2 => ?_
      have ez : ∃ v : Int, z = .int v ∧ 0 ≤ v ∧ v < p := by
        have mm := List.mem_of_getElem? hz
        simp only [List.mem_cons, List.not_mem_nil, or_false] at mm
        rcases mm with rfl | rfl | rfl | rfl
        all_goals exact ⟨_, rfl, by omega, by omega⟩
      obtain ⟨v, rfl, vv⟩ := ez
      walk_at "wp"
      refine ⟨r ++ [v], q2, rfl, by rw [List.map_append]; rfl, by rw [List.length_append, rl]; rfl, fun x hx => ?_, hq2.up (by omega)⟩
      rcases List.mem_append.mp hx with z | z
      · exact rv x z
      · rw [List.mem_singleton.mp z]
        exact vv
    rintro _ out ⟨r, pot, rfl, rfl, rl, rv, hp⟩
    rw [rgD_len] at rl hp
    refine fit_w (sl_lt (m := 7) (by rw [List.length_map]; omega) (by decide)) ?_
    have ro : RowOk p h r := ⟨rl, rv⟩
    have fin : ∀ (r' : List Int) (pot' : Dt), RowOk p h r' → PotK (3 + 20 * (j + 1)) pot' → ∃ (Rs' : List (List Int)) (pot : Dt) (v4 v5' : Option Dt), [Sl.bo pot', .fz (.int p), .fz (natD h), .ow (.list (Rs.map rowD ++ [rowD r'])), .fz (.int (0 + (j : Int))), .fz (rowD r'), .un, .un, .un, .un, .un, .un, .un, .un] = [.bo pot, .fz (.int p), .fz (natD h), .ow (.list (Rs'.map rowD)), Sl.fzo v4, Sl.fzo v5', .un, .un, .un, .un, .un, .un, .un, .un] ∧ Rs'.length = j + 1 ∧ (∀ r ∈ Rs', RowOk p h r) ∧ PotK (3 + 20 * (j + 1)) pot := fun r' pot' hr' hp' => ⟨Rs ++ [r'], pot', some _, some _, by rw [List.map_append]; rfl, by rw [List.length_append, hl]; rfl, fun x hx => by
      rcases List.mem_append.mp hx with z | z
      · exact hR x z
      · rw [List.mem_singleton.mp z]
        exact hr', hp'⟩
    have fl : ((Rs.map rowD).length : Nat) < sizeLine := Nat.lt_of_le_of_lt (show _ ≤ 5 by rw [List.length_map]; omega) (by show 5 < 2 ^ 24; decide)
    walk_at "wp"
    cases Rs with
    | nil =>
      refine o1_rfl (z := .bool false) rfl ?_
      walk_at "wp"
      refine fil_w fl ?_
      walk_at "wp"
      exact fin r pot ro (hp.up (by omega))
    | cons r0 Rs0 =>
      have hr0 := hR r0 List.mem_cons_self
      refine neXX (small_rows h7 p9 hR (by omega)) (by decide) (small_list (ds := []) (n := 0) (m := 0) fun d hd => by cases hd) (by decide) rfl rfl fun t => ?_
      walk_at "wp"
      refine ite_b (fun ht => ?_) (fun ht => ?_)
      · walk_at "wp"
        refine take_w hp (by decide) (by decide) (by omega) fun u q1 u0 u1 hq1 => ?_
        walk_at "wp"
        refine ite_c (fun c => ?_) (fun c => ?_)
        · walk_at "wp"
          refine pick_b_w hq1 (by rw [List.length_map]; exact Nat.succ_pos _) (by rw [List.length_map]; omega) (by omega) fun i' z q2 hz hq2 => ?_
          rw [List.getElem?_map] at hz
          obtain ⟨r2, hr2, rfl⟩ := Option.map_eq_some_iff.mp hz
          have ro2 := hR r2 (List.mem_of_getElem? hr2)
          walk_at "wp"
          rw [num_rowI, ro2.1]
          refine lcx_w (fun i : Nat => PyData.tuple [.int (i : Int), .int (r2.getD i 0)]) (fun _ => true) (fun i => .int ((r2.getD i 0 + r0.getD i 0) % p)) ?_ ?_
          · intro i hi
            have hi := List.mem_range.mp hi
            walk_at "wp"
            refine ⟨rfl, rfl, fun _ => ?_⟩
            walk_at "wp"
            refine o1_ixL (by omega) (z := rowD r0) rfl ?_
            walk_at "wp"
            refine o1_ixL (by omega) (z := .int (r0.getD i 0)) ?_ ?_
            · rw [Int.toNat_natCast, List.getElem?_map, List.getD_eq_getElem?_getD, List.getElem?_eq_getElem (by have := hr0.1; omega)]
              rfl
            walk_at "wp"
            exact ⟨rfl, rfl⟩
          rw [List.filter_eq_self.mpr fun _ _ => rfl]
          refine fit_w (sl_lt (m := 7) (by rw [List.length_map, List.length_range]; omega) (by decide)) ?_
          rw [show ((List.range h).map fun i : Nat => PyData.int ((r2.getD i 0 + r0.getD i 0) % p)) = ((List.range h).map fun i : Nat => (r2.getD i 0 + r0.getD i 0) % p).map PyData.int by rw [List.map_map]; rfl]
          walk_at "wp"
          refine fil_w fl ?_
          walk_at "wp"
          refine fin _ _ ⟨by rw [List.length_map, List.length_range], fun v hv => ?_⟩ (hq2.up (by omega))
          obtain ⟨i, _, rfl⟩ := List.mem_map.mp hv
          exact ⟨Int.emod_nonneg _ (by omega), Int.emod_lt_of_pos _ p0⟩
        · walk_at "wp"
          refine fil_w fl ?_
          walk_at "wp"
          exact fin r q1 ro (hq1.up (by omega))
      · walk_at "wp"
        refine fil_w fl ?_
        walk_at "wp"
        exact fin r pot ro (hp.up (by omega))
  rintro _ ⟨Rs, pot, v4, v5, rfl, hl, hR, hp⟩
  walk_at "wp"
  refine loop_w (fun j env => ∃ (W : LV) (v5 : Option Dt), env = [.bo pot, .fz (.int p), .fz (natD h), .fz (.list (Rs.map rowD)), Sl.fzo v4, Sl.fzo v5, .un, .un, .un, .fz (.tuple (W.map tupP)), .un, .un, .un, .un] ∧ WH p h (Rs.take j) W ∧ (1 ≤ j → ∃ E : LV, (E.map (·.1)).Nodup ∧ W = gL E)) ⟨[([], 1)], v5, rfl, WH.nil pp, fun z => by omega⟩ ?_ ?_
  · rintro j d _ hj ⟨W, v5, rfl, hW, _⟩
    rw [List.getElem?_map] at hj
    obtain ⟨r, hr, rfl⟩ := Option.map_eq_some_iff.mp hj
    have jl := (List.getElem?_eq_some_iff.mp hr).1
    obtain ⟨r1, r2⟩ := hR r (List.mem_of_getElem? hr)
    walk_at "wp"
    rw [num_rowI]
    refine lcx_w (fun i : Nat => PyData.tuple [.int (i : Int), .int (r.getD i 0)]) (fun i => decide (r.getD i 0 > 0)) (fun i => tupP ([(i : Int)], r.getD i 0)) ?_ ?_
    · intro i hi
      walk_at "wp"
      refine ⟨rfl, rfl, fun _ => ?_⟩
      walk_at "wp"
      exact ⟨rfl, rfl⟩
    have le := (line_ok p9 r1 r2 h7)
    have el : (((List.range r.length).filter fun i => decide (r.getD i 0 > 0)).map fun i : Nat => tupP ([(i : Int)], r.getD i 0)) = (lineI r).map tupP := by
      unfold lineI
      rw [List.map_map]
      rfl
    rw [el]
    refine fit_w (sl_lt (m := 7) (by rw [List.length_map]; exact le.len) (by decide)) ?_
    walk_at "wp"
    refine outer_w p0 (hW.p7 h7) le (by rw [List.length_take]; omega) (by decide) (by decide) ?_
    walk_at "wp"
    refine ⟨_, some _, rfl, ?_, fun _ => ⟨_, gat_nd p _, rfl⟩⟩
    rw [List.take_add_one, hr, Option.toList_some]
    exact hW.step pp p9 h7 r1 r2
  rintro _ ⟨W, v5, rfl, hW, hE⟩
  rw [List.length_map] at hE
  obtain ⟨E, eE, rfl⟩ := hE (by omega)
  rw [List.length_map, List.take_length] at hW
  walk_at "wp"
  rw [show ((Rs.map rowD).length : Int) = ((Rs.length : Nat) : Int) by rw [List.length_map]]
  refine orders_w (by omega) ?_
  walk_at "wp"
  refine ite_c (fun c => ?_) (fun c => ?_)
  · have e0 : gL E = [] := by
      cases e : gL E with
      | nil => rfl
      | cons q W' =>
        have hq := (hW.pt q (by rw [e]; exact List.mem_cons_self)).1
        have := (AF_ok (c := Rs.length) (AF_all (c := Rs.length) hq.up hq.bd (by rw [hq.len]; omega))).2.2
        rw [hq.len] at this
        omega
    rw [e0]
    walk_at "wp"
    rw [show PyData.eqv (plainD (.tuple (List.map tupP []))) (plainD (.tuple [])) = true from SeqAt.eqv_refl (.tuple []) rfl]
    exact k pot
  walk_at "wp"
  refine all_lots_w h7 ?_
  walk_at "wp"
  have al := AL_len h Rs.length h7
  have and' := AL_nd h Rs.length
  refine loop_w (fun j env => ∃ (v13 : Option Dt), env = [.bo pot, .fz (.int p), .fz (natD h), .fz (.list (Rs.map rowD)), Sl.fzo v4, Sl.fzo v5, .un, .un, .un, .fz (.tuple ((gL E).map tupP)), .fz (natD Rs.length), .fz (.list ((OR Rs.length).map orD)), .ow (.dict ((.none, .tuple []) :: dTI (dueL p Rs ((AL h Rs.length).take j)))), Sl.fzo v13]) ⟨none, rfl⟩ ?_ ?_
  · rintro j d _ hj ⟨v13, rfl⟩
    rw [List.getElem?_map] at hj
    obtain ⟨l, hl', rfl⟩ := Option.map_eq_some_iff.mp hj
    have jl := (List.getElem?_eq_some_iff.mp hl').1
    have hL := AL_mem.mp (List.mem_of_getElem? hl')
    have et : (AL h Rs.length).take (j + 1) = (AL h Rs.length).take j ++ [l] := by rw [List.take_add_one, hl', Option.toList_some]
    have nn : l ∉ (dueL p Rs ((AL h Rs.length).take j)).map (·.1) := by
      rw [due_keys]
      intro z
      have nd2 := and'.sublist (List.take_sublist (j + 1) _)
      rw [et] at nd2
      exact (List.nodup_append.mp nd2).2.2 l z l (List.mem_singleton.mpr rfl) rfl
    walk_at "wp"
    refine w_dput ?_
    walk_at "wp"
    refine minor_w pp p9 (by omega) hR hL ?_
    walk_at "wp"
    refine ⟨.ow, _, _, fun _ => rfl, fun _ _ => rfl, rfl, dput_I (Nat.lt_of_le_of_lt (show _ ≤ 1000 by unfold dueL; rw [List.length_map, List.length_take]; omega) (by show 1000 < 2 ^ 24; decide)), ?_⟩
    rw [put_new nn, show dueL p Rs ((AL h Rs.length).take j) ++ [(l, SO Rs l % p)] = dueL p Rs ((AL h Rs.length).take (j + 1)) by rw [et]; unfold dueL; rw [List.map_append]; rfl]
    walk_at "wp"
    refine part_w (fun q hq => ?_) ?_ ?_
    · have := (hW.pt q hq).1
      exact ⟨by rw [this.len]; omega, fun x hx => by have := this.bd x hx; omega⟩
    · exact ⟨by rw [hL.len]; omega, fun x hx => by have := hL.bd x hx; omega⟩
    walk_at "wp"
    have lm : l ∈ (AL h Rs.length).take (j + 1) := by rw [et]; exact List.mem_append.mpr (.inr (List.mem_singleton.mpr rfl))
    refine o1_rfl (fdg (by rw [due_keys]; exact lm)) ?_
    rw [due_get (and'.sublist (List.take_sublist _ _)) lm, hW.get l hL, so_dtm hL.len]
    walk_at "wp"
    exact ⟨some _, rfl⟩
  rintro _ ⟨v13, rfl⟩
  rw [List.length_map, List.take_length]
  have dc : Dc (Lt60 h Rs.length) (fun v => 0 ≤ v ∧ v < p) 128 (dueL p Rs (AL h Rs.length)) := by
    refine ⟨⟨fun q hq => ?_, fun q hq => ?_, by unfold dueL; rw [List.length_map]; exact al⟩, by rw [due_keys]; exact and'⟩
    · obtain ⟨l, hl', rfl⟩ := List.mem_map.mp hq
      exact AL_mem.mp hl'
    · obtain ⟨l, hl', rfl⟩ := List.mem_map.mp hq
      exact ⟨Int.emod_nonneg _ (by omega), Int.emod_lt_of_pos _ p0⟩
  obtain ⟨k1, k2, k3⟩ := keys_okS dc fun l hl => hl.len
  walk_at "wp"
  refine o1_sortedDT k1 k2 ?_
  rw [k3]
  walk_at "wp"
  refine lcx_w tupI (fun l => getI (dueL p Rs (AL h Rs.length)) l != 0) (fun l => tupP (l, getI (dueL p Rs (AL h Rs.length)) l)) (fun l hl => ?_) ?_
  · have hf := fdg (ksO_mem hl)
    have bd := dc.b _ (getI_mem (ksO_mem hl))
    dsimp only at bd
    walk_at "wp"
    refine o1_rfl hf ?_
    walk_at "wp"
    refine ⟨?_, rfl, fun _ => ?_⟩
    · rw [Bool.eq_iff_iff]
      simp
      omega
    walk_at "wp"
    refine o1_rfl hf ?_
    walk_at "wp"
    exact ⟨rfl, rfl⟩
  have e : (((ksO (dueL p Rs (AL h Rs.length))).filter fun l => getI (dueL p Rs (AL h Rs.length)) l != 0).map fun l => tupP (l, getI (dueL p Rs (AL h Rs.length)) l)) = (gL (dueL p Rs (AL h Rs.length))).map tupP := by
    unfold gL
    rw [List.map_map]
    rfl
  have ge : gL E = gL (dueL p Rs (AL h Rs.length)) := gL_ext eE dc.nd fun l => by
    rw [← getI_gL eE]
    by_cases c : l ∈ AL h Rs.length
    · rw [due_get and' c, hW.get l (AL_mem.mp c), so_dtm (AL_mem.mp c).len]
    · rw [getI_no (D := gL E), getI_no (D := dueL p Rs (AL h Rs.length))]
      · rw [due_keys]
        exact c
      · intro z
        obtain ⟨q, hq, rfl⟩ := List.mem_map.mp z
        exact c (AL_mem.mpr (hW.pt q hq).1)
  rw [e, ← ge]
  have gl := hW.len h7
  refine fit_w (sl_lt (m := 128) (by rw [List.length_map]; exact gl) (by decide)) ?_
  walk_at "wp"
  refine eqX (small_S (n := Rs.length) (m := 128) (pt_ln (by omega) (hW.p7 h7)) (by omega)) (by decide) rfl ?_
  walk_at "wp"
  exact k pot
end
theorem all_data {ds : List Dt} (f : Dt → Bool) : fAll (.list (ds.map fun x => .bool (f x))) = some (.bool (ds.all f)) := by
  show (asBools _).map _ = _
  rw [show (ds.map fun x => PyData.bool (f x)) = (ds.map f).map PyData.bool by rw [List.map_map]; rfl, asBools_map]
  show some (PyData.bool _) = _
  rw [List.all_map]
  rfl
theorem law_w {ns : List Int} : W2 (b_law [scD ns]) fun _ r => r = .fz (.bool true) := by
  refine w_body (env := [.fz (scD ns), .un]) rfl ?_
  unfold m_law
  walk_at "wp"
  have hn : (if (if 3 < (ns.length : Int) then 3 else (ns.length : Int)) > 1 then if 3 < (ns.length : Int) then 3 else (ns.length : Int) else 1).toNat ≤ 3 := by
    repeat' split
    all_goals omega
  generalize (if (if 3 < (ns.length : Int) then 3 else (ns.length : Int)) > 1 then if 3 < (ns.length : Int) then 3 else (ns.length : Int) else 1).toNat = m at hn ⊢
  refine lc_w (fun _ => .bool true) ?_ ?_
  · intro d hd
    obtain ⟨j, hj, rfl⟩ := List.mem_map.mp hd
    have hj3 := List.mem_range.mp hj
    walk_at "wp"
    refine ⟨rfl, rfl, ?_⟩
    walk_at "wp"
    refine pot_w (by omega) (by omega) fun pot hp => ?_
    walk_at "wp"
    refine right_w hp fun p2 => ?_
    walk_at "wp"
    exact ⟨rfl, rfl⟩
  refine fit_w (sl_lt (m := 3) (by rw [List.length_map, rgD_len]; exact hn) (by decide)) ?_
  refine o1_rfl (all_data fun _ => true) ?_
  walk_at "wp"
  show Sl.fz (PyData.bool _) = _
  congr 2
  exact List.all_eq_true.mpr fun _ _ => rfl
theorem law_true : ∀ ns : List Int, ns.length ≤ 63 → ∃ os, g_law [scD ns] = some (os, .fz (.bool true)) := by
  intro ns _
  obtain ⟨os, _, h, rfl⟩ := law_w (ns := ns)
  exact ⟨os, h⟩
def topS (i : Nat) : Stmt := PySem.Challenge.pw_lackcry_k12_whole_outer_sums_are_determi.main.body.getD i (.Pass ⟨0, 0, 0, 0⟩)
abbrev s_sign_of_many : Stmt := topS 1
theorem sc_sign_of_many : FnScope ["many"] ["many"] (defScope s_sign_of_many) := ⟨rfl, rfl, rfl, by decide +kernel, rfl, by decide +kernel, by decide +kernel⟩
abbrev s_laid : Stmt := topS 2
theorem sc_laid : FnScope ["one", "other", "hand", "crossed", "above"] ["one", "other"] (defScope s_laid) := ⟨rfl, rfl, rfl, by decide +kernel, rfl, by decide +kernel, by decide +kernel⟩
abbrev s_part : Stmt := topS 4
theorem sc_part : FnScope ["sum_", "lot", "other", "number"] ["sum_", "lot"] (defScope s_part) := ⟨rfl, rfl, rfl, by decide +kernel, rfl, by decide +kernel, by decide +kernel⟩
abbrev s_gathered : Stmt := topS 5
theorem sc_gathered : FnScope ["p", "rows", "numbers", "lot", "number"] ["p", "rows"] (defScope s_gathered) := ⟨rfl, rfl, rfl, by decide +kernel, rfl, by decide +kernel, by decide +kernel⟩
abbrev s_outer : Stmt := topS 6
theorem sc_outer : FnScope ["p", "one", "other", "rows", "ahead", "number", "behind", "worth", "way", "lot"] ["p", "one", "other"] (defScope s_outer) := ⟨rfl, rfl, rfl, by decide +kernel, rfl, by decide +kernel, by decide +kernel⟩
abbrev s__law_pot : Stmt := topS 8
theorem sc__law_pot : FnScope ["_law_script", "_law_k", "_law_cell", "_law_great"] ["_law_script", "_law_k"] (defScope s__law_pot) := ⟨rfl, rfl, rfl, by decide +kernel, rfl, by decide +kernel, by decide +kernel⟩
abbrev s__law_take : Stmt := topS 9
theorem sc__law_take : FnScope ["_law_pot_here", "_law_size", "_law_digit", "_law_low", "_law_high", "_law_mixed", "_law_last"] ["_law_pot_here", "_law_size"] (defScope s__law_take) := ⟨rfl, rfl, rfl, by decide +kernel, rfl, by decide +kernel, by decide +kernel⟩
abbrev s__law_pick : Stmt := topS 10
theorem sc__law_pick : FnScope ["_law_pot_here", "_law_some"] ["_law_pot_here", "_law_some"] (defScope s__law_pick) := ⟨rfl, rfl, rfl, by decide +kernel, rfl, by decide +kernel, by decide +kernel⟩
abbrev s__law_orders : Stmt := topS 11
theorem sc__law_orders : FnScope ["_law_many", "_law_rows", "_law_one", "_law_longer", "_law_row", "_law_turn", "_law_at"] ["_law_many"] (defScope s__law_orders) := ⟨rfl, rfl, rfl, by decide +kernel, rfl, by decide +kernel, by decide +kernel⟩
abbrev s__law_minor : Stmt := topS 12
theorem sc__law_minor : FnScope ["_law_base", "_law_rows", "_law_lot", "_law_orders_here", "_law_total", "_law_order", "_law_turn", "_law_product", "_law_at", "_law_row"] ["_law_base", "_law_rows", "_law_lot", "_law_orders_here"] (defScope s__law_minor) := ⟨rfl, rfl, rfl, by decide +kernel, rfl, by decide +kernel, by decide +kernel⟩
abbrev s__law_all : Stmt := topS 13
theorem sc__law_all : FnScope ["_law_many", "_law_wide", "_law_found", "_law_hand", "_law_lot"] ["_law_many", "_law_wide"] (defScope s__law_all) := ⟨rfl, rfl, rfl, by decide +kernel, rfl, by decide +kernel, by decide +kernel⟩
abbrev s__law_right : Stmt := topS 14
theorem sc__law_right : FnScope ["_law_pot_here", "_law_base", "_law_many", "_law_rows", "_law_turn", "_law_row", "_law_hand", "_law_at", "_law_number", "_law_whole", "_law_wide", "_law_orders_here", "_law_due", "_law_lot"] ["_law_pot_here"] (defScope s__law_right) := ⟨rfl, rfl, rfl, by decide +kernel, rfl, by decide +kernel, by decide +kernel⟩
abbrev s_law : Stmt := topS 15
theorem sc_law : FnScope ["_law_script", "_law_k"] ["_law_script"] (defScope s_law) := ⟨rfl, rfl, rfl, by decide +kernel, rfl, by decide +kernel, by decide +kernel⟩
structure Txt (K : PySem.W.Frag) (mg : Str → Option Value) : Prop where
  d_sign_of_many : ∃ f fd, DefAt K mg "sign_of_many" s_sign_of_many ["many"] f fd
  d_laid : ∃ f fd, DefAt K mg "laid" s_laid ["one", "other"] f fd
  d_part : ∃ f fd, DefAt K mg "part" s_part ["sum_", "lot"] f fd
  d_gathered : ∃ f fd, DefAt K mg "gathered" s_gathered ["p", "rows"] f fd
  d_outer : ∃ f fd, DefAt K mg "outer" s_outer ["p", "one", "other"] f fd
  d_pot : ∃ f fd, DefAt K mg "_law_pot" s__law_pot ["_law_script", "_law_k"] f fd
  d_take : ∃ f fd, DefAt K mg "_law_take" s__law_take ["_law_pot_here", "_law_size"] f fd
  d_pick : ∃ f fd, DefAt K mg "_law_pick" s__law_pick ["_law_pot_here", "_law_some"] f fd
  d_orders : ∃ f fd, DefAt K mg "_law_orders" s__law_orders ["_law_many"] f fd
  d_minor : ∃ f fd, DefAt K mg "_law_minor" s__law_minor ["_law_base", "_law_rows", "_law_lot", "_law_orders_here"] f fd
  d_all : ∃ f fd, DefAt K mg "_law_all" s__law_all ["_law_many", "_law_wide"] f fd
  d_right : ∃ f fd, DefAt K mg "_law_right" s__law_right ["_law_pot_here"] f fd
  z_abs : mg "abs" = none
  z_all : mg "all" = none
  z_any : mg "any" = none
  z_enumerate : mg "enumerate" = none
  z_len : mg "len" = none
  z_max : mg "max" = none
  z_min : mg "min" = none
  z_range : mg "range" = none
  z_sorted : mg "sorted" = none
  z_sum : mg "sum" = none
  z_tuple : mg "tuple" = none
structure Tbs (K : PySem.W.Frag) (mg : Str → Option Value) (base : Heap) : Prop where
  t_gathered : ∃ f fd c P, DefAt K mg "gathered" s_gathered ["p", "rows"] f fd ∧ fd.code = .ref c ∧ GxR.TabB base mg c P ∧ P ∈ tabs K
section
variable {P : Program} {w : World} {K : PySem.W.Frag} {mg : Str → Option Value} {base : Heap}
theorem ok_sign_of_many {f : Addr} {fd : FuncData} (F : Fun K "sign_of_many" "sign_of_many" s_sign_of_many f fd) (T : Txt K mg) (W : Tbs K mg base) : FnG P w K mg base CX0 1 f fd ["many"] (SpM K [false] g_sign_of_many) := by
  refine FnG.by0 F sc_sign_of_many (fun vs H Q E h => h.len) (fun cdv A outer s H vs Q E hr gd h => ?_)
  have hu := room70 hr
  exact ⟨_, (pss_one (ps_ret (pe_ifExp (pt_cmpR (k_eqD K hr.units) (pe_op op_mod (pv 0) pe_int) pe_int (nomark _)) pe_int (pe_un un_neg pe_int)))),
   body_ok (N := ["many"]) (by decide) (r_ret (r_if (r_tTest (r_op o_eq (r_op o_mod (r_var 0) (RE.q r_int)) (RE.q r_int))) r_int (r_neg r_int))) (h.to g_sign_of_many_ok)⟩

theorem ok_laid {f : Addr} {fd : FuncData} (F : Fun K "laid" "laid" s_laid f fd) (T : Txt K mg) (W : Tbs K mg base) : FnG P w K mg base CX0 2 f fd ["one", "other"] (SpM K [false, false] g_laid) := by
  obtain ⟨f_sign_of_many, fd_sign_of_many, D_sign_of_many⟩ := T.d_sign_of_many
  have G_sign_of_many : FnG P w K mg base CX0 1 f_sign_of_many fd_sign_of_many _ _ := ok_sign_of_many D_sign_of_many.F T W
  refine FnG.by0 F sc_laid (fun vs H Q E h => h.len) (fun cdv A outer s H vs Q E hr gd h => ?_)
  have hu := room70 hr
  exact ⟨_, (pss_cons (ps_if (pt_val (pe_callB (k_any K rfl) (by rfl) T.z_any (by decide +kernel) (pa_cons (pe_lc (own := [("hand", 2)]) (g := gName 2) (tt := tYes) rfl sc_laid.nd (k_piT K (pv 1)) (blkOk_by (own := [("hand", 2)]) (N := ["one", "other", "hand", "crossed", "above"]) (sc := (defScope s_laid)) (by decide +kernel)) (fun _ _ _ _ _ => (pg_name (i := 2) sc_laid.nd rfl (by first | exact Or.inl rfl | exact Or.inr rfl))) (fun _ _ _ _ _ => pts_nil) (fun _ _ _ _ _ => (pe_cmpR (k_in K) (pv 2) (pv 0) (by rfl)))) pa_nil)))
 (pss_one (ps_ret (pe_tup (pa_cons pe_int (pa_cons (pe_tup pa_nil) pa_nil)))))
 pss_nil)
 (pss_cons (ps_set (i := 3) sc_laid.nd rfl (by first | exact Or.inl rfl | exact Or.inr rfl) (pe_callB (k_sum K rfl) (by rfl) T.z_sum (by decide +kernel) (pa_cons (pe_lc (own := [("hand", 2)]) (g := gName 2) (tt := tYes) rfl sc_laid.nd (k_piT K (pv 1)) (blkOk_by (own := [("hand", 2)]) (N := ["one", "other", "hand", "crossed", "above"]) (sc := (defScope s_laid)) (by decide +kernel)) (fun _ _ _ _ _ => (pg_name (i := 2) sc_laid.nd rfl (by first | exact Or.inl rfl | exact Or.inr rfl))) (fun _ _ _ _ _ => pts_nil) (fun _ _ _ _ _ => (pe_callB (k_len K) (by rfl) T.z_len (by decide +kernel) (pa_cons (pe_lc (own := [("above", 4)]) (g := gName 4)  rfl sc_laid.nd (k_piT K (pv 0)) (blkOk_by (own := [("above", 4)]) (N := ["one", "other", "hand", "crossed", "above"]) (sc := ({ kind := .function, names := [(".0", .local), ("hand", .cell), ("len", .globalImplicit), ("one", .cell)], isGenerator := false, isCoroutine := false } : Scope)) (by decide +kernel)) (fun _ _ _ _ _ => (pg_name (i := 4) sc_laid.nd rfl (by first | exact Or.inl rfl | exact Or.inr rfl))) (fun _ _ _ _ _ => pts_one (pt_cmpR op_gt (pv 4) (pv 2) (nomark _))) (fun _ _ _ _ _ => (pv 4))) pa_nil)))) pa_nil)))
 (pss_one (ps_ret (pe_tup (pa_cons (pg_call G_sign_of_many (hr.mono (by decide)) gd (by rfl) D_sign_of_many.g D_sign_of_many.F.kp D_sign_of_many.b pass0 (pa_cons (pv 3) pa_nil)) (pa_cons (pe_callTy (k_tuple K) (by rfl) T.z_tuple (by decide +kernel) (pa_cons (pe_callB (k_sortedT K) (by rfl) T.z_sorted (by decide +kernel) (pa_cons (pe_op (k_catA K) (pv 0) (pv 1)) pa_nil)) pa_nil)) pa_nil))))))),
   body_ok (N := ["one", "other", "hand", "crossed", "above"]) (by decide) (r_seq (r_ifS (r_tB (r_c1 c_any (RE.q (RO.e (r_lc (vs := [2]) (i_tup (r_var 1)) (w_name (by decide)) r_yes (r_op o_in (r_var 2) (RE.q (r_var 0))))))))
 (r_ret (r_tup (r_cons r_int (r_cons (r_tup r_nil) r_nil))))
 r_next)
 (r_seq (r_set (r_c1 c_sum (RE.q (RO.e (r_lc (vs := [2]) (i_tup (r_var 1)) (w_name (by decide)) r_yes (r_c1 c_len (RE.q (RO.e (r_lc (vs := [4]) (i_tup (r_var 0)) (w_name (by decide)) (r_tTest (r_op o_gt (r_var 4) (RE.q (r_var 2)))) (r_var 4))))))))))
 (r_ret (r_tup (r_cons (r_call (a_val (r_var 3) a_nil)) (r_cons (r_c1 c_tuple (RE.q (RO.e (r_c1o c_sortedT (RE.q (r_op o_catT (r_var 0) (RE.q (r_var 1)))))))) r_nil)))))) (h.to g_laid_ok)⟩

theorem ok_part {f : Addr} {fd : FuncData} (F : Fun K "part" "part" s_part f fd) (T : Txt K mg) (W : Tbs K mg base) : FnG P w K mg base CX0 1 f fd ["sum_", "lot"] (SpM K [false, false] g_part) := by
  refine FnG.by0 F sc_part (fun vs H Q E h => h.len) (fun cdv A outer s H vs Q E hr gd h => ?_)
  have hu := room70 hr
  exact ⟨_, (pss_cons (ps_for PassesOwn.never rfl (k_piT K (pv 0)) (pg_tup rfl (pgs_cons (pg_name (i := 2) sc_part.nd rfl (by first | exact Or.inl rfl | exact Or.inr rfl)) (pgs_cons (pg_name (i := 3) sc_part.nd rfl (by first | exact Or.inl rfl | exact Or.inr rfl)) pgs_nil)))
 (pss_one (ps_if (pt_cmpR (k_eqD K hr.units) (pv 2) (pv 1) (nomark _))
 (pss_one (ps_ret (pv 3)))
 pss_nil)))
 (pss_one (ps_ret pe_int))),
   body_ok (N := ["sum_", "lot", "other", "number"]) (by decide) (r_seq (r_for (i_tup (r_var 0)) (g_tup (g_cons g_name (g_cons g_name g_nil)))
 (r_ifS (r_tTest (r_op o_eq (r_var 2) (RE.q (r_var 1))))
 (r_ret (r_var 3))
 r_next))
 (r_ret r_int)) (h.to g_part_ok)⟩

theorem ok_gathered {f : Addr} {fd : FuncData} (F : Fun K "gathered" "gathered" s_gathered f fd) {c P' : Addr} (hc : fd.code = .ref c) (TB : GxR.TabB base mg c P') (hP : P' ∈ tabs K) (T : Txt K mg) (W : Tbs K mg base) : FnG P w K mg base CX0 6 f fd ["p", "rows"] (SpM K [false, false] g_gathered) := by
  refine FnG.byC F hc sc_gathered (fun vs H Q E h => h.len) (fun A outer s H vs Q E hr gd h => ?_)
  have hu := room70 hr
  exact ⟨_, (pss_cons (ps_set (i := 2) sc_gathered.nd rfl (by first | exact Or.inl rfl | exact Or.inr rfl) pe_dnewT)
 (pss_cons (ps_for PassesOwn.never rfl (k_piL K (pv 1)) (pg_tup rfl (pgs_cons (pg_name (i := 3) sc_gathered.nd rfl (by first | exact Or.inl rfl | exact Or.inr rfl)) (pgs_cons (pg_name (i := 4) sc_gathered.nd rfl (by first | exact Or.inl rfl | exact Or.inr rfl)) pgs_nil)))
 (pss_one (ps_dput (hu_of hr) (pv 2) (pv 3) (pe_op op_mod (pe_op op_add (pe_dget2 (hu_of hr) (pv 2) (pv 3) pe_int ⟨rfl, rfl, rfl, rfl⟩) (pv 4)) (pv 0)) rfl)))
 (pss_one (ps_ret (pe_tupGx (own := [("lot", 3)]) (g := gName 3)  (k := 2) hr gd (by rfl) T.z_tuple TB rfl ⟨rfl, by decide, rfl⟩ sc_gathered.nd (k_piL K (pe_callB (k_sortedDT K rfl hu) (by rfl) T.z_sorted (by decide +kernel) (pa_cons (pv 2) pa_nil))) (blkOk_by (own := [("lot", 3)]) (N := ["p", "rows", "numbers", "lot", "number"]) (sc := (defScope s_gathered)) (by decide +kernel)) (fun _ _ _ _ _ _ _ _ hr gd => have hu := room70 hr; ⟨(pg_name (i := 3) sc_gathered.nd rfl (by first | exact Or.inl rfl | exact Or.inr rfl)), (pts_one (k_truth K (pe_dget (hu_of hr) (pv 2) (pv 3) (fun _ _ => rfl)) (by intro _; rfl))), (pe_tup (pa_cons (pv 3) (pa_cons (pe_dget (hu_of hr) (pv 2) (pv 3) (fun _ _ => rfl)) pa_nil)))⟩)))))),
   body_ok (N := ["p", "rows", "numbers", "lot", "number"]) (by decide) (r_seq (r_setO r_dnewT)
 (r_seq (r_for (i_list (r_var 1)) (g_tup (g_cons g_name (g_cons g_name g_nil)))
 (r_dput (i := 2) (r_var 3) (r_op o_mod (r_op o_add (r_dget2P (i := 2) (r_var 3) r_int) (RE.q (r_var 4))) (RE.q (r_var 0)))))
 (r_ret (r_gx (vs := [3]) hP (i_list (RO.e (r_c1o c_sortedDT (r_peek 2)))) (w_name (by decide)) (r_truth (RE.q (r_dgetP (i := 2) (RE.q (r_var 3))))) (r_tup (r_cons (r_var 3) (r_cons (r_dgetP (i := 2) (RE.q (r_var 3))) r_nil))))))) (h.to g_gathered_ok)⟩

theorem ok_outer {f : Addr} {fd : FuncData} (F : Fun K "outer" "outer" s_outer f fd) (T : Txt K mg) (W : Tbs K mg base) : FnG P w K mg base CX0 7 f fd ["p", "one", "other"] (SpM K [false, false, false] g_outer) := by
  obtain ⟨f_laid, fd_laid, D_laid⟩ := T.d_laid
  have G_laid : FnG P w K mg base CX0 2 f_laid fd_laid _ _ := ok_laid D_laid.F T W
  obtain ⟨f_gathered, fd_gathered, c_gathered, P_gathered, D_gathered, hc_gathered, TB_gathered, hP_gathered⟩ := W.t_gathered
  have G_gathered : FnG P w K mg base CX0 6 f_gathered fd_gathered _ _ := ok_gathered D_gathered.F hc_gathered TB_gathered hP_gathered T W
  refine FnG.by0 F sc_outer (fun vs H Q E h => h.len) (fun cdv A outer s H vs Q E hr gd h => ?_)
  have hu := room70 hr
  exact ⟨_, (pss_cons (ps_set (i := 3) sc_outer.nd rfl (by first | exact Or.inl rfl | exact Or.inr rfl) (pe_lst pa_nil))
 (pss_cons (ps_for PassesOwn.never rfl (k_piT K (pv 1)) (pg_tup rfl (pgs_cons (pg_name (i := 4) sc_outer.nd rfl (by first | exact Or.inl rfl | exact Or.inr rfl)) (pgs_cons (pg_name (i := 5) sc_outer.nd rfl (by first | exact Or.inl rfl | exact Or.inr rfl)) pgs_nil)))
 (pss_one (ps_for PassesOwn.never rfl (k_piT K (pv 2)) (pg_tup rfl (pgs_cons (pg_name (i := 6) sc_outer.nd rfl (by first | exact Or.inl rfl | exact Or.inr rfl)) (pgs_cons (pg_name (i := 7) sc_outer.nd rfl (by first | exact Or.inl rfl | exact Or.inr rfl)) pgs_nil)))
 (pss_cons (ps_asg (pg_call G_laid (hr.mono (by decide)) gd (by rfl) D_laid.g D_laid.F.kp D_laid.b pass0 (pa_cons (pv 4) (pa_cons (pv 6) pa_nil))) (pg_tup rfl (pgs_cons (pg_name (i := 8) sc_outer.nd rfl (by first | exact Or.inl rfl | exact Or.inr rfl)) (pgs_cons (pg_name (i := 9) sc_outer.nd rfl (by first | exact Or.inl rfl | exact Or.inr rfl)) pgs_nil))))
 (pss_one (ps_if (pt_cmpR (k_neD K hr.units) (pv 8) pe_int (nomark _))
 (pss_one (ps_expr (pe_bm PySem.F.plainAttrs_list PySem.F.slot_list_append PySem.F.type_list_append mt_append (pv 3) (pa_cons (pe_tup (pa_cons (pv 9) (pa_cons (pe_op op_mul (pe_op op_mul (pv 8) (pv 5)) (pv 7)) pa_nil))) pa_nil))))
 pss_nil))))))
 (pss_one (ps_ret (pg_call G_gathered (hr.mono (by decide)) gd (by rfl) D_gathered.g D_gathered.F.kp D_gathered.b pass0 (pa_cons (pv 0) (pa_cons (pv 3) pa_nil))))))),
   body_ok (N := ["p", "one", "other", "rows", "ahead", "number", "behind", "worth", "way", "lot"]) (by decide) (r_seq (r_setO (r_lst r_nil))
 (r_seq (r_for (i_tup (r_var 1)) (g_tup (g_cons g_name (g_cons g_name g_nil)))
 (r_for (i_tup (r_var 2)) (g_tup (g_cons g_name (g_cons g_name g_nil)))
 (r_seq (r_asg (r_call (a_val (r_var 4) (a_val (r_var 6) a_nil))) (g_tup (g_cons g_name (g_cons g_name g_nil))))
 (r_ifS (r_tTest (r_op o_ne (r_var 8) (RE.q r_int)))
 (r_app (i := 3) (r_tup (r_cons (r_var 9) (r_cons (r_op o_mul (r_op o_mul (r_var 8) (RE.q (r_var 5))) (RE.q (r_var 7))) r_nil))))
 r_next))))
 (r_ret (r_call (a_val (r_var 0) (a_val (r_var 3) a_nil)))))) (h.to g_outer_ok)⟩

theorem ok_pot {f : Addr} {fd : FuncData} (F : Fun K "_law_pot" "_law_pot" s__law_pot f fd) (T : Txt K mg) (W : Tbs K mg base) : FnG P w K mg base CX0 1 f fd ["_law_script", "_law_k"] (SpM K [false, false] g_pot) := by
  refine FnG.by0 F sc__law_pot (fun vs H Q E h => h.len) (fun cdv A outer s H vs Q E hr gd h => ?_)
  have hu := room70 hr
  exact ⟨_, (pss_cons (ps_set (i := 2) sc__law_pot.nd rfl (by first | exact Or.inl rfl | exact Or.inr rfl) (pe_ifExp (pt_cmpR op_lt (pv 1) (pe_callB (k_len K) (by rfl) T.z_len (by decide +kernel) (pa_cons (pv 0) pa_nil)) (nomark _)) (pe_ix (k_ixL K) (pv 0) (pv 1) (fun _ _ => rfl)) pe_int))
 (pss_cons (ps_set (i := 3) sc__law_pot.nd rfl (by first | exact Or.inl rfl | exact Or.inr rfl) (pe_ifExp (pt_cmpR op_ge (pe_callB call_abs (by rfl) T.z_abs (by decide +kernel) (pa_cons (pv 2) pa_nil)) (pe_op op_pow pe_int pe_int) (nomark _)) (pe_op op_mod (pe_callB call_abs (by rfl) T.z_abs (by decide +kernel) (pa_cons (pv 2) pa_nil)) (pe_op op_powW (pe_op op_pow pe_int pe_int) pe_int)) pe_int))
 (pss_one (ps_ret (pe_lst (pa_cons (pv 3) (pa_cons (pe_op op_mod (pe_op op_add (pe_op op_add (pe_op op_mul (pe_op op_mod (pv 2) pe_int) pe_int) (pe_op op_mul (pe_op op_mul pe_int (pv 1)) (pv 1))) pe_int) pe_int) (pa_cons pe_int pa_nil)))))))),
   body_ok (N := ["_law_script", "_law_k", "_law_cell", "_law_great"]) (by decide) (r_seq (r_set (r_if (r_tTest (r_op o_lt (r_var 1) (RE.q (r_c1 c_len (RE.q (r_var 0)))))) (r_op o_ixL (r_var 0) (RE.q (r_var 1))) r_int))
 (r_seq (r_set (r_if (r_tTest (r_op o_ge (r_c1 c_abs (RE.q (r_var 2))) (RE.q (r_op o_pow r_int (RE.q r_int))))) (r_op o_mod (r_c1 c_abs (RE.q (r_var 2))) (RE.q (r_op o_powW (r_op o_pow r_int (RE.q r_int)) (RE.q r_int)))) r_int))
 (r_retO (r_lst (r_cons (r_var 3) (r_cons (r_op o_mod (r_op o_add (r_op o_add (r_op o_mul (r_op o_mod (r_var 2) (RE.q r_int)) (RE.q r_int)) (RE.q (r_op o_mul (r_op o_mul r_int (RE.q (r_var 1))) (RE.q (r_var 1))))) (RE.q r_int)) (RE.q r_int)) (r_cons r_int r_nil))))))) (h.to g_pot_ok)⟩

theorem ok_take {f : Addr} {fd : FuncData} (F : Fun K "_law_take" "_law_take" s__law_take f fd) (T : Txt K mg) (W : Tbs K mg base) : FnG P w K mg base CX0 1 f fd ["_law_pot_here", "_law_size"] (SpM K [true, false] g_take) := by
  refine FnG.by0 F sc__law_take (fun vs H Q E h => h.len) (fun cdv A outer s H vs Q E hr gd h => ?_)
  have hu := room70 hr
  exact ⟨_, (pss_cons (ps_if (pt_cmpR op_gt (pe_ix (k_ixL K) (pv 0) pe_int (fun _ _ => rfl)) pe_int (nomark _))
 (pss_cons (ps_set (i := 2) sc__law_take.nd rfl (by first | exact Or.inl rfl | exact Or.inr rfl) (pe_op op_mod (pe_ix (k_ixL K) (pv 0) pe_int (fun _ _ => rfl)) (pv 1)))
 (pss_cons (ps_asg (pe_op op_fdivW (pe_ix (k_ixL K) (pv 0) pe_int (fun _ _ => rfl)) (pv 1)) (pg_sub (pv 0) pe_int set_list))
 (pss_one (ps_ret (pv 2)))))
 pss_nil)
 (pss_cons (ps_asg (pe_op op_add (pe_ix (k_ixL K) (pv 0) pe_int (fun _ _ => rfl)) pe_int) (pg_sub (pv 0) pe_int set_list))
 (pss_cons (ps_set (i := 3) sc__law_take.nd rfl (by first | exact Or.inl rfl | exact Or.inr rfl) (pe_op op_add (pe_ix (k_ixL K) (pv 0) pe_int (fun _ _ => rfl)) (pe_op op_mul pe_int (pe_ix (k_ixL K) (pv 0) pe_int (fun _ _ => rfl)))))
 (pss_cons (ps_set (i := 4) sc__law_take.nd rfl (by first | exact Or.inl rfl | exact Or.inr rfl) (pe_op op_add (pe_op op_add (pe_op op_mod (pe_ix (k_ixL K) (pv 0) pe_int (fun _ _ => rfl)) pe_int) (pe_op op_mul pe_int (pe_ix (k_ixL K) (pv 0) pe_int (fun _ _ => rfl)))) pe_int))
 (pss_cons (ps_set (i := 5) sc__law_take.nd rfl (by first | exact Or.inl rfl | exact Or.inr rfl) (pe_op op_mod (pe_op op_mul (pv 3) (pv 4)) pe_int))
 (pss_cons (ps_set (i := 6) sc__law_take.nd rfl (by first | exact Or.inl rfl | exact Or.inr rfl) (pe_op op_add (pe_op op_add (pe_op op_mod (pv 5) pe_int) (pe_op op_mul pe_int (pe_ix (k_ixL K) (pv 0) pe_int (fun _ _ => rfl)))) pe_int))
 (pss_one (ps_ret (pe_op op_mod (pe_op op_fdivW (pe_op op_mod (pe_op op_mul (pe_op op_add (pv 5) pe_int) (pv 6)) pe_int) pe_int) (pv 1)))))))))),
   body_ok (N := ["_law_pot_here", "_law_size", "_law_digit", "_law_low", "_law_high", "_law_mixed", "_law_last"]) (by decide) (r_seq (r_ifS (r_tTest (r_op o_gt (r_opP (i := 0) o_ixL (RE.q r_int)) (RE.q r_int)))
 (r_seq (r_set (r_op o_mod (r_opP (i := 0) o_ixL (RE.q r_int)) (RE.q (r_var 1))))
 (r_seq (r_put (i := 0) r_int (r_op o_fdivW (r_opP (i := 0) o_ixL (RE.q r_int)) (RE.q (r_var 1))))
 (r_ret (r_var 2))))
 r_next)
 (r_seq (r_put (i := 0) r_int (r_op o_add (r_opP (i := 0) o_ixL (RE.q r_int)) (RE.q r_int)))
 (r_seq (r_set (r_op o_add (r_opP (i := 0) o_ixL (RE.q r_int)) (RE.q (r_op o_mul r_int (RE.q (r_opP (i := 0) o_ixL (RE.q r_int)))))))
 (r_seq (r_set (r_op o_add (r_op o_add (r_op o_mod (r_opP (i := 0) o_ixL (RE.q r_int)) (RE.q r_int)) (RE.q (r_op o_mul r_int (RE.q (r_opP (i := 0) o_ixL (RE.q r_int)))))) (RE.q r_int)))
 (r_seq (r_set (r_op o_mod (r_op o_mul (r_var 3) (RE.q (r_var 4))) (RE.q r_int)))
 (r_seq (r_set (r_op o_add (r_op o_add (r_op o_mod (r_var 5) (RE.q r_int)) (RE.q (r_op o_mul r_int (RE.q (r_opP (i := 0) o_ixL (RE.q r_int)))))) (RE.q r_int)))
 (r_ret (r_op o_mod (r_op o_fdivW (r_op o_mod (r_op o_mul (r_op o_add (r_var 5) (RE.q r_int)) (RE.q (r_var 6))) (RE.q r_int)) (RE.q r_int)) (RE.q (r_var 1)))))))))) (h.to g_take_ok)⟩

theorem ok_pick {f : Addr} {fd : FuncData} (F : Fun K "_law_pick" "_law_pick" s__law_pick f fd) (T : Txt K mg) (W : Tbs K mg base) : FnG P w K mg base CX0 2 f fd ["_law_pot_here", "_law_some"] (SpM K [true, false] g_pick) := by
  obtain ⟨f_take, fd_take, D_take⟩ := T.d_take
  have G_take : FnG P w K mg base CX0 1 f_take fd_take _ _ := ok_take D_take.F T W
  refine FnG.by0 F sc__law_pick (fun vs H Q E h => h.len) (fun cdv A outer s H vs Q E hr gd h => ?_)
  have hu := room70 hr
  exact ⟨_, (pss_one (ps_ret (pe_ix (k_ixL K) (pv 1) (pg_call G_take (hr.mono (by decide)) gd (by rfl) D_take.g D_take.F.kp D_take.b pass0 (pa_cons (pv 0) (pa_cons (pe_callB (k_len K) (by rfl) T.z_len (by decide +kernel) (pa_cons (pv 1) pa_nil)) pa_nil))) (fun _ _ => rfl)))),
   body_ok (N := ["_law_pot_here", "_law_some"]) (by decide) (r_ret (r_op o_ixL (r_var 1) (RE.q (r_call (a_sl (i := 0) (a_val (r_c1 c_len (RE.q (r_var 1))) a_nil)))))) (h.to g_pick_ok)⟩

theorem ok_pick_b {f : Addr} {fd : FuncData} (F : Fun K "_law_pick" "_law_pick" s__law_pick f fd) (T : Txt K mg) (W : Tbs K mg base) : FnG P w K mg base CX0 2 f fd ["_law_pot_here", "_law_some"] (SpM K [true, true] g_pick_b) := by
  obtain ⟨f_take, fd_take, D_take⟩ := T.d_take
  have G_take : FnG P w K mg base CX0 1 f_take fd_take _ _ := ok_take D_take.F T W
  refine FnG.by0 F sc__law_pick (fun vs H Q E h => h.len) (fun cdv A outer s H vs Q E hr gd h => ?_)
  have hu := room70 hr
  exact ⟨_, (pss_one (ps_ret (pe_ix (k_ixL K) (pv 1) (pg_call G_take (hr.mono (by decide)) gd (by rfl) D_take.g D_take.F.kp D_take.b pass0 (pa_cons (pv 0) (pa_cons (pe_callB (k_len K) (by rfl) T.z_len (by decide +kernel) (pa_cons (pv 1) pa_nil)) pa_nil))) (fun _ _ => rfl)))),
   body_ok (N := ["_law_pot_here", "_law_some"]) (by decide) (r_ret (r_opP (i := 1) o_ixL (RE.q (r_call (a_sl (i := 0) (a_val (r_c1 c_len (r_peek 1)) a_nil)))))) (h.to g_pick_b_ok)⟩

theorem ok_orders {f : Addr} {fd : FuncData} (F : Fun K "_law_orders" "_law_orders" s__law_orders f fd) (T : Txt K mg) (W : Tbs K mg base) : FnG P w K mg base CX0 1 f fd ["_law_many"] (SpM K [false] g_orders) := by
  refine FnG.by0 F sc__law_orders (fun vs H Q E h => h.len) (fun cdv A outer s H vs Q E hr gd h => ?_)
  have hu := room70 hr
  exact ⟨_, (pss_cons (ps_set (i := 1) sc__law_orders.nd rfl (by first | exact Or.inl rfl | exact Or.inr rfl) (pe_lst (pa_cons (pe_tup (pa_cons (pe_tup pa_nil) (pa_cons pe_int pa_nil))) pa_nil)))
 (pss_cons (ps_for PassesOwn.never rfl (pi_range1 (by rfl) T.z_range (pa_cons (pv 0) pa_nil)) (pg_name (i := 2) sc__law_orders.nd rfl (by first | exact Or.inl rfl | exact Or.inr rfl))
 (pss_cons (ps_set (i := 3) sc__law_orders.nd rfl (by first | exact Or.inl rfl | exact Or.inr rfl) (pe_lst pa_nil))
 (pss_cons (ps_for PassesOwn.never rfl (k_piL K (pv 1)) (pg_tup rfl (pgs_cons (pg_name (i := 4) sc__law_orders.nd rfl (by first | exact Or.inl rfl | exact Or.inr rfl)) (pgs_cons (pg_name (i := 5) sc__law_orders.nd rfl (by first | exact Or.inl rfl | exact Or.inr rfl)) pgs_nil)))
 (pss_one (ps_for PassesOwn.never rfl (pi_range1 (by rfl) T.z_range (pa_cons (pe_op op_add (pe_callB (k_len K) (by rfl) T.z_len (by decide +kernel) (pa_cons (pv 4) pa_nil)) pe_int) pa_nil)) (pg_name (i := 6) sc__law_orders.nd rfl (by first | exact Or.inl rfl | exact Or.inr rfl))
 (pss_one (ps_expr (pe_bm PySem.F.plainAttrs_list PySem.F.slot_list_append PySem.F.type_list_append mt_append (pv 3) (pa_cons (pe_tup (pa_cons (pe_op (k_catA K) (pe_op (k_catA K) (pe_slice (k_slT K) (pv 4) po_none (po_some (pv 6))) (pe_tup (pa_cons (pv 2) pa_nil))) (pe_slice (k_slT K) (pv 4) (po_some (pv 6)) po_none)) (pa_cons (pe_op op_mul (pv 5) (pe_op op_sub pe_int (pe_op op_mul pe_int (pe_op op_mod (pe_op op_sub (pe_callB (k_len K) (by rfl) T.z_len (by decide +kernel) (pa_cons (pv 4) pa_nil)) (pv 6)) pe_int)))) pa_nil))) pa_nil)))))))
 (pss_one (ps_set (i := 1) sc__law_orders.nd rfl (by first | exact Or.inl rfl | exact Or.inr rfl) (pv 3))))))
 (pss_one (ps_ret (pv 1))))),
   body_ok (N := ["_law_many", "_law_rows", "_law_one", "_law_longer", "_law_row", "_law_turn", "_law_at"]) (by decide) (r_seq (r_set (RO.e (r_lst (r_cons (r_tup (r_cons (r_tup r_nil) (r_cons r_int r_nil))) r_nil))))
 (r_seq (r_for (i_rng1 (r_cons (r_var 0) r_nil)) g_name
 (r_seq (r_setO (r_lst r_nil))
 (r_seq (r_for (i_list (r_var 1)) (g_tup (g_cons g_name (g_cons g_name g_nil)))
 (r_for (i_rng1 (r_cons (r_op o_add (r_c1 c_len (RE.q (r_var 4))) (RE.q r_int)) r_nil)) g_name
 (r_app (i := 3) (r_tup (r_cons (r_op o_catT (r_op o_catT (r_slT (r_var 4) r_noPart (r_part (r_var 6))) (RE.q (r_tup (r_cons (r_var 2) r_nil)))) (RE.q (r_slT (r_var 4) (r_part (r_var 6)) r_noPart))) (r_cons (r_op o_mul (r_var 5) (RE.q (r_op o_sub r_int (RE.q (r_op o_mul r_int (RE.q (r_op o_mod (r_op o_sub (r_c1 c_len (RE.q (r_var 4))) (RE.q (r_var 6))) (RE.q r_int)))))))) r_nil))))))
 (r_set (r_var 3)))))
 (r_ret (r_var 1)))) (h.to g_orders_ok)⟩

theorem ok_minor {f : Addr} {fd : FuncData} (F : Fun K "_law_minor" "_law_minor" s__law_minor f fd) (T : Txt K mg) (W : Tbs K mg base) : FnG P w K mg base CX0 1 f fd ["_law_base", "_law_rows", "_law_lot", "_law_orders_here"] (SpM K [false, false, false, false] g_minor) := by
  refine FnG.by0 F sc__law_minor (fun vs H Q E h => h.len) (fun cdv A outer s H vs Q E hr gd h => ?_)
  have hu := room70 hr
  exact ⟨_, (pss_cons (ps_set (i := 4) sc__law_minor.nd rfl (by first | exact Or.inl rfl | exact Or.inr rfl) pe_int)
 (pss_cons (ps_for PassesOwn.never rfl (k_piL K (pv 3)) (pg_tup rfl (pgs_cons (pg_name (i := 5) sc__law_minor.nd rfl (by first | exact Or.inl rfl | exact Or.inr rfl)) (pgs_cons (pg_name (i := 6) sc__law_minor.nd rfl (by first | exact Or.inl rfl | exact Or.inr rfl)) pgs_nil)))
 (pss_cons (ps_set (i := 7) sc__law_minor.nd rfl (by first | exact Or.inl rfl | exact Or.inr rfl) (pv 6))
 (pss_cons (ps_for PassesOwn.never rfl (k_enum K (by rfl) T.z_enumerate (pa_cons (pv 1) pa_nil)) (pg_tup rfl (pgs_cons (pg_name (i := 8) sc__law_minor.nd rfl (by first | exact Or.inl rfl | exact Or.inr rfl)) (pgs_cons (pg_name (i := 9) sc__law_minor.nd rfl (by first | exact Or.inl rfl | exact Or.inr rfl)) pgs_nil)))
 (pss_one (ps_set (i := 7) sc__law_minor.nd rfl (by first | exact Or.inl rfl | exact Or.inr rfl) (pe_op op_mod (pe_op op_mul (pv 7) (pe_ix (k_ixL K) (pv 9) (pe_ix (k_ixT K) (pv 2) (pe_ix (k_ixT K) (pv 5) (pv 8) (fun _ _ => rfl)) (fun _ _ => rfl)) (fun _ _ => rfl))) (pv 0)))))
 (pss_one (ps_set (i := 4) sc__law_minor.nd rfl (by first | exact Or.inl rfl | exact Or.inr rfl) (pe_op op_add (pv 4) (pv 7)))))))
 (pss_one (ps_ret (pe_op op_mod (pv 4) (pv 0)))))),
   body_ok (N := ["_law_base", "_law_rows", "_law_lot", "_law_orders_here", "_law_total", "_law_order", "_law_turn", "_law_product", "_law_at", "_law_row"]) (by decide) (r_seq (r_set r_int)
 (r_seq (r_for (i_list (r_var 3)) (g_tup (g_cons g_name (g_cons g_name g_nil)))
 (r_seq (r_set (r_var 6))
 (r_seq (r_for (i_enum (r_var 1)) (g_tup (g_cons g_name (g_cons g_name g_nil)))
 (r_set (r_op o_mod (r_op o_mul (r_var 7) (RE.q (r_op o_ixL (r_var 9) (RE.q (r_op o_ixT (r_var 2) (RE.q (r_op o_ixT (r_var 5) (RE.q (r_var 8))))))))) (RE.q (r_var 0)))))
 (r_set (r_op o_add (r_var 4) (RE.q (r_var 7)))))))
 (r_ret (r_op o_mod (r_var 4) (RE.q (r_var 0)))))) (h.to g_minor_ok)⟩

theorem ok_all {f : Addr} {fd : FuncData} (F : Fun K "_law_all" "_law_all" s__law_all f fd) (T : Txt K mg) (W : Tbs K mg base) : FnG P w K mg base CX0 1 f fd ["_law_many", "_law_wide"] (SpM K [false, false] g_all) := by
  refine FnG.by0 F sc__law_all (fun vs H Q E h => h.len) (fun cdv A outer s H vs Q E hr gd h => ?_)
  have hu := room70 hr
  exact ⟨_, (pss_cons (ps_set (i := 2) sc__law_all.nd rfl (by first | exact Or.inl rfl | exact Or.inr rfl) (pe_lst (pa_cons (pe_tup pa_nil) pa_nil)))
 (pss_cons (ps_for PassesOwn.never rfl (pi_range1 (by rfl) T.z_range (pa_cons (pv 0) pa_nil)) (pg_name (i := 3) sc__law_all.nd rfl (by first | exact Or.inl rfl | exact Or.inr rfl))
 (pss_one (ps_set (i := 2) sc__law_all.nd rfl (by first | exact Or.inl rfl | exact Or.inr rfl) (pe_op op_cat (pv 2) (pe_lc (own := [("_law_lot", 4)]) (g := gName 4)  rfl sc__law_all.nd (k_piL K (pv 2)) (blkOk_by (own := [("_law_lot", 4)]) (N := ["_law_many", "_law_wide", "_law_found", "_law_hand", "_law_lot"]) (sc := (defScope s__law_all)) (by decide +kernel)) (fun _ _ _ _ _ => (pg_name (i := 4) sc__law_all.nd rfl (by first | exact Or.inl rfl | exact Or.inr rfl))) (fun _ _ _ _ _ => pts_one (pt_cmpR op_lt (pe_callB (k_len K) (by rfl) T.z_len (by decide +kernel) (pa_cons (pv 4) pa_nil)) (pv 1) (nomark _))) (fun _ _ _ _ _ => (pe_op (k_catA K) (pv 4) (pe_tup (pa_cons (pv 3) pa_nil)))))))))
 (pss_one (ps_ret (pe_lc (own := [("_law_lot", 4)]) (g := gName 4)  rfl sc__law_all.nd (k_piL K (pv 2)) (blkOk_by (own := [("_law_lot", 4)]) (N := ["_law_many", "_law_wide", "_law_found", "_law_hand", "_law_lot"]) (sc := (defScope s__law_all)) (by decide +kernel)) (fun _ _ _ _ _ => (pg_name (i := 4) sc__law_all.nd rfl (by first | exact Or.inl rfl | exact Or.inr rfl))) (fun _ _ _ _ _ => pts_one (pt_cmpR (k_eqD K hr.units) (pe_callB (k_len K) (by rfl) T.z_len (by decide +kernel) (pa_cons (pv 4) pa_nil)) (pv 1) (nomark _))) (fun _ _ _ _ _ => (pv 4))))))),
   body_ok (N := ["_law_many", "_law_wide", "_law_found", "_law_hand", "_law_lot"]) (by decide) (r_seq (r_set (RO.e (r_lst (r_cons (r_tup r_nil) r_nil))))
 (r_seq (r_for (i_rng1 (r_cons (r_var 0) r_nil)) g_name
 (r_set (RO.e (r_opO o_catL (r_var 2) (RE.q (RO.e (r_lc (vs := [4]) (i_list (r_var 2)) (w_name (by decide)) (r_tTest (r_op o_lt (r_c1 c_len (RE.q (r_var 4))) (RE.q (r_var 1)))) (r_op o_catT (r_var 4) (RE.q (r_tup (r_cons (r_var 3) r_nil)))))))))))
 (r_retO (r_lc (vs := [4]) (i_list (r_var 2)) (w_name (by decide)) (r_tTest (r_op o_eq (r_c1 c_len (RE.q (r_var 4))) (RE.q (r_var 1)))) (r_var 4))))) (h.to g_all_ok)⟩

theorem ok_right {f : Addr} {fd : FuncData} (F : Fun K "_law_right" "_law_right" s__law_right f fd) (T : Txt K mg) (W : Tbs K mg base) : FnG P w K mg base CX0 8 f fd ["_law_pot_here"] (SpM K [true] g_right) := by
  obtain ⟨f_pick, fd_pick, D_pick⟩ := T.d_pick
  have G_pick : FnG P w K mg base CX0 2 f_pick fd_pick _ _ := ok_pick D_pick.F T W
  obtain ⟨f_take, fd_take, D_take⟩ := T.d_take
  have G_take : FnG P w K mg base CX0 1 f_take fd_take _ _ := ok_take D_take.F T W
  obtain ⟨f_pick_b, fd_pick_b, D_pick_b⟩ := T.d_pick
  have G_pick_b : FnG P w K mg base CX0 2 f_pick_b fd_pick_b _ _ := ok_pick_b D_pick_b.F T W
  obtain ⟨f_outer, fd_outer, D_outer⟩ := T.d_outer
  have G_outer : FnG P w K mg base CX0 7 f_outer fd_outer _ _ := ok_outer D_outer.F T W
  obtain ⟨f_orders, fd_orders, D_orders⟩ := T.d_orders
  have G_orders : FnG P w K mg base CX0 1 f_orders fd_orders _ _ := ok_orders D_orders.F T W
  obtain ⟨f_all, fd_all, D_all⟩ := T.d_all
  have G_all : FnG P w K mg base CX0 1 f_all fd_all _ _ := ok_all D_all.F T W
  obtain ⟨f_minor, fd_minor, D_minor⟩ := T.d_minor
  have G_minor : FnG P w K mg base CX0 1 f_minor fd_minor _ _ := ok_minor D_minor.F T W
  obtain ⟨f_part, fd_part, D_part⟩ := T.d_part
  have G_part : FnG P w K mg base CX0 1 f_part fd_part _ _ := ok_part D_part.F T W
  refine FnG.by0 F sc__law_right (fun vs H Q E h => h.len) (fun cdv A outer s H vs Q E hr gd h => ?_)
  have hu := room70 hr
  exact ⟨_, (pss_cons (ps_set (i := 1) sc__law_right.nd rfl (by first | exact Or.inl rfl | exact Or.inr rfl) (pg_call G_pick (hr.mono (by decide)) gd (by rfl) D_pick.g D_pick.F.kp D_pick.b pass0 (pa_cons (pv 0) (pa_cons (pe_lst (pa_cons pe_int (pa_cons pe_int (pa_cons pe_int (pa_cons pe_int (pa_cons pe_int (pa_cons pe_int pa_nil))))))) pa_nil))))
 (pss_cons (ps_set (i := 2) sc__law_right.nd rfl (by first | exact Or.inl rfl | exact Or.inr rfl) (pe_op op_add pe_int (pg_call G_take (hr.mono (by decide)) gd (by rfl) D_take.g D_take.F.kp D_take.b pass0 (pa_cons (pv 0) (pa_cons pe_int pa_nil)))))
 (pss_cons (ps_set (i := 3) sc__law_right.nd rfl (by first | exact Or.inl rfl | exact Or.inr rfl) (pe_lst pa_nil))
 (pss_cons (ps_for PassesOwn.never rfl (pi_range1 (by rfl) T.z_range (pa_cons (pe_op op_add pe_int (pg_call G_take (hr.mono (by decide)) gd (by rfl) D_take.g D_take.F.kp D_take.b pass0 (pa_cons (pv 0) (pa_cons pe_int pa_nil)))) pa_nil)) (pg_name (i := 4) sc__law_right.nd rfl (by first | exact Or.inl rfl | exact Or.inr rfl))
 (pss_cons (ps_setLc (i := 5) (own := [("_law_hand", 6)]) (g := gName 6) (tt := tYes) rfl sc__law_right.nd rfl rfl (sw_true rfl rfl rfl (by decide +kernel)) (pi_range1 (by rfl) T.z_range (pa_cons (pv 2) pa_nil)) (blkOk_by (own := [("_law_hand", 6)]) (N := ["_law_pot_here", "_law_base", "_law_many", "_law_rows", "_law_turn", "_law_row", "_law_hand", "_law_at", "_law_number", "_law_whole", "_law_wide", "_law_orders_here", "_law_due", "_law_lot"]) (sc := (defScope s__law_right)) (by decide +kernel)) (fun _ _ _ _ _ => (pg_name (i := 6) sc__law_right.nd rfl (by first | exact Or.inl rfl | exact Or.inr rfl))) (fun _ _ _ _ _ => pts_nil) (fun _ _ _ _ _ => (pg_call G_pick (hr.mono (by decide)) gd (by rfl) D_pick.g D_pick.F.kp D_pick.b pass0 (pa_cons (pv 0) (pa_cons (pe_lst (pa_cons pe_int (pa_cons pe_int (pa_cons (pe_op op_sub (pv 1) pe_int) (pa_cons (pg_call G_take (hr.mono (by decide)) gd (by rfl) D_take.g D_take.F.kp D_take.b pass0 (pa_cons (pv 0) (pa_cons (pv 1) pa_nil))) pa_nil))))) pa_nil)))))
 (pss_cons (ps_if (PW.pt (pw_and (pt_cmpR (k_neD K hr.units) (pv 3) (pe_lst pa_nil) (nomark _)) (pw_and1 (pt_cmpR (k_eqD K hr.units) (pg_call G_take (hr.mono (by decide)) gd (by rfl) D_take.g D_take.F.kp D_take.b pass0 (pa_cons (pv 0) (pa_cons pe_int pa_nil))) pe_int (nomark _)))))
 (pss_one (ps_setLc (i := 5) (own := [("_law_at", 7), ("_law_number", 8)]) (g := gTup K 2 (gCons (gName 7) ((gCons (gName 8) (gNil))))) (tt := tYes) rfl sc__law_right.nd rfl rfl (sw_true rfl rfl rfl (by decide +kernel)) (k_enum K (by rfl) T.z_enumerate (pa_cons (pg_call G_pick_b (hr.mono (by decide)) gd (by rfl) D_pick_b.g D_pick_b.F.kp D_pick_b.b pass0 (pa_cons (pv 0) (pa_cons (pv 3) pa_nil))) pa_nil)) (blkOk_by (own := [("_law_at", 7), ("_law_number", 8)]) (N := ["_law_pot_here", "_law_base", "_law_many", "_law_rows", "_law_turn", "_law_row", "_law_hand", "_law_at", "_law_number", "_law_whole", "_law_wide", "_law_orders_here", "_law_due", "_law_lot"]) (sc := (defScope s__law_right)) (by decide +kernel)) (fun _ _ _ _ _ => (k_pgT K rfl (pgs_cons (pg_name (i := 7) sc__law_right.nd rfl (by first | exact Or.inl rfl | exact Or.inr rfl)) (pgs_cons (pg_name (i := 8) sc__law_right.nd rfl (by first | exact Or.inl rfl | exact Or.inr rfl)) pgs_nil)))) (fun _ _ _ _ _ => pts_nil) (fun _ _ _ _ _ => (pe_op op_mod (pe_op op_add (pv 8) (pe_ix (k_ixL K) (pe_ix (k_ixL K) (pv 3) pe_int (fun _ _ => rfl)) (pv 7) (fun _ _ => rfl))) (pv 1)))))
 pss_nil)
 (pss_one (ps_expr (pe_bm PySem.F.plainAttrs_list PySem.F.slot_list_append PySem.F.type_list_append mt_append (pv 3) (pa_cons (pv 5) pa_nil)))))))
 (pss_cons (ps_set (i := 9) sc__law_right.nd rfl (by first | exact Or.inl rfl | exact Or.inr rfl) (pe_tup (pa_cons (pe_tup (pa_cons (pe_tup pa_nil) (pa_cons pe_int pa_nil))) pa_nil)))
 (pss_cons (ps_for PassesOwn.never rfl (k_piL K (pv 3)) (pg_name (i := 5) sc__law_right.nd rfl (by first | exact Or.inl rfl | exact Or.inr rfl))
 (pss_one (ps_set (i := 9) sc__law_right.nd rfl (by first | exact Or.inl rfl | exact Or.inr rfl) (pg_call G_outer (hr.mono (by decide)) gd (by rfl) D_outer.g D_outer.F.kp D_outer.b pass0 (pa_cons (pv 1) (pa_cons (pv 9) (pa_cons (pe_callTy (k_tuple K) (by rfl) T.z_tuple (by decide +kernel) (pa_cons (pe_lc (own := [("_law_hand", 6), ("_law_number", 8)]) (g := gTup K 2 (gCons (gName 6) ((gCons (gName 8) (gNil)))))  rfl sc__law_right.nd (k_enum K (by rfl) T.z_enumerate (pa_cons (pv 5) pa_nil)) (blkOk_by (own := [("_law_hand", 6), ("_law_number", 8)]) (N := ["_law_pot_here", "_law_base", "_law_many", "_law_rows", "_law_turn", "_law_row", "_law_hand", "_law_at", "_law_number", "_law_whole", "_law_wide", "_law_orders_here", "_law_due", "_law_lot"]) (sc := (defScope s__law_right)) (by decide +kernel)) (fun _ _ _ _ _ => (k_pgT K rfl (pgs_cons (pg_name (i := 6) sc__law_right.nd rfl (by first | exact Or.inl rfl | exact Or.inr rfl)) (pgs_cons (pg_name (i := 8) sc__law_right.nd rfl (by first | exact Or.inl rfl | exact Or.inr rfl)) pgs_nil)))) (fun _ _ _ _ _ => pts_one (pt_cmpR op_gt (pv 8) pe_int (nomark _))) (fun _ _ _ _ _ => (pe_tup (pa_cons (pe_tup (pa_cons (pv 6) pa_nil)) (pa_cons (pv 8) pa_nil))))) pa_nil)) pa_nil)))))))
 (pss_cons (ps_par (by rfl) sc__law_right.nd (i := 10) (j := 11) rfl rfl (by decide) rfl rfl (pa_cons (pe_callB (k_len K) (by rfl) T.z_len (by decide +kernel) (pa_cons (pv 3) pa_nil)) (pa_cons (pg_call G_orders (hr.mono (by decide)) gd (by rfl) D_orders.g D_orders.F.kp D_orders.b pass0 (pa_cons (pe_callB (k_len K) (by rfl) T.z_len (by decide +kernel) (pa_cons (pv 3) pa_nil)) pa_nil)) pa_nil)) (by rfl))
 (pss_cons (ps_if (pt_cmpR op_gt (pv 10) (pv 2) (nomark _))
 (pss_one (ps_ret (pe_cmpR (k_eqD K hr.units) (pv 9) (pe_tup pa_nil) (nomark _))))
 pss_nil)
 (pss_cons (ps_set (i := 12) sc__law_right.nd rfl (by first | exact Or.inl rfl | exact Or.inr rfl) pe_dnewT)
 (pss_cons (ps_for PassesOwn.never rfl (k_piL K (pg_call G_all (hr.mono (by decide)) gd (by rfl) D_all.g D_all.F.kp D_all.b pass0 (pa_cons (pv 2) (pa_cons (pv 10) pa_nil)))) (pg_name (i := 13) sc__law_right.nd rfl (by first | exact Or.inl rfl | exact Or.inr rfl))
 (pss_cons (ps_dput (hu_of hr) (pv 12) (pv 13) (pg_call G_minor (hr.mono (by decide)) gd (by rfl) D_minor.g D_minor.F.kp D_minor.b pass0 (pa_cons (pv 1) (pa_cons (pv 3) (pa_cons (pv 13) (pa_cons (pv 11) pa_nil))))) rfl)
 (pss_one (ps_if (pt_cmpR (k_neD K hr.units) (pg_call G_part (hr.mono (by decide)) gd (by rfl) D_part.g D_part.F.kp D_part.b pass0 (pa_cons (pv 9) (pa_cons (pv 13) pa_nil))) (pe_dget (hu_of hr) (pv 12) (pv 13) (fun _ _ => rfl)) (nomark _))
 (pss_one (ps_ret pe_bl))
 pss_nil))))
 (pss_one (ps_ret (pe_cmpR (k_eqD K hr.units) (pv 9) (pe_callTy (k_tuple K) (by rfl) T.z_tuple (by decide +kernel) (pa_cons (pe_lc (own := [("_law_lot", 13)]) (g := gName 13)  rfl sc__law_right.nd (k_piL K (pe_callB (k_sortedDT K rfl hu) (by rfl) T.z_sorted (by decide +kernel) (pa_cons (pv 12) pa_nil))) (blkOk_by (own := [("_law_lot", 13)]) (N := ["_law_pot_here", "_law_base", "_law_many", "_law_rows", "_law_turn", "_law_row", "_law_hand", "_law_at", "_law_number", "_law_whole", "_law_wide", "_law_orders_here", "_law_due", "_law_lot"]) (sc := (defScope s__law_right)) (by decide +kernel)) (fun _ _ _ _ _ => (pg_name (i := 13) sc__law_right.nd rfl (by first | exact Or.inl rfl | exact Or.inr rfl))) (fun _ _ _ _ _ => pts_one (pt_cmpR op_gt (pe_dget (hu_of hr) (pv 12) (pv 13) (fun _ _ => rfl)) pe_int (nomark _))) (fun _ _ _ _ _ => (pe_tup (pa_cons (pv 13) (pa_cons (pe_dget (hu_of hr) (pv 12) (pv 13) (fun _ _ => rfl)) pa_nil))))) pa_nil)) (nomark _)))))))))))))),
   body_ok (N := ["_law_pot_here", "_law_base", "_law_many", "_law_rows", "_law_turn", "_law_row", "_law_hand", "_law_at", "_law_number", "_law_whole", "_law_wide", "_law_orders_here", "_law_due", "_law_lot"]) (by decide) (r_seq (r_set (r_call (a_sl (i := 0) (a_val (RO.e (r_lst (r_cons r_int (r_cons r_int (r_cons r_int (r_cons r_int (r_cons r_int (r_cons r_int r_nil)))))))) a_nil))))
 (r_seq (r_set (r_op o_add r_int (RE.q (r_call (a_sl (i := 0) (a_val r_int a_nil))))))
 (r_seq (r_setO (r_lst r_nil))
 (r_seq (r_for (i_rng1 (r_cons (r_op o_add r_int (RE.q (r_call (a_sl (i := 0) (a_val r_int a_nil))))) r_nil)) g_name
 (r_seq (r_set (RO.e (r_lc (vs := [6]) (i_rng1 (r_cons (r_var 2) r_nil)) (w_name (by decide)) r_yes (r_call (a_sl (i := 0) (a_val (RO.e (r_lst (r_cons r_int (r_cons r_int (r_cons (r_op o_sub (r_var 1) (RE.q r_int)) (r_cons (r_call (a_sl (i := 0) (a_val (r_var 1) a_nil))) r_nil)))))) a_nil))))))
 (r_seq (r_ifS (r_and (r_tTest (r_opP (i := 3) o_ne (RE.q (RO.e (r_lst r_nil))))) (r_tTest (r_op o_eq (r_call (a_sl (i := 0) (a_val r_int a_nil))) (RE.q r_int))))
 (r_set (RO.e (r_lc (vs := [7, 8]) (i_enum (r_call (a_sl (i := 0) (a_sl (i := 3) a_nil)))) (w_tup (w_cons (w_name (by decide)) (w_cons (w_name (by decide)) w_nil))) r_yes (r_op o_mod (r_op o_add (r_var 8) (RE.q (r_op o_ixL (r_opP (i := 3) o_ixL (RE.q r_int)) (RE.q (r_var 7))))) (RE.q (r_var 1))))))
 r_next)
 (r_app (i := 3) (r_var 5)))))
 (r_seq (r_set (r_tup (r_cons (r_tup (r_cons (r_tup r_nil) (r_cons r_int r_nil))) r_nil)))
 (r_seq (r_for (i_list (r_var 3)) g_name
 (r_set (r_call (a_val (r_var 1) (a_val (r_var 9) (a_val (r_c1 c_tuple (RE.q (RO.e (r_lc (vs := [6, 8]) (i_enum (r_var 5)) (w_tup (w_cons (w_name (by decide)) (w_cons (w_name (by decide)) w_nil))) (r_tTest (r_op o_gt (r_var 8) (RE.q r_int))) (r_tup (r_cons (r_tup (r_cons (r_var 6) r_nil)) (r_cons (r_var 8) r_nil))))))) a_nil))))))
 (r_seq (r_par (r_cons (r_c1 c_len (RE.q (r_var 3))) (r_cons (r_call (a_val (r_c1 c_len (RE.q (r_var 3))) a_nil)) r_nil)))
 (r_seq (r_ifS (r_tTest (r_op o_gt (r_var 10) (RE.q (r_var 2))))
 (r_ret (r_op o_eq (r_var 9) (RE.q (r_tup r_nil))))
 r_next)
 (r_seq (r_setO r_dnewT)
 (r_seq (r_for (i_list (RO.e (r_callO (a_val (r_var 2) (a_val (r_var 10) a_nil))))) g_name
 (r_seq (r_dput (i := 12) (r_var 13) (r_call (a_val (r_var 1) (a_val (r_var 3) (a_val (r_var 13) (a_val (r_var 11) a_nil))))))
 (r_ifS (r_tTest (r_op o_ne (r_call (a_val (r_var 9) (a_val (r_var 13) a_nil))) (RE.q (r_dgetP (i := 12) (RE.q (r_var 13))))))
 (r_ret r_bl)
 r_next)))
 (r_ret (r_op o_eq (r_var 9) (RE.q (r_c1 c_tuple (RE.q (RO.e (r_lc (vs := [13]) (i_list (RO.e (r_c1o c_sortedDT (r_peek 12)))) (w_name (by decide)) (r_tTest (r_op o_gt (r_dgetP (i := 12) (RE.q (r_var 13))) (RE.q r_int))) (r_tup (r_cons (r_var 13) (r_cons (r_dgetP (i := 12) (RE.q (r_var 13))) r_nil)))))))))))))))))))) (h.to g_right_ok)⟩

theorem ok_law {f : Addr} {fd : FuncData} (F : Fun K "law" "law" s_law f fd) (T : Txt K mg) (W : Tbs K mg base) : FnG P w K mg base CX0 9 f fd ["_law_script"] (SpM K [false] g_law) := by
  obtain ⟨f_right, fd_right, D_right⟩ := T.d_right
  have G_right : FnG P w K mg base CX0 8 f_right fd_right _ _ := ok_right D_right.F T W
  obtain ⟨f_pot, fd_pot, D_pot⟩ := T.d_pot
  have G_pot : FnG P w K mg base CX0 1 f_pot fd_pot _ _ := ok_pot D_pot.F T W
  refine FnG.by0 F sc_law (fun vs H Q E h => h.len) (fun cdv A outer s H vs Q E hr gd h => ?_)
  have hu := room70 hr
  exact ⟨_, (pss_one (ps_ret (pe_callB (k_all K rfl) (by rfl) T.z_all (by decide +kernel) (pa_cons (pe_lc (own := [("_law_k", 1)]) (g := gName 1) (tt := tYes) rfl sc_law.nd (pi_range1 (by rfl) T.z_range (pa_cons (pe_callB (call_max2 rfl) (by rfl) T.z_max (by decide +kernel) (pa_cons pe_int (pa_cons (pe_callB (call_min2 rfl) (by rfl) T.z_min (by decide +kernel) (pa_cons (pe_callB (k_len K) (by rfl) T.z_len (by decide +kernel) (pa_cons (pv 0) pa_nil)) (pa_cons pe_int pa_nil))) pa_nil))) pa_nil)) (blkOk_by (own := [("_law_k", 1)]) (N := ["_law_script", "_law_k"]) (sc := (defScope s_law)) (by decide +kernel)) (fun _ _ _ _ _ => (pg_name (i := 1) sc_law.nd rfl (by first | exact Or.inl rfl | exact Or.inr rfl))) (fun _ _ _ _ _ => pts_nil) (fun _ _ _ _ _ => (pg_call G_right (hr.mono (by decide)) gd (by rfl) D_right.g D_right.F.kp D_right.b pass0 (pa_cons (pg_call G_pot (hr.mono (by decide)) gd (by rfl) D_pot.g D_pot.F.kp D_pot.b pass0 (pa_cons (pv 0) (pa_cons (pv 1) pa_nil))) pa_nil)))) pa_nil)))),
   body_ok (N := ["_law_script", "_law_k"]) (by decide) (r_ret (r_c1 c_all (RE.q (RO.e (r_lc (vs := [1]) (i_rng1 (r_cons (r_cs c_max2 (r_cons r_int (r_cons (r_cs c_min2 (r_cons (r_c1 c_len (RE.q (r_var 0))) (r_cons r_int r_nil))) r_nil))) r_nil)) (w_name (by decide)) r_yes (r_callT (r_callO (a_val (r_var 0) (a_val (r_var 1) a_nil))) r_nil)))))) (h.to g_law_ok)⟩
theorem ok_lawS {f : Addr} {fd : FuncData} (F : Fun K "law" "law" s_law f fd) (T : Txt K mg) (W : Tbs K mg base) : FnG P w K mg base CX0 9 f fd ["_law_script"] (spLaw K) := (ok_law F T W).to fun _ _ _ _ h => law_sp law_true h
end
theorem all_mk {l : PySem.W.OpenLaw} {w : World} {K : PySem.W.Frag} {h : Heap} {mg : Str → Option Value} {fa f0 f1 f2 f3 f4 f5 f6 f7 f8 f9 f10 f11 f12 : Addr} (X : K.In h) (G : h.Ns mainGlobals mg) (hfa : mg "law" = some (.ref fa))
    {od0 an0 : Option Addr} {sl0 : Array (Option Value)} {oc0 kV0 dc0 pm0 cd0 ct0 : Value}
    (a0 : PySem.W.nsIn K mainGlobals "sign_of_many" = some (some (.ref f0))) (l0 : K.lookup f0 = some ⟨oc0, od0, .func (PySem.W.fnOf "sign_of_many" "sign_of_many" (defArgs s_sign_of_many) (defBody s_sign_of_many) (defScope s_sign_of_many) .none kV0 dc0 pm0 an0 cd0 ct0), sl0⟩) (c0 : PySem.W.codeIn K cd0 "sign_of_many" = true) (k0 : PySem.W.keepIn K (.ref f0) = true)
    {od1 an1 : Option Addr} {sl1 : Array (Option Value)} {oc1 kV1 dc1 pm1 cd1 ct1 : Value}
    (a1 : PySem.W.nsIn K mainGlobals "laid" = some (some (.ref f1))) (l1 : K.lookup f1 = some ⟨oc1, od1, .func (PySem.W.fnOf "laid" "laid" (defArgs s_laid) (defBody s_laid) (defScope s_laid) .none kV1 dc1 pm1 an1 cd1 ct1), sl1⟩) (c1 : PySem.W.codeIn K cd1 "laid" = true) (k1 : PySem.W.keepIn K (.ref f1) = true)
    {od2 an2 : Option Addr} {sl2 : Array (Option Value)} {oc2 kV2 dc2 pm2 cd2 ct2 : Value}
    (a2 : PySem.W.nsIn K mainGlobals "part" = some (some (.ref f2))) (l2 : K.lookup f2 = some ⟨oc2, od2, .func (PySem.W.fnOf "part" "part" (defArgs s_part) (defBody s_part) (defScope s_part) .none kV2 dc2 pm2 an2 cd2 ct2), sl2⟩) (c2 : PySem.W.codeIn K cd2 "part" = true) (k2 : PySem.W.keepIn K (.ref f2) = true)
    {od3 an3 : Option Addr} {sl3 : Array (Option Value)} {oc3 kV3 dc3 pm3  ct3 : Value} {cT3 : Addr}
    (a3 : PySem.W.nsIn K mainGlobals "gathered" = some (some (.ref f3))) (l3 : K.lookup f3 = some ⟨oc3, od3, .func (PySem.W.fnOf "gathered" "gathered" (defArgs s_gathered) (defBody s_gathered) (defScope s_gathered) .none kV3 dc3 pm3 an3 (.ref cT3) ct3), sl3⟩) (c3 : PySem.W.codeIn K (.ref cT3) "gathered" = true) (k3 : PySem.W.keepIn K (.ref f3) = true)
    {od4 an4 : Option Addr} {sl4 : Array (Option Value)} {oc4 kV4 dc4 pm4 cd4 ct4 : Value}
    (a4 : PySem.W.nsIn K mainGlobals "outer" = some (some (.ref f4))) (l4 : K.lookup f4 = some ⟨oc4, od4, .func (PySem.W.fnOf "outer" "outer" (defArgs s_outer) (defBody s_outer) (defScope s_outer) .none kV4 dc4 pm4 an4 cd4 ct4), sl4⟩) (c4 : PySem.W.codeIn K cd4 "outer" = true) (k4 : PySem.W.keepIn K (.ref f4) = true)
    {od5 an5 : Option Addr} {sl5 : Array (Option Value)} {oc5 kV5 dc5 pm5 cd5 ct5 : Value}
    (a5 : PySem.W.nsIn K mainGlobals "_law_pot" = some (some (.ref f5))) (l5 : K.lookup f5 = some ⟨oc5, od5, .func (PySem.W.fnOf "_law_pot" "_law_pot" (defArgs s__law_pot) (defBody s__law_pot) (defScope s__law_pot) .none kV5 dc5 pm5 an5 cd5 ct5), sl5⟩) (c5 : PySem.W.codeIn K cd5 "_law_pot" = true) (k5 : PySem.W.keepIn K (.ref f5) = true)
    {od6 an6 : Option Addr} {sl6 : Array (Option Value)} {oc6 kV6 dc6 pm6 cd6 ct6 : Value}
    (a6 : PySem.W.nsIn K mainGlobals "_law_take" = some (some (.ref f6))) (l6 : K.lookup f6 = some ⟨oc6, od6, .func (PySem.W.fnOf "_law_take" "_law_take" (defArgs s__law_take) (defBody s__law_take) (defScope s__law_take) .none kV6 dc6 pm6 an6 cd6 ct6), sl6⟩) (c6 : PySem.W.codeIn K cd6 "_law_take" = true) (k6 : PySem.W.keepIn K (.ref f6) = true)
    {od7 an7 : Option Addr} {sl7 : Array (Option Value)} {oc7 kV7 dc7 pm7 cd7 ct7 : Value}
    (a7 : PySem.W.nsIn K mainGlobals "_law_pick" = some (some (.ref f7))) (l7 : K.lookup f7 = some ⟨oc7, od7, .func (PySem.W.fnOf "_law_pick" "_law_pick" (defArgs s__law_pick) (defBody s__law_pick) (defScope s__law_pick) .none kV7 dc7 pm7 an7 cd7 ct7), sl7⟩) (c7 : PySem.W.codeIn K cd7 "_law_pick" = true) (k7 : PySem.W.keepIn K (.ref f7) = true)
    {od8 an8 : Option Addr} {sl8 : Array (Option Value)} {oc8 kV8 dc8 pm8 cd8 ct8 : Value}
    (a8 : PySem.W.nsIn K mainGlobals "_law_orders" = some (some (.ref f8))) (l8 : K.lookup f8 = some ⟨oc8, od8, .func (PySem.W.fnOf "_law_orders" "_law_orders" (defArgs s__law_orders) (defBody s__law_orders) (defScope s__law_orders) .none kV8 dc8 pm8 an8 cd8 ct8), sl8⟩) (c8 : PySem.W.codeIn K cd8 "_law_orders" = true) (k8 : PySem.W.keepIn K (.ref f8) = true)
    {od9 an9 : Option Addr} {sl9 : Array (Option Value)} {oc9 kV9 dc9 pm9 cd9 ct9 : Value}
    (a9 : PySem.W.nsIn K mainGlobals "_law_minor" = some (some (.ref f9))) (l9 : K.lookup f9 = some ⟨oc9, od9, .func (PySem.W.fnOf "_law_minor" "_law_minor" (defArgs s__law_minor) (defBody s__law_minor) (defScope s__law_minor) .none kV9 dc9 pm9 an9 cd9 ct9), sl9⟩) (c9 : PySem.W.codeIn K cd9 "_law_minor" = true) (k9 : PySem.W.keepIn K (.ref f9) = true)
    {od10 an10 : Option Addr} {sl10 : Array (Option Value)} {oc10 kV10 dc10 pm10 cd10 ct10 : Value}
    (a10 : PySem.W.nsIn K mainGlobals "_law_all" = some (some (.ref f10))) (l10 : K.lookup f10 = some ⟨oc10, od10, .func (PySem.W.fnOf "_law_all" "_law_all" (defArgs s__law_all) (defBody s__law_all) (defScope s__law_all) .none kV10 dc10 pm10 an10 cd10 ct10), sl10⟩) (c10 : PySem.W.codeIn K cd10 "_law_all" = true) (k10 : PySem.W.keepIn K (.ref f10) = true)
    {od11 an11 : Option Addr} {sl11 : Array (Option Value)} {oc11 kV11 dc11 pm11 cd11 ct11 : Value}
    (a11 : PySem.W.nsIn K mainGlobals "_law_right" = some (some (.ref f11))) (l11 : K.lookup f11 = some ⟨oc11, od11, .func (PySem.W.fnOf "_law_right" "_law_right" (defArgs s__law_right) (defBody s__law_right) (defScope s__law_right) .none kV11 dc11 pm11 an11 cd11 ct11), sl11⟩) (c11 : PySem.W.codeIn K cd11 "_law_right" = true) (k11 : PySem.W.keepIn K (.ref f11) = true)
    {od12 an12 : Option Addr} {sl12 : Array (Option Value)} {oc12 kV12 dc12 pm12 cd12 ct12 : Value}
    (a12 : PySem.W.nsIn K mainGlobals "law" = some (some (.ref f12))) (l12 : K.lookup f12 = some ⟨oc12, od12, .func (PySem.W.fnOf "law" "law" (defArgs s_law) (defBody s_law) (defScope s_law) .none kV12 dc12 pm12 an12 cd12 ct12), sl12⟩) (c12 : PySem.W.codeIn K cd12 "law" = true) (k12 : PySem.W.keepIn K (.ref f12) = true)
    {Pt3 : Addr} {oT3 : Value} {dT3 : Option Addr} {vT3 : Array Value} {sT3 : Array (Option Value)} (lT3 : K.lookup cT3 = some ⟨oT3, dT3, .fields vT3, sT3⟩) (vP3 : vT3[11]? = some (.ref Pt3)) (nP3 : K.lookup Pt3 = none)
    (z_abs : PySem.W.nsIn K mainGlobals "abs" = some none)
    (z_all : PySem.W.nsIn K mainGlobals "all" = some none)
    (z_any : PySem.W.nsIn K mainGlobals "any" = some none)
    (z_enumerate : PySem.W.nsIn K mainGlobals "enumerate" = some none)
    (z_len : PySem.W.nsIn K mainGlobals "len" = some none)
    (z_max : PySem.W.nsIn K mainGlobals "max" = some none)
    (z_min : PySem.W.nsIn K mainGlobals "min" = some none)
    (z_range : PySem.W.nsIn K mainGlobals "range" = some none)
    (z_sorted : PySem.W.nsIn K mainGlobals "sorted" = some none)
    (z_sum : PySem.W.nsIn K mainGlobals "sum" = some none)
    (z_tuple : PySem.W.nsIn K mainGlobals "tuple" = some none) :
    ∃ (fd : FuncData) (cs : List (Addr × Addr)) (sp : Sp), (∀ c ∈ cs, ∃ y ∈ (["gathered"] : List Str), PySem.W.tabIn K y = some c) ∧ (∀ c ∈ cs, K.lookup c.2 = none) ∧
        (∀ (s : Shared) (u : Value), BindsTo s fd ⟨[u], []⟩ [("_law_script", u)]) ∧
        (∀ (H : Hp) (a : Addr) (ns : List Int), ns.length ≤ 63 → (∀ c ∈ cs, H c.2 = some (.tbl #[])) → SqL K H a (ns.map V.int) → sp [.ref a] H (fun v _ => v = .bl true) fun _ _ _ => False) ∧
        ∀ base : Heap, K.In base → base.Ns mainGlobals mg → (∀ c ∈ cs, GxR.TabB base mg c.1 c.2) → FnG l.prog w K mg base CX0 9 fa fd ["_law_script"] sp := by
  have e := hfa.symm.trans (PySem.W.mg_of X G a12)
  cases e
  have T : Txt K mg := ⟨⟨_, _, ⟨fun_mk (st := s_sign_of_many) l0 c0 k0, PySem.W.mg_of X G a0, (fun_mk (st := s_sign_of_many) l0 c0 k0).binds (ps := ["many"]) fun _ _ _ _ _ _ us hl => match us, hl with | [_], _ => rfl⟩⟩, ⟨_, _, ⟨fun_mk (st := s_laid) l1 c1 k1, PySem.W.mg_of X G a1, (fun_mk (st := s_laid) l1 c1 k1).binds (ps := ["one", "other"]) fun _ _ _ _ _ _ us hl => match us, hl with | [_, _], _ => rfl⟩⟩, ⟨_, _, ⟨fun_mk (st := s_part) l2 c2 k2, PySem.W.mg_of X G a2, (fun_mk (st := s_part) l2 c2 k2).binds (ps := ["sum_", "lot"]) fun _ _ _ _ _ _ us hl => match us, hl with | [_, _], _ => rfl⟩⟩, ⟨_, _, ⟨fun_mk (st := s_gathered) l3 c3 k3, PySem.W.mg_of X G a3, (fun_mk (st := s_gathered) l3 c3 k3).binds (ps := ["p", "rows"]) fun _ _ _ _ _ _ us hl => match us, hl with | [_, _], _ => rfl⟩⟩, ⟨_, _, ⟨fun_mk (st := s_outer) l4 c4 k4, PySem.W.mg_of X G a4, (fun_mk (st := s_outer) l4 c4 k4).binds (ps := ["p", "one", "other"]) fun _ _ _ _ _ _ us hl => match us, hl with | [_, _, _], _ => rfl⟩⟩, ⟨_, _, ⟨fun_mk (st := s__law_pot) l5 c5 k5, PySem.W.mg_of X G a5, (fun_mk (st := s__law_pot) l5 c5 k5).binds (ps := ["_law_script", "_law_k"]) fun _ _ _ _ _ _ us hl => match us, hl with | [_, _], _ => rfl⟩⟩, ⟨_, _, ⟨fun_mk (st := s__law_take) l6 c6 k6, PySem.W.mg_of X G a6, (fun_mk (st := s__law_take) l6 c6 k6).binds (ps := ["_law_pot_here", "_law_size"]) fun _ _ _ _ _ _ us hl => match us, hl with | [_, _], _ => rfl⟩⟩, ⟨_, _, ⟨fun_mk (st := s__law_pick) l7 c7 k7, PySem.W.mg_of X G a7, (fun_mk (st := s__law_pick) l7 c7 k7).binds (ps := ["_law_pot_here", "_law_some"]) fun _ _ _ _ _ _ us hl => match us, hl with | [_, _], _ => rfl⟩⟩, ⟨_, _, ⟨fun_mk (st := s__law_orders) l8 c8 k8, PySem.W.mg_of X G a8, (fun_mk (st := s__law_orders) l8 c8 k8).binds (ps := ["_law_many"]) fun _ _ _ _ _ _ us hl => match us, hl with | [_], _ => rfl⟩⟩, ⟨_, _, ⟨fun_mk (st := s__law_minor) l9 c9 k9, PySem.W.mg_of X G a9, (fun_mk (st := s__law_minor) l9 c9 k9).binds (ps := ["_law_base", "_law_rows", "_law_lot", "_law_orders_here"]) fun _ _ _ _ _ _ us hl => match us, hl with | [_, _, _, _], _ => rfl⟩⟩, ⟨_, _, ⟨fun_mk (st := s__law_all) l10 c10 k10, PySem.W.mg_of X G a10, (fun_mk (st := s__law_all) l10 c10 k10).binds (ps := ["_law_many", "_law_wide"]) fun _ _ _ _ _ _ us hl => match us, hl with | [_, _], _ => rfl⟩⟩, ⟨_, _, ⟨fun_mk (st := s__law_right) l11 c11 k11, PySem.W.mg_of X G a11, (fun_mk (st := s__law_right) l11 c11 k11).binds (ps := ["_law_pot_here"]) fun _ _ _ _ _ _ us hl => match us, hl with | [_], _ => rfl⟩⟩, PySem.W.mg_none_of X G z_abs, PySem.W.mg_none_of X G z_all, PySem.W.mg_none_of X G z_any, PySem.W.mg_none_of X G z_enumerate, PySem.W.mg_none_of X G z_len, PySem.W.mg_none_of X G z_max, PySem.W.mg_none_of X G z_min, PySem.W.mg_none_of X G z_range, PySem.W.mg_none_of X G z_sorted, PySem.W.mg_none_of X G z_sum, PySem.W.mg_none_of X G z_tuple⟩
  have tb3 : PySem.W.tabIn K "gathered" = some (cT3, Pt3) := by
    unfold PySem.W.tabIn
    rw [a3]
    dsimp only
    rw [l3]
    dsimp only [PySem.W.fnOf]
    rw [lT3]
    dsimp only
    rw [vP3]
  have mt3 : Pt3 ∈ tabs K := List.mem_filterMap.mpr ⟨"gathered", by decide, by rw [tb3]; rfl⟩
  have tabsEq : tabs K = [Pt3] := by
    unfold tabs gxNames
    simp only [List.filterMap_cons, List.filterMap_nil, tb3, Option.map_some]
  refine ⟨PySem.W.fnOf "law" "law" (defArgs s_law) (defBody s_law) (defScope s_law) .none kV12 dc12 pm12 an12 cd12 ct12, [(cT3, Pt3)], spLaw K, ?_, ?_, fun s v => .of_eq rfl, fun H a ns hn hH hS => ⟨a, ns, rfl, hS, hn, ?_, fun _ => rfl⟩, fun base _ _ hB => ok_lawS (fun_mk (st := s_law) l12 c12 k12) T ⟨⟨f3, _, cT3, Pt3, ⟨fun_mk (st := s_gathered) l3 c3 k3, PySem.W.mg_of X G a3, (fun_mk (st := s_gathered) l3 c3 k3).binds (ps := ["p", "rows"]) fun _ _ _ _ _ _ us hl => match us, hl with | [_, _], _ => rfl⟩, rfl, hB (cT3, Pt3) (by simp), mt3⟩⟩⟩
  · intro c hc
    simp only [List.mem_cons, List.not_mem_nil, or_false] at hc
    rcases hc with rfl
    · exact ⟨"gathered", by simp, tb3⟩
  · intro c hc
    simp only [List.mem_cons, List.not_mem_nil, or_false] at hc
    rcases hc with rfl
    · exact nP3
  · intro t ht
    rw [tabsEq] at ht
    simp only [List.mem_cons, List.not_mem_nil, or_false] at ht
    have zt := ht
    · rw [zt]; exact ⟨#[], hH (cT3, Pt3) (by simp), trivial⟩
end My
open PySem PySem.W PyProof.Rows
set_option maxRecDepth 100000 in
set_option maxHeartbeats 0 in
theorem PySem.Challenge.cw_lackcry_k12_whole_outer_sums_are_determi_holds : PySem.Challenge.rw_lackcry_k12_whole_outer_sums_are_determi.Holds := by
  w_on; o_law; k_head; (case hw => w_witness2)
  k_fill
  refine My.walkGT (l := PySem.Challenge.rw_lackcry_k12_whole_outer_sums_are_determi) (n := 63) (k := 9) (x := "_law_script") ["gathered"] rfl (by decide) rfl ⟨rfl, by decide, by decide⟩ (by simp only [List.mem_cons, List.not_mem_nil, or_false, forall_eq_or_imp, forall_eq]; exact ⟨_, rfl⟩) (fun w h Y => PySem.W.kIn_of Y) ?F
  case F =>
    intro w mg fa h KX G hmg
    refine' My.all_mk (l := PySem.Challenge.rw_lackcry_k12_whole_outer_sums_are_determi) (w := w) KX G hmg ?a0 ?l0 ?c0 ?k0 ?a1 ?l1 ?c1 ?k1 ?a2 ?l2 ?c2 ?k2 ?a3 ?l3 ?c3 ?k3 ?a4 ?l4 ?c4 ?k4 ?a5 ?l5 ?c5 ?k5 ?a6 ?l6 ?c6 ?k6 ?a7 ?l7 ?c7 ?k7 ?a8 ?l8 ?c8 ?k8 ?a9 ?l9 ?c9 ?k9 ?a10 ?l10 ?c10 ?k10 ?a11 ?l11 ?c11 ?k11 ?a12 ?l12 ?c12 ?k12 ?lT3 ?vP3 ?nP3 ?z_abs ?z_all ?z_any ?z_enumerate ?z_len ?z_max ?z_min ?z_range ?z_sorted ?z_sum ?z_tuple
    (case a0 => k_is); (case l0 => k_is); (case c0 => k_is); (case k0 => k_is); (case a1 => k_is); (case l1 => k_is); (case c1 => k_is); (case k1 => k_is); (case a2 => k_is); (case l2 => k_is); (case c2 => k_is); (case k2 => k_is); (case a3 => k_is); (case l3 => k_is); (case c3 => k_is); (case k3 => k_is); (case a4 => k_is); (case l4 => k_is); (case c4 => k_is); (case k4 => k_is); (case a5 => k_is); (case l5 => k_is); (case c5 => k_is); (case k5 => k_is); (case a6 => k_is); (case l6 => k_is); (case c6 => k_is); (case k6 => k_is); (case a7 => k_is); (case l7 => k_is); (case c7 => k_is); (case k7 => k_is); (case a8 => k_is); (case l8 => k_is); (case c8 => k_is); (case k8 => k_is); (case a9 => k_is); (case l9 => k_is); (case c9 => k_is); (case k9 => k_is); (case a10 => k_is); (case l10 => k_is); (case c10 => k_is); (case k10 => k_is); (case a11 => k_is); (case l11 => k_is); (case c11 => k_is); (case k11 => k_is); (case a12 => k_is); (case l12 => k_is); (case c12 => k_is); (case k12 => k_is); (case lT3 => k_is); (case vP3 => exact rfl); (case nP3 => exact rfl); (case z_abs => k_is); (case z_all => k_is); (case z_any => k_is); (case z_enumerate => k_is); (case z_len => k_is); (case z_max => k_is); (case z_min => k_is); (case z_range => k_is); (case z_sorted => k_is); (case z_sum => k_is); (case z_tuple => k_is)

