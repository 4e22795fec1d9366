import PyProof.Rows.All
import Wide.All
import OpenK.AllK
import Wide.FinOn
import HandS.ForMost
import HandS.IsInst
import HandS.Lambda
import HandS.Style
import HandS.Zip
import HandS.Conv
import HandS.SetKeys
import HandS.Exc
import HandS.TryOnly
import HandS.ExcOwn
import HandS.WordsExc
import HandS.Wide
import PySem.Challenge.RW_fewtouched_k02_scenes_made_and_asked
import HandS.Walk
import HandS.TupAny
import KE.KDictZip
import PyProof.ListNew
import PyProof.DictUpdate
import HandS.SetTxt0
import HandS.SetFor
import HandS.Strs
import PyProof.Rows.SortShellAny
import PyProof.TupleOfSeq
import HandS.ExcValue
import HandS.Comp
import HandS.SetBool
import PyProof.SetRoads
import HandS.DictComp
import HandS.Star
import HandS.MakeKwOnly
import HandS.ClsMeth
import HandS.OwnEq
import OpenK.KMeth
import OpenK.KOps
import KE.KCallOwn
import HandS.More
import HandS.IterNext
import PyProof.TupleIter
import HandS.OwnIter
import HandS.FStr
import HandS.DictEq
import HandS.NoneIn
import HandS.ListItems
import PyProof.ReprBulk
import HandS.Property
import HandS.Finally
import PyProof.ListStr
import HandS.EndTab
import HandS.HeadWalk
/-! ## B2_0 -/
set_option Elab.async false
set_option linter.all false
set_option maxRecDepth 100000
set_option maxHeartbeats 4000000
namespace B2_
open PySem PySem.Spec PyProof.Rows L2
def topS (i : Nat) : Stmt := PySem.Challenge.pw_fewtouched_k02_scenes_made_and_asked.main.body.getD i (.Pass ⟨0, 0, 0, 0⟩)

/-! ### heaps: all is kept but what stands at d -/
def But (d : Addr) (H H' : Hp) : Prop := ∀ b o, b ≠ d → H b = some o → H' b = some o
theorem But.refl (d : Addr) (H : Hp) : But d H H := fun _ _ _ h => h
theorem But.trans {d : Addr} {H H1 H2 : Hp} (a : But d H H1) (b : But d H1 H2) : But d H H2 := fun c o n h => b c o n (a c o n h)
theorem But.same {d : Addr} {H H1 : Hp} (a : Same H H1) : But d H H1 := fun c o _ h => a c o h
theorem But.new {d p : Addr} {H H1 : Hp} {o : HO} (a : But d H H1) (h : H1 p = none) : But d H (upd H1 p o) := fun c u n e => by
  rw [upd_ne (ne_of_none (a c u n e) h)]
  exact a c u n e
theorem But.put {d : Addr} {H H1 : Hp} {o : HO} (a : But d H H1) : But d H (upd H1 d o) := fun c u n e => by
  rw [upd_ne n]
  exact a c u n e
theorem Same.new {p : Addr} {H H1 : Hp} {o : HO} (a : Same H H1) (h : H1 p = none) : Same H (upd H1 p o) := fun c u e => by
  rw [upd_ne (ne_of_none (a c u e) h)]
  exact a c u e
/-- the dice at d: a list of three ints -/
def Dice (H : Hp) (d : Addr) : Prop := ∃ a b c : Int, H d = some (.lst [.int a, .int b, .int c])
theorem Dice.new {d p : Addr} {H : Hp} {o : HO} (a : Dice H d) (h : H p = none) : Dice (upd H p o) d := by
  obtain ⟨x, y, z, e⟩ := a
  exact ⟨x, y, z, by rw [upd_ne (ne_of_none e h)]; exact e⟩
theorem Dice.same {d : Addr} {H H' : Hp} (a : Dice H d) (s : Same H H') : Dice H' d := by
  obtain ⟨x, y, z, e⟩ := a
  exact ⟨x, y, z, s _ _ e⟩

/-! ### the text of the dice -/
abbrev s_roll : Stmt := topS 26
abbrev N_roll : List Str := ["dice", "upto", "found", "one", "two"]
theorem sc_roll : FnScope N_roll ["dice", "upto"] (defScope s_roll) := ⟨rfl, rfl, rfl, by decide +kernel, rfl, by decide +kernel, by decide +kernel⟩
/-- the roll: an int below upto -/
def spRoll : Sp := fun vs H Q _ => ∃ (d : Addr) (n : Int), vs = [.ref d, .int n] ∧ Dice H d ∧ 0 < n ∧ n < 1073741824 ∧ ∀ r H', 0 ≤ r → r < n → But d H H' → Dice H' d → Q (.int r) H'

/-- a def of the text that may be called: where it stands, what it promises -/
structure Callee (P : Program) (w : World) (K : PySem.W.Frag) (mg : Str → Option Value) (base : Heap) (CX : CXT) (k : Nat) (x : Str) (ps : List Str) (sp : Sp) : Prop where
  ex : ∃ f fd, mg x = some (.ref f) ∧ PySem.W.keepIn K (.ref f) = true ∧ FnOk P w K mg base CX k f fd ps sp ∧ Binds K fd ps []
section
variable {X : Cx}
theorem pe_use {CX : CXT} {k : Nat} {x : Str} {ps : List Str} {sp : Sp} {e : Expr} {es : List Expr} {t : TA} {E : XK} {p pos : Pos} (C : Callee X.prog X.w X.K X.mg X.base CX k x ps sp) (hr : Room k X.A) (hg : Gl X x) (hx : Passes CX X E) (ha : PA X (e :: es) t)
    (hd : (x == ("__debug__" : Str)) = false := by decide) (he : starEach (e :: es) X.env = (false, eval e X.env) :: starEach es X.env := by rfl)
    (hpl : (backTo pos (starEach es X.env)).any (·.1) = false := by rfl) :
    PE X (.Call (.Name x p) (e :: es) [] pos) (tCall sp [] E t) := by
  obtain ⟨f, fd, hm, hk, F, hb⟩ := C.ex
  exact pe_call F hr hg hm hk hb .nil hx ha (by assumption) (by assumption) (by assumption)
end
/-- the built-in names that the text calls -/
structure Names (mg : Str → Option Value) : Prop where
  int : mg "int" = none
  len : mg "len" = none
  abs : mg "abs" = none
  max : mg "max" = none
  min : mg "min" = none
  list : mg "list" = none
section
variable {P : Program} {w : World} {K : PySem.W.Frag} {mg : Str → Option Value} {base : Heap}
theorem ok_roll {f : Addr} {fd : FuncData} (F : Fun K "_law_roll" "_law_roll" s_roll f fd) (T : Names mg) : FnOk P w K mg base CX0 1 f fd ["dice", "upto"] spRoll := by
  have nd := sc_roll.nd
  refine F.ok sc_roll (fun vs H Q E h => ?_) (fun cdv A outer s H vs Q E hr h => ?_)
  · obtain ⟨d, n, rfl, _⟩ := h
    rfl
  · obtain ⟨d, n, rfl, ⟨a, b, c, hd⟩, n0, n1, k⟩ := h
    refine ⟨_, (pss_cons
    (ps_if (pt_cmpR op_gt (pe_ix ix_list (pv 0) pe_int (fun _ _ => rfl)) pe_int (nomark _)) (pss_cons
      (ps_set (i := 2) nd rfl (Or.inl rfl) (pe_op op_mod (pe_callTy call_int1 (by rfl) T.int (by decide +kernel) (pa_cons (pe_ix ix_list (pv 0) pe_int (fun _ _ => rfl)) pa_nil)) (pv 1)))
      (pss_cons
      (ps_asg (pe_op op_fdiv (pe_ix ix_list (pv 0) pe_int (fun _ _ => rfl)) (pv 1)) (pg_sub (pv 0) pe_int set_list))
      (pss_one
      (ps_ret (pv 2))))) pss_nil)
    (pss_cons
    (ps_asg (pe_op op_add (pe_ix ix_list (pv 0) pe_int (fun _ _ => rfl)) pe_int) (pg_sub (pv 0) pe_int set_list))
    (pss_cons
    (ps_set (i := 3) nd rfl (Or.inl rfl) (pe_op op_mod (pe_callTy call_int1 (by rfl) T.int (by decide +kernel) (pa_cons (pe_op op_add (pe_ix ix_list (pv 0) pe_int (fun _ _ => rfl)) (pe_op op_mul pe_int (pe_ix ix_list (pv 0) pe_int (fun _ _ => rfl)))) pa_nil)) pe_int))
    (pss_cons
    (ps_set (i := 4) nd rfl (Or.inl rfl) (pe_op op_add (pe_op op_mul (pe_op op_mod (pe_callTy call_int1 (by rfl) T.int (by decide +kernel) (pa_cons (pe_op op_mul (pv 3) (pv 3)) pa_nil)) pe_int) (pv 3)) (pe_op op_mul pe_int (pe_ix ix_list (pv 0) pe_int (fun _ _ => rfl)))))
    (pss_one
    (ps_ret (pe_op op_mod (pe_callTy call_int1 (by rfl) T.int (by decide +kernel) (pa_cons (pe_op op_fdiv (pe_op op_mod (pe_callTy call_int1 (by rfl) T.int (by decide +kernel) (pa_cons (pe_op op_add (pv 4) (pe_ix ix_list (pv 0) pe_int (fun _ _ => rfl))) pa_nil)) pe_int) pe_int) pa_nil)) (pv 1)))))))), ?_⟩
    refine ⟨_, rfl, d, _, _, _, rfl, rfl, SqL.of hd, at_of (j := 0) rfl rfl, _, _, rfl, rfl, _, rfl, ite2 (fun h0 => ?_) (fun h0 => ?_)⟩
    · refine ⟨_, rfl, d, _, _, _, rfl, rfl, SqL.of hd, at_of (j := 0) rfl rfl, .inl ⟨_, rfl, ?_⟩⟩
      refine ⟨_, rfl, _, _, rfl, rfl, n0, ?_⟩
      refine ⟨_, rfl, d, _, _, _, rfl, rfl, SqL.of hd, at_of (j := 0) rfl rfl, _, rfl, _, _, rfl, rfl, ⟨n0, n1⟩, ?_⟩
      refine ⟨_, rfl, d, _, _, 0, rfl, rfl, hd, rfl, ?_⟩
      exact ⟨_, rfl, k _ _ (Int.emod_nonneg _ (by omega)) (Int.emod_lt_of_pos _ n0) (But.refl d H).put ⟨_, _, _, upd_same⟩⟩
    · refine ⟨_, rfl, d, _, _, _, rfl, rfl, SqL.of hd, at_of (j := 2) rfl rfl, _, _, rfl, rfl, ?_⟩
      refine ⟨_, rfl, d, _, _, 2, rfl, rfl, hd, rfl, ?_⟩
      refine ⟨_, rfl, d, _, _, _, rfl, rfl, SqL.of upd_same, at_of (j := 1) rfl rfl, ?_⟩
      refine ⟨_, rfl, d, _, _, _, rfl, rfl, SqL.of upd_same, at_of (j := 2) rfl rfl, _, _, rfl, rfl, .inl (by decide), _, _, rfl, rfl, .inl ⟨_, rfl, ?_⟩⟩
      refine ⟨_, _, rfl, rfl, (by show (0 : Int) < 67280421310679; decide), ?_⟩
      have o0 := Int.emod_nonneg (b + 961748941 * (c + 1)) (b := 67280421310679) (by decide)
      have o1 := Int.emod_lt_of_pos (b + 961748941 * (c + 1)) (b := 67280421310679) (by decide)
      have rng : -(2 ^ 64) < (b + 961748941 * (c + 1)) % 67280421310679 ∧ (b + 961748941 * (c + 1)) % 67280421310679 < 2 ^ 64 := ⟨by omega, by omega⟩
      refine ⟨_, rfl, _, rfl, _, _, rfl, rfl, .inl rng, .inl ⟨_, rfl, ?_⟩⟩
      refine ⟨_, _, rfl, rfl, (by show (0 : Int) < 576460752303423389; decide), ?_⟩
      refine ⟨_, rfl, _, _, rfl, rfl, .inr rng, ?_⟩
      refine ⟨_, rfl, d, _, _, _, rfl, rfl, SqL.of upd_same, at_of (j := 2) rfl rfl, _, _, rfl, rfl, .inl (by decide), _, _, rfl, rfl, ?_⟩
      refine ⟨_, rfl, _, rfl, d, _, _, _, rfl, rfl, SqL.of upd_same, at_of (j := 1) rfl rfl, _, _, rfl, rfl, .inl ⟨_, rfl, ?_⟩⟩
      refine ⟨_, _, rfl, rfl, (by show (0 : Int) < 2199023255579; decide), ?_⟩
      refine ⟨_, _, rfl, rfl, ⟨by decide, by decide⟩, .inl ⟨_, rfl, ?_⟩⟩
      refine ⟨_, rfl, _, _, rfl, rfl, n0, ?_⟩
      exact k _ _ (Int.emod_nonneg _ (by omega)) (Int.emod_lt_of_pos _ n0) (But.refl d H).put ⟨_, _, _, upd_same⟩
end
end B2_

/-! ## B2_1 -/
set_option Elab.async false
set_option linter.all false
set_option maxRecDepth 100000
set_option maxHeartbeats 4000000
namespace B2_
open PySem PySem.Spec PyProof.Rows L2
/-- a list or a tuple that stands in H -/
def Its (H : Hp) (b : Addr) (xs : List V) : Prop := H b = some (.lst xs) ∨ H b = some (.tup xs)
theorem Its.seq {K : PySem.W.Frag} {H : Hp} {b : Addr} {xs : List V} (h : Its H b xs) : SqL K H b xs ∨ SqT K H b xs := h.elim (fun q => .inl (SqL.of q)) (fun q => .inr (SqT.of q))
theorem Its.but {d b : Addr} {H H' : Hp} {xs : List V} (h : Its H b xs) (s : But d H H') (n : b ≠ d) : Its H' b xs := h.elim (fun q => .inl (s _ _ n q)) (fun q => .inr (s _ _ n q))
theorem Its.same {b : Addr} {H H' : Hp} {xs : List V} (h : Its H b xs) (s : Same H H') : Its H' b xs := h.elim (fun q => .inl (s _ _ q)) (fun q => .inr (s _ _ q))
theorem Its.new {b p : Addr} {H : Hp} {o : HO} {xs : List V} (h : Its H b xs) (n : H p = none) : Its (upd H p o) b xs := h.same (Same.new (Same.refl H) n)
theorem Its.ne_none {b p : Addr} {H : Hp} {xs : List V} (h : Its H b xs) (n : H p = none) : b ≠ p := h.elim (fun q => ne_of_none q n) (fun q => ne_of_none q n)
theorem Dice.but {d e : Addr} {H H' : Hp} (a : Dice H d) (s : But e H H') (n : d ≠ e) : Dice H' d := by
  obtain ⟨x, y, z, h⟩ := a
  exact ⟨x, y, z, s _ _ n h⟩
theorem Dice.ne_none {d p : Addr} {H : Hp} (h : Dice H d) (n : H p = none) : d ≠ p := by
  obtain ⟨x, y, z, e⟩ := h
  exact ne_of_none e n
theorem But.free {d p : Addr} {H H' : Hp} (s : But d H H') (n : p ≠ d) (e : H' p = none) : H p = none := by
  cases q : H p with
  | none => rfl
  | some o => rw [s _ _ n q] at e; cases e

/-! ### pick -/
abbrev s_pick : Stmt := topS 27
abbrev N_pick : List Str := ["dice", "items"]
theorem sc_pick : FnScope N_pick ["dice", "items"] (defScope s_pick) := ⟨rfl, rfl, rfl, by decide +kernel, rfl, by decide +kernel, by decide +kernel⟩
def spPick : Sp := fun vs H Q _ => ∃ (d b : Addr) (xs : List V), vs = [.ref d, .ref b] ∧ Dice H d ∧ Its H b xs ∧ b ≠ d ∧ xs ≠ [] ∧ xs.length ≤ 1000 ∧ ∀ x H', x ∈ xs → But d H H' → Dice H' d → Q x H'
section
variable {P : Program} {w : World} {K : PySem.W.Frag} {mg : Str → Option Value} {base : Heap}
theorem ok_pick {f : Addr} {fd : FuncData} (F : Fun K "_law_pick" "_law_pick" s_pick f fd) (T : Names mg) (C1 : Callee P w K mg base CX0 1 "_law_roll" ["dice", "upto"] spRoll) : FnOk P w K mg base CX0 2 f fd ["dice", "items"] spPick := by
  have nd := sc_pick.nd
  refine F.ok sc_pick (fun vs H Q E h => ?_) (fun cdv A outer s H vs Q E hr h => ?_)
  · obtain ⟨d, b, xs, rfl, _⟩ := h
    rfl
  · obtain ⟨d, b, xs, rfl, hd, hb, hne, hx, hl, k⟩ := h
    have h0 : 0 < xs.length := List.length_pos_iff.mpr hx
    refine ⟨_, pss_one (ps_ret (pe_ix ix_seq (pv 1) (pe_use C1 hr rfl pass0 (pa_cons (pv 0) (pa_cons (pe_callB call_len_seq (by rfl) T.len (by decide +kernel) (pa_cons (pv 1) pa_nil)) pa_nil))) (fun _ _ => rfl))), ?_⟩
    refine ⟨_, rfl, _, rfl, _, rfl, b, xs, rfl, hb.seq, ?_⟩
    refine ⟨d, _, rfl, hd, by omega, by omega, fun r H' r0 r1 s' hd' => ?_⟩
    have hj : r.toNat < xs.length := by omega
    have hb' := hb.but s' hne
    have hat : atI xs r = some xs[r.toNat] := at_of (j := r.toNat) (by omega) (List.getElem?_eq_getElem hj)
    rcases hb' with q | q
    · exact .inl ⟨b, _, _, _, rfl, rfl, SqL.of q, hat, k _ _ (List.getElem_mem hj) s' hd'⟩
    · exact .inr (.inl ⟨b, _, _, _, rfl, rfl, SqT.of q, hat, k _ _ (List.getElem_mem hj) s' hd'⟩)
end
/-! ### mixed -/
abbrev s_mixed : Stmt := topS 28
abbrev N_mixed : List Str := ["dice", "items", "left", "found"]
theorem sc_mixed : FnScope N_mixed ["dice", "items"] (defScope s_mixed) := ⟨rfl, rfl, rfl, by decide +kernel, rfl, by decide +kernel, by decide +kernel⟩
def spMixed : Sp := fun vs H Q _ => ∃ (d b : Addr) (xs : List Str), vs = [.ref d, .ref b] ∧ Dice H d ∧ Its H b (xs.map V.str) ∧ b ≠ d ∧ xs.length ≤ 1000 ∧ (∀ x ∈ xs, PyData.strOk x = true) ∧ ∀ (ys : List Str) (p : Addr) (H' : Hp), ys.Perm xs → H p = none → But d H H' → Dice H' d → H' p = some (.lst (ys.map V.str)) → Q (.ref p) H'
theorem dp_strs {K : PySem.W.Frag} {H : Hp} : ∀ xs : List Str, DpAll K H (xs.map V.str) (xs.map PyData.str)
  | [] => .nil
  | x :: r => .cons (.str x) (dp_strs r)
theorem canLay_strs : ∀ xs : List Str, (∀ x ∈ xs, PyData.strOk x = true) → PyData.canLayAll0 (xs.map PyData.str) = true
  | [], _ => rfl
  | x :: r, h => by
    show (PyData.canLay0 (.str x) && PyData.canLayAll0 (r.map PyData.str)) = true
    rw [canLay_strs r fun y hy => h y (List.mem_cons_of_mem _ hy), Bool.and_true]
    exact h x List.mem_cons_self
theorem depth_strs : ∀ xs : List Str, PyData.depthAll (xs.map PyData.str) = 0
  | [] => rfl
  | x :: r => by
    show max (PyData.depth (.str x)) (PyData.depthAll (r.map PyData.str)) = 0
    rw [depth_strs r]; rfl
theorem shaped_strs (xs : List Str) (h : ∀ x ∈ xs, PyData.strOk x = true) : SeqAt.shaped (.list (xs.map PyData.str)) = true := by
  unfold SeqAt.shaped
  have h1 : PyData.canLay0 (.list (xs.map PyData.str)) = true := canLay_strs xs h
  have h2 : PyData.depth (.list (xs.map PyData.str)) = 1 := by
    show PyData.depthAll (xs.map PyData.str) + 1 = 1
    rw [depth_strs]
  rw [h1, h2]
  rfl
theorem eqv_nil : ∀ xs : List Str, PyData.eqv (.list (xs.map PyData.str)) (.list []) = xs.isEmpty
  | [] => rfl
  | _ :: _ => rfl
theorem map_eraseIdx {α β : Type} (f : α → β) : ∀ (l : List α) (i : Nat), (l.map f).eraseIdx i = (l.eraseIdx i).map f
  | [], _ => rfl
  | _ :: _, 0 => rfl
  | a :: r, i + 1 => by
    show f a :: (r.map f).eraseIdx i = f a :: (r.eraseIdx i).map f
    rw [map_eraseIdx f r i]
theorem perm_erase {α : Type} : ∀ (l : List α) (i : Nat) (h : i < l.length), (l[i] :: l.eraseIdx i).Perm l
  | _ :: _, 0, _ => List.Perm.refl _
  | a :: r, i + 1, h => by
    have h' : i < r.length := by simpa using h
    have ih := perm_erase r i h'
    show (r[i] :: a :: r.eraseIdx i).Perm (a :: r)
    exact (List.Perm.swap _ _ _).trans (ih.cons a)
section
variable {P : Program} {w : World} {K : PySem.W.Frag} {mg : Str → Option Value} {base : Heap}
theorem ok_mixed {f : Addr} {fd : FuncData} (F : Fun K "_law_mixed" "_law_mixed" s_mixed f fd) (T : Names mg) (C1 : Callee P w K mg base CX0 1 "_law_roll" ["dice", "upto"] spRoll) : FnOk P w K mg base CX0 2 f fd ["dice", "items"] spMixed := by
  have nd := sc_mixed.nd
  refine F.ok sc_mixed (fun vs H Q E h => ?_) (fun cdv A outer s H vs Q E hr h => ?_)
  · obtain ⟨d, b, xs, rfl, _⟩ := h
    rfl
  · obtain ⟨d, b, xs, rfl, hd, hb, hne, hl, hok, k⟩ := h
    refine ⟨_, (pss_cons
    (ps_par (i := 2) (j := 3) (by rfl) nd rfl rfl (by decide) rfl rfl (pa_cons (pe_callTy call_list_of (by rfl) T.list (by decide +kernel) (pa_cons (pv 1) pa_nil)) (pa_cons (pe_lst pa_nil) pa_nil)) (by rfl))
    (pss_cons
    (ps_while PassesOwn.never (pt_cmpR (op_neD hr.units) (pv 2) (pe_lst pa_nil) (nomark _)) (pss_one
      (ps_expr (pe_bm PySem.F.plainAttrs_list PySem.F.slot_list_append PySem.F.type_list_append mt_append (pv 3) (pa_cons (pe_bm PySem.F.plainAttrs_list PySem.F.slot_list_pop PySem.F.type_list_pop mt_popAt (pv 2) (pa_cons (pe_use C1 hr rfl pass0 (pa_cons (pv 0) (pa_cons (pe_callB call_len_seq (by rfl) T.len (by decide +kernel) (pa_cons (pv 2) pa_nil)) pa_nil))) pa_nil)) pa_nil)))))
    (pss_one
    (ps_ret (pv 3))))), ?_⟩
    refine ⟨_, rfl, b, _, rfl, hb.seq, fun l hl0 => ⟨Nat.zero_le _, fun p hp => ⟨_, _, rfl, ?_⟩⟩⟩
    have npl : p ≠ l := fun e => by subst e; rw [upd_same] at hp; cases hp
    have hp0 : H p = none := by rw [upd_ne npl] at hp; exact hp
    have ndl : l ≠ d := (hd.ne_none hl0).symm
    have ndp : p ≠ d := (hd.ne_none hp0).symm
    refine while_by (fun σ H' => ∃ rest out : List Str, σ = [some (.ref d), some (.ref b), some (.ref l), some (.ref p)] ∧ (∀ c o, c ≠ d → c ≠ l → c ≠ p → H c = some o → H' c = some o) ∧ Dice H' d ∧ H' l = some (.lst (rest.map V.str)) ∧ H' p = some (.lst (out.map V.str)) ∧ (out ++ rest).Perm xs)
      (fun σ H' => match H' l with | some (.lst r) => r.length | _ => 0) ?_ ?_ ?_
    · refine ⟨xs, [], rfl, fun c o h1 h2 h3 e => ?_, (hd.new hl0).new hp, ?_, upd_same, List.Perm.refl _⟩
      · rw [upd_ne h3, upd_ne h2]; exact e
      · rw [upd_ne (Ne.symm npl)]; exact upd_same
    · rintro σ H' ⟨rest, out, rfl, s1, hd1, h1, h2, pm⟩
      have hlr : out.length + rest.length = xs.length := by rw [← pm.length_eq, List.length_append]
      refine ⟨_, rfl, Nat.zero_le _, fun q hq => ?_⟩
      have nql : l ≠ q := ne_of_none h1 hq
      have nqp : p ≠ q := ne_of_none h2 hq
      refine ⟨_, _, .lst (SqL.of (by rw [upd_ne nql]; exact h1)) (dp_strs rest), .lst (SqL.of upd_same) .nil, shaped_strs _ (fun x hx => hok x (pm.mem_iff.mp (List.mem_append_right _ hx))), shaped_strs [] (by simp), ?_⟩
      rw [eqv_nil]
      refine ⟨_, rfl, ?_⟩
      have fin : ∀ c o, c ≠ d → c ≠ l → c ≠ p → H c = some o → upd H' q (.lst []) c = some o := fun c o n1 n2 n3 e => by
        have e1 := s1 c o n1 n2 n3 e
        rw [upd_ne (ne_of_none e1 hq)]
        exact e1
      cases rest with
      | nil =>
        refine iteF ⟨_, rfl, ?_⟩
        refine k out p _ (by simpa using pm) hp0 (fun c o n e => fin c o n ?_ ?_ e) (hd1.new hq) (by rw [upd_ne nqp]; exact h2)
        · exact fun z => by subst z; rw [hl0] at e; cases e
        · exact fun z => by subst z; rw [hp0] at e; cases e
      | cons r0 rest =>
        refine iteT ⟨_, rfl, .inl ⟨rfl, _, SqL.of (by rw [upd_ne nqp]; exact h2)⟩, ?_⟩
        refine ⟨_, rfl, .inl ⟨rfl, _, SqL.of (by rw [upd_ne nql]; exact h1)⟩, ?_⟩
        refine ⟨_, rfl, _, rfl, l, _, rfl, .inl (SqL.of (by rw [upd_ne nql]; exact h1)), ?_⟩
        simp only [List.length_cons] at hlr
        refine ⟨d, _, rfl, hd1.new hq, by simp only [List.length_map, List.length_cons]; omega, by simp only [List.length_map, List.length_cons]; omega, fun z H2 z0 z1 b2 hd2 => ?_⟩
        simp only [List.length_map, List.length_cons] at z1
        have e1 : H2 l = some (.lst ((r0 :: rest).map V.str)) := b2 _ _ ndl (by rw [upd_ne nql]; exact h1)
        have e2 : H2 p = some (.lst (out.map V.str)) := b2 _ _ ndp (by rw [upd_ne nqp]; exact h2)
        have zlt : z.toNat < (r0 :: rest).length := by simp only [List.length_cons]; omega
        have hix : seqIndex? z ((r0 :: rest).map V.str).length = some z.toNat := seqIndex_of z0 (by rw [List.length_map, List.length_cons]; omega)
        refine ⟨l, _, z, z.toNat, V.str (r0 :: rest)[z.toNat], rfl, rfl, e1, by omega, by omega, hix, by rw [List.getElem?_map, List.getElem?_eq_getElem zlt]; rfl, ?_⟩
        refine ⟨p, _, _, rfl, rfl, by rw [upd_ne npl]; exact e2, by rw [List.length_map]; exact small1000 (by omega), ?_⟩
        refine ⟨⟨(r0 :: rest).eraseIdx z.toNat, out ++ [(r0 :: rest)[z.toNat]], rfl, fun c o n1 n2 n3 e => ?_, ?_, ?_, ?_, ?_⟩, ?_⟩
        · rw [upd_ne n3, upd_ne n2]
          exact b2 _ _ n1 (fin c o n1 n2 n3 e)
        · obtain ⟨x, y, t, e⟩ := hd2
          exact ⟨x, y, t, by rw [upd_ne ndp.symm, upd_ne ndl.symm]; exact e⟩
        · rw [upd_ne npl.symm, upd_same, map_eraseIdx]
        · rw [upd_same, List.map_append]
          rfl
        · refine List.Perm.trans ?_ pm
          rw [List.append_assoc]
          exact List.Perm.append_left out (perm_erase _ _ zlt)
        · rw [upd_ne npl.symm, upd_same, h1]
          show (((r0 :: rest).map V.str).eraseIdx z.toNat).length < ((r0 :: rest).map V.str).length
          rw [List.length_eraseIdx, if_pos (by rw [List.length_map]; exact zlt)]
          simp
    · rintro σ H1 Q1 Q2 hQ ⟨v, hv, h2, h3⟩
      refine ⟨v, hv, h2, fun q hq => ?_⟩
      obtain ⟨dd, ee, h4, h5, h6, h7, h8⟩ := h3 q hq
      obtain ⟨kk, h9, h10⟩ := h8
      exact ⟨dd, ee, h4, h5, h6, h7, kk, h9, hQ _ _ h10⟩
end
end B2_

/-! ## B2_2 -/
set_option Elab.async false
set_option linter.all false
set_option maxRecDepth 100000
set_option maxHeartbeats 4000000
namespace B2_
open PySem PySem.Spec PyProof.Rows L2
theorem op_powW {X : Cx} : OpR X (binaryOp .Pow) (rI (fun i j => 0 ≤ j ∧ (Builtin.Int.intBits i : Int) * j ≤ 2 ^ 27) fun i j => .int (i ^ j.toNat)) := opI fun _ _ _ _ _ _ _ hc q => pow_int hc.1 hc.2 q
/-! ### some -/
abbrev s_some : Stmt := topS 29
abbrev N_some : List Str := ["dice", "items", "least", "most", "low", "high"]
theorem sc_some : FnScope N_some ["dice", "items", "least", "most"] (defScope s_some) := ⟨rfl, rfl, rfl, by decide +kernel, rfl, by decide +kernel, by decide +kernel⟩
/-- some of the items, in any order: between least and most of them -/
def spSome : Sp := fun vs H Q _ => ∃ (d b : Addr) (xs : List Str) (lo hi : Nat), vs = [.ref d, .ref b, .int lo, .int hi] ∧ lo ≤ hi ∧ hi ≤ 1000 ∧ Dice H d ∧ Its H b (xs.map V.str) ∧ b ≠ d ∧ xs.length ≤ 1000 ∧ (∀ x ∈ xs, PyData.strOk x = true) ∧
  ∀ (ys : List Str) (n : Nat) (p : Addr) (H' : Hp), ys.Perm xs → min lo xs.length ≤ n → n ≤ min hi xs.length → H p = none → But d H H' → Dice H' d → H' p = some (.lst ((ys.take n).map V.str)) → Q (.ref p) H'
/-! ### words -/
abbrev s_words : Stmt := topS 30
abbrev N_words : List Str := ["dice", "upto", "some"]
theorem sc_words : FnScope N_words ["dice", "upto"] (defScope s_words) := ⟨rfl, rfl, rfl, by decide +kernel, rfl, by decide +kernel, by decide +kernel⟩
def words14 : List Str := ["a", "aa", "ab", "b", "ba", "changing", "door", "key", "r", "s", "self", "who", "x", "zzzzzzzz"]
def spWords : Sp := fun vs H Q _ => ∃ (d : Addr) (n : Nat), vs = [.ref d, .int n] ∧ n ≤ 14 ∧ Dice H d ∧ 
  ∀ (ys : List Str) (p : Addr) (H' : Hp), ys.Perm words14 → H p = none → But d H H' → Dice H' d → H' p = some (.lst ((ys.take n).map V.str)) → Q (.ref p) H'
section
variable {P : Program} {w : World} {K : PySem.W.Frag} {mg : Str → Option Value} {base : Heap}
theorem cutV_upto (xs : List V) (n : Nat) : cutV xs none (some (n : Int)) = xs.take n := by
  unfold cutV
  rw [HT.sIx_none, HT.sIx_nat]
  show xs.take (min n xs.length - 0) = xs.take n
  rw [Nat.sub_zero]
  exact (List.take_eq_take_min).symm
theorem min_cast (a b : Nat) : (if (b : Int) < (a : Int) then (b : Int) else (a : Int)) = ((min a b : Nat) : Int) := by
  split <;> omega
theorem ok_some {f : Addr} {fd : FuncData} (F : Fun K "_law_some" "_law_some" s_some f fd) (T : Names mg) (C1 : Callee P w K mg base CX0 1 "_law_roll" ["dice", "upto"] spRoll) (C2 : Callee P w K mg base CX0 2 "_law_mixed" ["dice", "items"] spMixed) : FnOk P w K mg base CX0 3 f fd ["dice", "items", "least", "most"] spSome := by
  have nd := sc_some.nd
  refine F.ok sc_some (fun vs H Q E h => ?_) (fun cdv A outer s H vs Q E hr h => ?_)
  · obtain ⟨d, b, xs, lo, hi, rfl, _⟩ := h
    rfl
  · obtain ⟨d, b, xs, lo, hi, rfl, hlh, hhi, hd, hb, hne, hl, hok, k⟩ := h
    have hr1 : Room 1 _ := hr.mono (by decide)
    refine ⟨_, (pss_cons
    (ps_par (i := 4) (j := 5) (by rfl) nd rfl rfl (by decide) rfl rfl (pa_cons (pe_callB (call_min2 rfl) (by rfl) T.min (by decide +kernel) (pa_cons (pv 2) (pa_cons (pe_callB call_len_seq (by rfl) T.len (by decide +kernel) (pa_cons (pv 1) pa_nil)) pa_nil))) (pa_cons (pe_callB (call_min2 rfl) (by rfl) T.min (by decide +kernel) (pa_cons (pv 3) (pa_cons (pe_callB call_len_seq (by rfl) T.len (by decide +kernel) (pa_cons (pv 1) pa_nil)) pa_nil))) pa_nil)) (by rfl))
    (pss_one
    (ps_ret (pe_slice sl_list (pe_use C2 hr rfl pass0 (pa_cons (pv 0) (pa_cons (pv 1) pa_nil))) po_none (po_some (pe_op op_add (pv 4) (pe_use C1 hr1 rfl pass0 (pa_cons (pv 0) (pa_cons (pe_op op_add (pe_op op_sub (pv 5) (pv 4)) pe_int) pa_nil))))))))), ?_⟩
    refine ⟨_, rfl, _, rfl, b, _, rfl, hb.seq, _, _, rfl, ?_⟩
    refine ⟨_, rfl, _, rfl, b, _, rfl, hb.seq, _, _, rfl, ?_⟩
    refine ⟨_, _, rfl, ?_⟩
    refine ⟨_, rfl, _, rfl, d, b, xs, rfl, hd, hb, hne, hl, hok, fun ys p H1 pm hp s1 hd1 h1 => ?_⟩
    have ndp : p ≠ d := (hd.ne_none hp).symm
    refine ⟨_, rfl, _, rfl, _, rfl, _, rfl, _, _, rfl, rfl, _, _, rfl, rfl, d, _, rfl, hd1, ?_, ?_, fun r H2 r0 r1 s2 hd2 => ?_⟩
    · rw [List.length_map, min_cast, min_cast]; omega
    · rw [List.length_map, min_cast, min_cast]; omega
    · rw [List.length_map, min_cast, min_cast] at r1
      refine ⟨_, _, rfl, rfl, _, rfl, p, _, rfl, SqL.of (s2 _ _ ndp h1), fun q hq => ?_⟩
      have ndq : q ≠ d := (hd2.ne_none hq).symm
      have hq1 : H1 q = none := s2.free ndq hq
      have e : (if ((xs.map V.str).length : Int) < (lo : Int) then ((xs.map V.str).length : Int) else (lo : Int)) + r = ((min lo xs.length + r.toNat : Nat) : Int) := by
        rw [List.length_map, min_cast]; omega
      show Q (V.ref q) (upd H2 q (HO.lst (cutV (List.map V.str ys) none (some ((if ((xs.map V.str).length : Int) < (lo : Int) then ((xs.map V.str).length : Int) else (lo : Int)) + r)))))
      rw [e, cutV_upto, ← List.map_take]
      exact k ys _ q _ pm (by omega) (by omega) (s1.free ndq hq1) ((s1.trans s2).new hq) (hd2.new hq) upd_same
theorem ok_words {f : Addr} {fd : FuncData} (F : Fun K "_law_words" "_law_words" s_words f fd) (T : Names mg) (C2 : Callee P w K mg base CX0 2 "_law_mixed" ["dice", "items"] spMixed) : FnOk P w K mg base CX0 3 f fd ["dice", "upto"] spWords := by
  have nd := sc_words.nd
  refine F.ok sc_words (fun vs H Q E h => ?_) (fun cdv A outer s H vs Q E hr h => ?_)
  · obtain ⟨d, n, rfl, _⟩ := h
    rfl
  · obtain ⟨d, n, rfl, hn, hd, k⟩ := h
    refine ⟨_, (pss_cons
    (ps_set (i := 2) nd rfl (Or.inl rfl) (pe_lst (pa_cons pe_str (pa_cons pe_str (pa_cons pe_str (pa_cons pe_str (pa_cons pe_str (pa_cons pe_str (pa_cons pe_str (pa_cons pe_str (pa_cons pe_str (pa_cons pe_str (pa_cons pe_str (pa_cons pe_str (pa_cons pe_str (pa_cons pe_str pa_nil))))))))))))))))
    (pss_one
    (ps_ret (pe_slice sl_list (pe_use C2 hr rfl pass0 (pa_cons (pv 0) (pa_cons (pv 2) pa_nil))) po_none (po_some (pv 1)))))), ?_⟩
    refine ⟨(by show 14 ≤ sizeLine; decide), fun l hl => ?_⟩
    refine ⟨_, rfl, _, rfl, d, l, words14, rfl, hd.new hl, .inl upd_same, (hd.ne_none hl).symm, by decide, by decide +kernel, fun ys p H1 pm hp s1 hd1 h1 => ?_⟩
    refine ⟨_, rfl, _, rfl, p, _, rfl, SqL.of h1, fun q hq => ?_⟩
    have hl1 : H1 l ≠ none := by
      rw [s1 l _ (hd.ne_none hl).symm upd_same]; simp
    have nlp : p ≠ l := fun e => by subst e; rw [upd_same] at hp; cases hp
    have hp0 : H p = none := by rw [upd_ne nlp] at hp; exact hp
    have nq : q ≠ d := (hd1.ne_none hq).symm
    have fin : But d H H1 := fun c o n e => s1 c o n (by rw [upd_ne (ne_of_none e hl)]; exact e)
    show Q (V.ref q) (upd H1 q (HO.lst (cutV (List.map V.str ys) none (some ↑n))))
    rw [cutV_upto, ← List.map_take]
    exact k ys q _ pm (fin.free nq hq) (fin.new hq) (hd1.new hq) upd_same
end
end B2_

/-! ## B2_3 -/
set_option Elab.async false
set_option linter.all false
set_option maxRecDepth 100000
set_option maxHeartbeats 4000000
namespace B2_
open PySem PySem.Spec PyProof.Rows L2
/-! ### dice -/
abbrev s_dice : Stmt := topS 25
abbrev N_dice : List Str := ["script", "spot", "cell", "great", "blend"]
theorem sc_dice : FnScope N_dice ["script", "spot"] (defScope s_dice) := ⟨rfl, rfl, rfl, by decide +kernel, rfl, by decide +kernel, by decide +kernel⟩
def spDice (K : PySem.W.Frag) : Sp := fun vs H Q _ => ∃ (a : Addr) (ns : List Int) (i : Nat), vs = [.ref a, .int i] ∧ SqL K H a (ns.map V.int) ∧ ∀ p H', H p = none → Same H H' → Dice H' p → Q (.ref p) H'
section
variable {P : Program} {w : World} {K : PySem.W.Frag} {mg : Str → Option Value} {base : Heap}
theorem ok_dice {f : Addr} {fd : FuncData} (F : Fun K "_law_dice" "_law_dice" s_dice f fd) (T : Names mg) : FnOk P w K mg base CX0 1 f fd ["script", "spot"] (spDice K) := by
  have nd := sc_dice.nd
  refine F.ok sc_dice (fun vs H Q E h => ?_) (fun cdv A outer s H vs Q E hr h => ?_)
  · obtain ⟨a, ns, i, rfl, _⟩ := h
    rfl
  · obtain ⟨a, ns, i, rfl, hs, k⟩ := h
    refine ⟨_, (pss_cons
    (ps_set (i := 2) nd rfl (Or.inl rfl) (pe_ifExp (pt_cmpR op_lt (pv 1) (pe_callB call_len_seq (by rfl) T.len (by decide +kernel) (pa_cons (pv 0) pa_nil)) (nomark _)) (pe_ix ix_list (pv 0) (pv 1) (fun _ _ => rfl)) (pe_op op_add (pe_op op_mul pe_int (pv 1)) pe_int)))
    (pss_cons
    (ps_set (i := 3) nd rfl (Or.inl rfl) (pe_op op_mod (pe_callTy call_int1 (by rfl) T.int (by decide +kernel) (pa_cons (pe_callB call_abs (by rfl) T.abs (by decide +kernel) (pa_cons (pv 2) pa_nil)) pa_nil)) (pe_op op_powW (pe_op op_pow pe_int pe_int) pe_int)))
    (pss_cons
    (ps_set (i := 4) nd rfl (Or.inl rfl) (pe_op op_add (pe_op op_add (pe_op op_add (pe_op op_mul (pv 3) pe_int) (pe_op op_mul pe_int (pv 1))) (pe_op op_mul pe_int (pe_callTy call_int1 (by rfl) T.int (by decide +kernel) (pa_cons (pe_cmpR op_lt (pv 2) pe_int (nomark _)) pa_nil)))) pe_int))
    (pss_one
    (ps_ret (pe_lst (pa_cons (pe_callB (call_max2 rfl) (by rfl) T.max (by decide +kernel) (pa_cons pe_int (pa_cons (pe_op op_sub (pv 3) (pe_op op_pow pe_int pe_int)) pa_nil))) (pa_cons (pe_op op_mod (pe_callTy call_int1 (by rfl) T.int (by decide +kernel) (pa_cons (pv 4) pa_nil)) pe_int) (pa_cons pe_int pa_nil))))))))), ?_⟩
    have big : (0 : Int) < ((10 : Int) ^ (59 : Int).toNat) ^ (11 : Int).toNat := by decide +kernel
    have bits : (0 : Int) ≤ 11 ∧ (Builtin.Int.intBits ((10 : Int) ^ (59 : Int).toNat) : Int) * 11 ≤ 2 ^ 27 := by decide +kernel
    refine ⟨_, rfl, _, rfl, a, _, rfl, .inl hs, _, _, rfl, rfl, _, rfl, ite2 (fun h0 => ?_) (fun h0 => ?_)⟩
    · have hi : i < ns.length := by
        have := of_decide_eq_true h0
        rw [List.length_map] at this
        omega
      refine ⟨_, rfl, _, rfl, a, _, _, _, rfl, rfl, hs, atI_nat (v := V.int ns[i]) (by rw [List.getElem?_map, List.getElem?_eq_getElem hi]; rfl), ?_⟩
      generalize ns[i] = c
      refine ⟨_, rfl, _, rfl, .inl ⟨_, rfl, ?_⟩⟩
      refine ⟨_, _, rfl, rfl, ⟨by decide, by decide, by decide⟩, _, _, rfl, rfl, bits, _, _, rfl, rfl, big, ?_⟩
      refine ⟨_, rfl, _, _, rfl, rfl, .inr (by decide), _, rfl, _, _, rfl, rfl, .inl (by decide), _, _, rfl, rfl, ?_⟩
      refine ⟨_, rfl, _, _, rfl, rfl, .inr ⟨_, rfl, _, _, rfl, rfl, .inl (by decide), _, _, rfl, rfl, _, _, rfl, rfl, ?_⟩⟩
      refine ⟨_, rfl, _, _, rfl, rfl, ⟨by decide, by decide, by decide⟩, _, _, rfl, rfl, _, _, rfl, ?_⟩
      refine ⟨_, rfl, .inl ⟨_, rfl, _, _, rfl, rfl, (by show (0 : Int) < 2305843009213693921; decide), ?_⟩⟩
      exact ⟨(by show 3 ≤ sizeLine; decide), fun p hp => k p _ hp (Same.new (Same.refl H) hp) ⟨_, _, _, upd_same⟩⟩
    · refine ⟨_, rfl, _, _, rfl, rfl, .inl (by decide), _, _, rfl, rfl, ?_⟩
      generalize 31 * (i : Int) + 14 = c
      refine ⟨_, rfl, _, rfl, .inl ⟨_, rfl, ?_⟩⟩
      refine ⟨_, _, rfl, rfl, ⟨by decide, by decide, by decide⟩, _, _, rfl, rfl, bits, _, _, rfl, rfl, big, ?_⟩
      refine ⟨_, rfl, _, _, rfl, rfl, .inr (by decide), _, rfl, _, _, rfl, rfl, .inl (by decide), _, _, rfl, rfl, ?_⟩
      refine ⟨_, rfl, _, _, rfl, rfl, .inr ⟨_, rfl, _, _, rfl, rfl, .inl (by decide), _, _, rfl, rfl, _, _, rfl, rfl, ?_⟩⟩
      refine ⟨_, rfl, _, _, rfl, rfl, ⟨by decide, by decide, by decide⟩, _, _, rfl, rfl, _, _, rfl, ?_⟩
      refine ⟨_, rfl, .inl ⟨_, rfl, _, _, rfl, rfl, (by show (0 : Int) < 2305843009213693921; decide), ?_⟩⟩
      exact ⟨(by show 3 ≤ sizeLine; decide), fun p hp => k p _ hp (Same.new (Same.refl H) hp) ⟨_, _, _, upd_same⟩⟩
end
end B2_

/-! ## B2_4 -/
set_option Elab.async false
set_option linter.all false
set_option maxRecDepth 100000
set_option maxHeartbeats 4000000
namespace B2_
open PySem PySem.Spec PyProof.Rows L2
/-- a comprehension that leaves all that was tracked: acc i is the list behind i turns -/
theorem lc_acc {J : It} {n : Nat} {G : Hp → Prop} {Y : Nat → Hp → V → Hp → Prop} (w : Walk J n G Y) {g : TG} {tt : TT} {te : TE} {vs : List Nat} {σ : L2.St} {H0 : Hp} {D : Addr} {Qd : Hp → Prop} (acc : Nat → List V) (a0 : acc 0 = []) (hD : H0 D = none)
    (hlen : ∀ i, i < n → (acc i).length < sizeLine) (hG : ∀ H, Same H0 H → G H)
    (hs : ∀ i x H H' (N : Hp → Prop), i < n → Same H0 H → Y i H x H' → (∀ H4 y, Same H H4 → acc (i + 1) = acc i ++ [y] → ∃ a, H4 D = some (.lst a) ∧ a.length < sizeLine ∧ N (upd H4 D (.lst (a ++ [y])))) → (∀ H4, Same H H4 → acc (i + 1) = acc i → N H4) →
      g x (wipe σ vs) H' fun σ2 H2 => wipe σ2 vs = wipe σ vs ∧ tt σ2 H2 fun b H3 => if b = true then te σ2 H3 fun y H4 => ∃ a, H4 D = some (.lst a) ∧ a.length < sizeLine ∧ N (upd H4 D (.lst (a ++ [y]))) else N H3)
    (hd : ∀ H, Same H0 H → H D = some (.lst (acc n)) → Qd H) :
    ∃ W : Nat → Nat → Hp → Prop, (∃ m, W 0 m (upd H0 D (.lst []))) ∧ ∀ i m H, W i m H →
      (J.stop i H ∧ Qd H) ∨ (J.go i H ∧ ∃ Nx : Hp → Prop, (∀ H', Nx H' → ∃ m', m' < m ∧ W (i + 1) m' H') ∧ ∀ x H', J.yld i H x H' → g x (wipe σ vs) H' fun σ2 H2 => wipe σ2 vs = wipe σ vs ∧ tt σ2 H2 fun b H3 =>
        if b = true then te σ2 H3 fun y H4 => ∃ a, H4 D = some (.lst a) ∧ a.length < sizeLine ∧ Nx (upd H4 D (.lst (a ++ [y]))) else Nx H3) := by
  refine lc_it w (fun i H => Same H0 H ∧ H D = some (.lst (acc i))) ⟨Same.new (Same.refl H0) hD, by rw [a0]; exact upd_same⟩ (fun i H _ p => hG H p.1) (fun i x H H' hi p y => ?_) (fun H p => hd H p.1 p.2)
  refine hs i x H H' _ hi p.1 y (fun H4 y' s e => ⟨acc i, s _ _ p.2, hlen i hi, fun c o q => ?_, by rw [upd_same, e]⟩) fun H4 s e => ⟨p.1.trans s, by rw [e]; exact s _ _ p.2⟩
  rw [upd_ne (ne_of_none q hD)]
  exact s _ _ (p.1 _ _ q)
theorem walk_zipT {K : PySem.W.Frag} {a b : Addr} {xs ys : List V} {n : Nat} (hn : n = min xs.length ys.length) : Walk (RZ.ItzT K a b) n (fun H => SqT K H a xs ∧ SqT K H b ys) (YPair (fun i => xs[i]?) (fun i => ys[i]?)) := by
  subst hn
  refine ⟨fun i _ hi q => ?_, fun _ q => ⟨xs, ys, q.1, q.2, by omega⟩, fun i H v H' _ q y => ?_⟩
  · have h1 : i < xs.length := by omega
    have h2 : i < ys.length := by omega
    exact ⟨xs, ys, xs[i], ys[i], q.1, q.2, by simp [h1], by simp [h2]⟩
  · obtain ⟨T, x, z, h1, h2, h3, h4, h5⟩ := y
    exact ⟨T, x, z, h1, h2, h3, h4 xs q.1, h5 ys q.2⟩
/-- the built-in names that the text of the names calls -/
structure Names2 (mg : Str → Option Value) : Prop extends Names mg where
  isinstance : mg "isinstance" = none
  str : mg "str" = none
  tuple : mg "tuple" = none
  bool : mg "bool" = none
  all : mg "all" = none
  zip : mg "zip" = none
  letters : ∃ t, mg "MOST_LETTERS" = some (.int 8 t)
/-- the type of a value is the built-in T or not -/
def IsTy (K : PySem.W.Frag) (H : Hp) (x : V) (T : String) (b : Bool) : Prop := ∃ t, TyX K H x t ∧ PySem.W.kitOne K t (.type T) = some b
/-! ### is_name -/
def nameB (z : Str) : Bool := decide (1 ≤ z.length) && decide (z.length ≤ 8) && z.cps.toList.all fun c => decide (97 ≤ c) && decide (c ≤ 122)
abbrev s_is_name : Stmt := topS 8
abbrev N_is_name : List Str := ["value", "letter"]
theorem sc_is_name : FnScope N_is_name ["value"] (defScope s_is_name) := ⟨rfl, rfl, rfl, by decide +kernel, rfl, by decide +kernel, by decide +kernel⟩
def spName (K : PySem.W.Frag) : Sp := fun vs H Q _ => ∃ (x : V) (b : Bool), vs = [x] ∧ ((∃ z, x = .str z ∧ z.length ≤ sizeLine ∧ b = nameB z) ∨ (IsTy K H x "str" false ∧ b = false)) ∧ ∀ H', Same H H' → Q (.bl b) H'
def okC (c : Nat) : Bool := decide (97 ≤ c) && decide (c ≤ 122)
theorem one_lt (a b : Nat) : decide (([a] : List Nat) < [b]) = decide (a < b) := by
  by_cases h : a < b
  · rw [decide_eq_true h, decide_eq_true (List.cons_lt_cons_iff.mpr (.inl h))]
  · rw [decide_eq_false h, decide_eq_false]
    intro q
    rcases List.cons_lt_cons_iff.mp q with z | ⟨_, z⟩
    · exact h z
    · exact absurd z (List.not_lt_nil _)
theorem take_snoc {α : Type} {l : List α} {i : Nat} {x : α} (h : l[i]? = some x) : l.take (i + 1) = l.take i ++ [x] := by
  rw [List.take_add_one, h]; rfl
section
variable {P : Program} {w : World} {K : PySem.W.Frag} {mg : Str → Option Value} {base : Heap}
theorem ok_name {f : Addr} {fd : FuncData} (F : Fun K "is_name" "is_name" s_is_name f fd) (T : Names2 mg) : FnOk P w K mg base CX0 1 f fd ["value"] (spName K) := by
  have nd := sc_is_name.nd
  refine F.ok sc_is_name (fun vs H Q E h => ?_) (fun cdv A outer s H vs Q E hr h => ?_)
  · obtain ⟨x, b, rfl, _⟩ := h
    rfl
  · obtain ⟨x, b, rfl, hx, k⟩ := h
    obtain ⟨tk, hML⟩ := T.letters
    refine ⟨_, (pss_cons
    (ps_if (PW.pt (pw_or (pt_not (pt_val (pe_callB call_isi (by rfl) T.isinstance (by decide +kernel) (pa_cons (pv 0) (pa_cons (pe_bltn (v := .ty "str") (by rfl) T.str (by decide +kernel) rfl) pa_nil))))) (pw_or1 (pt_not (pt_chain op_le op_le pe_int (pe_callB call_len_str (by rfl) T.len (by decide +kernel) (pa_cons (pv 0) pa_nil)) (pe_glob (v := .int 8) rfl hML ⟨_, rfl⟩)))))) (pss_one
      (ps_ret pe_bl)) pss_nil)
    (pss_one
    (ps_ret (pe_callB (cr_all rfl) (by rfl) T.all (by decide +kernel) (pa_cons (pe_lc (own := [("letter", 1)]) (g := (gName 1)) rfl nd (pi_str (pv 0)) (blkOk_by (N := N_is_name) (sc := defScope s_is_name) (by decide +kernel)) (fun _ _ _ _ _ => (pg_name (i := 1) nd rfl (Or.inl rfl))) (fun _ _ _ _ _ => pts_nil) (fun _ _ _ _ _ => (pe_chain op_le_str op_le_str pe_str (pv 1) pe_str))) pa_nil))))), ?_⟩
    rcases hx with ⟨z, rfl, hz, eb⟩ | ⟨⟨t, ty, e⟩, rfl⟩
    · refine ⟨_, rfl, _, _, _, _, true, rfl, .ty _, .base (.str z), kit_ty (by decide +kernel), _, rfl, iteF ?_⟩
      refine ⟨_, rfl, z, rfl, hz, _, _, rfl, rfl, _, rfl, ite2 (fun h1 => ?_) (fun h1 => ?_)⟩
      · refine ⟨_, _, rfl, rfl, _, rfl, ?_⟩
        by_cases h8 : ((z.length : Nat) : Int) ≤ 8
        · rw [decide_eq_true h8]
          refine iteF ⟨_, rfl, z, rfl, fun D hD => ?_⟩
          refine lc_acc walk_str (fun i => ((z.cps.toList.take i).map fun c => V.bl (okC c))) rfl hD (fun i hi => ?_) (fun _ _ => trivial) (fun i x H1 H2 N hi s1 y keep skip => ?_) (fun H1 s1 hL => ?_)
          · have h8' : z.cps.size ≤ 8 := by exact_mod_cast h8
            have : (8 : Nat) < sizeLine := by decide
            rw [List.length_map, List.length_take]; omega
          · obtain ⟨rfl, c, hc, rfl⟩ := y
            have hacc : (z.cps.toList.take (i + 1)).map (fun c => V.bl (okC c)) = (z.cps.toList.take i).map (fun c => V.bl (okC c)) ++ [V.bl (okC c)] := by
              rw [take_snoc (by rw [← hc]; simp), List.map_append]; rfl
            refine ⟨rfl, _, rfl, _, _, rfl, rfl, _, rfl, ite2 (fun g1 => ?_) (fun g1 => ?_)⟩
            · refine ⟨_, _, rfl, rfl, ?_⟩
              refine keep _ _ (Same.refl _) ?_
              rw [hacc]
              have q1 : (!decide (([c] : List Nat) < [97])) = true := g1
              have q2 : (!decide ((Str.ofString "z").cps.toList < (Str.mk #[c]).cps.toList)) = !decide (([122] : List Nat) < [c]) := rfl
              rw [q2, one_lt]
              rw [one_lt] at q1
              unfold okC
              have q3 : ¬ c < 97 := by simpa using q1
              rw [decide_eq_true (by omega : 97 ≤ c), Bool.true_and]
              congr 3
              by_cases q4 : c ≤ 122
              · rw [decide_eq_true q4, decide_eq_false (by omega)]; rfl
              · rw [decide_eq_false q4, decide_eq_true (by omega)]; rfl
            · refine keep _ _ (Same.refl _) ?_
              rw [hacc]
              have q1 : ¬ (!decide (([c] : List Nat) < [97])) = true := g1
              rw [one_lt] at q1
              unfold okC
              have q3 : c < 97 := by simpa using q1
              rw [decide_eq_false (by omega : ¬ 97 ≤ c), Bool.false_and]
          · refine ⟨D, z.cps.toList.map okC, rfl, SqL.of ?_, ?_⟩
            · rw [hL, List.map_map, List.take_of_length_le (by simp)]; rfl
            · have e : (z.cps.toList.map okC).all id = b := by
                rw [eb]
                unfold nameB
                have h1' : 1 ≤ z.length := by have := of_decide_eq_true h1; omega
                rw [decide_eq_true h1', decide_eq_true (by omega : z.length ≤ 8), List.all_map]
                rfl
              rw [e]
              exact k H1 s1
        · rw [decide_eq_false h8]
          have e : b = false := by
            rw [eb]; unfold nameB
            rw [decide_eq_false (by omega : ¬ z.length ≤ 8), Bool.and_false, Bool.false_and]
          subst e
          exact k H (Same.refl H)
      · have e : b = false := by
          rw [eb]; unfold nameB
          have h1' : ¬ 1 ≤ z.length := by intro q; exact h1 (decide_eq_true (by omega))
          rw [decide_eq_false h1', Bool.false_and, Bool.false_and]
        subst e
        exact ⟨_, rfl, k H (Same.refl H)⟩
    · refine ⟨_, rfl, _, _, t, _, false, rfl, .ty _, ty, e, _, rfl, iteT (iteT ?_)⟩
      exact k H (Same.refl H)
end
end B2_

/-! ## B2_5 -/
set_option Elab.async false
set_option linter.all false
set_option maxRecDepth 100000
set_option maxHeartbeats 4000000
namespace B2_
open PySem PySem.Spec PyProof.Rows L2
/-- a part of what may be columns: a text, or no text -/
def PartOk (K : PySem.W.Frag) (H : Hp) (p : V) (o : Option Str) : Prop := (∃ z, p = .str z ∧ z.length ≤ sizeLine ∧ o = some z) ∨ (IsTy K H p "str" false ∧ o = none)
def nameO : Option Str → Bool
  | some z => nameB z
  | none => false
def ltB (a b : Str) : Bool := decide (a.cps.toList < b.cps.toList)
def ascB (zs : List Str) : Bool := (zs.zip (zs.drop 1)).all fun p => ltB p.1 p.2
def colsB (os : List (Option Str)) : Bool := os.all nameO && ascB (os.filterMap id)
abbrev s_is_columns : Stmt := topS 9
abbrev N_is_columns : List Str := ["value", "part", "one", "following"]
theorem sc_is_columns : FnScope N_is_columns ["value"] (defScope s_is_columns) := ⟨rfl, rfl, rfl, by decide +kernel, rfl, by decide +kernel, by decide +kernel⟩
def spCols (K : PySem.W.Frag) : Sp := fun vs H Q _ => ∃ (x : V) (b : Bool), vs = [x] ∧ ((IsTy K H x "tuple" false ∧ b = false) ∨ (∃ a xs os, x = .ref a ∧ H a = some (.tup xs) ∧ xs.length ≤ 1000 ∧ Paired (PartOk K H) xs os ∧ b = colsB os)) ∧ ∀ H', Same H H' → Q (.bl b) H'
theorem IsTy.same {K : PySem.W.Frag} {H H' : Hp} {x : V} {T : String} {b : Bool} (h : IsTy K H x T b) (s : Same H H') : IsTy K H' x T b := by
  obtain ⟨t, ty, e⟩ := h
  refine ⟨t, ?_, e⟩
  cases ty with
  | base c =>
    refine .base ?_
    cases c with
    | non => exact .non
    | bl x => exact .bl x
    | int i => exact .int i
    | str x => exact .str x
    | flt x => exact .flt x
    | lst q => exact .lst (s _ _ q)
    | frz q => exact .frz (s _ _ q)
    | tup q => exact .tup (s _ _ q)
    | dK q => exact .dK (s _ _ q)
    | dT q => exact .dT (s _ _ q)
    | ins q cl ha hn htk hm => exact .ins (s _ _ q) cl ha hn htk hm
  | byt b => exact .byt b
  | set q => exact .set (s _ _ q)
  | kList q c => exact .kList q c
  | kTuple q c => exact .kTuple q c
  | kDict q c => exact .kDict q c
  | fTuple q => exact .fTuple (s _ _ q)
  | fDict q => exact .fDict (s _ _ q)
theorem PartOk.same {K : PySem.W.Frag} {H H' : Hp} {p : V} {o : Option Str} (h : PartOk K H p o) (s : Same H H') : PartOk K H' p o := h.imp id fun q => ⟨q.1.same s, q.2⟩
theorem paired_get {α β : Type} {R : α → β → Prop} : ∀ {xs : List α} {ys : List β}, Paired R xs ys → ∀ {i : Nat} {x : α}, xs[i]? = some x → ∃ y, ys[i]? = some y ∧ R x y
  | _, _, .nil, i, x, h => by simp at h
  | _, _, .cons r t, 0, x, h => by simp at h; subst h; exact ⟨_, rfl, r⟩
  | _, _, .cons r t, i + 1, x, h => by
    obtain ⟨y, e, q⟩ := paired_get t (i := i) (x := x) (by simpa using h)
    exact ⟨y, by simpa using e, q⟩
theorem cutV_from (xs : List V) (n : Nat) : cutV xs (some (n : Int)) none = xs.drop n := by
  unfold cutV
  rw [HT.sIx_none, HT.sIx_nat]
  by_cases h : n ≤ xs.length
  · rw [Nat.min_eq_left h, List.take_of_length_le (by simp)]
  · rw [Nat.min_eq_right (by omega), List.drop_of_length_le (Nat.le_refl _), List.drop_of_length_le (by omega)]; simp
def ascL (zs : List Str) : List Bool := (zs.zip (zs.drop 1)).map fun p => ltB p.1 p.2
theorem ascL_all (zs : List Str) : (ascL zs).all id = ascB zs := by
  unfold ascL ascB
  rw [List.all_map]; rfl
/-- [one < following for one, following in zip(value, value[1:])] -/
theorem asc_lc {K : PySem.W.Frag} {a p D : Addr} {H2 : Hp} {zs : List Str} (ha : H2 a = some (.tup (zs.map V.str))) (hp : H2 p = some (.tup ((zs.drop 1).map V.str))) (hl : zs.length ≤ 1000) {σ : L2.St} {x0 : V} (hσ : σ = [some x0, none, none, none]) (hD : H2 D = none) {Qd : Hp → Prop}
    (hq : ∀ H, Same H2 H → H D = some (.lst ((ascL zs).map V.bl)) → Qd H) :
    ∃ W : Nat → Nat → Hp → Prop, (∃ m, W 0 m (upd H2 D (.lst []))) ∧ ∀ i m H, W i m H →
      ((RZ.ItzT K a p).stop i H ∧ Qd H) ∨ ((RZ.ItzT K a p).go i H ∧ ∃ Nx : Hp → Prop, (∀ H', Nx H' → ∃ m', m' < m ∧ W (i + 1) m' H') ∧ ∀ x H', (RZ.ItzT K a p).yld i H x H' → gTup K 2 (gCons (gName 2) (gCons (gName 3) gNil)) x (wipe σ [2, 3]) H' fun σ2 H2 => wipe σ2 [2, 3] = wipe σ [2, 3] ∧ tYes σ2 H2 fun b H3 =>
        if b = true then tOp (fun x y H Q => ∃ i j, x = .str i ∧ y = .str j ∧ Q (.bl (decide (i.cps.toList < j.cps.toList))) H) (tVar 2) (tVar 3) σ2 H3 fun y H4 => ∃ a, H4 D = some (.lst a) ∧ a.length < sizeLine ∧ Nx (upd H4 D (.lst (a ++ [y]))) else Nx H3) := by
  subst hσ
  have hs : (1000 : Nat) < sizeLine := by decide
  have hzl : (zs.zip (zs.drop 1)).length = min (zs.map V.str).length ((zs.drop 1).map V.str).length := by simp
  refine lc_acc (walk_zipT hzl) (fun i => (((zs.zip (zs.drop 1)).take i).map fun q => V.bl (ltB q.1 q.2))) rfl hD (fun i hi => ?_) (fun H1 s1 => ⟨SqT.of (s1 _ _ ha), SqT.of (s1 _ _ hp)⟩) (fun i x H1 H3 N hi s1 y keep skip => ?_) (fun H1 s1 hL => ?_)
  · rw [List.length_map, List.length_take]
    have : (zs.zip (zs.drop 1)).length ≤ zs.length := by rw [List.length_zip]; omega
    omega
  · obtain ⟨T, u, v, rfl, hT, rfl, hu, hv⟩ := y
    have hu' : (zs.map V.str)[i]? = some u := hu
    have hv' : ((zs.drop 1).map V.str)[i]? = some v := hv
    rw [List.getElem?_map] at hu' hv'
    obtain ⟨zu, e1, rfl⟩ := Option.map_eq_some_iff.mp hu'
    obtain ⟨zv, e2, rfl⟩ := Option.map_eq_some_iff.mp hv'
    refine ⟨T, _, rfl, SqT.of upd_same, rfl, ?_⟩
    refine ⟨_, _, rfl, _, _, rfl, rfl, rfl, ?_⟩
    refine ⟨_, rfl, _, rfl, _, _, rfl, rfl, ?_⟩
    refine keep _ _ (Same.new (Same.refl _) hT) ?_
    have ez : (zs.zip (zs.drop 1))[i]? = some (zu, zv) := by
      rw [List.getElem?_zip_eq_some]; exact ⟨e1, e2⟩
    rw [take_snoc ez, List.map_append]; rfl
  · refine hq H1 s1 ?_
    rw [hL, List.take_of_length_le (Nat.le_refl _)]
    unfold ascL
    rw [List.map_map]; rfl
theorem parts_strs {K : PySem.W.Frag} {H : Hp} : ∀ {xs : List V} {os : List (Option Str)}, Paired (PartOk K H) xs os → os.all nameO = true → ∃ zs : List Str, xs = zs.map V.str ∧ os = zs.map some
  | _, _, .nil, _ => ⟨[], rfl, rfl⟩
  | _, _, .cons r t, h => by
    rw [List.all_cons, Bool.and_eq_true] at h
    obtain ⟨zs, e1, e2⟩ := parts_strs t h.2
    rcases r with ⟨z, rfl, _, rfl⟩ | ⟨_, rfl⟩
    · exact ⟨z :: zs, by rw [e1]; rfl, by rw [e2]; rfl⟩
    · exact absurd h.1 (by simp [nameO])
section
variable {P : Program} {w : World} {K : PySem.W.Frag} {mg : Str → Option Value} {base : Heap}
theorem ok_cols {f : Addr} {fd : FuncData} (F : Fun K "is_columns" "is_columns" s_is_columns f fd) (T : Names2 mg) (C1 : Callee P w K mg base CX0 1 "is_name" ["value"] (spName K)) : FnOk P w K mg base CX0 2 f fd ["value"] (spCols K) := by
  have nd := sc_is_columns.nd
  refine F.ok sc_is_columns (fun vs H Q E h => ?_) (fun cdv A outer s H vs Q E hr h => ?_)
  · obtain ⟨x, b, rfl, _⟩ := h
    rfl
  · obtain ⟨x, b, rfl, hx, k⟩ := h
    refine ⟨_, (pss_cons
    (ps_if (PW.pt (pw_or (pt_not (pt_val (pe_callB call_isi (by rfl) T.isinstance (by decide +kernel) (pa_cons (pv 0) (pa_cons (pe_bltn (v := .ty "tuple") (by rfl) T.tuple (by decide +kernel) rfl) pa_nil))))) (pw_or1 (pt_not (pt_val (pe_callB (cr_all rfl) (by rfl) T.all (by decide +kernel) (pa_cons (pe_lc (own := [("part", 1)]) (g := (gName 1)) rfl nd (pi_tup (pv 0)) (blkOk_by (N := N_is_columns) (sc := defScope s_is_columns) (by decide +kernel)) (fun _ _ _ _ _ => (pg_name (i := 1) nd rfl (Or.inl rfl))) (fun _ _ _ _ _ => pts_nil) (fun _ _ _ _ _ => (pe_use C1 hr rfl pass0 (pa_cons (pv 1) pa_nil)))) pa_nil))))))) (pss_one
      (ps_ret pe_bl)) pss_nil)
    (pss_one
    (ps_ret (pe_callB (cr_all rfl) (by rfl) T.all (by decide +kernel) (pa_cons (pe_lc (own := [("one", 2), ("following", 3)]) (g := gTup K 2 (gCons (gName 2) (gCons (gName 3) gNil))) rfl nd (RZ.pi_zipA (by rfl) T.zip (pa_cons (pv 0) (pa_cons (pe_slice sl_tupA (pv 0) (po_some pe_int) po_none) pa_nil))) (blkOk_by (N := N_is_columns) (sc := defScope s_is_columns) (by decide +kernel)) (fun _ _ _ _ _ => (pg_tup rfl (pgs_cons (pg_name (i := 2) nd rfl (Or.inl rfl)) (pgs_cons (pg_name (i := 3) nd rfl (Or.inl rfl)) pgs_nil)))) (fun _ _ _ _ _ => pts_nil) (fun _ _ _ _ _ => (pe_cmpR op_lt_str (pv 2) (pv 3) (nomark _)))) pa_nil))))), ?_⟩
    rcases hx with ⟨⟨t, ty, e⟩, rfl⟩ | ⟨a, xs, os, rfl, ha, hlen, hp, eb⟩
    · exact ⟨_, rfl, _, _, t, _, false, rfl, .ty _, ty, e, _, rfl, iteT (iteT (k H (Same.refl H)))⟩
    · refine ⟨_, rfl, _, _, _, _, true, rfl, .ty _, .base (.tup ha), kit_ty (by decide +kernel), _, rfl, iteF ?_⟩
      refine ⟨_, rfl, a, rfl, ⟨_, SqT.of ha⟩, fun D hD => ?_⟩
      refine lc_acc walk_tup (fun i => ((os.take i).map fun o => V.bl (nameO o))) rfl hD (fun i hi => ?_) (fun H1 s1 => SqT.of (s1 _ _ ha)) (fun i x H1 H2 N hi s1 y keep skip => ?_) (fun H1 s1 hL => ?_)
      · have : (1000 : Nat) < sizeLine := by decide
        rw [List.length_map, List.length_take]; omega
      · obtain ⟨rfl, hx⟩ := y
        obtain ⟨o, ho, po⟩ := paired_get hp hx
        refine ⟨rfl, _, rfl, x, nameO o, rfl, ?_, fun H3 s3 => keep _ _ s3 ?_⟩
        · rcases po.same s1 with ⟨z, rfl, hz, rfl⟩ | ⟨ht, rfl⟩
          · exact .inl ⟨z, rfl, hz, rfl⟩
          · exact .inr ⟨ht, rfl⟩
        · rw [take_snoc ho, List.map_append]; rfl
      · refine ⟨D, os.map nameO, rfl, SqL.of ?_, _, rfl, ?_⟩
        · rw [hL, List.take_of_length_le (by rw [← hp.length]; exact Nat.le_refl _), List.map_map]; rfl
        · cases ea : (os.map nameO).all id with
          | false =>
            have e : b = false := by
              rw [eb]; unfold colsB
              rw [List.all_map] at ea
              rw [show os.all nameO = false from ea, Bool.false_and]
            subst e
            exact k H1 s1
          | true =>
            have en : os.all nameO = true := by rw [List.all_map] at ea; exact ea
            obtain ⟨zs, rfl, rfl⟩ := parts_strs hp en
            have ez : b = ascB zs := by
              rw [eb]; unfold colsB
              rw [en, Bool.true_and]
              congr 1
              rw [List.filterMap_map]; exact List.filterMap_some
            subst ez
            rw [List.length_map] at hlen
            refine ⟨_, rfl, _, rfl, _, rfl, a, _, rfl, SqT.of (s1 _ _ ha), fun hw => ?_, fun hw p hp0 => ?_⟩
            · have hz : zs = [] := by
                have := hw.1
                rw [show (1 : Int) = ((1 : Nat) : Int) from rfl, HT.sIx_nat] at this
                rw [List.length_map] at this
                have : zs.length = 0 := by omega
                exact List.eq_nil_of_length_eq_zero this
              subst hz
              refine ⟨a, a, _, _, rfl, .inr ⟨SqT.of (s1 _ _ ha), SqT.of (s1 _ _ ha), fun D2 hD2 => ?_⟩⟩
              refine asc_lc (zs := []) (s1 _ _ ha) (s1 _ _ ha) hlen rfl hD2 fun H3 s3 hL3 => ?_
              exact ⟨D2, _, rfl, SqL.of hL3, by rw [ascL_all]; exact k H3 (s1.trans s3)⟩
            · have hc : cutV (zs.map V.str) (some 1) none = (zs.drop 1).map V.str := by
                rw [show (1 : Int) = ((1 : Nat) : Int) from rfl, cutV_from, List.map_drop]
              rw [hc]
              refine ⟨a, p, _, _, rfl, .inr ⟨SqT.of (by rw [upd_ne (ne_of_none (s1 _ _ ha) hp0)]; exact s1 _ _ ha), SqT.of upd_same, fun D2 hD2 => ?_⟩⟩
              refine asc_lc (zs := zs) (by rw [upd_ne (ne_of_none (s1 _ _ ha) hp0)]; exact s1 _ _ ha) upd_same hlen rfl hD2 fun H3 s3 hL3 => ?_
              exact ⟨D2, _, rfl, SqL.of hL3, by rw [ascL_all]; exact k H3 ((Same.new s1 hp0).trans s3)⟩
end
end B2_

/-! ## Z1 -/
set_option Elab.async false
set_option linter.all false
set_option maxRecDepth 100000
set_option maxHeartbeats 4000000
namespace K1
open PySem RZ
open PySem.Sem (wp)
section
variable {prog : Program} {w : World} {A : Around} {E : Value → Shared → Prop} {s : Shared}
/-! ### enumerate of a tuple -/
theorem enumT_step {e it l : Addr} {i : Nat} {xs : Array Value} {x old : Value} {Q : Value → Shared → Prop} (en : IsEnum s.heap e it i old) (at_ : s.heap.IsTupleIter it l i) (tp : s.heap.IsTuple l xs) (get : xs[i]? = some x) (ne : e ≠ it)
    (k : ∀ h', IsEnumOut h' e it ((i : Int) + 1) x s.heap.objs.size → h'.IsTupleIter it l (i + 1) → h'.get? s.heap.objs.size = some { cls := .type "tuple", data := .seq #[.int i s.toks, x] } →
      h'.objs.size = s.heap.objs.size + 1 → (∀ b o, b ≠ e → b ≠ it → s.heap.get? b = some o → h'.get? b = some o) → Q (.ref s.heap.objs.size) { s with heap := h', toks := s.toks + 1 }) :
    wpAny (model prog w) A (Builtin.«enumerate.__next__» ⟨[.ref e], []⟩) (fun fin s' => ∃ v, fin = .done (.ret v) ∧ Q v s') E s := by
  obtain ⟨h0, gens, drawn, tk, os⟩ := s
  have ne' := Ne.symm ne
  show wpAny _ _ (field (.ref e) 2 >>= _) _ _ _; refine wpAny_bind (wpAny_field en rfl (x := .ref it) rfl ?_)
  refine wpAny_bind (nextOf_tuple_item at_ tp get fun h1 at1 same1 => ?_)
  replace same1 : Heap.SameBut it h0 h1 := same1
  have en1 : IsEnum h1 e it i old := (same1.2 e ne).trans en
  show wpAny _ _ (field (.ref e) 3 >>= _) _ _ ⟨h1, gens, drawn, tk, os⟩; refine wpAny_bind (wpAny_field en1 rfl (x := rawInt i) rfl ?_)
  show wpAny _ _ (field (.ref e) 4 >>= _) _ _ ⟨h1, gens, drawn, tk, os⟩; refine wpAny_bind (wpAny_field en1 rfl (x := .none) rfl ?_)
  show wpAny _ _ (mkInt i >>= _) _ _ ⟨h1, gens, drawn, tk, os⟩; refine wpAny_bind (wpAny_mkInt ?_)
  show wpAny _ _ (setField (.ref e) 3 (rawInt ((i : Int) + 1)) >>= _) _ _ ⟨h1, gens, drawn, tk + 1, os⟩
  refine wpAny_bind (wpAny_setField_rec en1 (by simp) fun h2 en2 same2 => ?_)
  replace same2 : Heap.SameBut e h1 h2 := same2
  replace en2 : IsEnum h2 e it ((i : Int) + 1) old := en2
  show wpAny _ _ (setField (.ref e) 4 .none >>= _) _ _ ⟨h2, gens, drawn, tk + 1, os⟩
  refine wpAny_bind (wpAny_setField_rec en2 (by simp) fun h3 en3 same3 => ?_)
  replace same3 : Heap.SameBut e h2 h3 := same3
  replace en3 : IsEnum h3 e it ((i : Int) + 1) old := en3
  show wpAny _ _ (newTuple [.int i tk, x] >>= _) _ _ ⟨h3, gens, drawn, tk + 1, os⟩; refine wpAny_bind (wpAny_newTuple ?_)
  have len3 : h3.objs.size = h0.objs.size := by rw [same3.1, same2.1, same1.1]
  have below : e < h0.objs.size := Heap.lt_size en
  obtain ⟨h4, eq4⟩ : ∃ h4, h4 = h3.push { cls := .type "tuple", data := .seq #[.int i tk, x] } := ⟨_, rfl⟩
  have en4 : IsEnum h4 e it ((i : Int) + 1) old := by rw [eq4]; exact Heap.get?_push_of_some _ en3
  have new4 : h4.get? h0.objs.size = some { cls := .type "tuple", data := .seq #[.int i tk, x] } := by rw [eq4, ← len3]; exact Heap.get?_push_size _ rfl
  have len4 : h4.objs.size = h0.objs.size + 1 := by rw [eq4, Heap.size_push, len3]
  have keep4 : ∀ b o, b ≠ e → b ≠ it → h0.get? b = some o → h4.get? b = some o := fun b o n m q => by
    rw [eq4]
    exact Heap.get?_push_of_some _ (same3.extBut b o n (same2.extBut b o n (same1.extBut b o m q)))
  have at4 : h4.IsTupleIter it l (i + 1) := by
    obtain ⟨o, q, r⟩ := (at1.extBut same2.extBut ne').extBut same3.extBut ne'
    exact ⟨o, by rw [eq4]; exact Heap.get?_push_of_some _ q, r⟩
  rw [← eq4]
  show wpAny _ _ (Builtin.SmallTypes.ownedTupleIsFree (.ref e) >>= _) _ _ ⟨h4, gens, drawn, tk + 1, os⟩
  rw [len3]
  clear eq4 en3 same3 en2 same2 en1 same1 at1 len3
  refine wpAny_bind ?_
  unfold Builtin.SmallTypes.ownedTupleIsFree
  refine wpAny_bind (wpAny_field en4 rfl (x := .none) rfl (wpAny_pure ?_)); simp only [if_true]
  refine wpAny_bind (wpAny_rule ?_); refine wpAny_bind (wpAny_field en4 rfl (x := old) rfl ?_)
  refine wpAny_bind (wpAny_setField_rec en4 (by simp) fun h5 en5 same5 => ?_)
  replace same5 : Heap.SameBut e h4 h5 := same5
  replace en5 : IsEnum h5 e it ((i : Int) + 1) x := en5
  show wpAny _ _ (Builtin.SmallTypes.ownedTupleHandOut (.ref e) (.ref h0.objs.size) >>= _) _ _ ⟨h5, gens, drawn, tk + 1, os⟩
  refine wpAny_bind ?_
  unfold Builtin.SmallTypes.ownedTupleHandOut
  refine wpAny_bind (wpAny_setField_rec en5 (by simp) fun h6 en6 same6 => ?_)
  replace same6 : Heap.SameBut e h5 h6 := same6
  replace en6 : IsEnumOut h6 e it ((i : Int) + 1) x h0.objs.size := en6
  refine wpAny_setField_rec en6 (by simp) fun h7 en7 same7 => ?_
  replace same7 : Heap.SameBut e h6 h7 := same7
  replace en7 : IsEnumOut h7 e it ((i : Int) + 1) x h0.objs.size := en7
  have up : ∀ b o, b ≠ e → h4.get? b = some o → h7.get? b = some o := fun b o n q => same7.extBut b o n (same6.extBut b o n (same5.extBut b o n q))
  refine wpAny_bind (wpAny_letGo (wpAny_pure ⟨_, rfl, k h7 en7 (at4.at fun o q => up _ o ne' q) (up _ _ (Nat.ne_of_gt below) new4) ?_ fun b o n m q => up b o n (keep4 b o n m q)⟩))
  show h7.objs.size = h0.objs.size + 1
  rw [same7.1, same6.1, same5.1, len4]
theorem pyNext_enumT_item {e it l : Addr} {i : Nat} {xs : Array Value} {x old : Value} {Q : Option Value → Shared → Prop} (en : IsEnum s.heap e it i old) (at_ : s.heap.IsTupleIter it l i) (tp : s.heap.IsTuple l xs) (get : xs[i]? = some x) (ne : e ≠ it)
    (k : ∀ h', IsEnumOut h' e it ((i : Int) + 1) x s.heap.objs.size → h'.IsTupleIter it l (i + 1) → h'.get? s.heap.objs.size = some { cls := .type "tuple", data := .seq #[.int i s.toks, x] } →
      h'.objs.size = s.heap.objs.size + 1 → (∀ b o, b ≠ e → b ≠ it → s.heap.get? b = some o → h'.get? b = some o) → Q (some (.ref s.heap.objs.size)) { s with heap := h', toks := s.toks + 1 }) :
    wpAny (model prog w) A (pyNext (.ref e)) Q E s := by
  have ty : s.TypeIs (.ref e) "enumerate" := ⟨_, en, rfl⟩
  unfold pyNext
  refine wpAny_bind (wpAny_attempt (wpAny_callSpecial?_slot (name := Str.ofString "__next__") ty F.slot_enumerate_next (wpAny_call_entry F.slot_enumerate_next ty F.entry_enumerate_next ?_ (F.args_enumerate_next_1 _))))
  exact enumT_step en at_ tp get ne fun h' a b c d q => wpAny_pure (k h' a b c d q)
theorem pyNext_enumT_end {e it l : Addr} {i : Nat} {xs : Array Value} {old : Value} {Q : Option Value → Shared → Prop} (hh : A.handled = none) (en : IsEnum s.heap e it i old) (at_ : s.heap.IsTupleIter it l i) (tp : s.heap.IsTuple l xs) (get : xs[i]? = none)
    (k : ∀ h', Heap.ExtBut it s.heap h' → Q none { s with heap := h' }) : wpAny (model prog w) A (pyNext (.ref e)) Q E s := by
  have ty : s.TypeIs (.ref e) "enumerate" := ⟨_, en, rfl⟩
  unfold pyNext
  refine wpAny_bind (wpAny_attempt (wpAny_callSpecial?_slot (name := Str.ofString "__next__") ty F.slot_enumerate_next (wpAny_call_entry F.slot_enumerate_next ty F.entry_enumerate_next ?_ (F.args_enumerate_next_1 _))))
  show wpAny _ _ (field (.ref e) 2 >>= _) _ _ _; refine wpAny_bind (wpAny_field en rfl (x := .ref it) rfl ?_)
  refine wpAny_bind (nextOf_tuple_end hh at_ tp get fun h' z ext ⟨o, q, c⟩ => ?_)
  exact wpAny_bind (wpAny_isInstance (T := "StopIteration") (b := true) ⟨o, q, c⟩ isSubtype_stop (wpAny_pure (k _ ext)))
end
abbrev itTH (h : Heap) (l : Addr) : Heap := h.push { cls := .type "tuple_iterator", data := .fields #[.ref l, .int 0 0] }
theorem meets_enumT_new (l : Addr) (xs : Array Value) : Meets (Builtin.«enumerate.__new__» ⟨[.type "enumerate", .ref l], []⟩) (fun _ R s => s.heap.IsTuple l xs ∧
    R (.ok (.ret (.ref (itTH s.heap l).objs.size))) { s with heap := (itTH s.heap l).push { cls := .type "enumerate", data := .fields #[.none, .bool false, .ref s.heap.objs.size, rawInt 0, .none, .none] } }) :=
  .of_wp fun prog w A R s h => by
    obtain ⟨hp, gens, drawn, tk, os⟩ := s
    obtain ⟨tp, h⟩ := h
    have hsub := sub_enumerate
    have tL : Heap.IsTuple (Shared.heap ⟨hp, gens, drawn, tk, os⟩) l xs := tp
    obtain ⟨o, ho, _⟩ := id tp
    wp_walk using AutoSeq1.wpAny_loadPart' ho
    refine wpAny_stack_any fun st => wpAny_pure ?_
    split
    · rename_i c _ _ _ _ _
      cases (c == Value.type "enumerate")
      · wp_walk using AutoSeq1.wpAny_loadPart' ho, wpAny_pyIter_tuple tL
        exact ⟨_, rfl, h⟩
      · wp_walk using AutoSeq1.wpAny_loadPart' ho, wpAny_pyIter_tuple tL
        exact ⟨_, rfl, h⟩
    · wp_walk using AutoSeq1.wpAny_loadPart' ho, wpAny_pyIter_tuple tL
      exact ⟨_, rfl, h⟩
section
variable {prog : Program} {w : World} {A : Around} {E : Value → Shared → Prop} {s : Shared}
theorem call_enumT {l : Addr} {xs : Array Value} {Q : Value → Shared → Prop} (tp : s.heap.IsTuple l xs)
    (k : ∀ h', IsEnum h' (s.heap.objs.size + 1) s.heap.objs.size 0 .none → h'.IsTupleIter s.heap.objs.size l 0 → (∀ b o, s.heap.get? b = some o → h'.get? b = some o) → Q (.ref (s.heap.objs.size + 1)) { s with heap := h' }) :
    wpAny (model prog w) A (call (.type "enumerate") [.ref l]) Q E s := by
  refine callType_new F.called_enumerate (by decide) (F.typeCall_enumerate_1 _) (F.newCall_enumerate_1 _) (fun obj => F.args_object_init_2 obj _) F.entry_enumerate_new (meets_enumT_new l xs) ⟨tp, ?_⟩
  have z : (itTH s.heap l).objs.size = s.heap.objs.size + 1 := Heap.size_push ..
  have en : ((itTH s.heap l).push { cls := .type "enumerate", data := .fields #[.none, .bool false, .ref s.heap.objs.size, rawInt 0, .none, .none] }).get? (itTH s.heap l).objs.size = some _ := Heap.get?_push_size _ rfl
  show _ ∧ _
  rw [z] at en ⊢
  exact ⟨⟨_, en, rfl⟩, k _ en ⟨_, Heap.get?_push_of_some _ (Heap.get?_push_size _ rfl), rfl, rfl⟩ fun b o q => Heap.get?_push_of_some _ (Heap.get?_push_of_some _ q)⟩
end
end K1

/-! ## Z2 -/
set_option Elab.async false
set_option linter.all false
set_option maxRecDepth 100000
set_option maxHeartbeats 4000000
namespace K1
open PySem RZ
open PySem.Sem (wp)
section
variable {prog : Program} {w : World} {A : Around} {E : Value → Shared → Prop} {s : Shared}
/-! ### a zip of two tuples whose last pair is still in use -/
theorem zipH_step {z TI TO T i1 i2 l1 l2 : Addr} {f : Bool} {oT : Obj} {m n : Nat} {xs ys : Array Value} {x y : Value} {Q : Value → Shared → Prop} (D : ZipApart z TI TO i1 i2 l1 l2) (held : IsZipHeld s.heap z TI TO T f) (there : s.heap.get? T = some oT)
    (its : IsPair s.heap TI (.ref i1) (.ref i2)) (p1 : s.heap.IsTupleIter i1 l1 m) (p2 : s.heap.IsTupleIter i2 l2 n) (t1 : s.heap.IsTuple l1 xs) (t2 : s.heap.IsTuple l2 ys) (gx : xs[m]? = some x) (gy : ys[n]? = some y)
    (k : ∀ h', IsZipHeld h' z TI TO T true → h'.IsTupleIter i1 l1 (m + 1) → h'.IsTupleIter i2 l2 (n + 1) → IsPair h' s.heap.objs.size x y → h'.objs.size = s.heap.objs.size + 1 →
      (∀ c o, c ≠ z → c ≠ i1 → c ≠ i2 → s.heap.get? c = some o → h'.get? c = some o) → Q (.ref s.heap.objs.size) { s with heap := h' }) :
    wpAny (model prog w) A (Builtin.«zip.__next__» ⟨[.ref z], []⟩) (fun fin s' => ∃ v, fin = .done (.ret v) ∧ Q v s') E s := by
  show wpAny _ _ (field (.ref z) 2 >>= _) _ _ _; refine wpAny_bind (wpAny_field held rfl (x := .bool false) rfl ?_)
  show wpAny _ _ (field (.ref z) 3 >>= _) _ _ _; refine wpAny_bind (wpAny_field held rfl (x := .ref TI) rfl ?_)
  refine wpAny_bind (wpAny_seqItems its rfl ?_); show wpAny _ _ (Builtin.SmallTypes.ownedTupleIsFree (.ref z) >>= _) _ _ _
  refine wpAny_bind (wpAny_tupleHeld_zip held there fun ha za sa => ?_); simp only [Bool.false_eq_true, if_false]
  refine wpAny_bind ?_; rw [← Array.forIn_toList]
  simp only [List.forIn_cons, List.forIn_nil]; refine wpAny_bind (wpAny_bind (wpAny_holding ?_))
  show wpAny _ _ (Builtin.SmallTypes.nextOf (.ref i1) >>= _) _ _ _
  refine wpAny_bind (nextOf_tuple_item (s := { s with heap := ha }) (p1.extBut sa.extBut D.i1z) (t1.extBut sa.extBut D.l1z) gx fun hb pb sb => wpAny_pure ?_)
  refine wpAny_pure ?_; refine wpAny_bind (wpAny_bind (wpAny_holding ?_))
  show wpAny _ _ (Builtin.SmallTypes.nextOf (.ref i2) >>= _) _ _ _
  refine wpAny_bind (nextOf_tuple_item (s := { s with heap := hb }) ((p2.extBut sa.extBut D.i2z).extBut sb.extBut D.i12.symm) ((t2.extBut sa.extBut D.l2z).extBut sb.extBut D.l2i1) gy fun hc pc sc => wpAny_pure ?_)
  refine wpAny_pure (wpAny_pure ?_); show wpAny _ _ (newTuple [x, y] >>= _) _ _ _
  refine wpAny_bind (wpAny_newTuple (wpAny_pure ⟨_, rfl, ?_⟩))
  have len : hc.objs.size = s.heap.objs.size := by rw [sc.1, sb.1, sa.1]
  have keep : ∀ c o, c ≠ z → c ≠ i1 → c ≠ i2 → s.heap.get? c = some o → hc.get? c = some o := fun c o a b d q => sc.extBut _ _ d (sb.extBut _ _ b (sa.extBut _ _ a q))
  have zc : IsZipHeld hc z TI TO T true := sc.extBut _ _ D.i2z.symm (sb.extBut _ _ D.i1z.symm za)
  have pbc : hc.IsTupleIter i1 l1 (m + 1) := pb.extBut sc.extBut D.i12
  have new : IsPair (hc.push { cls := .type "tuple", data := .seq #[x, y] }) hc.objs.size x y := Heap.get?_push_size _ rfl
  show Q (.ref hc.objs.size) _
  rw [len] at new ⊢
  exact k _ (Heap.get?_push_of_some _ zc) (pbc.at fun o q => Heap.get?_push_of_some _ q) (pc.at fun o q => Heap.get?_push_of_some _ q) new (by rw [Heap.size_push, len]) fun c o a b d q => Heap.get?_push_of_some _ (keep c o a b d q)
theorem zipH_stop {z TI TO T i1 i2 l1 l2 : Addr} {f : Bool} {oT : Obj} {m n : Nat} {xs ys : Array Value} {Q : Fin → Shared → Prop} (hh : A.handled = none) (D : ZipApart z TI TO i1 i2 l1 l2) (held : IsZipHeld s.heap z TI TO T f) (there : s.heap.get? T = some oT)
    (its : IsPair s.heap TI (.ref i1) (.ref i2)) (p1 : s.heap.IsTupleIter i1 l1 m) (p2 : s.heap.IsTupleIter i2 l2 n) (t1 : s.heap.IsTuple l1 xs) (t2 : s.heap.IsTuple l2 ys) (none_ : xs[m]? = none ∨ ys[n]? = none)
    (k : ∀ h' e, (∀ c o, c ≠ z → c ≠ i1 → c ≠ i2 → s.heap.get? c = some o → h'.get? c = some o) → (∃ o, h'.get? e = some o ∧ o.cls = .type "StopIteration") → E (.ref e) { s with heap := h' }) :
    wpAny (model prog w) A (Builtin.«zip.__next__» ⟨[.ref z], []⟩) Q E s := by
  show wpAny _ _ (field (.ref z) 2 >>= _) _ _ _; refine wpAny_bind (wpAny_field held rfl (x := .bool false) rfl ?_)
  show wpAny _ _ (field (.ref z) 3 >>= _) _ _ _; refine wpAny_bind (wpAny_field held rfl (x := .ref TI) rfl ?_)
  refine wpAny_bind (wpAny_seqItems its rfl ?_); show wpAny _ _ (Builtin.SmallTypes.ownedTupleIsFree (.ref z) >>= _) _ _ _
  refine wpAny_bind (wpAny_tupleHeld_zip held there fun ha za sa => ?_); simp only [Bool.false_eq_true, if_false]
  refine wpAny_bind ?_; rw [← Array.forIn_toList]
  simp only [List.forIn_cons, List.forIn_nil]; refine wpAny_bind (wpAny_bind (wpAny_holding ?_))
  show wpAny _ _ (Builtin.SmallTypes.nextOf (.ref i1) >>= _) _ _ _
  have q1 := p1.extBut sa.extBut D.i1z
  have u1 := t1.extBut sa.extBut D.l1z
  cases gx : xs[m]? with
  | none => exact wpAny_bind (nextOf_tuple_end (s := { s with heap := ha }) hh q1 u1 gx fun hb e sb st => k hb e (fun c o a b _ q => sb _ _ b (sa.extBut _ _ a q)) st)
  | some x =>
    have gy : ys[n]? = none := none_.resolve_left (by rw [gx]; exact fun q => by cases q)
    refine wpAny_bind (nextOf_tuple_item (s := { s with heap := ha }) q1 u1 gx fun hb pb sb => wpAny_pure ?_)
    refine wpAny_pure ?_; refine wpAny_bind (wpAny_bind (wpAny_holding ?_))
    show wpAny _ _ (Builtin.SmallTypes.nextOf (.ref i2) >>= _) _ _ _
    exact wpAny_bind (nextOf_tuple_end (s := { s with heap := hb }) hh ((p2.extBut sa.extBut D.i2z).extBut sb.extBut D.i12.symm) ((t2.extBut sa.extBut D.l2z).extBut sb.extBut D.l2i1) gy fun hc e sc st =>
      k hc e (fun c o a b d q => sc _ _ d (sb.extBut _ _ b (sa.extBut _ _ a q))) st)
theorem pyNext_zipH_item {z TI TO T i1 i2 l1 l2 : Addr} {f : Bool} {oT : Obj} {m n : Nat} {xs ys : Array Value} {x y : Value} {Q : Option Value → Shared → Prop} (D : ZipApart z TI TO i1 i2 l1 l2) (held : IsZipHeld s.heap z TI TO T f) (there : s.heap.get? T = some oT)
    (its : IsPair s.heap TI (.ref i1) (.ref i2)) (p1 : s.heap.IsTupleIter i1 l1 m) (p2 : s.heap.IsTupleIter i2 l2 n) (t1 : s.heap.IsTuple l1 xs) (t2 : s.heap.IsTuple l2 ys) (gx : xs[m]? = some x) (gy : ys[n]? = some y)
    (k : ∀ h', IsZipHeld h' z TI TO T true → h'.IsTupleIter i1 l1 (m + 1) → h'.IsTupleIter i2 l2 (n + 1) → IsPair h' s.heap.objs.size x y → h'.objs.size = s.heap.objs.size + 1 →
      (∀ c o, c ≠ z → c ≠ i1 → c ≠ i2 → s.heap.get? c = some o → h'.get? c = some o) → Q (some (.ref s.heap.objs.size)) { s with heap := h' }) : wpAny (model prog w) A (pyNext (.ref z)) Q E s := by
  have ty : s.TypeIs (.ref z) "zip" := ⟨_, held, rfl⟩
  unfold pyNext
  refine wpAny_bind (wpAny_attempt (wpAny_callSpecial?_slot (name := Str.ofString "__next__") ty F.slot_zip_next (wpAny_call_entry F.slot_zip_next ty F.entry_zip_next ?_ (F.args_zip_next_1 _))))
  exact zipH_step D held there its p1 p2 t1 t2 gx gy fun h' a b c d e q => wpAny_pure (k h' a b c d e q)
theorem pyNext_zipH_end {z TI TO T i1 i2 l1 l2 : Addr} {f : Bool} {oT : Obj} {m n : Nat} {xs ys : Array Value} {Q : Option Value → Shared → Prop} (hh : A.handled = none) (D : ZipApart z TI TO i1 i2 l1 l2) (held : IsZipHeld s.heap z TI TO T f) (there : s.heap.get? T = some oT)
    (its : IsPair s.heap TI (.ref i1) (.ref i2)) (p1 : s.heap.IsTupleIter i1 l1 m) (p2 : s.heap.IsTupleIter i2 l2 n) (t1 : s.heap.IsTuple l1 xs) (t2 : s.heap.IsTuple l2 ys) (none_ : xs[m]? = none ∨ ys[n]? = none)
    (k : ∀ h', (∀ c o, c ≠ z → c ≠ i1 → c ≠ i2 → s.heap.get? c = some o → h'.get? c = some o) → Q none { s with heap := h' }) : wpAny (model prog w) A (pyNext (.ref z)) Q E s := by
  have ty : s.TypeIs (.ref z) "zip" := ⟨_, held, rfl⟩
  unfold pyNext
  refine wpAny_bind (wpAny_attempt (wpAny_callSpecial?_slot (name := Str.ofString "__next__") ty F.slot_zip_next (wpAny_call_entry F.slot_zip_next ty F.entry_zip_next (zipH_stop hh D held there its p1 p2 t1 t2 none_ fun h' e q st => ?_) (F.args_zip_next_1 _))))
  obtain ⟨o, ho, c⟩ := st
  exact wpAny_bind (wpAny_isInstance (T := "StopIteration") (b := true) ⟨o, ho, c⟩ isSubtype_stop (wpAny_pure (k _ q)))
end
/-! ### where a zip of two tuples stands, its pairs in use or not -/
structure ZipAt (z TI TO i1 i2 l1 l2 d : Addr) (xs ys : Array Value) (i : Nat) (h : Heap) : Prop where
  its : IsPair h TI (.ref i1) (.ref i2)
  p1 : h.IsTupleIter i1 l1 i
  p2 : h.IsTupleIter i2 l2 i
  t1 : h.IsTuple l1 xs
  t2 : h.IsTuple l2 ys
  st : (IsZip h z TI TO .none ∧ ∃ a b, IsPair h TO a b) ∨ ∃ T f oT, IsZipHeld h z TI TO T f ∧ h.get? T = some oT ∧ T ≠ z ∧ T ≠ i1 ∧ T ≠ i2 ∧ T ≠ d
theorem ZipAt.src {prog : Program} {w : World} {A : Around} {z TI TO i1 i2 l1 l2 d : Addr} {xs ys : Array Value} (hh : A.handled = none) (D : ZipApart z TI TO i1 i2 l1 l2) (ap : ∀ c ∈ [z, TI, TO, i1, i2, l1, l2], d ≠ c) :
    PairSrc prog w A z d [z, TO, i1, i2] (min xs.size ys.size) (fun i k v => xs[i]? = some k ∧ ys[i]? = some v) (ZipAt z TI TO i1 i2 l1 l2 d xs ys) where
  off := fun m => by
    simp only [List.mem_cons, List.not_mem_nil, or_false] at m
    rcases m with e | e | e | e <;> exact ap d (by simp [e]) rfl
  frame := fun i h h' Z k => by
    have o : ∀ c ∈ [z, TI, TO, i1, i2, l1, l2], ∀ u, h.get? c = some u → h'.get? c = some u := fun c m u q => k c u (Ne.symm (ap c m)) q
    refine ⟨o _ (by simp) _ Z.its, Z.p1.at fun u q => o i1 (by simp) u q, Z.p2.at fun u q => o i2 (by simp) u q, Z.t1.at fun u q => o l1 (by simp) u q, Z.t2.at fun u q => o l2 (by simp) u q, ?_⟩
    rcases Z.st with ⟨a, x, y, b⟩ | ⟨T, f, oT, a, b, n1, n2, n3, n4⟩
    · exact .inl ⟨o _ (by simp) _ a, x, y, o _ (by simp) _ b⟩
    · exact .inr ⟨T, f, oT, o _ (by simp) _ a, k _ _ n4 b, n1, n2, n3, n4⟩
  item := fun i s Q E hi Z lt k => by
    have e1 := Array.getElem?_eq_getElem (Nat.lt_of_lt_of_le hi (Nat.min_le_left xs.size ys.size))
    have e2 := Array.getElem?_eq_getElem (Nat.lt_of_lt_of_le hi (Nat.min_le_right xs.size ys.size))
    have off : ∀ {c o}, s.heap.get? c = some o → s.heap.objs.size ≠ c := fun e => Nat.ne_of_gt (Heap.lt_size e)
    have n1 : s.heap.objs.size ≠ i1 := by obtain ⟨_, e, _⟩ := Z.p1; exact off e
    have n2 : s.heap.objs.size ≠ i2 := by obtain ⟨_, e, _⟩ := Z.p2; exact off e
    rcases Z.st with ⟨a, x, y, b⟩ | ⟨T, f, oT, a, b, m1, m2, m3, m4⟩
    · refine pyNext_zipT_item D a Z.its b Z.p1 Z.p2 Z.t1 Z.t2 e1 e2 fun h' a1 a2 a3 a4 a5 _ kept => ?_
      refine k s.heap.objs.size _ _ h' s.toks ⟨e1, e2⟩ (.inl ⟨_, a5, rfl, _, rfl⟩) ⟨kept _ _ D.TIz D.TITO D.TIi1 D.TIi2 Z.its, a3, a4, Z.t1.at fun o q => kept _ o D.l1z D.l1TO D.l1i1 D.l1i2 q, Z.t2.at fun o q => kept _ o D.l2z D.l2TO D.l2i1 D.l2i2 q, .inr ⟨_, false, _, a1, a5, off a, n1, n2, Nat.ne_of_gt lt⟩⟩ fun c o m q => ?_
      simp only [List.mem_cons, List.not_mem_nil, or_false, not_or] at m
      exact kept c o m.1 m.2.1 m.2.2.1 m.2.2.2 q
    · refine pyNext_zipH_item D a b Z.its Z.p1 Z.p2 Z.t1 Z.t2 e1 e2 fun h' a1 a3 a4 a5 _ kept => ?_
      refine k s.heap.objs.size _ _ h' s.toks ⟨e1, e2⟩ (.inl ⟨_, a5, rfl, _, rfl⟩) ⟨kept _ _ D.TIz D.TIi1 D.TIi2 Z.its, a3, a4, Z.t1.at fun o q => kept _ o D.l1z D.l1i1 D.l1i2 q, Z.t2.at fun o q => kept _ o D.l2z D.l2i1 D.l2i2 q, .inr ⟨T, true, oT, a1, kept _ _ m1 m2 m3 b, m1, m2, m3, m4⟩⟩ fun c o m q => ?_
      simp only [List.mem_cons, List.not_mem_nil, or_false, not_or] at m
      exact kept c o m.1 m.2.2.1 m.2.2.2 q
  done := fun s Q E Z k => by
    have over : xs[min xs.size ys.size]? = none ∨ ys[min xs.size ys.size]? = none := by
      rcases Nat.le_total xs.size ys.size with h | h
      · rw [Nat.min_eq_left h]; exact .inl (Array.getElem?_eq_none (Nat.le_refl _))
      · rw [Nat.min_eq_right h]; exact .inr (Array.getElem?_eq_none (Nat.le_refl _))
    rcases Z.st with ⟨a, x, y, b⟩ | ⟨T, f, oT, a, b, _⟩
    · refine pyNext_zipT_end hh D a Z.its b Z.p1 Z.p2 Z.t1 Z.t2 over fun h' kept => k h' s.toks fun c o m q => ?_
      simp only [List.mem_cons, List.not_mem_nil, or_false, not_or] at m
      exact kept c o m.1 m.2.1 m.2.2.1 m.2.2.2 q
    · refine pyNext_zipH_end hh D a b Z.its Z.p1 Z.p2 Z.t1 Z.t2 over fun h' kept => k h' s.toks fun c o m q => ?_
      simp only [List.mem_cons, List.not_mem_nil, or_false, not_or] at m
      exact kept c o m.1 m.2.2.1 m.2.2.2 q
/-- a zip of two tuples that nobody has asked yet -/
structure ZipNew (z TI TO i1 i2 l1 l2 : Addr) (xs ys : Array Value) (h : Heap) : Prop where
  zip : IsZip h z TI TO .none
  its : IsPair h TI (.ref i1) (.ref i2)
  out : ∃ a b, IsPair h TO a b
  p1 : h.IsTupleIter i1 l1 0
  p2 : h.IsTupleIter i2 l2 0
  t1 : h.IsTuple l1 xs
  t2 : h.IsTuple l2 ys
theorem zipArg {prog : Program} {w : World} (z TI TO i1 i2 l1 l2 : Addr) (D : ZipApart z TI TO i1 i2 l1 l2) (xs ys : Array Value) :
    PairArg prog w "zip" z [z, TI, TO, i1, i2, l1, l2] [z, TO, i1, i2] (min xs.size ys.size) (fun i k v => xs[i]? = some k ∧ ys[i]? = some v) (ZipNew z TI TO i1 i2 l1 l2 xs ys) where
  type := fun s Z => ⟨_, Z.zip, rfl⟩
  notDict := by decide
  keep := fun h h' Z k => by
    obtain ⟨a, b, q⟩ := Z.out
    exact ⟨k _ _ Z.zip, k _ _ Z.its, ⟨a, b, k _ _ q⟩, Z.p1.at fun o q => k _ o q, Z.p2.at fun o q => k _ o q, Z.t1.at fun o q => k _ o q, Z.t2.at fun o q => k _ o q⟩
  there := fun h Z b m => by
    obtain ⟨_, _, q⟩ := Z.out
    obtain ⟨o1, h1, _⟩ := Z.p1
    obtain ⟨o2, h2, _⟩ := Z.p2
    obtain ⟨o3, h3, _⟩ := Z.t1
    obtain ⟨o4, h4, _⟩ := Z.t2
    simp only [List.mem_cons, List.not_mem_nil, or_false] at m
    rcases m with rfl | rfl | rfl | rfl | rfl | rfl | rfl
    · exact ⟨_, Z.zip⟩
    · exact ⟨_, Z.its⟩
    · exact ⟨_, q⟩
    · exact ⟨_, h1⟩
    · exact ⟨_, h2⟩
    · exact ⟨_, h3⟩
    · exact ⟨_, h4⟩
  sub := fun b m => by
    simp only [List.mem_cons, List.not_mem_nil, or_false] at m ⊢
    rcases m with e | e | e | e <;> simp [e]
  noKeys := fun A s Q E hA Z k => getAttrOr_miss_zip Z.zip rfl rfl rfl zip_no_keys (by decide +kernel) hA k
  iter := fun A s d Q E hA Z lt off k => by
    refine wpAny_pyIter_zip Z.zip (k z _ _ s.heap s.toks (ZipAt.src hA D fun c m e => off (by rw [e]; exact m)) ⟨Z.its, Z.p1, Z.p2, Z.t1, Z.t2, .inl ⟨Z.zip, Z.out⟩⟩ (fun _ _ q => q) fun b m => .inl m)
end K1

/-! ## Z3 -/
set_option Elab.async false
set_option linter.all false
set_option maxRecDepth 100000
set_option maxHeartbeats 4000000
namespace K1
open PySem PySem.Spec PyProof.Rows L2
/-! ### rules of our own: dict(zip(a, b)) of tuples -/
def tDZip (K : PySem.W.Frag) (ta : TA) : TE := fun σ H Q => ta σ H fun vs H1 => ∃ (a b : Addr) (zs : List Str) (ys : List V), vs = [.ref a, .ref b] ∧ SqT K H1 a (zs.map V.str) ∧ SqT K H1 b ys ∧ ∀ p, H1 p = none → Q (.ref p) (upd H1 p (.dK (mergeK [] ((zs.map Sum.inr).zip ys))))
theorem kv_zip {zs : List Str} : ∀ {ys : List V} {us : List Value}, Vals ys us → KV ((zs.map Sum.inr : List Key).zip ys) ((zs.map Sum.inr : List Key).zip us) := by
  induction zs with
  | nil => intro ys us r; exact .nil
  | cons z r ih =>
    intro ys us h
    cases h with
    | nil => exact .nil
    | cons a b => exact .cons ⟨rfl, a⟩ (ih b)
theorem pairs_zip {P : Program} {w : World} {zs : List Str} {its us : List Value} (r : Vals (zs.map V.str) its) :
    PairsHave (mixKind P w) (min its.toArray.size us.toArray.size) (fun i k v => its.toArray[i]? = some k ∧ us.toArray[i]? = some v) ((zs.map Sum.inr).zip us) := by
  have len : zs.length = its.length := by have := r.length; rwa [List.length_map] at this
  refine ⟨by rw [List.length_zip, List.length_map, len, List.size_toArray, List.size_toArray], fun i key v h => ?_⟩
  obtain ⟨h1, h2⟩ := h
  rw [List.getElem?_toArray] at h1 h2
  have hi : i < zs.length := by rw [len]; exact (List.getElem?_eq_some_iff.mp h1).1
  obtain ⟨u, e, ru⟩ := r.get (i := i) (x := V.str zs[i]) (by rw [List.getElem?_map, List.getElem?_eq_getElem hi]; rfl)
  rw [h1] at e
  cases e
  refine ⟨Sum.inr zs[i], ?_, kV_is (k := Sum.inr zs[i]) ru⟩
  rw [List.getElem?_zip_eq_some]
  exact ⟨by rw [List.getElem?_map, List.getElem?_eq_getElem hi]; rfl, h2⟩
section
variable {X : Cx}
theorem pe_dictZip {e1 e2 : Expr} {ta : TA} {p p2 pos pos2 : Pos} (hc : X.calm = true) (hg : Gl X "dict") (hm : X.mg "dict" = none) (hg2 : Gl X "zip") (hm2 : X.mg "zip" = none) (ha : PA X [e1, e2] ta)
    (hst : starEach [e1, e2] X.env = (false, eval e1 X.env) :: starEach [e2] X.env := by rfl) (hpl : (backTo pos2 (starEach [e2] X.env)).any (·.1) = false := by rfl) :
    PE X (.Call (.Name "dict" p) [.Call (.Name "zip" p2) [e1, e2] [] pos2] [] pos) (tDZip X.K ta) := by
  refine ⟨fun pins s σ H Q I h => ?_⟩
  refine Call_ (ld_blt I hg hm boot_dict (PyProof.Rows.callWith_type1 (PyProof.Rows.args_cons ?_ rfl) rfl rfl))
  refine Call_ (ld_blt I hg2 hm2 PyProof.Rows.boot_zip (PyProof.Rows.callWith_type1 (thn (ha.run pos2 pins s σ H _ I h) fun us s1 ⟨vs, H1, J, r, q⟩ => ?_) hst hpl))
  obtain ⟨a, b, zs, ys, rfl, t1, t2, q⟩ := q
  obtain ⟨u1, u2, rfl, r1, r2⟩ := vals2 r
  cases r1
  cases r2
  obtain ⟨its, rv, q1, _⟩ := J.tuple t1
  obtain ⟨jts, rw_, q2, small⟩ := J.tuple t2
  have w1 : s1.heap.IsTuple a its.toArray := q1
  have w2 : s1.heap.IsTuple b jts.toArray := q2
  obtain ⟨o1, g1, _⟩ := id w1
  obtain ⟨o2, g2, _⟩ := id w2
  refine RZ.call_zipT w1 w2 fun h' hz hTI hTO h1 h2 len kept => PyProof.Rows.args_nil ?_
  have ap := PySem.W.ktu_apart s1.heap.objs.size a b (Heap.lt_size g1) (Heap.lt_size g2)
  refine PySem.call_dict_pairs (s := { s1 with heap := h' }) (knd := mixKind X.prog X.w) (kvs := (zs.map Sum.inr).zip jts) (zipArg _ _ _ _ _ a b ap its.toArray jts.toArray) (J.ok.hd hc) ⟨hz, hTI, ⟨_, _, hTO⟩, h1, h2, w1.at fun o e => kept _ o e, w2.at fun o e => kept _ o e⟩ (pairs_zip rv) ?_ fun h'' tk dd kept2 => ?_
  · rw [List.size_toArray, List.size_toArray]
    exact Nat.le_trans (Nat.min_le_right _ _) (by rw [← rw_.length]; exact small)
  have le : s1.heap.objs.size ≤ h'.objs.size := by rw [len]; omega
  have all : ∀ c o, s1.heap.get? c = some o → h''.get? c = some o := fun c o e => by
    refine kept2 c o (fun m => ?_) (kept c o e)
    have lt := Heap.lt_size e
    simp only [List.mem_cons, List.not_mem_nil, or_false] at m
    have no : ∀ n : Nat, ¬ (s1.heap.objs.size + n < s1.heap.objs.size) := fun n z => Nat.lt_irrefl _ (Nat.lt_of_le_of_lt (Nat.le_add_right _ n) z)
    rcases m with z | z | z | z <;> rw [z] at lt
    · exact no 4 lt
    · exact no 3 lt
    · exact no 0 lt
    · exact no 1 lt
  have big := J.big
  have nsys : (h'.objs.size == sysModules) = false := beq_eq_false_iff_ne.mpr (Nat.ne_of_gt (Nat.lt_of_lt_of_le big le))
  have few : (mergeK [] ((zs.map Sum.inr).zip ys)).length ≤ sizeLine := by
    refine Nat.le_trans (length_mergeK _ _) ?_
    rw [List.length_nil, Nat.zero_add, List.length_zip]
    exact Nat.le_trans (Nat.min_le_right _ _) small
  exact ⟨.ref h'.objs.size, upd H1 h'.objs.size (.dK (mergeK [] ((zs.map Sum.inr).zip ys))), J.laid (t' := tk) all le (show ObjOk X.prog X.w _ _ _ (.dK (mergeK [] ((zs.map Sum.inr).zip ys))) from ⟨few, nsys, _, KV.merge (kv_zip rw_) .nil, dd⟩), rfl, q _ (J.hok.fresh le)⟩
end
end K1

/-! ## Z4 -/
set_option Elab.async false
set_option linter.all false
set_option maxRecDepth 100000
set_option maxHeartbeats 4000000
namespace K1
open PySem RZ
open PySem.Sem (wp)
/-! ### list(zip(a, b)) of tuples: pair j is the object b0 + j -/
structure Zl (b0 S z TI TO i1 i2 l1 l2 : Addr) (xs ys : Array Value) (i : Nat) (h : Heap) : Prop where
  pos : ZipAt z TI TO i1 i2 l1 l2 S xs ys i h
  size : h.objs.size = b0 + i
  made : ∀ (j : Nat) (x y : Value), j < i → xs[j]? = some x → ys[j]? = some y → IsPair h (b0 + j) x y
def Refs (b0 : Addr) (i : Nat) (acc : Array Value) : Prop := acc.size = i ∧ ∀ j : Nat, j < i → acc[j]? = some (.ref (b0 + j))
theorem Refs.push {b0 : Addr} {i : Nat} {acc : Array Value} (h : Refs b0 i acc) : Refs b0 (i + 1) (acc.push (.ref (b0 + i))) := by
  refine ⟨by rw [Array.size_push, h.1], fun j hj => ?_⟩
  rw [Array.getElem?_push, h.1]
  by_cases e : j = i
  · rw [if_pos e, e]
  · rw [if_neg e]; exact h.2 j (by omega)
abbrev lobj (acc : Array Value) (c : Nat) : Obj := { cls := .type "list", dict := none, data := .seq acc c, slots := #[] }
section
variable {prog : Program} {w : World} {A : Around} {R : Result → Shared → Prop} {b0 S z TI TO i1 i2 l1 l2 : Addr} {xs ys : Array Value}
theorem Zl.other {i : Nat} {h h' : Heap} (Z : Zl b0 S z TI TO i1 i2 l1 l2 xs ys i h) (ap : ∀ c ∈ [z, TI, TO, i1, i2, l1, l2], S ≠ c) (lowS : S < b0) (len : h'.objs.size = h.objs.size) (k : ∀ b o, b ≠ S → h.get? b = some o → h'.get? b = some o) : Zl b0 S z TI TO i1 i2 l1 l2 xs ys i h' := by
  have D : ∀ c ∈ [z, TI, TO, i1, i2, l1, l2], ∀ u, h.get? c = some u → h'.get? c = some u := fun c m u q => k c u (Ne.symm (ap c m)) q
  refine ⟨⟨D _ (by simp) _ Z.pos.its, Z.pos.p1.at fun u q => D i1 (by simp) u q, Z.pos.p2.at fun u q => D i2 (by simp) u q, Z.pos.t1.at fun u q => D l1 (by simp) u q, Z.pos.t2.at fun u q => D l2 (by simp) u q, ?_⟩, len.trans Z.size, fun j x y hj hx hy => ?_⟩
  · rcases Z.pos.st with ⟨a, x, y, b⟩ | ⟨T, f, oT, a, b, n1, n2, n3, n4⟩
    · exact .inl ⟨D _ (by simp) _ a, x, y, D _ (by simp) _ b⟩
    · exact .inr ⟨T, f, oT, D _ (by simp) _ a, k _ _ n4 b, n1, n2, n3, n4⟩
  · exact k _ _ (Nat.ne_of_gt (Nat.lt_of_lt_of_le lowS (Nat.le_add_right _ _))) (Z.made j x y hj hx hy)
/-- one more pair -/
theorem zl_next {A : Around} {E : Value → Shared → Prop} {s : Shared} {i : Nat} {x y : Value} {Q : Option Value → Shared → Prop} (D : ZipApart z TI TO i1 i2 l1 l2) (low : ∀ c ∈ [S, z, TO, i1, i2], c < b0) (Z : Zl b0 S z TI TO i1 i2 l1 l2 xs ys i s.heap) (gx : xs[i]? = some x) (gy : ys[i]? = some y)
    (k : ∀ h', Zl b0 S z TI TO i1 i2 l1 l2 xs ys (i + 1) h' → (∀ c o, c ∉ [z, TO, i1, i2] → s.heap.get? c = some o → h'.get? c = some o) → Q (some (.ref (b0 + i))) { s with heap := h' }) : wpAny (model prog w) A (pyNext (.ref z)) Q E s := by
  have off : ∀ c ∈ [S, z, TO, i1, i2], s.heap.objs.size ≠ c := fun c m => by
    rw [Z.size]
    exact Nat.ne_of_gt (Nat.lt_of_lt_of_le (low c m) (Nat.le_add_right _ _))
  have fin : ∀ h', IsPair h' TI (.ref i1) (.ref i2) → h'.IsTupleIter i1 l1 (i + 1) → h'.IsTupleIter i2 l2 (i + 1) → h'.IsTuple l1 xs → h'.IsTuple l2 ys →
      ((IsZip h' z TI TO .none ∧ ∃ a b, IsPair h' TO a b) ∨ ∃ T f oT, IsZipHeld h' z TI TO T f ∧ h'.get? T = some oT ∧ T ≠ z ∧ T ≠ i1 ∧ T ≠ i2 ∧ T ≠ S) → IsPair h' s.heap.objs.size x y → h'.objs.size = s.heap.objs.size + 1 →
      (∀ c o, c ∉ [z, TO, i1, i2] → s.heap.get? c = some o → h'.get? c = some o) → Q (some (.ref s.heap.objs.size)) { s with heap := h' } := fun h' c1 c2 c3 c4 c5 c6 new len kept => by
    rw [Z.size]
    refine k h' ⟨⟨c1, c2, c3, c4, c5, c6⟩, by rw [len, Z.size]; rfl, fun j u v hj hu hv => ?_⟩ kept
    by_cases e : j = i
    · subst e
      rw [gx] at hu
      rw [gy] at hv
      cases hu
      cases hv
      rw [← Z.size]
      exact new
    · refine kept _ _ (fun m => ?_) (Z.made j u v (by omega) hu hv)
      exact Nat.lt_irrefl _ (Nat.lt_of_le_of_lt (Nat.le_add_right b0 j) (low _ (List.mem_cons_of_mem _ m)))
  have mem : ∀ {c : Addr}, c ∉ [z, TO, i1, i2] → c ≠ z ∧ c ≠ TO ∧ c ≠ i1 ∧ c ≠ i2 := fun m => by
    simpa only [List.mem_cons, List.not_mem_nil, or_false, not_or] using m
  rcases Z.pos.st with ⟨a, p, q, b⟩ | ⟨T, f, oT, a, b, m1, m2, m3, m4⟩
  · refine pyNext_zipT_item D a Z.pos.its b Z.pos.p1 Z.pos.p2 Z.pos.t1 Z.pos.t2 gx gy fun h' a1 a2 a3 a4 a5 a6 kept => fin h' (kept _ _ D.TIz D.TITO D.TIi1 D.TIi2 Z.pos.its) a3 a4 (Z.pos.t1.at fun o q => kept _ o D.l1z D.l1TO D.l1i1 D.l1i2 q) (Z.pos.t2.at fun o q => kept _ o D.l2z D.l2TO D.l2i1 D.l2i2 q) (.inr ⟨_, false, _, a1, a5, off z (by simp), off i1 (by simp), off i2 (by simp), off S (by simp)⟩) a5 a6 fun c o m e => ?_
    obtain ⟨n1, n2, n3, n4⟩ := mem m
    exact kept c o n1 n2 n3 n4 e
  · refine pyNext_zipH_item D a b Z.pos.its Z.pos.p1 Z.pos.p2 Z.pos.t1 Z.pos.t2 gx gy fun h' a1 a3 a4 a5 a6 kept => fin h' (kept _ _ D.TIz D.TIi1 D.TIi2 Z.pos.its) a3 a4 (Z.pos.t1.at fun o q => kept _ o D.l1z D.l1i1 D.l1i2 q) (Z.pos.t2.at fun o q => kept _ o D.l2z D.l2i1 D.l2i2 q) (.inr ⟨T, true, oT, a1, kept _ _ m1 m2 m3 b, m1, m2, m3, m4⟩) a5 a6 fun c o m e => ?_
    obtain ⟨n1, n2, n3, n4⟩ := mem m
    exact kept c o n1 n3 n4 e
theorem zl_stop {A : Around} {E : Value → Shared → Prop} {s : Shared} {Q : Option Value → Shared → Prop} (hh : A.handled = none) (D : ZipApart z TI TO i1 i2 l1 l2) (ap : ∀ c ∈ [z, TI, TO, i1, i2, l1, l2], S ≠ c) (low : ∀ c ∈ [S, z, TO, i1, i2], c < b0) (Z : Zl b0 S z TI TO i1 i2 l1 l2 xs ys (min xs.size ys.size) s.heap)
    (k : ∀ h', (∀ (j : Nat) (x y : Value), j < min xs.size ys.size → xs[j]? = some x → ys[j]? = some y → IsPair h' (b0 + j) x y) → (∀ c o, c ∉ [z, TO, i1, i2] → s.heap.get? c = some o → h'.get? c = some o) → ∀ tk, Q none { s with heap := h', toks := tk }) : wpAny (model prog w) A (pyNext (.ref z)) Q E s := by
  refine (ZipAt.src hh D ap).done s Q E Z.pos fun h' tk kept => k h' (fun j x y hj hx hy => ?_) kept tk
  refine kept _ _ (fun m => ?_) (Z.made j x y hj hx hy)
  exact Nat.lt_irrefl _ (Nat.lt_of_le_of_lt (Nat.le_add_right b0 j) (low _ (List.mem_cons_of_mem _ m)))
/-- the list at S takes all pairs -/
theorem zl_loop (hh : A.in1.handled = none) (D : ZipApart z TI TO i1 i2 l1 l2) (ap : ∀ c ∈ [z, TI, TO, i1, i2, l1, l2], S ≠ c) (low : ∀ c ∈ [S, z, TO, i1, i2], c < b0) (few : min xs.size ys.size ≤ sizeLine) (res : Value) :
    ∀ (left i : Nat) (s : Shared) (acc : Array Value) (c : Nat), min xs.size ys.size - i = left → i ≤ min xs.size ys.size → Zl b0 S z TI TO i1 i2 l1 l2 xs ys i s.heap → s.heap.get? S = some (lobj acc c) → Refs b0 i acc →
    (∀ h' tk acc' c', h'.get? S = some (lobj acc' c') → Refs b0 (min xs.size ys.size) acc' → (∀ (j : Nat) (x y : Value), j < min xs.size ys.size → xs[j]? = some x → ys[j]? = some y → IsPair h' (b0 + j) x y) →
      (∀ b o, b ∉ [S, z, TO, i1, i2] → s.heap.get? b = some o → h'.get? b = some o) → R (.ok (.ret res)) { s with heap := h', toks := tk }) →
    codeAny (model prog w) A (.builtin "list.extend.loop" ⟨[.ref S, .ref z, res], []⟩) R s := by
  have lowS : S < b0 := low S (by simp)
  have nS : S ∉ [z, TO, i1, i2] := fun m => by
    refine ap S ?_ rfl
    simp only [List.mem_cons, List.not_mem_nil, or_false] at m ⊢
    rcases m with e | e | e | e <;> simp [← e]
  intro left
  induction left with
  | zero =>
    intro i s acc c e hi Z L r k
    obtain rfl : i = min xs.size ys.size := by omega
    refine codeAny_builtin F.entry_extend_loop ?_
    rw [Around.under_plainId F.plain_extend_loop _]; show wpAny _ A.in1 (pyNext (.ref z) >>= _) _ _ s
    refine wpAny_bind (zl_stop hh D ap low Z fun h' made kept tk => wpAny_pure (k h' tk acc c (kept S _ nS L) r made fun b o m q => kept b o (fun z => m (List.mem_cons_of_mem _ z)) q))
  | succ left ih =>
    intro i s acc c e hi Z L r k
    have hlt : i < min xs.size ys.size := by omega
    have gx := Array.getElem?_eq_getElem (Nat.lt_of_lt_of_le hlt (Nat.min_le_left xs.size ys.size))
    have gy := Array.getElem?_eq_getElem (Nat.lt_of_lt_of_le hlt (Nat.min_le_right xs.size ys.size))
    refine codeAny_builtin F.entry_extend_loop ?_
    rw [Around.under_plainId F.plain_extend_loop _]; show wpAny _ A.in1 (pyNext (.ref z) >>= _) _ _ s
    refine wpAny_bind (zl_next D low Z gx gy fun h' Z' kept => ?_)
    have L' := kept S _ nS L
    show wpAny _ A.in1 (updateSeq S (·.push (.ref (b0 + i))) >>= _) _ _ _
    refine wpAny_bind (wpAny_updateSeq L' rfl (wpAny_pure ⟨plainId_quiet F.plain_extend_loop _, ?_⟩) (by rw [r.1]; omega) (by show (acc.push _).size ≤ sizeLine + 1; rw [Array.size_push, r.1]; omega))
    have other : ∀ b o, b ≠ S → h'.get? b = some o → (h'.update S (Obj.mapSeq (·.push (.ref (b0 + i))))).get? b = some o := fun b o n q => (Heap.get?_update_other _ _ (Ne.symm n)).trans q
    refine ih (i + 1) { s with heap := h'.update S (Obj.mapSeq (·.push (.ref (b0 + i)))) } (acc.push (.ref (b0 + i))) _ (by omega) hlt (Z'.other ap lowS (by rw [Heap.size_update]) other) (Heap.get?_update_self _ L' rfl) r.push fun h2 tk acc' c' L2 r2 made kept2 => ?_
    refine k h2 tk acc' c' L2 r2 made fun b o m q => kept2 b o m (other b o (fun z => m (by rw [z]; exact List.mem_cons_self)) (kept b o (fun z => m (List.mem_cons_of_mem _ z)) q))
end
end K1

/-! ## Z5 -/
set_option Elab.async false
set_option linter.all false
set_option maxRecDepth 100000
set_option maxHeartbeats 4000000
namespace K1
open PySem RZ
open PySem.Sem (wp)
theorem zip_len0 : typeLookup (.type "zip") "__len__" = pure none := am_miss_of_fast (by decide +kernel)
theorem zip_hint0 : typeLookup (.type "zip") "__length_hint__" = pure none := am_miss_of_fast (by decide +kernel)
section
variable {prog : Program} {w : World} {A : Around} {R : Result → Shared → Prop} {S z TI TO i1 i2 l1 l2 : Addr} {xs ys : Array Value}
/-- what list() of such a zip leaves -/
abbrev ZlEnd (R : Result → Shared → Prop) (res : Value) (b0 S z TO i1 i2 : Addr) (xs ys : Array Value) (s : Shared) : Prop := ∀ h' tk acc' c', h'.get? S = some (lobj acc' c') → Refs b0 (min xs.size ys.size) acc' →
  (∀ (j : Nat) (x y : Value), j < min xs.size ys.size → xs[j]? = some x → ys[j]? = some y → IsPair h' (b0 + j) x y) → (∀ b o, b ∉ [S, z, TO, i1, i2] → s.heap.get? b = some o → h'.get? b = some o) → R (.ok (.ret res)) { s with heap := h', toks := tk }
theorem zl_extend {s : Shared} {c : Nat} (hh : A.in1.handled = none) (D : ZipApart z TI TO i1 i2 l1 l2) (ap : ∀ c ∈ [z, TI, TO, i1, i2, l1, l2], S ≠ c) (few : min xs.size ys.size ≤ sizeLine) (res : Value) (Z : ZipAt z TI TO i1 i2 l1 l2 S xs ys 0 s.heap) (zip : IsZip s.heap z TI TO .none)
    (low : ∀ c ∈ [S, z, TO, i1, i2], c < s.heap.objs.size) (L : s.heap.get? S = some (lobj #[] c)) (k : ZlEnd R res s.heap.objs.size S z TO i1 i2 xs ys s) :
    wpAny (model prog w) A.in1 (Builtin.List.listExtendWith (.ref S) (.ref z) res) (fun fin s' => match fin with | .done f => R (.ok f) s' | .again c' => c'.quiet = true ∧ codeAny (model prog w) A c' R s') (fun e s' => R (.error e) s') s := by
  have ty : s.TypeIs (.ref z) "zip" := ⟨_, zip, rfl⟩
  have nSz : S ≠ z := ap z (by simp)
  unfold Builtin.List.listExtendWith
  refine wpAny_bind (wpAny_typeOf ty ?_)
  simp only [show Builtin.List.listSameRef (.ref S) (.ref z) = false from by simp [Builtin.List.listSameRef, nSz], show (Value.type "zip" == Value.type "list") = false from by decide, show (Value.type "zip" == Value.type "tuple") = false from by decide, Bool.or_false, Bool.false_eq_true, if_false]
  refine wpAny_bind (wpAny_pyIter_zip zip (wpAny_bind (wpAny_holding ?_)))
  unfold Builtin.List.listLengthHint
  refine wpAny_bind (wpAny_specialOf ty zip_len0 ?_)
  show wpAny _ A.in1 (specialOf (.ref z) (Str.ofString "__length_hint__") >>= _) _ _ _
  refine wpAny_bind (wpAny_specialOf ty zip_hint0 (wpAny_pure ?_))
  show wpAny _ A.in1 (rule "list.extend.makes-room" >>= fun _ => Builtin.List.listTouch (.ref S) >>= fun _ => again (.builtin "list.extend.loop" ⟨[.ref S, .ref z, res], []⟩)) _ _ _
  refine wpAny_bind (wpAny_rule (wpAny_bind ?_))
  show wpAny _ A.in1 (updateSeq S (·.push .none) >>= fun _ => updateSeq S (·.pop)) _ _ _
  refine wpAny_bind (wpAny_updateSeq L rfl ?_)
  have L2 := Heap.get?_update_self (Obj.mapSeq (·.push Value.none)) L rfl
  refine wpAny_updateSeq (hz := by seq_fits) L2 rfl ?_
  have L3 := Heap.get?_update_self (Obj.mapSeq (·.pop)) L2 rfl
  obtain ⟨h2, eq2⟩ : ∃ h2, h2 = (s.heap.update S (Obj.mapSeq (·.push Value.none))).update S (Obj.mapSeq (·.pop)) := ⟨_, rfl⟩
  rw [← eq2] at L3 ⊢
  have other : ∀ b o, b ≠ S → s.heap.get? b = some o → h2.get? b = some o := fun b o n q => by
    rw [eq2]
    exact (Heap.get?_update_other _ _ (Ne.symm n)).trans ((Heap.get?_update_other _ _ (Ne.symm n)).trans q)
  have len : h2.objs.size = s.heap.objs.size := by rw [eq2, Heap.size_update, Heap.size_update]
  have Z0 : Zl s.heap.objs.size S z TI TO i1 i2 l1 l2 xs ys 0 s.heap := ⟨Z, rfl, fun j x y hj => absurd hj (Nat.not_lt_zero j)⟩
  refine wpAny_pure ⟨plainId_quiet F.plain_extend_loop _, zl_loop hh D ap low few res _ 0 { s with heap := h2 } #[] _ rfl (Nat.zero_le _) (Z0.other ap (low S (by simp)) len other) L3 ⟨rfl, fun j hj => absurd hj (Nat.not_lt_zero j)⟩ fun h' tk acc' c' a b d e => ?_⟩
  exact k h' tk acc' c' a b d fun c o m q => e c o m (other c o (fun z => m (by rw [z]; exact List.mem_cons_self)) q)
theorem zl_init {s : Shared} (hh : A.in1.handled = none) (D : ZipApart z TI TO i1 i2 l1 l2) (ap : ∀ c ∈ [z, TI, TO, i1, i2, l1, l2], S ≠ c) (few : min xs.size ys.size ≤ sizeLine) (Z : ZipAt z TI TO i1 i2 l1 l2 S xs ys 0 s.heap) (zip : IsZip s.heap z TI TO .none)
    (low : ∀ c ∈ [S, z, TO, i1, i2], c < s.heap.objs.size) (L : s.heap.get? S = some (lobj #[] 0)) (k : ZlEnd R .none s.heap.objs.size S z TO i1 i2 xs ys s) :
    wpAny (model prog w) A.in1 (Builtin.«list.__init__» ⟨[.ref S, .ref z], []⟩) (fun fin s' => match fin with | .done f => R (.ok f) s' | .again c' => c'.quiet = true ∧ codeAny (model prog w) A c' R s') (fun e s' => R (.error e) s') s := by
  show wpAny _ A.in1 (do let old ← Builtin.List.listItems (.ref S); Builtin.List.listUpdate (.ref S) (fun _ => #[]); letGo old.toList.reverse; Builtin.List.listExtendWith (.ref S) (.ref z) .none) _ _ s
  refine wpAny_bind ?_
  unfold Builtin.List.listItems
  refine wpAny_bind (wpAny_seqItems L rfl (wpAny_pure ?_))
  show wpAny _ A.in1 (updateSeq S (fun _ => #[]) >>= fun _ => letGo (#[] : Array Value).toList.reverse >>= fun _ => Builtin.List.listExtendWith (.ref S) (.ref z) .none) _ _ s
  refine wpAny_bind (wpAny_updateSeq L rfl (wpAny_bind (wpAny_letGo ?_)))
  have L2 := Heap.get?_update_self (Obj.mapSeq (fun _ => (#[] : Array Value))) L rfl
  obtain ⟨h2, eq2⟩ : ∃ h2, h2 = s.heap.update S (Obj.mapSeq (fun _ => (#[] : Array Value))) := ⟨_, rfl⟩
  rw [← eq2] at L2 ⊢
  have other : ∀ b o, b ≠ S → s.heap.get? b = some o → h2.get? b = some o := fun b o n q => by
    rw [eq2]
    exact (Heap.get?_update_other _ _ (Ne.symm n)).trans q
  have len : h2.objs.size = s.heap.objs.size := by rw [eq2, Heap.size_update]
  have Z0 : Zl s.heap.objs.size S z TI TO i1 i2 l1 l2 xs ys 0 s.heap := ⟨Z, rfl, fun j x y hj => absurd hj (Nat.not_lt_zero j)⟩
  refine zl_extend (s := { s with heap := h2 }) hh D ap few .none (Z0.other ap (low S (by simp)) len other).pos (other _ _ (Ne.symm (ap z (by simp))) zip) (fun c m => by show c < h2.objs.size; rw [len]; exact low c m) L2 fun h' tk acc' c' a b d e => ?_
  have b' : Refs s.heap.objs.size (min xs.size ys.size) acc' := by rw [← len]; exact b
  refine k h' tk acc' c' a b' (fun j x y hj hx hy => by rw [← len]; exact d j x y hj hx hy) fun c o m q => e c o m (other c o (fun z => m (by rw [z]; exact List.mem_cons_self)) q)
/-- list(z): the pairs in new tuples behind the list -/
theorem call_listZip {E : Value → Shared → Prop} {s : Shared} {Q : Value → Shared → Prop} (hh : A.handled = none) (D : ZipApart z TI TO i1 i2 l1 l2) (few : min xs.size ys.size ≤ sizeLine) (Z : ZipNew z TI TO i1 i2 l1 l2 xs ys s.heap)
    (k : ∀ h' tk acc' c', h'.get? s.heap.objs.size = some (lobj acc' c') → Refs (s.heap.objs.size + 1) (min xs.size ys.size) acc' → (∀ (j : Nat) (x y : Value), j < min xs.size ys.size → xs[j]? = some x → ys[j]? = some y → IsPair h' (s.heap.objs.size + 1 + j) x y) →
      (∀ b o, b ∉ [z, TO, i1, i2] → s.heap.get? b = some o → h'.get? b = some o) → Q (.ref s.heap.objs.size) { s with heap := h', toks := tk }) : wpAny (model prog w) A (call (.type "list") [.ref z]) Q E s := by
  have there : ∀ c ∈ [z, TI, TO, i1, i2, l1, l2], c < s.heap.objs.size := fun c m => by
    obtain ⟨o, q⟩ := (zipArg (prog := prog) (w := w) z TI TO i1 i2 l1 l2 D xs ys).there _ Z c m
    exact Heap.lt_size q
  refine callType_codes (Q₁ := fun obj s₁ => obj = .ref s.heap.objs.size ∧ s₁ = { s with heap := s.heap.push (lobj #[] 0) }) F.called_list (F.typeCall_list_1 _) F.entry_list_init (code_list_new _ ⟨rfl, rfl⟩) fun obj s₁ e => ?_
  obtain ⟨rfl, rfl⟩ := e
  have new : (s.heap.push (lobj #[] 0)).get? s.heap.objs.size = some (lobj #[] 0) := Heap.get?_push_size _ rfl
  have up : ∀ b o, s.heap.get? b = some o → (s.heap.push (lobj #[] 0)).get? b = some o := fun b o q => Heap.get?_push_of_some _ q
  have ap : ∀ c ∈ [z, TI, TO, i1, i2, l1, l2], s.heap.objs.size ≠ c := fun c m => Nat.ne_of_gt (there c m)
  have Z2 := (zipArg (prog := prog) (w := w) z TI TO i1 i2 l1 l2 D xs ys).keep _ _ Z up
  have len : (s.heap.push (lobj #[] 0)).objs.size = s.heap.objs.size + 1 := Heap.size_push ..
  refine ⟨⟨_, new, rfl⟩, F.args_list_init_2 _ _, zl_init (A := A.in1) (s := { s with heap := s.heap.push (lobj #[] 0) }) hh D ap few ⟨Z2.its, Z2.p1, Z2.p2, Z2.t1, Z2.t2, .inl ⟨Z2.zip, Z2.out⟩⟩ Z2.zip (fun c m => ?_) new fun h' tk acc' c' a b d e => ?_⟩
  · show c < (s.heap.push (lobj #[] 0)).objs.size
    rw [len]
    rcases List.mem_cons.mp m with rfl | m
    · exact Nat.lt_succ_self _
    · refine Nat.lt_succ_of_lt (there c ?_)
      simp only [List.mem_cons, List.not_mem_nil, or_false] at m ⊢
      rcases m with e | e | e | e <;> simp [e]
  · refine ⟨rfl, k h' tk acc' c' a (by rw [← len]; exact b) (fun j x y hj hx hy => by rw [← len]; exact d j x y hj hx hy) fun c o m q => e c o (fun n => ?_) (up c o q)⟩
    rcases List.mem_cons.mp n with rfl | n
    · exact Nat.lt_irrefl _ (Heap.lt_size q)
    · exact m n
end
end K1

/-! ## Z6 -/
set_option Elab.async false
set_option linter.all false
set_option maxRecDepth 100000
set_option maxHeartbeats 4000000
namespace K1
open PySem PySem.Spec PyProof.Rows L2
section
variable {X : Cx}
theorem pairs_list {P : Program} {w : World} {zs : List Str} {its us : List Value} (r : Vals (zs.map V.str) its) : PairsHave (mixKind P w) (its.zip us).length (PairRel (its.zip us)) ((zs.map Sum.inr).zip us) := by
  obtain ⟨h1, h2⟩ := pairs_zip (P := P) (w := w) (us := us) r
  refine ⟨by rw [h1, List.length_zip, List.size_toArray, List.size_toArray], fun i key v h => h2 i key v ?_⟩
  show its.toArray[i]? = some key ∧ us.toArray[i]? = some v
  rw [List.getElem?_toArray, List.getElem?_toArray]
  exact List.getElem?_zip_eq_some.mp h
theorem pe_dictListZip {e1 e2 : Expr} {ta : TA} {p p2 p3 pos pos2 pos3 : Pos} (hc : X.calm = true) (hg : Gl X "dict") (hm : X.mg "dict" = none) (hg3 : Gl X "list") (hm3 : X.mg "list" = none) (hg2 : Gl X "zip") (hm2 : X.mg "zip" = none) (ha : PA X [e1, e2] ta)
    (hst : starEach [e1, e2] X.env = (false, eval e1 X.env) :: starEach [e2] X.env := by rfl) (hpl : (backTo pos2 (starEach [e2] X.env)).any (·.1) = false := by rfl) :
    PE X (.Call (.Name "dict" p) [.Call (.Name "list" p3) [.Call (.Name "zip" p2) [e1, e2] [] pos2] [] pos3] [] pos) (tDZip X.K ta) := by
  refine ⟨fun pins s σ H Q I h => ?_⟩
  refine Call_ (ld_blt I hg hm boot_dict (PyProof.Rows.callWith_type1 (PyProof.Rows.args_cons ?_ rfl) rfl rfl))
  refine Call_ (ld_blt I hg3 hm3 boot_list (PyProof.Rows.callWith_type1 (PyProof.Rows.args_cons ?_ rfl) rfl rfl))
  refine Call_ (ld_blt I hg2 hm2 PyProof.Rows.boot_zip (PyProof.Rows.callWith_type1 (thn (ha.run pos2 pins s σ H _ I h) fun us s1 ⟨vs, H1, J, r, q⟩ => ?_) hst hpl))
  obtain ⟨a, b, zs, ys, rfl, t1, t2, q⟩ := q
  obtain ⟨u1, u2, rfl, r1, r2⟩ := vals2 r
  cases r1
  cases r2
  obtain ⟨its, rv, q1, _⟩ := J.tuple t1
  obtain ⟨jts, rw_, q2, small⟩ := J.tuple t2
  have w1 : s1.heap.IsTuple a its.toArray := q1
  have w2 : s1.heap.IsTuple b jts.toArray := q2
  obtain ⟨o1, g1, _⟩ := id w1
  obtain ⟨o2, g2, _⟩ := id w2
  have few : min its.toArray.size jts.toArray.size ≤ sizeLine := by
    rw [List.size_toArray, List.size_toArray]
    exact Nat.le_trans (Nat.min_le_right _ _) (by rw [← rw_.length]; exact small)
  refine RZ.call_zipT w1 w2 fun h' hz hTI hTO h1 h2 len kept => PyProof.Rows.args_nil ?_
  have ap := PySem.W.ktu_apart s1.heap.objs.size a b (Heap.lt_size g1) (Heap.lt_size g2)
  refine call_listZip (s := { s1 with heap := h' }) (xs := its.toArray) (ys := jts.toArray) (J.ok.hd hc) ap few ⟨hz, hTI, ⟨_, _, hTO⟩, h1, h2, w1.at fun o e => kept _ o e, w2.at fun o e => kept _ o e⟩ fun h3 tk3 acc c L refs made kept3 => PyProof.Rows.args_nil ?_
  have ml : (its.zip jts).length = min its.toArray.size jts.toArray.size := by rw [List.length_zip, List.size_toArray, List.size_toArray]
  refine PySem.call_dict_pairs (s := { s1 with heap := h3, toks := tk3 }) (knd := mixKind X.prog X.w) (kvs := (zs.map Sum.inr).zip jts) (PairArg.list h'.objs.size acc (fun j => h'.objs.size + 1 + j) (its.zip jts)) (J.ok.hd hc) ⟨⟨_, c, L, rfl, rfl, rfl⟩, refs.1.trans ml.symm, fun j k v e => ?_⟩ (pairs_list rv) (by rw [ml]; exact few) fun h'' tk dd kept2 => ?_
  · have lt : j < min its.toArray.size jts.toArray.size := by rw [← ml]; exact (List.getElem?_eq_some_iff.mp e).1
    obtain ⟨e1, e2⟩ := List.getElem?_zip_eq_some.mp e
    exact ⟨refs.2 j lt, .inl ⟨_, made j k v lt (by rw [List.getElem?_toArray]; exact e1) (by rw [List.getElem?_toArray]; exact e2), rfl, _, rfl⟩⟩
  have all3 : ∀ c o, s1.heap.get? c = some o → h3.get? c = some o := fun c o e => by
    refine kept3 c o (fun m => ?_) (kept c o e)
    have lt := Heap.lt_size e
    simp only [List.mem_cons, List.not_mem_nil, or_false] at m
    have no : ∀ n : Nat, ¬ (s1.heap.objs.size + n < s1.heap.objs.size) := fun n z => Nat.lt_irrefl _ (Nat.lt_of_le_of_lt (Nat.le_add_right _ n) z)
    rcases m with z | z | z | z <;> rw [z] at lt
    · exact no 4 lt
    · exact no 3 lt
    · exact no 0 lt
    · exact no 1 lt
  have all : ∀ c o, s1.heap.get? c = some o → h''.get? c = some o := fun c o e => kept2 c o (fun m => nomatch m) (all3 c o e)
  have le : s1.heap.objs.size ≤ h3.objs.size := by
    have : h'.objs.size < h3.objs.size := Heap.lt_size L
    rw [len] at this
    omega
  have big := J.big
  have nsys : (h3.objs.size == sysModules) = false := beq_eq_false_iff_ne.mpr (Nat.ne_of_gt (Nat.lt_of_lt_of_le big le))
  have short : (mergeK [] ((zs.map Sum.inr).zip ys)).length ≤ sizeLine := by
    refine Nat.le_trans (length_mergeK _ _) ?_
    rw [List.length_nil, Nat.zero_add, List.length_zip]
    exact Nat.le_trans (Nat.min_le_right _ _) small
  exact ⟨.ref h3.objs.size, upd H1 h3.objs.size (.dK (mergeK [] ((zs.map Sum.inr).zip ys))), J.laid (t' := tk) all le (show ObjOk X.prog X.w _ _ _ (.dK (mergeK [] ((zs.map Sum.inr).zip ys))) from ⟨short, nsys, _, KV.merge (kv_zip rw_) .nil, dd⟩), rfl, q _ (J.hok.fresh le)⟩
end
end K1

/-! ## Z7 -/
set_option Elab.async false
set_option linter.all false
set_option maxRecDepth 100000
set_option maxHeartbeats 4000000
namespace K1
open PySem
open PySem.Sem (wp)
section
variable {prog : Program} {w : World} {κ : Type} [DecidableEq κ] {knd : KeyKind prog w κ} {A : Around} {E : Value → Shared → Prop} {s : Shared}
theorem sub_dict_self : isSubtype (.type "dict") (.type "dict") = pure true := by rw [isSubtype_type]; kernel_rfl
/-- d[key] = v where the hash is known -/
theorem put_pairs {d : Addr} {kvs : List (κ × Value)} {k : κ} {key v : Value} {Q : Unit → Shared → Prop} (hk : knd.is k key = true) (D : s.heap.DictOf knd d kvs) (few : kvs.length ≤ sizeLine)
    (q : ∀ h', h'.DictOf knd d (stored kvs k v) → Heap.SameBut d s.heap h' → Q () { s with heap := h' }) : wpAny (model prog w) A (dictPut d (knd.hash k) key v) Q E s := by
  obtain ⟨o, es, ep, ho, hc, hd, ks, hp, hn⟩ := D
  have hes : es.size ≤ sizeLine := by
    have e1 := hp.length
    have e2 : es.toList.length = es.size := by simp
    omega
  unfold dictPut
  refine wpAny_bind (wpAny_dictFind_of hk ho hd ks ?_)
  have same : (es.findIdx? fun e => knd.is k e.key) = kvs.findIdx? fun kv => decide (kv.1 = k) := by
    rw [← hp.findIdx k]; obtain ⟨l⟩ := es; simp
  cases hi : es.findIdx? fun e => knd.is k e.key with
  | some i =>
    refine wpAny_updateDict ho hd (q _ ⟨_, _, ep, Heap.get?_update_self _ ho (Obj.isFreed_of_dict (Obj.data_mapDict hd _)), hc.mapDict _, Obj.data_mapDict hd _, ks.modify _ _, ?_, ?_⟩ (Heap.SameBut.update ..))
    · have hl : (es.toList.findIdx? fun e => knd.is k e.key) = some i := by rw [← hi]; obtain ⟨l⟩ := es; simp
      have m := hp.modify hn hl v
      rw [stored, if_pos (any_of_findIdx_some (same ▸ hi))]
      obtain ⟨l⟩ := es
      simpa using m
    · rw [stored, if_pos (any_of_findIdx_some (same ▸ hi)), keys_map_store]; exact hn
  | none =>
    have out : k ∉ kvs.map (·.1) := not_mem_of_findIdx_none (same ▸ hi)
    have none_ : ¬ (kvs.any fun kv => decide (kv.1 = k)) = true := fun z => by
      obtain ⟨kv, m, e⟩ := List.any_eq_true.mp z
      exact out (List.mem_map.mpr ⟨kv, m, of_decide_eq_true e⟩)
    refine wpAny_updateDictKeys (hz := hes) ho hd (q _ ⟨_, _, ep + 1, Heap.get?_update_self _ ho (Obj.isFreed_of_dict (Obj.data_mapDictKeys hd _)), hc.mapDictKeys _, Obj.data_mapDictKeys hd _, ks.push hk _, ?_, ?_⟩ (Heap.SameBut.update ..))
    · rw [stored, if_neg none_]
      have m := hp.append hk (knd.hash k) v
      obtain ⟨l⟩ := es
      simpa using m
    · rw [stored, if_neg none_, List.map_append, List.nodup_append]
      refine ⟨hn, by simp, fun a ha b hb e => ?_⟩
      rw [List.map_cons, List.map_nil, List.mem_singleton] at hb
      have : b = k := hb
      exact out (by rw [← this, ← e]; exact ha)
theorem empty_entries {d : Addr} {kvs : List (κ × Value)} {h : Heap} (D : h.DictOf knd d kvs) : ∃ o es ep, h.get? d = some o ∧ o.data = .dict es ep ∧ es.size = kvs.length ∧ ∀ e ∈ es, carriedByValue e.key = true := by
  obtain ⟨o, es, ep, ho, hc, hd, ks, hp, hn⟩ := D
  refine ⟨o, es, ep, ho, hd, by rw [← hp.length]; simp, fun e he => ?_⟩
  obtain ⟨k, hk, _⟩ := ks e he
  exact knd.byValue k _ hk
/-- {**d, **o}: all of o into d -/
theorem merge_pairs {d o : Addr} {kvs more : List (κ × Value)} {Q : Unit → Shared → Prop} (ne : d ≠ o) (nsys : (o == sysModules) = false) (D : s.heap.DictOf knd d kvs) (O : s.heap.DictOf knd o more) (few : kvs.length + more.length ≤ sizeLine)
    (q : ∀ h', h'.DictOf knd d (merged kvs more) → Heap.SameBut d s.heap h' → Q () { s with heap := h' }) : wpAny (model prog w) A (mergeMapping d (.ref o) false) Q E s := by
  obtain ⟨oo, eo, epo, ho, hco, hdo, kso, hpo, hno⟩ := id O
  obtain ⟨od, ed, epd, hd', hdd, _, _⟩ := empty_entries D
  have tyO : s.TypeIs (.ref o) "dict" := O.typeIs
  have len : more.length = eo.size := by rw [← hpo.length]; simp
  have byV : ∀ e ∈ eo.toList, carriedByValue e.key = true := fun e he => by
    obtain ⟨k, hk, _⟩ := kso e (by simpa using he)
    exact knd.byValue k _ hk
  have tail : wpAny (model prog w) A (do
      let l ← dictEntries o
      let epoch ← dictEpoch o
      forIn (List.range l.size) PUnit.unit fun i (_ : PUnit) => (do
          let l' ← dictEntries o
          match l'[i]? with
            | some e => do
              holding [e.key, e.val] (dictPut d e.hash e.key e.val)
              let ep' ← dictEpoch o
              if (ep' != epoch) = true then do
                  (unsupported "dict.changed-during-merge" : Sem PUnit)
                  pure (ForInStep.yield PUnit.unit)
                else pure (ForInStep.yield PUnit.unit)
            | _ => do
              (unsupported "dict.changed-during-merge" : Sem PUnit)
              pure (ForInStep.yield PUnit.unit) : Sem (ForInStep PUnit))
      pure ()) Q E s := by
    refine wpAny_bind (wpAny_dictEntries ho hdo (wpAny_bind (wpAny_dictEpoch ho hdo (wpAny_bind ?_))))
    rw [List.range_eq_range']
    refine wpAny_forIn_list _ (fun rest _ s' => ∃ h' i, s' = { s with heap := h' } ∧ rest = List.range' i (eo.size - i) ∧ i ≤ eo.size ∧ h'.DictOf knd d (merged kvs (more.take i)) ∧ h'.get? o = some oo ∧ Heap.SameBut d s.heap h') _ ?_ ?_ _ _
      ⟨s.heap, 0, rfl, by simp, Nat.zero_le _, by simpa [merged] using D, ho, Heap.SameBut.refl _ _⟩
    · rintro x rest b s' ⟨h', i, rfl, er, hi, D', ho', same⟩
      have lt : i < eo.size := by
        refine Nat.lt_of_not_le fun z => ?_
        rw [Nat.sub_eq_zero_of_le z] at er
        simp at er
      have step : eo.size - i = (eo.size - (i + 1)) + 1 := by omega
      rw [step, List.range'_succ] at er
      obtain ⟨rfl, rfl⟩ := List.cons.inj er
      refine wpAny_bind (wpAny_dictEntries ho' hdo ?_)
      rw [Array.getElem?_eq_getElem lt]
      have ltm : x < more.length := by rw [len]; exact lt
      have gm : more[x]? = some (more[x].1, more[x].2) := List.getElem?_eq_getElem ltm
      obtain ⟨hk, hv⟩ := hpo.get? (e := eo[x]) (by simp [lt]) gm
      obtain ⟨k', hk', hh⟩ := kso eo[x] (Array.getElem_mem lt)
      have ek : k' = more[x].1 := knd.inj _ _ _ hk' hk
      have fewx : (merged kvs (more.take x)).length ≤ sizeLine := by
        have e1 := merged_length_le kvs (more.take x)
        rw [List.length_take] at e1
        omega
      show wpAny _ _ (holding [eo[x].key, eo[x].val] (dictPut d eo[x].hash eo[x].key eo[x].val) >>= _) _ _ _
      rw [hh, hv, ek]
      refine wpAny_bind (wpAny_holding (put_pairs hk D' fewx fun h2 D2 same2 => ?_))
      have ho2 : h2.get? o = some oo := (same2.2 o (Ne.symm ne)).trans ho'
      refine wpAny_bind (wpAny_dictEpoch ho2 hdo ?_)
      rw [if_neg (by simp)]
      exact wpAny_pure ⟨h2, x + 1, rfl, rfl, lt, by rw [merged_take_succ kvs more x _ gm]; exact D2, ho2, same.trans same2⟩
    · rintro b s' ⟨h', i, rfl, er, hi, D', ho', same⟩
      have ei : i = eo.size := by
        refine Nat.le_antisymm hi (Nat.le_of_not_lt fun z => ?_)
        have step : eo.size - i = (eo.size - (i + 1)) + 1 := by omega
        rw [step, List.range'_succ] at er
        cases er
      rw [ei, ← len, List.take_length] at D'
      exact wpAny_pure (q h' D' same)
  unfold mergeMapping
  refine wpAny_bind (wpAny_bind (wpAny_typeOf tyO (wpAny_of_eq sub_dict_self ?_)))
  simp only [if_true]
  refine wpAny_bind (wpAny_specialOf tyO F.slot_dict_iter.lookup (wpAny_bind (wpAny_pure ?_)))
  simp only [show (some (Value.builtin "dict.__iter__") == some (Value.builtin "dict.__iter__")) = true from by decide, nsys, Bool.false_eq_true, if_false]
  refine wpAny_bind (wpAny_dictEntries hd' hdd ?_)
  split
  · refine wpAny_bind (wpAny_dictEntries ho hdo (wpAny_bind ?_))
    rw [← Array.forIn_toList]
    refine wpAny_forIn_list _ (fun rest _ s' => s' = s ∧ ∀ e ∈ rest, carriedByValue e.key = true) _ ?_ ?_ _ _ ⟨rfl, byV⟩
    · rintro ⟨hash, key, val⟩ rest b s' ⟨rfl, all⟩
      have mine := all _ List.mem_cons_self
      have others := fun e he => all e (List.mem_cons_of_mem _ he)
      cases key <;> first | (exact wpAny_pure ⟨rfl, others⟩) | (exact absurd mine (by decide)) | (cases mine)
    · rintro b s' ⟨rfl, _⟩
      exact tail
  · exact tail
end
end K1

/-! ## Z8 -/
set_option Elab.async false
set_option linter.all false
set_option maxRecDepth 100000
set_option maxHeartbeats 4000000
namespace K1
open PySem
open PySem.Sem (wp)
section
variable {prog : Program} {w : World} {A : Around} {E : Value → Shared → Prop} {s : Shared}
theorem display_star {m1 m2 : Sem Value} {Q : Value → Shared → Prop}
    (h : wpAny (model prog w) A m1 (fun v1 s1 => wpAny (model prog w) A (mergeMapping s.heap.objs.size v1 false) (fun _ s2 => wpAny (model prog w) A m2 (fun v2 s3 => wpAny (model prog w) A (mergeMapping s.heap.objs.size v2 false) (fun _ s4 => Q (.ref s.heap.objs.size) s4) (fun _ _ => False) s3) E s2) (fun _ _ => False) s1) E { s with heap := s.heap.push { cls := .type "dict", data := .dict #[] } }) :
    wpAny (model prog w) A (dictDisplay [(none, m1), (none, m2)]) Q E s := by
  unfold dictDisplay
  simp only [List.forIn_cons, List.forIn_nil, List.isEmpty_nil, if_true, pure_bind, bind_assoc]
  refine wpAny_bind (wpAny_alloc (wpAny_bind (wpAny_holding (wpAny_mono h (fun v1 s1 h1 => ?_) fun _ _ e => e))))
  refine wpAny_bind (wpAny_onRaise (wpAny_tryCatch (wpAny_onRaise (wpAny_holding (wpAny_mono h1 (fun _ s2 h2 => ?_) fun _ _ e => e.elim)))))
  refine wpAny_bind (wpAny_holding (wpAny_mono h2 (fun v2 s3 h3 => ?_) fun _ _ e => e))
  exact wpAny_bind (wpAny_onRaise (wpAny_tryCatch (wpAny_onRaise (wpAny_holding (wpAny_mono h3 (fun _ s4 h4 => wpAny_pure h4) fun _ _ e => e.elim)))))
end
end K1
namespace K1
open PySem PySem.Spec PyProof.Rows L2
def tDStar (ta tb : TE) : TE := fun σ H Q => ∀ p, H p = none → ta σ (upd H p (.dK [])) fun x H1 => ∃ (a : Addr) (kvs : List (Key × V)), x = .ref a ∧ H1 a = some (.dK kvs) ∧ a ≠ p ∧ H1 p = some (.dK []) ∧
  tb σ (upd H1 p (.dK (mergeK [] kvs))) fun y H2 => ∃ (b : Addr) (kvs2 : List (Key × V)), y = .ref b ∧ H2 b = some (.dK kvs2) ∧ b ≠ p ∧ H2 p = some (.dK (mergeK [] kvs)) ∧ (mergeK [] kvs).length + kvs2.length ≤ sizeLine ∧ Q (.ref p) (upd H2 p (.dK (mergeK (mergeK [] kvs) kvs2)))
section
variable {X : Cx}
/-- one dict merged into the new one -/
theorem merge_run {pins : List (Addr × Obj)} {σ : L2.St} {H : Hp} {s : Shared} {p a : Addr} {acc kvs : List (Key × V)} {R : Unit → Shared → Prop} {E : Value → Shared → Prop} (I : Inv X pins σ H s) (hp : H p = some (.dK acc)) (ha : H a = some (.dK kvs)) (ne : a ≠ p) (few : acc.length + kvs.length ≤ sizeLine)
    (k : ∀ s', Inv X pins σ (upd H p (.dK (mergeK acc kvs))) s' → R () s') : wpAny (model X.prog X.w) X.A (mergeMapping p (.ref a) false) R E s := by
  obtain ⟨_, hs, us, ru, du⟩ := dk_of I.hok hp
  obtain ⟨_, hsa, vs, rv, dv⟩ := dk_of I.hok ha
  refine merge_pairs (knd := mixKind X.prog X.w) (Ne.symm ne) hsa du dv (by rw [← ru.length, ← rv.length]; exact few) fun h' dd same => k _ ?_
  have z : (mergeK acc kvs).length ≤ sizeLine := Nat.le_trans (length_mergeK _ _) few
  exact I.write (t' := s.toks) (by rw [hp]; exact True.intro) (.inl rfl) (fun b u n e => same.extBut b u n e) (by obtain ⟨o, _, _, q, _⟩ := dd; exact ⟨o, q⟩) (show ObjOk X.prog X.w _ _ _ (.dK (mergeK acc kvs)) from ⟨z, hs, _, KV.merge rv ru, dd⟩)
theorem pe_dictStar {e1 e2 : Expr} {ta tb : TE} {pos : Pos} (hc : X.calm = true) (ha : PE X e1 ta) (hb : PE X e2 tb) : PE X (.Dict [none, none] [e1, e2] pos) (tDStar ta tb) := by
  refine ⟨fun pins s σ H Q I h => ?_⟩
  rw [arm_eval_Dict]
  refine wpAny_bind (wpAny_standAt ?_)
  show wpAny _ _ (dictDisplay [(none, eval e1 X.env >>= fun x => standAt pos >>= fun _ => pure x), (none, eval e2 X.env >>= fun x => standAt pos >>= fun _ => pure x)]) _ _ s
  have fresh : H s.heap.objs.size = none := I.hok.fresh (Nat.le_refl _)
  have big := I.big
  have nsys : (s.heap.objs.size == sysModules) = false := beq_eq_false_iff_ne.mpr (Nat.ne_of_gt big)
  have J : Inv X pins σ (upd H s.heap.objs.size (.dK [])) { s with heap := s.heap.push { cls := .type "dict", data := .dict #[] } } :=
    I.laid (t' := s.toks) (fun b u e => Heap.get?_push_of_some _ e) (Nat.le_refl _) (show ObjOk X.prog X.w _ _ _ (.dK []) from ⟨Nat.zero_le _, nsys, [], .nil, Heap.DictOf.new s.heap⟩)
  refine display_star (wpAny_bind (thn (ha.run pins _ σ _ _ J (h _ fresh)) fun v s1 ⟨x, H1, J1, r1, q1⟩ => wpAny_bind (wpAny_standAt (wpAny_pure ?_))))
  obtain ⟨a, kvs, rfl, h1, n1, hp1, q1⟩ := q1
  cases r1
  refine merge_run J1 hp1 h1 n1 (by rw [List.length_nil, Nat.zero_add]; exact (dk_of J1.hok h1).1) fun s2 J2 => ?_
  refine wpAny_bind (thn (hb.run pins _ σ _ _ J2 q1) fun v s3 ⟨y, H2, J3, r2, q2⟩ => wpAny_bind (wpAny_standAt (wpAny_pure ?_)))
  obtain ⟨b, kvs2, rfl, h2, n2, hp2, few, q2⟩ := q2
  cases r2
  exact merge_run J3 hp2 h2 n2 few fun s4 J4 => ⟨.ref _, _, J4, rfl, q2⟩
end
end K1

/-! ## S1 -/
set_option Elab.async false
set_option linter.all false
set_option maxRecDepth 100000
set_option maxHeartbeats 4000000
namespace K1
open PySem PySem.Spec PyProof.Rows L2
open PySem.Froz (SD sObj TxOk addTx tailTx)
/-! ### a set of texts: its texts l, each once; its table can be walked -/
def TxSet (P : Program) (w : World) (h : Heap) (a : Addr) (l : List Str) : Prop :=
  ∃ D : SD, h.get? a = some (sObj "set" D) ∧ TxOk P w D l ∧ l.Nodup ∧ Ris D.2.2.place.toList ∧ (w.params.followText "set-order" = true ∨ D.2.2.led = true)
theorem TxSet.at {P : Program} {w : World} {h h' : Heap} {a : Addr} {l : List Str} (T : TxSet P w h a l) (k : ∀ o, h.get? a = some o → h'.get? a = some o) : TxSet P w h' a l := by
  obtain ⟨D, g, r⟩ := T
  exact ⟨D, k _ g, r⟩
theorem tail_walk {w : World} {ep : Nat} {es : Array (Int × Value)} {t : SetTable} {b : Bool} (r : Ris t.place.toList) (l : w.params.followText "set-order" = true ∨ t.led = true) :
    Ris (tailTx ep es t b).2.2.place.toList ∧ (w.params.followText "set-order" = true ∨ (tailTx ep es t b).2.2.led = true) := by
  unfold tailTx
  by_cases c : (!b && t.tooFull) = true
  · rw [if_pos c]
    exact ⟨relayAll_ris _ _ _, l.imp id fun z => (relayAll_led t es _).trans z⟩
  · rw [if_neg c]
    exact ⟨r, l⟩
theorem add_walk {w : World} {x : Int} {v : Value} {D : SD} (r : Ris D.2.2.place.toList) (l : w.params.followText "set-order" = true ∨ D.2.2.led = true) :
    Ris (addTx x v D).2.2.place.toList ∧ (w.params.followText "set-order" = true ∨ (addTx x v D).2.2.led = true) := by
  have r1 := layNew_ris D.2.2 D.1 x v r
  have l1 := layNew_led D.2.2 D.1 x v
  refine tail_walk ?_ ?_
  · split
    · exact r1
    · exact r1
  · refine l.imp id fun z => ?_
    split
    · exact l1.trans z
    · exact l1.trans z
section
variable {P : Program} {w : World} {A : Around} {E : Value → Shared → Prop} {s : Shared} {a : Addr} {l : List Str}
theorem txset_put {k : Str} {u : Tok} {Q : Bool → Shared → Prop} (T : TxSet P w s.heap a l) (room : l.length + 1 < scanBound)
    (q : ∀ b h' l', Heap.SameBut a s.heap h' → TxSet P w h' a l' → (∀ z, z ∈ l' ↔ z ∈ l ∨ z = k) → l'.length ≤ l.length + 1 → Q b { s with heap := h' }) : wpAny (model P w) A (setAddHashed a (.str k u) (hashStr w k)) Q E s := by
  obtain ⟨D, g, F, nd, r, led⟩ := T
  by_cases m : k ∈ l
  · have done := q false s.heap l (Heap.SameBut.refl _ _) ⟨D, g, F, nd, r, led⟩ (fun z => ⟨.inl, fun x => x.elim id fun e => by rw [e]; exact m⟩) (Nat.le_succ _)
    obtain ⟨es, ep, t⟩ := D
    have el : ElemsOf (strKind P w) es.toList := F.el
    have few : es.size < scanBound := by
      have : es.size = l.length := F.sz
      omega
    have is : (strKind P w).is k (.str k u) = true := PySem.Froz.is_str k u
    unfold setAddHashed setAddHashedIn
    refine wpAny_holding (wpAny_bind (wpAny_setState_of g (rfl : (sObj "set" (es, ep, t)).data = .set es ep t) F.fit ?_))
    dsimp only
    rw [byScan_of rfl few el]; simp only [↓reduceIte]
    unfold setAddByScan
    refine wpAny_bind (wpAny_bind (wpAny_rule (wpAny_bind (wpAny_setScan_of (knd := strKind P w) (k := k) is g (rfl : (sObj "set" (es, ep, t)).data = .set es ep t) F.fit el ?_))))
    cases hf : List.findIdx? (fun e => (strKind P w).is k e.2) es.toList with
    | some j => exact wpAny_pure (wpAny_pure done)
    | none =>
      obtain ⟨e, he, z⟩ := (F.mem k).mp m
      have c := List.findIdx?_eq_none_iff.mp hf e he
      rw [z] at c
      cases c
  · obtain ⟨r2, l2⟩ := add_walk (x := hashStr w k) (v := .str k u) r led
    have F2 := PySem.Froz.add_ok (k := k) u F
    refine PySem.Froz.add_x g F m room (q true _ (k :: l) (Heap.SameBut.update ..) ⟨_, Heap.get?_update_self _ g rfl, F2, List.nodup_cons.mpr ⟨m, nd⟩, r2, l2⟩ (fun z => ?_) (Nat.le_refl _))
    rw [List.mem_cons]
    exact or_comm
end
end K1

/-! ## S2 -/
set_option Elab.async false
set_option linter.all false
set_option maxRecDepth 100000
set_option maxHeartbeats 4000000
namespace K1
open PySem PySem.Spec PyProof.Rows L2
open PySem.Froz (SD sObj TxOk addTx tailTx)
section
variable {P : Program} {w : World} {A : Around} {E : Value → Shared → Prop} {s : Shared}
/-- all texts of a walk put into the set at S -/
theorem tx_loop {I S : Addr} {fp wr : List Addr} {G : Array GenState → Array GenState → Prop} {n : Nat} {Pv : Nat → Value → Prop} {St : Nat → Shared → Prop} {R : Result → Shared → Prop} (W : WalksS P w A.in1 I fp wr G n Pv St) (out : S ∉ fp) (zs : List Str) (len : n = zs.length)
    (room : zs.length + 1 < scanBound) (val : ∀ i v, Pv i v → ∃ z t, zs[i]? = some z ∧ v = .str z t) :
    ∀ (left i : Nat) (s : Shared), n - i = left → i ≤ n → St i s → (∃ l, TxSet P w s.heap S l ∧ (∀ z, z ∈ l ↔ z ∈ zs.take i) ∧ l.length ≤ i) →
      (∀ s' l, Moved (S :: wr) G s s' → TxSet P w s'.heap S l → (∀ z, z ∈ l ↔ z ∈ zs) → l.length ≤ n → R (.ok (.ret .none)) s') → codeAny (model P w) A (.builtin "set.update.loop" ⟨[.ref S, .ref I], []⟩) R s := by
  have outw : S ∉ wr := fun m => out (W.sub _ m)
  have more : ∀ b ∈ wr, b ∈ S :: wr := fun b m => List.mem_cons_of_mem _ m
  intro left
  induction left with
  | zero =>
    intro i s e hi st ⟨l, T, mem, few⟩ k
    obtain rfl : i = n := by omega
    refine codeAny_builtin PyProof.Rows.F.entry_set_update_loop ?_
    rw [Around.under_plainId PyProof.Rows.F.plain_set_update_loop _]; show wpAny _ A.in1 (pyNext (.ref I) >>= _) _ _ s
    refine wpAny_bind (W.done s _ _ st fun s' mv => ?_); show wpAny _ A.in1 (ret Value.none) _ _ s'
    rw [List.take_of_length_le (by omega)] at mem
    exact wpAny_pure (k s' l (mv.mono more) (T.at fun o q => mv.heap S o outw q) mem few)
  | succ left ih =>
    intro i s e hi st ⟨l, T, mem, few⟩ k
    have lt : i < n := by omega
    refine codeAny_builtin PyProof.Rows.F.entry_set_update_loop ?_
    rw [Around.under_plainId PyProof.Rows.F.plain_set_update_loop _]; show wpAny _ A.in1 (pyNext (.ref I) >>= _) _ _ s
    refine wpAny_bind (W.item i s _ _ lt st fun v s' pv st' mv => ?_)
    obtain ⟨z, t, hz, rfl⟩ := val i v pv
    have T' := T.at (h' := s'.heap) fun o q => mv.heap S o outw q
    show wpAny _ A.in1 (holding [Value.str z t] (setAdd S (.str z t)) >>= _) _ _ s'
    unfold setAdd
    refine wpAny_bind (wpAny_holding (wpAny_holding (wpAny_bind ((strKind P w).pyHash (k := z) (PySem.Froz.is_str z t) ?_))))
    refine txset_put (s := { s' with toks := s'.toks + 1 }) T' (by omega) fun b h' l2 same T2 mem2 few2 => ?_
    have mem3 : ∀ y, y ∈ l2 ↔ y ∈ zs.take (i + 1) := fun y => by
      rw [mem2, mem, List.take_add_one, hz]
      simp [List.mem_append]
    have kept : ∀ b o, b ≠ S → s'.heap.get? b = some o → h'.get? b = some o := fun b o ne q => same.extBut b o ne q
    refine wpAny_pure ⟨plainId_quiet PyProof.Rows.F.plain_set_update_loop _, ih (i + 1) _ (by omega) lt (W.frame _ s' _ _ st' (Nat.le_succ _) fun b m o q => kept b o (fun e => out (by rw [← e]; exact m)) q) ⟨l2, T2, mem3, by omega⟩ fun s2 l3 mv2 T3 a b => ?_⟩
    refine k s2 l3 (Moved.trans W.gtrans ((mv.mono more).then_heap (Nat.le_succ _) fun b o m q => ?_) mv2) T3 a b
    exact kept b o (fun e => m (by rw [e]; exact List.mem_cons_self)) q
abbrev newSetObj (w : World) : Obj := { cls := .type "set", dict := none, data := .set #[] 0 (.fresh 0 0 (!w.params.followText "set-order")) }
theorem tx_new {h : Heap} {a : Addr} (g : h.get? a = some (newSetObj w)) : TxSet P w h a [] := by
  refine ⟨(#[], 0, .fresh 0 0 (!w.params.followText "set-order")), g, PySem.Froz.TxOk.nil (by rfl), List.nodup_nil, List.Pairwise.nil, ?_⟩
  show _ ∨ (!w.params.followText "set-order") = true
  cases w.params.followText "set-order"
  · exact .inr rfl
  · exact .inl rfl
/-- what set(t) of texts ends in -/
def SetDone (P : Program) (w : World) (s : Shared) (zs : List Str) (s2 : Shared) : Prop := ∃ h' tk l, s2 = { s with heap := h', toks := tk } ∧ TxSet P w h' s.heap.objs.size l ∧ (∀ z, z ∈ l ↔ z ∈ zs) ∧ l.length ≤ zs.length ∧ (∀ b o, s.heap.get? b = some o → h'.get? b = some o)
set_option maxHeartbeats 6400000 in
theorem call_set_texts {l : Addr} {items : Array Value} {zs : List Str} {Q : Value → Shared → Prop} (hh : A.handled = none) (tup : s.heap.IsTuple l items) (txts : StrsAre items.toList zs) (room : zs.length + 1 < scanBound) (k : ∀ s2, SetDone P w s zs s2 → Q (.ref s.heap.objs.size) s2) :
    wpAny (model P w) A (call (.type "set") [.ref l]) Q E s := by
  have isz : zs.length = items.size := by rw [← StrsAre.len_eq txts, Array.length_toList]
  obtain ⟨c, tl, hmro⟩ := PySem.F.called_set.mro
  have hmade := PySem.F.called_set.made
  have hsub := PySem.F.called_set.sub
  refine wpAny_call (codeAny_of_tree ?_); show wpAny _ _ (callAny (.type "set") _) _ _ _
  refine wpAny_pure ⟨Code.quiet_builtin _ (by decide +kernel), codeAny_builtin PySem.F.entry_type_call ?_⟩
  rw [Around.under_plain (weight_type_call_type "set" [.ref l] []) rfl]
  have h1 := PySem.F.called_set.notType
  have h2 := PySem.F.called_set.canCreate
  have hct := PySem.F.typeCall_set_1 (.ref l)
  repeat (any_goals (first | assumption | wp_step))
  refine codeAny_mono (code_set_led1 (.ref l) (E := E) (Q₁ := fun obj s₁ => obj = .ref s.heap.objs.size ∧ s₁ = { s with heap := s.heap.push (newSetObj w) }) ⟨rfl, rfl⟩) fun r s₁ hr => ?_
  cases r with
  | error e => exact hr
  | ok fl =>
    cases fl with
    | ret obj =>
      obtain ⟨rfl, rfl⟩ := hr
      have new : (s.heap.push (newSetObj w)).get? s.heap.objs.size = some (newSetObj w) := Heap.get?_push_size _ rfl
      have ty : Shared.TypeIs { s with heap := s.heap.push (newSetObj w) } (.ref s.heap.objs.size) "set" := ⟨_, new, rfl⟩
      have hli := PySem.F.called_set.init.lookup
      have hbi := PySem.F.called_set.init.bind (.ref s.heap.objs.size)
      repeat (any_goals (first | assumption | wp_step))
      refine codeAny_mono (codeAny_call_builtin (R := wants (fun r s₂ => r = .none ∧ SetDone P w s zs s₂) E) PySem.F.called_set.init.plain PySem.F.entry_set_init (check_set_init_1 ty ?_)) fun r₂ s₂ hr₂ => ?_
      · obtain ⟨⟨ocls, odict, odata, oslots⟩, hol, hcl, nl, hdl⟩ := tup
        simp only at hcl hdl
        subst hcl; subst hdl
        have hol' : (s.heap.push (newSetObj w)).get? l = some { cls := .type "tuple", dict := odict, data := .seq items nl, slots := oslots } := Heap.get?_push_of_some _ hol
        have hsls := PySem.F.sub_tuple_set
        have hslf := PySem.F.sub_tuple_frozenset
        have hne : (Value.type "tuple" == Value.type "dict") = false := by decide
        have tup1 : (s.heap.push (newSetObj w)).IsTuple l items := ⟨_, hol', rfl, nl, rfl⟩
        unfold Builtin.«set.__init__» noKeywords Builtin.Frozenset.updateFrom
        generalize hPI : pyIter = PI
        wp_walk
        subst hPI
        refine wpAny_pyIter_tuple tup1 (wpAny_bind (wpAny_runValue ?_))
        have below : l < s.heap.objs.size := Heap.lt_size hol
        have hh3 : A.in1.in1.in1.handled = none := by simp [hh]
        have len1 : (s.heap.push (newSetObj w)).objs.size = s.heap.objs.size + 1 := Heap.size_push ..
        have ne1 : l ≠ (s.heap.push (newSetObj w)).objs.size := by rw [len1]; exact Nat.ne_of_lt (Nat.lt_succ_of_lt below)
        have out : s.heap.objs.size ∉ [(s.heap.push (newSetObj w)).objs.size, l] := by
          rw [len1]; simp only [List.mem_cons, List.mem_singleton, List.not_mem_nil, or_false, not_or]
          exact ⟨Nat.ne_of_lt (Nat.lt_succ_self _), Nat.ne_of_gt below⟩
        refine tx_loop ((Walks.tuple hh3 _ l ne1 items).toS) out zs isz.symm room (fun i v hv => ?_) (items.size - 0) 0 _ (by omega) (Nat.zero_le _) ⟨⟨_, Heap.get?_push_size _ rfl, rfl, rfl⟩, tup1.push _⟩ ⟨[], tx_new (Heap.get?_push_of_some _ new), fun z => by simp, Nat.le_refl _⟩ fun s' l' mv T mem few => ?_
        · have hi : i < zs.length := by rw [isz]; exact (Array.getElem?_eq_some_iff.mp hv).1
          obtain ⟨t, e⟩ := SS.strs_at txts i v (by rw [Array.getElem?_toList]; exact hv)
          exact ⟨zs[i], t, List.getElem?_eq_getElem hi, by rw [e, List.getD_eq_getElem?_getD, List.getElem?_eq_getElem hi] <;> rfl⟩
        · obtain ⟨h', g2, d', tk', os'⟩ := s'
          obtain rfl : g2 = s.gens := mv.gens
          obtain rfl : d' = s.drawn := mv.drawn
          obtain rfl : os' = s.os := mv.os
          show wpAny _ _ _ _ _ _
          refine wpAny_pure ?_
          show wpAny _ _ (ret Value.none) _ _ _
          refine wpAny_pure ⟨rfl, h', tk', l', rfl, T, mem, by rw [isz]; exact few, fun b o q => mv.heap b o (fun m => ?_) (Heap.get?_push_of_some _ (Heap.get?_push_of_some _ q))⟩
          have lt := Heap.lt_size q
          rcases List.mem_cons.mp m with z | m
          · rw [z] at lt; exact Nat.lt_irrefl _ lt
          · rw [List.mem_singleton.mp m, len1] at lt; exact Nat.lt_irrefl _ (Nat.lt_of_succ_lt lt)
      · cases r₂ with
        | error e => exact hr₂
        | ok fl₂ =>
          cases fl₂ with
          | ret r =>
            obtain ⟨rfl, done⟩ := hr₂
            repeat (any_goals (first | assumption | wp_step))
            exact k _ done
          | _ => exact hr₂.elim
    | _ => exact hr.elim
end
end K1

/-! ## S3 -/
set_option Elab.async false
set_option linter.all false
set_option maxRecDepth 100000
set_option maxHeartbeats 4000000
namespace K1
open PySem PySem.Spec PyProof.Rows L2
open PySem.Froz (SD sObj TxOk addTx tailTx)
theorem perm_of_len : ∀ {l ks : List Str}, l.Nodup → (∀ z ∈ l, z ∈ ks) → ks.length ≤ l.length → l.Perm ks
  | [], ks, _, _, h => by
    have : ks = [] := List.length_eq_zero_iff.mp (Nat.le_zero.mp h)
    rw [this]
  | x :: r, ks, n, sub, h => by
    obtain ⟨n1, n2⟩ := List.nodup_cons.mp n
    have hx := sub x List.mem_cons_self
    have pm := perm_of_len (l := r) (ks := ks.erase x) n2 (fun z hz => (List.mem_erase_of_ne (fun e => n1 (by rw [← e]; exact hz))).mpr (sub z (List.mem_cons_of_mem _ hz))) (by
      rw [List.length_erase_of_mem hx]
      simp only [List.length_cons] at h
      omega)
    exact (pm.cons x).trans (List.perm_cons_erase hx).symm
section
variable {P : Program} {w : World} {A : Around} {E : Value → Shared → Prop} {s : Shared} {a : Addr} {l : List Str}
theorem texts_perm {D : SD} (F : TxOk P w D l) (nd : l.Nodup) : (∀ v ∈ D.1.toList.map (·.2), ∃ x t, v = Value.str x t) ∧ ((D.1.toList.map (·.2)).map strOf).Perm l := by
  have each : ∀ e ∈ D.1.toList, ∃ x t, e.2 = Value.str x t := fun e he => by
    obtain ⟨⟨k, hk, _⟩, _⟩ := F.el e he
    have hk' : Value.isStrOf k e.2 = true := hk
    cases h : e.2 with
    | str x t => exact ⟨x, t, rfl⟩
    | _ => rw [h] at hk'; cases hk'
  refine ⟨fun v hv => ?_, ?_⟩
  · obtain ⟨e, he, rfl⟩ := List.mem_map.mp hv
    exact each e he
  · refine (perm_of_len nd (fun z hz => ?_) ?_).symm
    · obtain ⟨e, he, is⟩ := (F.mem z).mp hz
      obtain ⟨x, t, ex⟩ := each e he
      have is' : Value.isStrOf z e.2 = true := is
      rw [ex] at is'
      have xz : x = z := by simpa [Value.isStrOf] using is'
      refine List.mem_map.mpr ⟨e.2, List.mem_map.mpr ⟨e, he, rfl⟩, ?_⟩
      rw [ex, ← xz]; rfl
    · rw [List.length_map, List.length_map, Array.length_toList, F.sz]
      exact Nat.le_refl _
/-- sorted(found): its texts, ascending -/
theorem sorted_texts {Q : Value → Shared → Prop} (T : TxSet P w s.heap a l) (hh : A.handled = none) (few : l.length < 64)
    (q : ∀ s' p (out : Array Value) (c : Nat) (ys : List Str), (∀ b o, s.heap.get? b = some o → s'.heap.get? b = some o) → s'.gens = s.gens → s'.os = s.os → s.heap.objs.size ≤ p → s'.heap.get? p = some (seqObj "list" out c) → StrsAre out.toList ys → ys.Perm l → sortedS ys = true → Q (.ref p) s') :
    wpAny (model P w) A (call (.builtin "sorted") [.ref a]) Q E s := by
  obtain ⟨D, g, F, nd, ris, led⟩ := T
  have bound : D.1.size < scanBound := by
    have := F.sz
    unfold scanBound
    omega
  obtain ⟨each, pmD⟩ := texts_perm F nd
  refine Calls.call_function_entry kind_sorted plain_sorted entry_sorted (args_sorted1 _) ?_
  unfold Builtin.«sorted»
  refine wpAny_bind (m := checkCount "sorted" 1 1 _) (wpAny_pure (wpAny_bind (collect_set (A := A.in1) hh ⟨_, g, rfl, rfl⟩ F.fit bound ris led fun s1 vs kept _ gens os pm => ?_)))
  have all : ∀ v ∈ vs, ∃ x t, v = Value.str x t := fun v hv => each v (pm.mem_iff.mp hv)
  have lenV : vs.length = l.length := by rw [pm.length_eq, List.length_map, Array.length_toList, F.sz]
  have small : vs.length ≤ sizeLine := by rw [lenV, sizeLine_eq]; omega
  have S := strsAre_map vs all
  refine wpAny_bind (wpAny_newList ?_ small)
  have new : (s1.heap.push (seqObj "list" vs.toArray 0)).get? s1.heap.objs.size = some (seqObj "list" vs.toArray 0) := Heap.get?_push_size _ rfl
  refine wpAny_bind (wpAny_holding (wpAny_call_entry slot_list_sort ⟨_, new, rfl⟩ entry_list_sort (list_sort_treeKAny strKind_oneLt new S.keysOf (fun v₁ v₂ rest e => keyKind_strs (by rw [← e]; exact S)) small fun st hp hs => ⟨_, rfl, ?_⟩) (args_list_sort _)))
  obtain ⟨ys, h1, h2, h3⟩ := sorted_out_str S hp hs
  obtain ⟨c, hc⟩ := sortedHeap_at (vs := vs) (out := (arrOf st).map (·.2)) new
  have le : s.heap.objs.size ≤ s1.heap.objs.size := by assumption
  refine wpAny_pure ⟨_, rfl, q _ s1.heap.objs.size _ c ys (fun b u e => ?_) gens os le hc h1 (h2.trans ((pm.map strOf).trans pmD)) h3⟩
  have k := kept b u e
  have lt := Heap.lt_size k
  show (sortedHeap (s1.heap.push (seqObj "list" vs.toArray 0)) s1.heap.objs.size vs ((arrOf st).map (·.2))).get? b = some u
  rw [sortedHeap_old (Nat.ne_of_lt lt) (by rw [Heap.size_push]; exact Nat.lt_succ_of_lt lt)]
  exact Heap.get?_push_of_some _ k
end
/-- the set of the texts zs at a -/
def SetS (P : Program) (w : World) (a : Addr) (zs : List Str) : HO := .ext fun h => ∃ l, TxSet P w h a l ∧ (∀ z, z ∈ l ↔ z ∈ zs) ∧ l.length ≤ zs.length
section
variable {X : Cx}
theorem cr_setS (hc : X.calm = true) : CallR X (.type "set") (fun xs H Q => ∃ (a : Addr) (zs : List Str), xs = [.ref a] ∧ SqT X.K H a (zs.map V.str) ∧ zs.length < 64 ∧ ∀ p, H p = none → Q (.ref p) (upd H p (SetS X.prog X.w p zs))) := by
  intro pins s σ H xs us Q I r h
  obtain ⟨a, zs, rfl, t, few, q⟩ := h
  obtain ⟨u, rfl, ru⟩ := vals1 r
  cases ru
  obtain ⟨its, rv, tup, _⟩ := I.tuple t
  refine call_set_texts (zs := zs) (I.ok.hd hc) (show s.heap.IsTuple a its.toArray from tup) (by simpa using rv.strs) (by unfold scanBound; omega) fun s2 done => ?_
  obtain ⟨h', tk, l, rfl, T, mem, short, kept⟩ := done
  have ok : ObjOk X.prog X.w (upd H s.heap.objs.size (SetS X.prog X.w s.heap.objs.size zs)) h' s.heap.objs.size (SetS X.prog X.w s.heap.objs.size zs) := by
    obtain ⟨D, g, _⟩ := id T
    exact ⟨⟨l, T, mem, short⟩, ⟨_, g⟩, fun h1 h2 p k => by
      obtain ⟨l', T', m, f⟩ := p
      exact ⟨l', T'.at k, m, f⟩⟩
  exact ⟨.ref _, _, I.laid (t' := tk) kept (Nat.le_refl _) ok, rfl, q _ (I.hok.fresh (Nat.le_refl _))⟩
theorem cr_sortedSS (hc : X.calm = true) : CallR X (.builtin "sorted") (fun xs H Q => ∃ (a : Addr) (zs : List Str), xs = [.ref a] ∧ H a = some (SetS X.prog X.w a zs) ∧ zs.length < 64 ∧
    ∀ (ys : List Str) p, ys.Nodup → (∀ z, z ∈ ys ↔ z ∈ zs) → sortedS ys = true → H p = none → Q (.ref p) (upd H p (.lst (ys.map V.str)))) := by
  intro pins s σ H xs us Q I r h
  obtain ⟨a, zs, rfl, ha, few, q⟩ := h
  obtain ⟨l, T, mem, short⟩ := (I.hok a _ ha).1
  rw [Vals.ref1 r]
  have nd : l.Nodup := by obtain ⟨_, _, _, n, _⟩ := T; exact n
  refine sorted_texts T (I.ok.hd hc) (by omega) fun s' p out c ys kept gens os le at_ strs_ pm st => ?_
  have small : (ys.map V.str).length ≤ sizeLine := by
    have e := pm.length_eq
    rw [List.length_map, sizeLine_eq]
    omega
  have free : H p = none := I.hok.fresh le
  have J : Inv X pins σ (upd H p (.lst (ys.map V.str))) { s with heap := s'.heap, gens := s'.gens, drawn := s'.drawn, toks := s'.toks } :=
    I.call (ch := []) (Un.laid kept le free) (I.hok.laid kept le ⟨small, out.toList, c, vals_of_strs strs_, at_⟩) (by rw [gens]; exact I.bare) (fun _ z => nomatch z)
  have e : s' = { s with heap := s'.heap, gens := s'.gens, drawn := s'.drawn, toks := s'.toks } := by
    cases s'
    cases s
    cases os
    rfl
  rw [e]
  exact ⟨.ref p, _, J, rfl, q ys p (pm.nodup_iff.mpr nd) (fun z => pm.mem_iff.trans (mem z)) st free⟩
end
end K1

/-! ## S4 -/
set_option Elab.async false
set_option linter.all false
set_option maxRecDepth 100000
set_option maxHeartbeats 4000000
namespace K1
open PySem PySem.Spec PyProof.Rows L2
/-! ### sorted(t) of a tuple of texts -/
section
variable {P : Program} {w : World} {A : Around} {E : Value → Shared → Prop} {s : Shared} {a : Addr}
theorem sorted_tupT {its : List Value} {xs : List Str} {Q : Value → Shared → Prop} (tp : s.heap.IsTuple a its.toArray) (S : StrsAre its xs) (small : its.length ≤ sizeLine)
    (q : ∀ h' p (out : Array Value) (c : Nat) (ys : List Str), (∀ b o, s.heap.get? b = some o → h'.get? b = some o) → s.heap.get? p = none → h'.get? p = some (seqObj "list" out c) → StrsAre out.toList ys → ys.Perm xs → sortedS ys = true → Q (.ref p) { s with heap := h' }) :
    wpAny (model P w) A (call (.builtin "sorted") [.ref a]) Q E s := by
  obtain ⟨o, ho, hc, n, hd⟩ := tp
  refine Calls.call_function_entry kind_sorted plain_sorted entry_sorted (args_sorted1 _) ?_
  unfold Builtin.«sorted»
  refine wpAny_bind (m := checkCount "sorted" 1 1 _) (wpAny_pure (wpAny_bind (wpAny_collect_seq (A := A.in1) a (.inr rfl) ho hc hd (fun h1 kept => ?_) (by simpa using small))))
  refine wpAny_bind (wpAny_newList ?_ (by simpa using small))
  have new : (h1.push (seqObj "list" its.toArray 0)).get? h1.objs.size = some (seqObj "list" its.toArray 0) := Heap.get?_push_size _ rfl
  have free : s.heap.get? h1.objs.size = none := by
    cases e : s.heap.get? h1.objs.size with
    | none => rfl
    | some o => exact absurd (Heap.lt_size (kept _ _ e)) (Nat.lt_irrefl _)
  refine wpAny_bind (wpAny_holding (wpAny_call_entry slot_list_sort ⟨_, new, rfl⟩ entry_list_sort (list_sort_treeKAny strKind_oneLt new S.keysOf (fun v₁ v₂ rest e => keyKind_strs (by rw [← e]; exact S)) small fun st hp hs => ⟨_, rfl, ?_⟩) (args_list_sort _)))
  obtain ⟨ys, e1, e2, e3⟩ := sorted_out_str S hp hs
  obtain ⟨c, hc2⟩ := sortedHeap_at (vs := its) (out := (arrOf st).map (·.2)) new
  refine wpAny_pure ⟨_, rfl, q _ h1.objs.size _ c ys (fun b u e => ?_) free hc2 e1 e2 e3⟩
  have k := kept b u e
  have lt := Heap.lt_size k
  show (sortedHeap (h1.push (seqObj "list" its.toArray 0)) h1.objs.size its ((arrOf st).map (·.2))).get? b = some u
  rw [sortedHeap_old (Nat.ne_of_lt lt) (by rw [Heap.size_push]; exact Nat.lt_succ_of_lt lt)]
  exact Heap.get?_push_of_some _ k
end
section
variable {X : Cx}
theorem cr_sortedTS : CallR X (.builtin "sorted") (fun xs H Q => ∃ (a : Addr) (zs : List Str), xs = [.ref a] ∧ SqT X.K H a (zs.map V.str) ∧ ∀ (ys : List Str) p, ys.Perm zs → sortedS ys = true → H p = none → Q (.ref p) (upd H p (.lst (ys.map V.str)))) := by
  intro pins s σ H xs us Q I r h
  obtain ⟨a, zs, rfl, t, q⟩ := h
  obtain ⟨u, rfl, ru⟩ := vals1 r
  cases ru
  obtain ⟨its, rv, tup, small⟩ := I.tuple t
  refine sorted_tupT (show s.heap.IsTuple a its.toArray from tup) rv.strs (by rw [← rv.length]; exact small) fun h' p out c ys kept free at_ txts pm st => ?_
  have gone := I.hok.gone free
  have few : (ys.map V.str).length ≤ sizeLine := by
    rw [List.length_map] at small ⊢
    rw [pm.length_eq]; exact small
  exact ⟨.ref p, upd H p (.lst (ys.map V.str)), I.laidN (t' := s.toks) kept free gone ⟨few, out.toList, c, vals_of_strs txts, at_⟩, rfl, q ys p pm st gone⟩
end
end K1

/-! ## B2_6 -/
set_option Elab.async false
set_option linter.all false
set_option maxRecDepth 100000
set_option maxHeartbeats 4000000
namespace B2_
open PySem PySem.Spec PyProof.Rows L2
/-! ### facts of ascending texts, as in k01 -/
theorem asc_tail {z : Str} {zs : List Str} (h : ascB (z :: zs) = true) : ascB zs = true := by
  cases zs with
  | nil => rfl
  | cons y r =>
    unfold ascB at h ⊢
    simp only [List.drop_succ_cons, List.drop_zero, List.zip_cons_cons, List.all_cons, Bool.and_eq_true] at h
    exact h.2
theorem asc_pair : ∀ {zs : List Str}, ascB zs = true → zs.Pairwise fun a b => a.cps.toList < b.cps.toList
  | [], _ => List.Pairwise.nil
  | [z], _ => List.pairwise_singleton _ _
  | z :: y :: r, h => by
    have ih := asc_pair (asc_tail h)
    have h1 : z.cps.toList < y.cps.toList := by
      unfold ascB at h
      simp only [List.drop_succ_cons, List.drop_zero, List.zip_cons_cons, List.all_cons, Bool.and_eq_true] at h
      exact of_decide_eq_true h.1
    refine List.pairwise_cons.mpr ⟨fun b hb => ?_, ih⟩
    rcases List.mem_cons.mp hb with rfl | hb
    · exact h1
    · exact List.lt_trans h1 ((List.pairwise_cons.mp ih).1 b hb)
theorem asc_nodup {zs : List Str} (h : ascB zs = true) : zs.Nodup := by
  refine List.Pairwise.imp (fun {a b} hab e => ?_) (asc_pair h)
  subst e
  exact List.lt_irrefl _ hab
theorem parts_some {K : PySem.W.Frag} {H : Hp} : ∀ {zs : List Str}, (∀ z ∈ zs, z.length ≤ sizeLine) → Paired (PartOk K H) (zs.map V.str) (zs.map some)
  | [], _ => .nil
  | z :: r, h => .cons (.inl ⟨z, rfl, h z List.mem_cons_self, rfl⟩) (parts_some fun y hy => h y (List.mem_cons_of_mem _ hy))
theorem rising_pair : ∀ (p : Str) (ys : List Str), risingS p ys = true → (p :: ys).Pairwise fun a b => ¬ b.cps.toList < a.cps.toList
  | p, [], _ => List.pairwise_singleton _ _
  | p, x :: r, h => by
    have h' : (!ltCps x.cps.toList p.cps.toList && risingS x r) = true := h
    rw [Bool.and_eq_true, ltCps_eq] at h'
    have ih := rising_pair x r h'.2
    have h1 : ¬ x.cps.toList < p.cps.toList := by simpa using h'.1
    refine List.pairwise_cons.mpr ⟨fun b hb => ?_, ih⟩
    rcases List.mem_cons.mp hb with rfl | hb
    · exact h1
    · have h2 := (List.pairwise_cons.mp ih).1 b hb
      exact List.not_lt.mpr (List.le_trans (List.not_lt.mp h1) (List.not_lt.mp h2))
theorem sorted_pair {ys : List Str} (h : sortedS ys = true) : ys.Pairwise fun a b => ¬ b.cps.toList < a.cps.toList := by
  cases ys with
  | nil => exact List.Pairwise.nil
  | cons p r => exact rising_pair p r h
theorem cps_ext {a b : Str} (h : a.cps.toList = b.cps.toList) : a = b := by
  cases a; cases b
  congr 1
  exact Array.toList_inj.mp h
theorem sorted_lt {ys : List Str} (h : sortedS ys = true) (n : ys.Nodup) : ys.Pairwise fun a b => a.cps.toList < b.cps.toList := by
  refine (List.Pairwise.and (sorted_pair h) n).imp fun {a b} ⟨h1, h2⟩ => ?_
  by_cases q : a.cps.toList < b.cps.toList
  · exact q
  · exact absurd (cps_ext (List.le_antisymm (List.not_lt.mp h1) (List.not_lt.mp q))) h2
theorem pair_asc : ∀ {zs : List Str}, (zs.Pairwise fun a b => a.cps.toList < b.cps.toList) → ascB zs = true
  | [], _ => rfl
  | [_], _ => rfl
  | z :: y :: r, h => by
    have ih := pair_asc (List.pairwise_cons.mp h).2
    unfold ascB at ih ⊢
    simp only [List.drop_succ_cons, List.drop_zero, List.zip_cons_cons, List.all_cons, Bool.and_eq_true]
    exact ⟨decide_eq_true ((List.pairwise_cons.mp h).1 y List.mem_cons_self), ih⟩

/-! ### _is_choice -/
def choiceB (os : List (Option Str)) : Bool := os.all nameO && decide (os.filterMap id).Nodup
theorem asc_of_sorted {ys : List Str} (h : sortedS ys = true) : ascB ys = decide ys.Nodup := by
  by_cases n : ys.Nodup
  · rw [decide_eq_true n]; exact pair_asc (sorted_lt h n)
  · rw [decide_eq_false n]
    cases e : ascB ys with
    | false => rfl
    | true => exact absurd (asc_nodup e) n
abbrev s_choice : Stmt := topS 22
abbrev N_choice : List Str := ["value", "part"]
theorem sc_choice : FnScope N_choice ["value"] (defScope s_choice) := ⟨rfl, rfl, rfl, by decide +kernel, rfl, by decide +kernel, by decide +kernel⟩
def spChoice (K : PySem.W.Frag) : Sp := fun vs H Q _ => ∃ (x : V) (b : Bool), vs = [x] ∧ ((IsTy K H x "tuple" false ∧ b = false) ∨ (∃ a xs os, x = .ref a ∧ H a = some (.tup xs) ∧ xs.length ≤ 1000 ∧ Paired (PartOk K H) xs os ∧ b = choiceB os)) ∧ ∀ H', Same H H' → Q (.bl b) H'
section
variable {P : Program} {w : World} {K : PySem.W.Frag} {mg : Str → Option Value} {base : Heap}
theorem ok_choice {f : Addr} {fd : FuncData} (F : Fun K "_is_choice" "_is_choice" s_choice f fd) (T : Names2 mg) (hsorted : mg "sorted" = none) (C1 : Callee P w K mg base CX0 1 "is_name" ["value"] (spName K)) (C2 : Callee P w K mg base CX0 2 "is_columns" ["value"] (spCols K)) : FnOk P w K mg base CX0 3 f fd ["value"] (spChoice K) := by
  have nd := sc_choice.nd
  refine F.ok sc_choice (fun vs H Q E h => ?_) (fun cdv A outer s H vs Q E hr h => ?_)
  · obtain ⟨x, b, rfl, _⟩ := h
    rfl
  · obtain ⟨x, b, rfl, hx, k⟩ := h
    have hr1 : Room 1 _ := hr.mono (by decide)
    refine ⟨_, (pss_cons
    (ps_if (PW.pt (pw_or (pt_not (pt_val (pe_callB call_isi (by rfl) T.isinstance (by decide +kernel) (pa_cons (pv 0) (pa_cons (pe_bltn (v := .ty "tuple") (by rfl) T.tuple (by decide +kernel) rfl) pa_nil))))) (pw_or1 (pt_not (pt_val (pe_callB (cr_all rfl) (by rfl) T.all (by decide +kernel) (pa_cons (pe_lc (own := [("part", 1)]) (g := (gName 1)) rfl nd (pi_tup (pv 0)) (blkOk_by (N := N_choice) (sc := defScope s_choice) (by decide +kernel)) (fun _ _ _ _ _ => (pg_name (i := 1) nd rfl (Or.inl rfl))) (fun _ _ _ _ _ => pts_nil) (fun _ _ _ _ _ => (pe_use C1 hr1 rfl pass0 (pa_cons (pv 1) pa_nil)))) pa_nil))))))) (pss_one
      (ps_ret pe_bl)) pss_nil)
    (pss_one
    (ps_ret (pe_use C2 hr rfl pass0 (pa_cons (pe_callTy call_tuple_of (by rfl) T.tuple (by decide +kernel) (pa_cons (pe_callB K1.cr_sortedTS (by rfl) hsorted (by decide +kernel) (pa_cons (pv 0) pa_nil)) pa_nil)) pa_nil))))), ?_⟩
    rcases hx with ⟨⟨t, ty, e⟩, rfl⟩ | ⟨a, xs, os, rfl, ha, hlen, hp, eb⟩
    · exact ⟨_, rfl, _, _, t, _, false, rfl, .ty _, ty, e, _, rfl, iteT (iteT (k H (Same.refl H)))⟩
    · refine ⟨_, rfl, _, _, _, _, true, rfl, .ty _, .base (.tup ha), kit_ty (by decide +kernel), _, rfl, iteF ?_⟩
      refine ⟨_, rfl, a, rfl, ⟨_, SqT.of ha⟩, fun D hD => ?_⟩
      refine lc_acc walk_tup (fun i => ((os.take i).map fun o => V.bl (nameO o))) rfl hD (fun i hi => ?_) (fun H1 s1 => SqT.of (s1 _ _ ha)) (fun i x H1 H2 N hi s1 y keep skip => ?_) (fun H1 s1 hL => ?_)
      · have : (1000 : Nat) < sizeLine := by decide
        rw [List.length_map, List.length_take]; omega
      · obtain ⟨rfl, hx⟩ := y
        obtain ⟨o, ho, po⟩ := paired_get hp hx
        refine ⟨rfl, _, rfl, x, nameO o, rfl, ?_, fun H3 s3 => keep _ _ s3 ?_⟩
        · rcases po.same s1 with ⟨z, rfl, hz, rfl⟩ | ⟨ht, rfl⟩
          · exact .inl ⟨z, rfl, hz, rfl⟩
          · exact .inr ⟨ht, rfl⟩
        · rw [take_snoc ho, List.map_append]; rfl
      · refine ⟨D, os.map nameO, rfl, SqL.of ?_, _, rfl, ?_⟩
        · rw [hL, List.take_of_length_le (by rw [← hp.length]; exact Nat.le_refl _), List.map_map]; rfl
        · cases ea : (os.map nameO).all id with
          | false =>
            have e : b = false := by
              rw [eb]; unfold choiceB
              rw [List.all_map] at ea
              rw [show os.all nameO = false from ea, Bool.false_and]
            subst e
            exact k H1 s1
          | true =>
            have en : os.all nameO = true := by rw [List.all_map] at ea; exact ea
            obtain ⟨zs, rfl, rfl⟩ := parts_strs hp en
            have short : ∀ z ∈ zs, z.length ≤ sizeLine := fun z hz => by
              have nz : nameB z = true := by
                rw [List.all_map, List.all_eq_true] at en
                exact en z hz
              unfold nameB at nz
              simp only [Bool.and_eq_true, decide_eq_true_eq] at nz
              exact Nat.le_trans nz.1.2 (by decide)
            rw [List.length_map] at hlen
            refine ⟨_, rfl, a, zs, rfl, SqT.of (s1 _ _ ha), fun ys p pm st hp0 => ?_⟩
            refine ⟨p, _, rfl, .inl ⟨SqL.of upd_same, fun q hq => ?_⟩⟩
            have sy : ∀ z ∈ ys, z.length ≤ sizeLine := fun z hz => short z (pm.mem_iff.mp hz)
            have len : (ys.map V.str).length ≤ 1000 := by rw [List.length_map, pm.length_eq]; exact hlen
            have eq : b = colsB (ys.map some) := by
              rw [eb]
              unfold choiceB colsB
              have all2 : (ys.map some).all nameO = true := by
                rw [List.all_map, List.all_eq_true] at en ⊢
                exact fun z hz => en z (pm.mem_iff.mp hz)
              rw [en, all2, Bool.true_and, Bool.true_and, List.filterMap_map, List.filterMap_map]
              have idy : ∀ l : List Str, List.filterMap (id ∘ some) l = l := fun l => List.filterMap_some
              rw [idy, idy, asc_of_sorted st]
              exact decide_eq_decide.mpr pm.nodup_iff.symm
            refine ⟨.ref q, b, rfl, .inr ⟨q, _, _, rfl, upd_same, len, parts_some sy, eq⟩, fun H3 s3 => k H3 (s1.trans ((Same.new (Same.new (Same.refl _) hp0) hq).trans s3))⟩
end
end B2_

/-! ## B2_7 -/
set_option Elab.async false
set_option linter.all false
set_option maxRecDepth 100000
set_option maxHeartbeats 4000000
namespace B2_
open PySem PySem.Spec PyProof.Rows L2
theorem in_texts (z : Str) (xs : List Str) : inV (.str z) (xs.map V.str) = decide (z ∈ xs) := by
  unfold inV
  induction xs with
  | nil => rfl
  | cons x r ih =>
    rw [List.map_cons, List.any_cons, ih]
    have e : eqV (.str x) (.str z) = (x == z) := rfl
    rw [e]
    by_cases h : x = z
    · subst h; simp
    · have h2 : (x == z) = false := by simpa using h
      have h3 : ¬ z = x := fun q => h q.symm
      rw [h2, Bool.false_or]
      simp [h3]
theorem flat_texts (xs : List Str) : (xs.map V.str).all flatV = true := by
  rw [List.all_map, List.all_eq_true]; exact fun _ _ => rfl
/-! ### _is_key -/
def keyB (cs : List Str) (os : List (Option Str)) : Bool := choiceB os && (os.filterMap id).all fun z => decide (z ∈ cs)
abbrev s_key : Stmt := topS 23
abbrev N_key : List Str := ["value", "columns", "column"]
theorem sc_key : FnScope N_key ["value", "columns"] (defScope s_key) := ⟨rfl, rfl, rfl, by decide +kernel, rfl, by decide +kernel, by decide +kernel⟩
def spKey (K : PySem.W.Frag) : Sp := fun vs H Q _ => ∃ (x : V) (c : Addr) (cs : List Str) (b : Bool), vs = [x, .ref c] ∧ H c = some (.tup (cs.map V.str)) ∧
  ((IsTy K H x "tuple" false ∧ b = false) ∨ (∃ a xs os, x = .ref a ∧ H a = some (.tup xs) ∧ xs.length ≤ 1000 ∧ Paired (PartOk K H) xs os ∧ b = keyB cs os)) ∧ ∀ H', Same H H' → Q (.bl b) H'
section
variable {P : Program} {w : World} {K : PySem.W.Frag} {mg : Str → Option Value} {base : Heap}
theorem ok_key {f : Addr} {fd : FuncData} (F : Fun K "_is_key" "_is_key" s_key f fd) (T : Names2 mg) (C3 : Callee P w K mg base CX0 3 "_is_choice" ["value"] (spChoice K)) : FnOk P w K mg base CX0 4 f fd ["value", "columns"] (spKey K) := by
  have nd := sc_key.nd
  refine F.ok sc_key (fun vs H Q E h => ?_) (fun cdv A outer s H vs Q E hr h => ?_)
  · obtain ⟨x, c, cs, b, rfl, _⟩ := h
    rfl
  · obtain ⟨x, c, cs, b, rfl, hc, hx, k⟩ := h
    refine ⟨_, (pss_one
    (ps_ret (pe_and (pe_use C3 hr rfl pass0 (pa_cons (pv 0) pa_nil)) (pe_one (pe_callB (cr_all rfl) (by rfl) T.all (by decide +kernel) (pa_cons (pe_lc (own := [("column", 2)]) (g := (gName 2)) rfl nd (pi_tup (pv 0)) (blkOk_by (N := N_key) (sc := defScope s_key) (by decide +kernel)) (fun _ _ _ _ _ => (pg_name (i := 2) nd rfl (Or.inl rfl))) (fun _ _ _ _ _ => pts_nil) (fun _ _ _ _ _ => (pe_cmpR (r := rIn K false) op_in_seq (pv 2) (pv 1) rfl))) pa_nil)))))), ?_⟩
    rcases hx with ⟨ht, rfl⟩ | ⟨a, xs, os, rfl, ha, hlen, hp, eb⟩
    · exact ⟨_, rfl, x, false, rfl, .inl ⟨ht, rfl⟩, fun H1 s1 => ⟨_, rfl, k H1 s1⟩⟩
    · refine ⟨_, rfl, .ref a, choiceB os, rfl, .inr ⟨a, xs, os, rfl, ha, hlen, hp, rfl⟩, fun H1 s1 => ⟨_, rfl, ?_⟩⟩
      cases ec : choiceB os with
      | false =>
        have e : b = false := by rw [eb]; unfold keyB; rw [ec, Bool.false_and]
        subst e
        exact k H1 s1
      | true =>
        have en : os.all nameO = true := by
          unfold choiceB at ec
          rw [Bool.and_eq_true] at ec
          exact ec.1
        obtain ⟨zs, rfl, rfl⟩ := parts_strs hp en
        have ha1 := s1 _ _ ha
        have hc1 := s1 _ _ hc
        refine ⟨_, rfl, a, rfl, ⟨_, SqT.of ha1⟩, fun D hD => ?_⟩
        refine lc_acc walk_tup (fun i => ((zs.take i).map fun z => V.bl (decide (z ∈ cs)))) rfl hD (fun i hi => ?_) (fun H2 s2 => SqT.of (s2 _ _ ha1)) (fun i x H2 H3 N hi s2 y keep skip => ?_) (fun H2 s2 hL => ?_)
        · have : (1000 : Nat) < sizeLine := by decide
          rw [List.length_map] at hlen hi
          rw [List.length_map, List.length_take]; omega
        · obtain ⟨rfl, hx⟩ := y
          rw [List.getElem?_map] at hx
          obtain ⟨z, ez, rfl⟩ := Option.map_eq_some_iff.mp hx
          refine ⟨rfl, _, rfl, _, rfl, c, _, rfl, .inr (SqT.of (s2 _ _ hc1)), rfl, flat_texts cs, keep _ _ (Same.refl _) ?_⟩
          rw [take_snoc ez, List.map_append]
          show _ ++ [V.bl (decide (z ∈ cs))] = _ ++ [V.bl (inV (.str z) (cs.map V.str))]
          rw [in_texts]
        · refine ⟨D, zs.map fun z => decide (z ∈ cs), rfl, SqL.of ?_, ?_⟩
          · rw [hL, List.length_map, List.take_length, List.map_map]; rfl
          · have e : ((zs.map fun z => decide (z ∈ cs)).all id) = b := by
              rw [eb]; unfold keyB
              rw [ec, Bool.true_and, List.filterMap_map, show List.filterMap (id ∘ some) zs = zs from List.filterMap_some, List.all_map]
              rfl
            rw [e]
            exact k H2 (s1.trans s2)
end
end B2_

/-! ## B2_8 -/
set_option Elab.async false
set_option linter.all false
set_option maxRecDepth 100000
set_option maxHeartbeats 4000000
namespace B2_
open PySem PySem.Spec PyProof.Rows L2
/-! ### texts in order -/
def leT (a b : Str) : Bool := !ltCps b.cps.toList a.cps.toList
def srtd (zs : List Str) : List Str := zs.mergeSort leT
theorem leT_iff {a b : Str} : leT a b = true ↔ ¬ b.cps.toList < a.cps.toList := by
  unfold leT; rw [ltCps_eq]; simp
theorem leT_trans (a b c : Str) (h1 : leT a b = true) (h2 : leT b c = true) : leT a c = true := by
  rw [leT_iff] at *
  exact List.not_lt.mpr (List.le_trans (List.not_lt.mp h1) (List.not_lt.mp h2))
theorem leT_total (a b : Str) : (leT a b || leT b a) = true := by
  rw [Bool.or_eq_true, leT_iff, leT_iff]
  rcases List.le_total b.cps.toList a.cps.toList with h | h
  · exact .inr (List.not_lt.mpr h)
  · exact .inl (List.not_lt.mpr h)
theorem leT_anti {a b : Str} (h1 : leT a b = true) (h2 : leT b a = true) : a = b := by
  rw [leT_iff] at h1 h2
  exact cps_ext (List.le_antisymm (List.not_lt.mp h1) (List.not_lt.mp h2))
theorem srtd_perm (zs : List Str) : (srtd zs).Perm zs := List.mergeSort_perm zs leT
theorem srtd_pair (zs : List Str) : (srtd zs).Pairwise fun a b => leT a b = true := List.pairwise_mergeSort leT_trans leT_total zs
theorem srtd_of {ys zs : List Str} (p : ys.Perm zs) (s : sortedS ys = true) : ys = srtd zs := by
  refine List.Perm.eq_of_pairwise (le := fun a b => leT a b = true) (fun a b _ _ h1 h2 => leT_anti h1 h2) ?_ (srtd_pair zs) (p.trans (srtd_perm zs).symm)
  exact (sorted_pair s).imp fun {a b} h => leT_iff.mpr h
theorem srtd_congr {ys zs : List Str} (p : ys.Perm zs) : srtd ys = srtd zs :=
  List.Perm.eq_of_pairwise (le := fun a b => leT a b = true) (fun a b _ _ h1 h2 => leT_anti h1 h2) (srtd_pair ys) (srtd_pair zs) (((srtd_perm ys).trans p).trans (srtd_perm zs).symm)
theorem srtd_idem (zs : List Str) : srtd (srtd zs) = srtd zs := srtd_congr (srtd_perm zs)
theorem mem_srtd {z : Str} {zs : List Str} : z ∈ srtd zs ↔ z ∈ zs := (srtd_perm zs).mem_iff
theorem srtd_len (zs : List Str) : (srtd zs).length = zs.length := (srtd_perm zs).length_eq
theorem srtd_lt {zs : List Str} (n : zs.Nodup) : (srtd zs).Pairwise fun a b => a.cps.toList < b.cps.toList := by
  have n' : (srtd zs).Nodup := (srtd_perm zs).nodup_iff.mpr n
  refine (List.Pairwise.and (srtd_pair zs) n').imp fun {a b} ⟨h1, h2⟩ => ?_
  by_cases q : a.cps.toList < b.cps.toList
  · exact q
  · exact absurd (cps_ext (List.le_antisymm (List.not_lt.mp (leT_iff.mp h1)) (List.not_lt.mp q))) h2
theorem srtd_asc {zs : List Str} (h : zs.Pairwise fun a b => a.cps.toList < b.cps.toList) : srtd zs = zs :=
  List.Perm.eq_of_pairwise (le := fun a b => leT a b = true) (fun a b _ _ h1 h2 => leT_anti h1 h2) (srtd_pair zs) (h.imp fun {a b} q => leT_iff.mpr (List.not_lt.mpr (List.le_of_lt q))) (srtd_perm zs)
/-! ### lines -/
/-- how a table is: it changes, it is fixed, it has a key -/
inductive Kd where
  | chg | fix
  | key (ks : List Str)
structure Ln where
  t : Str
  cs : List Str
  k : Kd
def KdAt (H : Hp) (v : V) : Kd → Prop
  | .chg => v = .str "changing"
  | .fix => v = .non
  | .key ks => ∃ q, v = .ref q ∧ H q = some (.tup (ks.map V.str))
def LnAt (H : Hp) (v : V) (l : Ln) : Prop := ∃ p c kv, v = .ref p ∧ H p = some (.tup [.str l.t, .ref c, kv]) ∧ H c = some (.tup (l.cs.map V.str)) ∧ KdAt H kv l.k
theorem KdAt.same {H H' : Hp} {v : V} {k : Kd} (h : KdAt H v k) (s : Same H H') : KdAt H' v k := by
  cases k with
  | chg => exact h
  | fix => exact h
  | key ks => exact h.imp fun q e => ⟨e.1, s _ _ e.2⟩
theorem LnAt.same {H H' : Hp} {v : V} {l : Ln} (h : LnAt H v l) (s : Same H H') : LnAt H' v l := by
  obtain ⟨p, c, kv, e, h1, h2, h3⟩ := h
  exact ⟨p, c, kv, e, s _ _ h1, s _ _ h2, h3.same s⟩
def Kd.Ok (cs : List Str) : Kd → Prop
  | .key ks => (∀ z ∈ ks, nameB z = true) ∧ ks.Nodup ∧ ∀ z ∈ ks, z ∈ cs
  | _ => True
structure Ln.Ok (l : Ln) : Prop where
  name : nameB l.t = true
  cols : ∀ z ∈ l.cs, nameB z = true
  nd : l.cs.Nodup
  few : l.cs.length ≤ 4
  key : l.k.Ok l.cs
def Kd.srt : Kd → Kd
  | .key ks => .key (srtd ks)
  | k => k
def Ln.srt (l : Ln) : Ln := ⟨l.t, srtd l.cs, l.k.srt⟩
theorem name_len {z : Str} (h : nameB z = true) : z.length ≤ 8 := by
  unfold nameB at h
  simp only [Bool.and_eq_true, decide_eq_true_eq] at h
  exact h.1.2
theorem name_size {z : Str} (h : nameB z = true) : z.length ≤ sizeLine := Nat.le_trans (name_len h) (by decide)
theorem name_strOk {z : Str} (h : nameB z = true) : PyData.strOk z = true := by
  unfold nameB at h
  simp only [Bool.and_eq_true, decide_eq_true_eq, List.all_eq_true] at h
  unfold PyData.strOk
  rw [Array.all_eq_true_iff_forall_mem]
  intro c hc
  have := (h.2 c (Array.mem_toList_iff.mpr hc)).2
  exact decide_eq_true (by omega)
theorem nameO_all {zs : List Str} (h : ∀ z ∈ zs, nameB z = true) : (zs.map some).all nameO = true := by
  rw [List.all_map, List.all_eq_true]
  exact h
theorem choice_ok {zs : List Str} (h : ∀ z ∈ zs, nameB z = true) (n : zs.Nodup) : choiceB (zs.map some) = true := by
  unfold choiceB
  rw [nameO_all h, Bool.true_and, List.filterMap_map, show List.filterMap (id ∘ some) zs = zs from List.filterMap_some]
  exact decide_eq_true n
theorem key_ok {cs ks : List Str} (h : Kd.Ok cs (.key ks)) : keyB cs (ks.map some) = true := by
  unfold keyB
  rw [choice_ok h.1 h.2.1, Bool.true_and, List.filterMap_map, show List.filterMap (id ∘ some) ks = ks from List.filterMap_some, List.all_eq_true]
  exact fun z hz => decide_eq_true (h.2.2 z hz)
theorem Ln.Ok.srt {l : Ln} (h : l.Ok) : l.srt.Ok := by
  refine ⟨h.name, fun z hz => h.cols z (mem_srtd.mp hz), (srtd_perm _).nodup_iff.mpr h.nd, by show (srtd l.cs).length ≤ 4; rw [srtd_len]; exact h.few, ?_⟩
  have hk := h.key
  unfold Ln.srt
  cases e : l.k with
  | chg => trivial
  | fix => trivial
  | key ks =>
    rw [e] at hk
    exact ⟨fun z hz => hk.1 z (mem_srtd.mp hz), (srtd_perm _).nodup_iff.mpr hk.2.1, fun z hz => mem_srtd.mpr (hk.2.2 z (mem_srtd.mp hz))⟩
theorem Ln.srt_srt (l : Ln) : l.srt.srt = l.srt := by
  unfold Ln.srt
  cases l.k <;> simp [Kd.srt, srtd_idem]
theorem shaped_tup (xs : List Str) (h : ∀ x ∈ xs, PyData.strOk x = true) : SeqAt.shaped (.tuple (xs.map PyData.str)) = true := by
  unfold SeqAt.shaped
  have h1 : PyData.canLay0 (.tuple (xs.map PyData.str)) = true := canLay_strs xs h
  have h2 : PyData.depth (.tuple (xs.map PyData.str)) = 1 := by
    show PyData.depthAll (xs.map PyData.str) + 1 = 1
    rw [depth_strs]
  rw [h1, h2]; rfl
/-! ### _checked_line, of a good line -/
abbrev s_cl : Stmt := topS 21
abbrev N_cl : List Str := ["line", "table", "columns", "key"]
theorem sc_cl : FnScope N_cl ["line"] (defScope s_cl) := ⟨rfl, rfl, rfl, by decide +kernel, rfl, by decide +kernel, by decide +kernel⟩
def spCL : Sp := fun vs H Q _ => ∃ (v : V) (l : Ln), vs = [v] ∧ LnAt H v l ∧ l.Ok ∧ ∀ r H', Same H H' → LnAt H' r l.srt → Q r H'
/-- the globals of the scenes' text -/
structure NamesS (mg : Str → Option Value) : Prop extends Names2 mg where
  sorted : mg "sorted" = none
  set : mg "set" = none
  dict : mg "dict" = none
  mtab : ∃ t, mg "MAX_TABLES" = some (.int 6 t)
  mcol : ∃ t, mg "MAX_COLUMNS" = some (.int 6 t)
  most : ∃ t, mg "MOST_COLUMNS" = some (.int 4 t)
  chg : ∃ t, mg "CHANGING" = some (.str "changing" t)
section
variable {P : Program} {w : World} {K : PySem.W.Frag} {mg : Str → Option Value} {base : Heap}
theorem ok_cl {f : Addr} {fd : FuncData} (F : Fun K "_checked_line" "_checked_line" s_cl f fd) (T : NamesS mg) (C1 : Callee P w K mg base CX0 1 "is_name" ["value"] (spName K)) (C3 : Callee P w K mg base CX0 3 "_is_choice" ["value"] (spChoice K)) (C4 : Callee P w K mg base CX0 4 "_is_key" ["value", "columns"] (spKey K)) : FnOk P w K mg base CX0 5 f fd ["line"] spCL := by
  have nd := sc_cl.nd
  refine F.ok sc_cl (fun vs H Q E h => ?_) (fun cdv A outer s H vs Q E hr h => ?_)
  · obtain ⟨v, l, rfl, _⟩ := h
    rfl
  · obtain ⟨v, l, rfl, ⟨p, c, kv, rfl, hp, hc, hk⟩, ok, k⟩ := h
    have hr1 : Room 1 _ := hr.mono (by decide)
    have hr3 : Room 3 _ := hr.mono (by decide)
    obtain ⟨tm, hmost⟩ := T.most
    obtain ⟨tc, hchg⟩ := T.chg
    have hu64 : (A.deeper (envOfC "_checked_line" (defScope s_cl) s.heap.objs.size f cdv)).units + 64 < cLine := by have := hr.un; omega
    refine ⟨_, (pss_cons
    (ps_if (PW.pt (pw_or (pt_not (pt_val (pe_callB call_isi (by rfl) T.isinstance (by decide +kernel) (pa_cons (pv 0) (pa_cons (pe_bltn (v := .ty "tuple") (by rfl) T.tuple (by decide +kernel) rfl) pa_nil))))) (pw_or1 (pt_cmpR op_ne (pe_callB call_len_seq (by rfl) T.len (by decide +kernel) (pa_cons (pv 0) pa_nil)) pe_int (nomark _))))) (pss_one ps_never) pss_nil)
    (pss_cons
    (ps_asg (pv 0) (pg_tup rfl (pgs_cons (pg_name (i := 1) nd rfl (Or.inl rfl)) (pgs_cons (pg_name (i := 2) nd rfl (Or.inl rfl)) (pgs_cons (pg_name (i := 3) nd rfl (Or.inl rfl)) pgs_nil)))))
    (pss_cons
    (ps_if (pt_not (pt_val (pe_use C1 hr1 rfl pass0 (pa_cons (pv 1) pa_nil)))) (pss_one ps_never) pss_nil)
    (pss_cons
    (ps_if (PW.pt (pw_or (pt_not (pt_val (pe_use C3 hr3 rfl pass0 (pa_cons (pv 2) pa_nil)))) (pw_or1 (pt_cmpR op_gt (pe_callB call_len_seq (by rfl) T.len (by decide +kernel) (pa_cons (pv 2) pa_nil)) (pe_glob (v := .int 4) rfl hmost ⟨_, rfl⟩) (nomark _))))) (pss_one ps_never) pss_nil)
    (pss_cons
    (ps_if (PW.pt (pw_or (pt_cmpR op_isN (pv 3) pe_non (nomark _)) (pw_or1 (pt_cmpR (op_eqD hu64) (pv 3) (pe_glob (v := .str "changing") rfl hchg ⟨_, rfl⟩) (nomark _))))) (pss_one
      (ps_ret (pe_tup (pa_cons (pv 1) (pa_cons (pe_callTy call_tuple_of (by rfl) T.tuple (by decide +kernel) (pa_cons (pe_callB K1.cr_sortedTS (by rfl) T.sorted (by decide +kernel) (pa_cons (pv 2) pa_nil)) pa_nil)) (pa_cons (pv 3) pa_nil)))))) pss_nil)
    (pss_cons
    (ps_if (pt_not (pt_val (pe_use C4 hr rfl pass0 (pa_cons (pv 3) (pa_cons (pv 2) pa_nil))))) (pss_one ps_never) pss_nil)
    (pss_one
    (ps_ret (pe_tup (pa_cons (pv 1) (pa_cons (pe_callTy call_tuple_of (by rfl) T.tuple (by decide +kernel) (pa_cons (pe_callB K1.cr_sortedTS (by rfl) T.sorted (by decide +kernel) (pa_cons (pv 2) pa_nil)) pa_nil)) (pa_cons (pe_callTy call_tuple_of (by rfl) T.tuple (by decide +kernel) (pa_cons (pe_callB K1.cr_sortedTS (by rfl) T.sorted (by decide +kernel) (pa_cons (pv 3) pa_nil)) pa_nil)) pa_nil)))))))))))), ?_⟩
    refine ⟨_, rfl, _, _, _, _, true, rfl, .ty _, .base (.tup hp), kit_ty (by decide +kernel), _, rfl, iteF ?_⟩
    refine ⟨_, rfl, p, _, rfl, .inr (SqT.of hp), rfl, _, rfl, iteF ?_⟩
    refine ⟨_, rfl, p, _, rfl, SqT.of hp, rfl, _, _, rfl, _, _, rfl, _, _, rfl, rfl, ?_⟩
    refine ⟨_, rfl, .str l.t, true, rfl, .inl ⟨_, rfl, name_size ok.name, ok.name.symm⟩, fun H1 s1 => ⟨_, rfl, iteF ?_⟩⟩
    have hc1 := s1 _ _ hc
    have hk1 := hk.same s1
    refine ⟨_, rfl, .ref c, true, rfl, .inr ⟨c, _, _, rfl, hc1, by rw [List.length_map]; have := ok.few; omega, parts_some fun z hz => name_size (ok.cols z hz), (choice_ok ok.cols ok.nd).symm⟩, fun H2 s2 => ⟨_, rfl, iteF ?_⟩⟩
    have hc2 := s2 _ _ hc1
    have hk2 := hk1.same s2
    refine ⟨_, rfl, c, _, rfl, .inr (SqT.of hc2), _, _, rfl, rfl, _, rfl, ?_⟩
    have few : decide ((((l.cs.map V.str).length : Nat) : Int) > 4) = false := decide_eq_false (by rw [List.length_map]; have := ok.few; omega)
    rw [few]
    refine iteF ?_
    have s12 : Same H H2 := s1.trans s2
    have tail : ∀ (kv' : V) (H3 : Hp), Same H2 H3 → KdAt H3 kv' l.k.srt → ∀ c2, H3 c2 = some (.tup ((srtd l.cs).map V.str)) → ∀ q, H3 q = none → Q (.ref q) (upd H3 q (.tup [.str l.t, .ref c2, kv'])) := fun kv' H3 s3 hk3 c2 h3 q hq =>
      k _ _ (Same.new (s12.trans s3) hq) ⟨q, c2, kv', rfl, upd_same, by rw [upd_ne (ne_of_none h3 hq)]; exact h3, hk3.same (Same.new (Same.refl _) hq)⟩
    cases e : l.k with
    | fix =>
      rw [e] at hk2 tail
      obtain rfl : kv = .non := hk2
      refine ⟨_, rfl, rfl, _, rfl, ?_⟩
      rw [decide_eq_true rfl]
      refine iteT (iteT ⟨_, rfl, ?_⟩)
      refine ⟨_, rfl, c, l.cs, rfl, SqT.of hc2, fun ys p1 pm st h1 => ?_⟩
      obtain rfl := srtd_of pm st
      refine ⟨p1, _, rfl, .inl ⟨SqL.of upd_same, fun c2 h2 => ?_⟩⟩
      refine ⟨_, rfl, Nat.le_of_ble_eq_true rfl, fun q hq => ?_⟩
      exact tail .non _ (Same.new (Same.new (Same.refl _) h1) h2) rfl c2 upd_same q hq
    | chg =>
      rw [e] at hk2 tail
      obtain rfl : kv = .str "changing" := hk2
      refine ⟨_, rfl, rfl, _, rfl, ?_⟩
      rw [decide_eq_false (by intro z; cases z)]
      refine iteF ⟨_, rfl, .str "changing", .str "changing", .str _, .str _, by decide +kernel, by decide +kernel, _, rfl, ?_⟩
      rw [show PyData.eqv (.str "changing") (.str "changing") = true by decide +kernel]
      refine iteT ⟨_, rfl, ?_⟩
      refine ⟨_, rfl, c, l.cs, rfl, SqT.of hc2, fun ys p1 pm st h1 => ?_⟩
      obtain rfl := srtd_of pm st
      refine ⟨p1, _, rfl, .inl ⟨SqL.of upd_same, fun c2 h2 => ?_⟩⟩
      refine ⟨_, rfl, Nat.le_of_ble_eq_true rfl, fun q hq => ?_⟩
      exact tail (.str "changing") _ (Same.new (Same.new (Same.refl _) h1) h2) rfl c2 upd_same q hq
    | key ks =>
      rw [e] at hk2 tail
      have hok : Kd.Ok l.cs (.key ks) := e ▸ ok.key
      obtain ⟨q0, rfl, hq0⟩ := hk2
      refine ⟨_, rfl, rfl, _, rfl, ?_⟩
      rw [decide_eq_false (by intro z; cases z)]
      refine iteF ⟨_, rfl, .tuple (ks.map PyData.str), .str "changing", .tup (SqT.of hq0) (dp_strs ks), .str _, ?_, by decide +kernel, _, rfl, ?_⟩
      · exact shaped_tup ks fun z hz => name_strOk (hok.1 z hz)
      rw [show PyData.eqv (.tuple (ks.map PyData.str)) (.str "changing") = false from rfl]
      refine iteF ?_
      have small : (ks.map V.str).length ≤ 1000 := by
        have h1 : ks.length ≤ l.cs.length := hok.2.1.length_le_of_subset fun z hz => hok.2.2 z hz
        have := ok.few
        rw [List.length_map]; omega
      refine ⟨_, rfl, _, rfl, .ref q0, c, l.cs, true, rfl, hc2, .inr ⟨q0, _, _, rfl, hq0, small, parts_some fun z hz => name_size (hok.1 z hz), (key_ok hok).symm⟩, fun H3 s3 => ⟨_, rfl, iteF ?_⟩⟩
      refine ⟨_, rfl, _, rfl, c, l.cs, rfl, SqT.of (s3 _ _ hc2), fun ys p1 pm st h1 => ?_⟩
      obtain rfl := srtd_of pm st
      refine ⟨p1, _, rfl, .inl ⟨SqL.of upd_same, fun c2 h2 => ?_⟩⟩
      have sa := (s3.trans (Same.new (Same.refl _) h1)).trans (Same.new (o := .tup ((srtd l.cs).map V.str)) (Same.refl _) h2)
      refine ⟨_, rfl, q0, ks, rfl, SqT.of (sa _ _ hq0), fun zs p2 pm2 st2 h3 => ?_⟩
      obtain rfl := srtd_of pm2 st2
      refine ⟨p2, _, rfl, .inl ⟨SqL.of upd_same, fun k2 h4 => ?_⟩⟩
      refine ⟨Nat.le_of_ble_eq_true rfl, fun q hq => ?_⟩
      have sb := (Same.new (o := .lst ((srtd ks).map V.str)) (Same.refl _) h3).trans (Same.new (o := .tup ((srtd ks).map V.str)) (Same.refl _) h4)
      exact tail (.ref k2) _ (sa.trans sb) ⟨k2, rfl, upd_same⟩ c2 (sb _ _ upd_same) q hq
end
end B2_

/-! ## C1 -/
set_option Elab.async false
set_option linter.all false
set_option maxRecDepth 100000
set_option maxHeartbeats 8000000
namespace K1
open PySem PySem.Spec PyProof.Rows L2
open PySem.Froz (SD sObj TxOk addTx tailTx)
/-! ### sets of texts that a comprehension of two clauses fills -/
theorem setS_ok {P : Program} {w : World} {H : Hp} {h : Heap} {a : Addr} {l zs : List Str} (T : TxSet P w h a l) (mem : ∀ z, z ∈ l ↔ z ∈ zs) (few : l.length ≤ zs.length) : ObjOk P w H h a (SetS P w a zs) := by
  obtain ⟨D, g, _⟩ := id T
  refine ⟨⟨l, T, mem, few⟩, ⟨_, g⟩, fun h1 h2 p k => ?_⟩
  obtain ⟨l', T', m, f⟩ := p
  exact ⟨l', T'.at k, m, f⟩
section
variable {X : Cx} {pins : List (Addr × Obj)} {σ : L2.St} {H : Hp} {s : Shared}
theorem addText {E : Value → Shared → Prop} {D : Addr} {zs : List Str} {y : Str} {u : Value} {Q : Value → Shared → Prop} (I : Inv X pins σ H s) (hD : H D = some (SetS X.prog X.w D zs)) (room : zs.length + 1 < scanBound) (ry : RelV (.str y) u)
    (done : ∀ s', Inv X pins σ (upd H D (SetS X.prog X.w D (zs ++ [y]))) s' → Q .none s') : wpAny (model X.prog X.w) X.A (call (.builtin "set.add") [.ref D, u]) Q E s := by
  obtain ⟨l, T, mem, few⟩ := (I.hok D _ hD).1
  obtain ⟨t, rfl⟩ : ∃ t, u = .str y t := ry
  obtain ⟨es, g, _⟩ := id T
  have ty : s.TypeIs (.ref D) "set" := ⟨_, g, rfl⟩
  refine wpAny_call_entry F.slot_set_add ty F.entry_set_add ?_ (F.args_set_add_2 _ _)
  unfold Builtin.«set.add» Builtin.Frozenset.oneOther
  simp only [List.isEmpty_nil, bind_assoc]
  unfold Builtin.Frozenset.addrOf setAdd
  refine wpAny_bind (wpAny_pure ?_); try dsimp only
  refine wpAny_bind (wpAny_pure ?_); try dsimp only
  refine wpAny_bind (wpAny_holding ?_)
  refine wpAny_bind ((strKind X.prog X.w).pyHash (k := y) (PySem.Froz.is_str y t) ?_)
  refine txset_put (s := { s with toks := s.toks + 1 }) T (by omega) fun b h' l2 same T2 mem2 few2 => ?_
  show wpAny _ _ (ret Value.none) _ _ _
  have ok : ObjOk X.prog X.w (upd H D (SetS X.prog X.w D (zs ++ [y]))) h' D (SetS X.prog X.w D (zs ++ [y])) := setS_ok T2 (fun z => by rw [mem2, mem, List.mem_append, List.mem_singleton]) (by rw [List.length_append, List.length_singleton]; omega)
  exact wpAny_pure ⟨_, rfl, done _ (I.write (e := D) (t' := s.toks + 1) (by rw [hD]; trivial) (.inl rfl) (fun b u hb hu => (same.2 b hb).trans hu) ok.2.1 ok)⟩
end
/-- the shape of {elt for tg in iter .. for tg1 in iter1 ..} -/
abbrev setOf2 (elt tg iter tg1 iter1 : Expr) (ifs ifs1 : List Expr) (scope : Scope) (pos : Pos) : Expr := .SetComp elt [⟨tg, iter, ifs, 0⟩, ⟨tg1, iter1, ifs1, 0⟩] scope pos
section
variable {elt tg iter tg1 iter1 : Expr} {ifs ifs1 : List Expr} {scope : Scope} {pos : Pos}
/-- one turn of the first clause -/
theorem turn_out (it acc : Value) (env : Env) : compTurn (setOf2 elt tg iter tg1 iter1 ifs ifs1 scope pos) 0 it acc env = (do
      standAt iter.pos
      match ← pyNext it with
      | none => pure (.done .next)
      | some item =>
        letOwnedTupleGo tg it item
        assign tg env item
        let mut good := true
        for t in ifs do
          if good then good ← isTrue t env (eval t env)
        if good then
          let src ← eval iter1 env
          standAt iter1.pos
          let src ← foldedSetIterable iter1 env src
          let _ ← runOwn (.compStart (setOf2 elt tg iter tg1 iter1 ifs ifs1 scope pos) 1 (← holding [src] (pyIter src)) acc env) env
        again (.compLoop (setOf2 elt tg iter tg1 iter1 ifs ifs1 scope pos) 0 it acc env)) := by rfl
/-- one turn of the second -/
theorem turn_in (it acc : Value) (env : Env) : compTurn (setOf2 elt tg iter tg1 iter1 ifs ifs1 scope pos) 1 it acc env = (do
      standAt iter1.pos
      match ← pyNext it with
      | none => pure (.done .next)
      | some item =>
        letOwnedTupleGo tg1 it item
        assign tg1 env item
        let mut good := true
        for t in ifs1 do
          if good then good ← isTrue t env (eval t env)
        if good then
          (do let new ← eval elt env; standAt elt.pos; let _ ← call (.builtin "set.add") [acc, new])
        again (.compLoop (setOf2 elt tg iter tg1 iter1 ifs ifs1 scope pos) 1 it acc env)) := by rfl
end
end K1

/-! ## C2 -/
set_option Elab.async false
set_option linter.all false
set_option maxRecDepth 100000
set_option maxHeartbeats 8000000
namespace K1
open PySem PySem.Spec PyProof.Rows L2
/-- the texts of the first n turns -/
def flatT (tx : Nat → List Str) : Nat → List Str
  | 0 => []
  | n + 1 => flatT tx n ++ tx n
theorem flatT_le {tx : Nat → List Str} {i n : Nat} (h : i ≤ n) : (flatT tx i).length ≤ (flatT tx n).length := by
  induction n with
  | zero => obtain rfl : i = 0 := by omega
            exact Nat.le_refl _
  | succ n ih =>
    by_cases e : i = n + 1
    · rw [e]; exact Nat.le_refl _
    · have := ih (by omega)
      rw [flatT, List.length_append]; omega
theorem mem_flatT {tx : Nat → List Str} {z : Str} : ∀ {n : Nat}, z ∈ flatT tx n ↔ ∃ i, i < n ∧ z ∈ tx i
  | 0 => by simp [flatT]
  | n + 1 => by
    rw [flatT, List.mem_append, mem_flatT]
    refine ⟨fun h => ?_, fun ⟨i, h, m⟩ => ?_⟩
    · rcases h with ⟨i, h, m⟩ | m
      · exact ⟨i, by omega, m⟩
      · exact ⟨n, by omega, m⟩
    · by_cases e : i = n
      · subst e; exact .inr m
      · exact .inl ⟨i, by omega, m⟩
/-- all that is tracked stays, but for D -/
def Off (D : Addr) (H H' : Hp) : Prop := ∀ b o, b ≠ D → H b = some o → H' b = some o
theorem Off.refl (D : Addr) (H : Hp) : Off D H H := fun _ _ _ e => e
theorem Off.trans {D : Addr} {H H1 H2 : Hp} (a : Off D H H1) (b : Off D H1 H2) : Off D H H2 := fun c o n e => b c o n (a c o n e)
theorem Off.same {D : Addr} {H H1 : Hp} (a : Same H H1) : Off D H H1 := fun c o _ e => a c o e
theorem Off.full {D : Addr} {H H1 : Hp} (a : Off D H H1) (n : H D = none) : Same H H1 := fun c o e => a c o (ne_of_none e n) e
theorem Off.put {D : Addr} {H H1 : Hp} {o : HO} (a : Off D H H1) : Off D H (upd H1 D o) := fun c u n e => by rw [upd_ne n]; exact a c u n e
/-- {elt for tg in iter for tg1 in iter1}: all that is tracked stays, the i-th item of the first walk gives the texts tx i -/
def tTexts2 (P : Program) (w : World) (wi : TI) (g : TG) (wi1 : TI) (g1 : TG) (te : TE) (vs vs1 : List Nat) : TE := fun σ H Q => wi σ H fun J H1 =>
  ∃ (n : Nat) (G : Hp → Prop) (Y : Nat → Hp → V → Hp → Prop) (tx : Nat → List Str), Walk J n G Y ∧ (flatT tx n).length + 1 < scanBound ∧ ∀ D, H1 D = none → (∀ H', Off D H1 H' → G H') ∧
    (∀ i x H2 H3, i < n → Off D H1 H2 → Y i H2 x H3 → g x (wipe σ vs) H3 fun σ2 H4 => wipe σ2 vs = wipe σ vs ∧ wi1 σ2 H4 fun J1 H5 => Off D H2 H5 ∧ H5 D = H2 D ∧ ∃ (G1 : Hp → Prop) (Y1 : Nat → Hp → V → Hp → Prop), Walk J1 (tx i).length G1 Y1 ∧ (∀ H', Off D H5 H' → G1 H') ∧
      ∀ j y H6 H7, j < (tx i).length → Off D H5 H6 → Y1 j H6 y H7 → g1 y (wipe σ2 vs1) H7 fun σ3 H8 => wipe σ3 vs1 = wipe σ2 vs1 ∧ te σ3 H8 fun v H9 => Off D H6 H9 ∧ H9 D = H6 D ∧ ∃ z, v = .str z ∧ (tx i)[j]? = some z) ∧
    ∀ H', Same H1 H' → H' D = some (SetS P w D (flatT tx n)) → Q (.ref D) H'
section
variable {prog : Program} {w : World} {A : Around} {R : Result → Shared → Prop} {s : Shared} {elt tg iter tg1 iter1 : Expr} {ifs ifs1 : List Expr} {scope : Scope} {pos : Pos} {it acc : Value} {env : Env}
/-- the second clause begins -/
theorem start_in (h0 : codeAny (model prog w) A (.compLoop (setOf2 elt tg iter tg1 iter1 ifs ifs1 scope pos) 1 it acc env) R s)
    (h : wpAny (model prog w) A (pyIter it) (fun new s' => codeAny (model prog w) A (.compLoop (setOf2 elt tg iter tg1 iter1 ifs ifs1 scope pos) 1 new acc env) R s') (notedBy (model prog w) A env fun x s' => R (.error x) s') s) :
    codeAny (model prog w) A (.compStart (setOf2 elt tg iter tg1 iter1 ifs ifs1 scope pos) 1 it acc env) R s := by
  refine codeAny_of_tree ?_
  show wpAny _ _ ((compStart (setOf2 elt tg iter tg1 iter1 ifs ifs1 scope pos) 1 it acc env).onRaise (fun x => do noteFrame x env; standAt theWindowsPlace)) _ _ s
  refine wpAny_notedAt ?_
  unfold compStart
  show wpAny _ _ (ask >>= _) _ _ s
  refine wpAny_bind (wpAny_askSetting (wpAny_ite ?_))
  split
  · first
      | exact wpAny_bind (wpAny_pure (wpAny_pure (And.intro rfl h0)))
      | exact wpAny_pure (And.intro rfl h0)
  · first
      | exact wpAny_bind (wpAny_rule (wpAny_bind (wpAny_standAt (wpAny_bind (wpAny_mono h (fun new s' q => wpAny_pure (And.intro rfl q)) fun _ _ x => x)))))
      | (refine wpAny_bind (wpAny_rule ?_); show wpAny _ _ (standAt iter1.pos >>= _) _ _ s; exact wpAny_bind (wpAny_standAt (wpAny_bind (wpAny_mono h (fun new s' q => wpAny_pure (And.intro rfl q)) fun _ _ x => x))))
end
section
variable {X : Cx}
theorem setD_new {H : Hp} {D : Addr} {o : HO} (h : H D = none) : Same H (upd H D o) := fun b u e => by rw [upd_ne (ne_of_none e h)]; exact e
theorem sc2_texts {pins : List (Addr × Obj)} {s : Shared} {σ : L2.St} {H : Hp} {Q : VK} {elt tg iter tg1 iter1 : Expr} {scope : Scope} {own : List (Str × Nat)} {vs1 : List Nat} {pos pos' : Pos} {wi wi1 : TI} {g g1 : TG} {te : TE}
    (calm : X.calm = true) (nod : X.N.Nodup) (I : Inv X pins σ H s) (hi : PI X tg iter wi) (ok : BlkOk X.N X.env.scope scope own) (sub1 : ∀ i ∈ vs1, i ∈ own.map (·.2))
    (hg : ∀ s0 H0 C cl fp, PG (X.blk s0 H0 scope (compEnvC scope cl C X.env) fp) tg g) (hi1 : ∀ s0 H0 C cl fp, PI (X.blk s0 H0 scope (compEnvC scope cl C X.env) fp) tg1 iter1 wi1) (hg1 : ∀ s0 H0 C cl fp, PG (X.blk s0 H0 scope (compEnvC scope cl C X.env) fp) tg1 g1)
    (he : ∀ s0 H0 C cl fp, PE (X.blk s0 H0 scope (compEnvC scope cl C X.env) fp) elt te) (fold : ∀ x, foldedSetIterable iter X.env x = pure x) (fold1 : ∀ env x, foldedSetIterable iter1 env x = pure x) (h : tTexts2 X.prog X.w wi g wi1 g1 te (own.map (·.2)) vs1 σ H Q) :
    wpAny (model X.prog X.w) X.A (comprehension (setOf2 elt tg iter tg1 iter1 [] [] scope pos) scope X.env pos' (newSet (.type "set")) false (eval iter X.env)) (EP X pins σ Q) X.xe s := by
  have cellsThere : ∀ y ∈ scope.names, y.2 = .free → ∃ c, X.env.cells.lookup y.1 = some c := fun y hy e => (ok.free y hy e).elim (fun k => I.ok.has _ (.inl k)) fun k => I.ok.has _ (.inr k)
  refine wpAny_comprehension_free rfl fold (closure_ok cellsThere) ok.kind (fun y hy e => by rw [ok.uniq y hy, e]) (thn (hi.run pins s σ H _ I h) fun src s1 hx => thn hx fun itv s2 came => ?_)
  obtain ⟨it, fp, tn, J, H1, rfl, I2, T, st2, far2, n, G, Y, tx, wk, room, rest⟩ := came
  refine PpSet.newSet_ok (newEnv_comp ?_)
  generalize eD : s2.heap.objs.size = D
  have nD : H1 D = none := I2.hok.fresh (Nat.le_of_eq eD)
  obtain ⟨hG, body, fin⟩ := rest D nD
  generalize es3 : ({ s2 with heap := s2.heap.push (newSetObj X.w) } : Shared) = s3
  have heap3 : s3.heap = s2.heap.push (newSetObj X.w) := by rw [← es3]
  have up3 : ∀ b o, s2.heap.get? b = some o → s3.heap.get? b = some o := fun b o e => by rw [heap3]; exact Heap.get?_push_of_some _ e
  generalize eH2 : upd H1 D (SetS X.prog X.w D []) = H2
  have I3 : Inv X pins σ H2 s3 := by
    rw [← es3, ← eH2]
    refine I2.laid (t' := s2.toks) (fun b o e => Heap.get?_push_of_some _ e) (Nat.le_of_eq eD) ?_
    exact setS_ok (tx_new (by rw [← eD]; exact Heap.get?_push_size _ rfl)) (fun _ => Iff.rfl) (Nat.le_refl _)
  have D2 : H2 D = some (SetS X.prog X.w D []) := by rw [← eH2]; exact upd_same
  have same12 : Same H1 H2 := by rw [← eH2]; exact setD_new nD
  have young : ∀ b ∈ fp, b < s2.heap.objs.size := fun b hb => let ⟨_, e, _⟩ := T.obj _ _ st2 b hb; Heap.lt_size e
  have far3 : ∀ b ∈ fp, FpOk X pins H2 b ∧ b < s3.heap.objs.size := fun b hb => by
    have lt := young b hb
    refine ⟨⟨?_, (far2 b hb).2⟩, by rw [heap3, Heap.size_push]; exact Nat.lt_succ_of_lt lt⟩
    rw [← eH2, upd_ne (by rw [← eD]; exact Nat.ne_of_lt lt)]
    exact (far2 b hb).1
  have st3 : tn 0 s3.heap := T.keep _ _ _ st2 fun b _ o e => up3 b o e
  have I4 := block_start I3 ok nod far3
  have G0 := hg s3 H2 s3.heap.objs.size (cellsFrom (s3.heap.objs.size + 1) scope.names (cloFrom X.env.cells scope.names [])) fp
  have E0' := he s3 H2 s3.heap.objs.size (cellsFrom (s3.heap.objs.size + 1) scope.names (cloFrom X.env.cells scope.names [])) fp
  have W1 := hi1 s3 H2 s3.heap.objs.size (cellsFrom (s3.heap.objs.size + 1) scope.names (cloFrom X.env.cells scope.names [])) fp
  have G1' := hg1 s3 H2 s3.heap.objs.size (cellsFrom (s3.heap.objs.size + 1) scope.names (cloFrom X.env.cells scope.names [])) fp
  show codeAny _ _ (.compStart (setOf2 elt tg iter tg1 iter1 [] [] scope pos) 0 (.ref it) (.ref D) (compEnvC scope (cellsFrom (s3.heap.objs.size + 1) scope.names (cloFrom X.env.cells scope.names [])) s3.heap.objs.size X.env)) _ { s3 with heap := pushCells (s3.heap.push { cls := .type "dict", data := .dict #[] }) scope.names }
  generalize ece : compEnvC scope (cellsFrom (s3.heap.objs.size + 1) scope.names (cloFrom X.env.cells scope.names [])) s3.heap.objs.size X.env = ce at I4 G0 E0' W1 G1' ⊢
  have home : ce.locals = s3.heap.objs.size := by rw [← ece]; rfl
  generalize es4 : ({ s3 with heap := pushCells (s3.heap.push { cls := .type "dict", data := .dict #[] }) scope.names } : Shared) = s4 at I4 ⊢
  have st4 : tn 0 s4.heap := T.keep _ _ _ st3 fun b _ o e => by rw [← es4]; exact pushCells_keeps _ _ _ _ (Heap.get?_push_of_some _ e)
  have nfp : ∀ b ∈ fp, H2 b = none := fun b hb => (far3 b hb).1.1
  have stay : ∀ {σ' : L2.St} {H' : Hp} {s' : Shared}, Inv (X.blk s3 H2 scope ce fp) [] σ' H' s' → (∀ b ∈ fp, H' b = none) → ∀ b ∈ fp, FpOk (X.blk s3 H2 scope ce fp) [] H' b := fun {σ' H' s'} I' hn b hb =>
    ⟨hn b hb, (I'.ok.exf b hb).1, I'.ok.exfs b hb, .inl hb, fun x c => (I'.ok.exf b hb).2 x c, fun p hp => absurd (show p ∈ ([] : List (Addr × Obj)) ++ [] from hp) (by simp)⟩
  -- what holds ahead of each turn of the first clause
  generalize eV : (fun (k : Nat) (s' : Shared) => ∃ (i : Nat) (H' : Hp), k = n - i ∧ i ≤ n ∧ Inv (X.blk s3 H2 scope ce fp) [] (wipe σ (own.map (·.2))) H' s' ∧ tn i s'.heap ∧ (∀ b ∈ fp, H' b = none) ∧ Off D H1 H' ∧ H' D = some (SetS X.prog X.w D (flatT tx i))) = V
  have OUT : codeAny (model X.prog X.w) X.A (.compLoop (setOf2 elt tg iter tg1 iter1 [] [] scope pos) 0 (.ref it) (.ref D) ce) (compPost (model X.prog X.w) X.A X.xe none (EP X pins σ Q) (.ref D) s3.heap.objs.size) s4 := by
    refine codeAny_loop rfl V (fun k s5 at5 => ?_) n (by rw [← eV]; exact ⟨0, H2, rfl, Nat.zero_le _, I4, st4, nfp, Off.same same12, D2⟩)
    have at5' := at5
    rw [← eV] at at5'
    obtain ⟨i, H5, rfl, le, I5, st5, n5, sm5, d5⟩ := at5'
    show wpAny _ X.A ((compTurn (setOf2 elt tg iter tg1 iter1 [] [] scope pos) 0 (.ref it) (.ref D) ce).onRaise (fun x => do noteFrame x ce; theTreesLotGoes x)) _ _ s5
    refine wpAny_noted ?_
    rw [turn_out]
    refine wpAny_bind (wpAny_standAt (wpAny_bind ?_))
    by_cases lt : i < n
    · refine thnF (T.item (X.blk s3 H2 scope ce fp) rfl rfl rfl calm i [] s5 _ H5 (fun _ _ => False) I5 (stay I5 n5) st5 (wk.goes i H5 lt (hG _ sm5))) fun r s6 got => ?_
      obtain ⟨u, rfl, q6⟩ := got
      refine wpAny_bind (thnF q6 fun _ s7 stored => ?_)
      obtain ⟨x, H7, I7, r7, y7, st7, n7⟩ := stored
      have I7p := I7.pinned (stay I7 n7) (T.obj _ _ st7)
      refine wpAny_bind (thnF (G0.run _ s7 _ H7 x u _ I7p r7 (body i x H5 H7 lt sm5 (wk.yields i H5 x H7 lt (hG _ sm5) y7))) fun _ s8 named => ?_)
      obtain ⟨σ8, H8, I8, hw8, q8⟩ := named
      refine wpAny_bind (wpAny_tests_nil ?_)
      simp only [if_true]
      refine wpAny_bind (thnF (W1.run _ s8 σ8 H8 _ I8 q8) fun src s9 hx => ?_)
      refine wpAny_bind (wpAny_standAt (wpAny_bind (wpAny_of_eq (fold1 ce src) (wpAny_bind (wpAny_holding (thnF hx fun itv s10 came1 => ?_))))))
      obtain ⟨it1, fp1, tn1, J1, H10, rfl, I10, T1, st10, far10, sm10, dd10, G1, Y1, wk1, hG1, body1⟩ := came1
      have stay1 : ∀ {H' : Hp}, (∀ b ∈ fp1, H' b = none) → ∀ b ∈ fp1, FpOk (X.blk s3 H2 scope ce fp) ([] ++ pinsAt fp s7.heap) H' b := fun hn b hb => ⟨hn b hb, (far10 b hb).2⟩
      have d10 : H10 D = some (SetS X.prog X.w D (flatT tx i)) := dd10.trans d5
      have long8 : (wipe σ (own.map (·.2))).length = (wipe σ8 vs1).length := by rw [← hw8, wipe_length, wipe_length]
      have kept8 : ∀ (j : Nat) v, (wipe σ (own.map (·.2)))[j]? = some (some v) → (wipe σ8 vs1)[j]? = some (some v) := fun j v e => by
        rw [← hw8] at e
        obtain ⟨e1, e2⟩ := wipe_some e
        rw [wipe_out fun z => e2 (sub1 j z)]
        exact e1
      generalize eV1 : (fun (k : Nat) (s' : Shared) => ∃ (j : Nat) (H' : Hp), k = (tx i).length - j ∧ j ≤ (tx i).length ∧ Inv (X.blk s3 H2 scope ce fp) ([] ++ pinsAt fp s7.heap) (wipe σ8 vs1) H' s' ∧ tn1 j s'.heap ∧ (∀ b ∈ fp1, H' b = none) ∧
        Off D H10 H' ∧ H' D = some (SetS X.prog X.w D (flatT tx i ++ (tx i).take j))) = V1
      have IN : codeAny (model X.prog X.w) X.A (.compLoop (setOf2 elt tg iter tg1 iter1 [] [] scope pos) 1 (.ref it1) (.ref D) ce) (fun r s' => match r with
          | .ok _ => ∃ m, m < n - i ∧ V m s'
          | .error _ => False) s10 := by
        refine codeAny_loop rfl V1 (fun k s11 at11 => ?_) (tx i).length (by
          rw [← eV1]
          exact ⟨0, H10, rfl, Nat.zero_le _, I10.weak (wipe_length _ _) (fun j v e => (wipe_some e).1), st10, fun b hb => (far10 b hb).1, Off.refl D H10, by rw [List.take_zero, List.append_nil]; exact d10⟩)
        have at11' := at11
        rw [← eV1] at at11'
        obtain ⟨j, H11, rfl, lej, I11, st11, n11, sm11, d11⟩ := at11'
        show wpAny _ X.A ((compTurn (setOf2 elt tg iter tg1 iter1 [] [] scope pos) 1 (.ref it1) (.ref D) ce).onRaise (fun x => do noteFrame x ce; theTreesLotGoes x)) _ _ s11
        refine wpAny_noted ?_
        rw [turn_in]
        refine wpAny_bind (wpAny_standAt (wpAny_bind ?_))
        by_cases ltj : j < (tx i).length
        · refine thnF (T1.item (X.blk s3 H2 scope ce fp) rfl rfl rfl calm j _ s11 (wipe σ8 vs1) H11 (fun _ _ => False) I11 (stay1 n11) st11 (wk1.goes j H11 ltj (hG1 _ sm11))) fun r s12 got => ?_
          obtain ⟨u1, rfl, q12⟩ := got
          refine wpAny_bind (thnF q12 fun _ s13 stored => ?_)
          obtain ⟨x1, H13, I13, r13, y13, st13, n13⟩ := stored
          have I13p := I13.pinned (stay1 n13) (T1.obj _ _ st13)
          refine wpAny_bind (thnF (G1'.run _ s13 (wipe σ8 vs1) H13 x1 u1 _ I13p r13 (body1 j x1 H11 H13 ltj sm11 (wk1.yields j H11 x1 H13 ltj (hG1 _ sm11) y13))) fun _ s14 named => ?_)
          obtain ⟨σ14, H14, I14, hw14, q14⟩ := named
          refine wpAny_bind (wpAny_tests_nil ?_)
          simp only [if_true]
          refine wpAny_bind (wpAny_bind (thnF (E0'.run _ s14 σ14 H14 _ I14 q14) fun val s15 told => ?_))
          obtain ⟨yv, H15, I15, r15, sm15, dd15, z, rfl, hz⟩ := told
          have d15 : H15 D = some (SetS X.prog X.w D (flatT tx i ++ (tx i).take j)) := dd15.trans d11
          have few : (flatT tx i ++ (tx i).take j).length + 1 < scanBound := by
            have h1 : (flatT tx (i + 1)).length ≤ (flatT tx n).length := flatT_le lt
            rw [flatT, List.length_append] at h1
            rw [List.length_append, List.length_take]; omega
          refine wpAny_bind (wpAny_standAt (wpAny_bind ?_))
          refine addText (X := X.blk s3 H2 scope ce fp) I15 d15 few r15 fun s16 I16 => ?_
          refine wpAny_pure (wpAny_pure ⟨rfl, (tx i).length - (j + 1), by omega, ?_⟩)
          rw [← eV1]
          have pin' : ∀ b ∈ fp1, ∀ o, s13.heap.get? b = some o → s16.heap.get? b = some o ∧ (upd H15 D (SetS X.prog X.w D (flatT tx i ++ (tx i).take j ++ [z]))) b = none := fun b hb o e =>
            let q := I16.pin (b, o) (List.mem_append_right _ (List.mem_append_right _ (mem_pinsAt hb e)))
            ⟨q.1, q.2.1⟩
          refine ⟨j + 1, _, rfl, ltj, I16.unpinned.weak (by rw [← hw14, wipe_length]) (fun j v e => by rw [← hw14] at e; exact (wipe_some e).1), T1.keep _ _ _ st13 fun b hb o e => (pin' b hb o e).1, fun b hb => ?_, (sm11.trans sm15).put, ?_⟩
          · obtain ⟨o, e, _⟩ := T1.obj _ _ st13 b hb
            exact (pin' b hb o e).2
          · rw [upd_same, List.append_assoc, List.take_add_one, hz]; rfl
        · obtain rfl : j = (tx i).length := by omega
          refine thnF (T1.done (X.blk s3 H2 scope ce fp) rfl rfl rfl calm _ _ s11 (wipe σ8 vs1) H11 (fun _ _ => False) I11 (stay1 n11) st11 (wk1.stops H11 (hG1 _ sm11))) fun r s12 got => ?_
          obtain ⟨rfl, I12⟩ := got
          refine wpAny_pure ⟨n - (i + 1), by omega, ?_⟩
          rw [← eV]
          have pin' : ∀ b ∈ fp, ∀ o, s7.heap.get? b = some o → s12.heap.get? b = some o ∧ H11 b = none := fun b hb o e =>
            let q := I12.pin (b, o) (List.mem_append_right _ (List.mem_append_right _ (mem_pinsAt hb e)))
            ⟨q.1, q.2.1⟩
          refine ⟨i + 1, H11, rfl, lt, (I12.unpinned (pins := [])).weak long8 kept8, T.keep _ _ _ st7 fun b hb o e => (pin' b hb o e).1, fun b hb => ?_, (sm5.trans sm10).trans sm11, ?_⟩
          · obtain ⟨o, e, _⟩ := T.obj _ _ st7 b hb
            exact (pin' b hb o e).2
          · rw [d11, List.take_length]; rfl
      refine wpAny_bind (wpAny_runOwn ?_)
      rw [Around.mark_none]
      refine codeAny_mono (start_in IN (T1.self X.A 0 _ _ _ st10 IN)) fun r s' hr => ?_
      cases r with
      | ok f => first | exact wpAny_pure ⟨rfl, hr⟩ | exact wpAny_bind (wpAny_pure (wpAny_pure ⟨rfl, hr⟩))
      | error e => exact hr.elim
    · obtain rfl : i = n := by omega
      refine thnF (T.done (X.blk s3 H2 scope ce fp) rfl rfl rfl calm i [] s5 _ H5 (fun _ _ => False) I5 (stay I5 n5) st5 (wk.stops H5 (hG _ sm5))) fun r s6 got => ?_
      obtain ⟨rfl, I6⟩ := got
      have back : Inv X pins σ H5 s6 := I3.call' (ch := fp) I6.os I6.base I6.hok I6.bare fun b hb => ⟨(far3 b hb).1.2.2.2.1, (far3 b hb).1.2.1, (far3 b hb).1.2.2.2.2.1, (far3 b hb).1.2.2.2.2.2⟩
      have nC : H5 s3.heap.objs.size = none := by
        have z : H5 ce.locals = none := I6.free
        rwa [home] at z
      obtain ⟨m, hn, _⟩ := I6.loc
      have hn : s6.heap.Ns ce.locals m := hn
      rw [home] at hn
      obtain ⟨f0, f1, f2, f3, f4, f5⟩ := I3.fpOk (Nat.le_refl _) nC
      refine wpAny_pure ⟨m, hn, fun h'' sb => ?_⟩
      exact ⟨.ref D, H5, back.turned (t' := s6.toks) (fun b o hb e => (sb.2 b hb).trans e) f0 f1 f3 f4 f5, rfl, fin H5 (sm5.full nD) d5⟩
  exact PpSet.codeAny_compStart_set OUT (T.self X.A 0 _ _ _ st4 OUT)
/-- {elt for tg in iter for tg1 in iter1} as a value -/
theorem pe_texts2 {elt tg iter tg1 iter1 : Expr} {scope : Scope} {own : List (Str × Nat)} {vs1 : List Nat} {pos : Pos} {wi wi1 : TI} {g g1 : TG} {te : TE} (calm : X.calm = true) (nod : X.N.Nodup) (hi : PI X tg iter wi) (ok : BlkOk X.N X.env.scope scope own) (sub1 : ∀ i ∈ vs1, i ∈ own.map (·.2))
    (hg : ∀ s0 H0 C cl fp, PG (X.blk s0 H0 scope (compEnvC scope cl C X.env) fp) tg g) (hi1 : ∀ s0 H0 C cl fp, PI (X.blk s0 H0 scope (compEnvC scope cl C X.env) fp) tg1 iter1 wi1) (hg1 : ∀ s0 H0 C cl fp, PG (X.blk s0 H0 scope (compEnvC scope cl C X.env) fp) tg1 g1)
    (he : ∀ s0 H0 C cl fp, PE (X.blk s0 H0 scope (compEnvC scope cl C X.env) fp) elt te) (fold : ∀ x, foldedSetIterable iter X.env x = pure x := by intro _; rfl) (fold1 : ∀ env x, foldedSetIterable iter1 env x = pure x := by intro _ _; rfl) :
    PE X (.SetComp elt [⟨tg, iter, [], 0⟩, ⟨tg1, iter1, [], 0⟩] scope pos) (tTexts2 X.prog X.w wi g wi1 g1 te (own.map (·.2)) vs1) := by
  refine ⟨fun pins s σ H Q I h => ?_⟩
  rw [PpSet.eval_SetComp]
  exact sc2_texts calm nod I hi ok sub1 hg hi1 hg1 he fold fold1 h
end
end K1

/-! ## C3 -/
set_option Elab.async false
set_option linter.all false
set_option maxRecDepth 100000
set_option maxHeartbeats 4000000
namespace K1
open PySem PySem.Spec PyProof.Rows L2
section
variable {X : Cx} {tg : Expr}
/-- a list or a tuple that stands in H is walked -/
def iIts (te : TE) : TI := fun σ H R => te σ H fun x H1 => ∃ a xs, x = .ref a ∧ (H1 a = some (.lst xs) ∨ H1 a = some (.tup xs)) ∧ ∀ (J : It) (G : Hp → Prop), Walk J xs.length G (YAt xs) → (∀ H', H' a = H1 a → G H') → R J H1
theorem pi_its {e : Expr} {te : TE} (he : PE X e te) : PI X tg e (iIts te) := by
  refine ⟨fun pins s σ H R I h => thn (he.run pins s σ H _ I h) fun v s1 got => ?_⟩
  obtain ⟨x, H1, I1, r1, a, xs, rfl, way, q⟩ := got
  cases r1
  have far : ∀ b ∈ [s1.heap.objs.size], FpOk X pins H1 b := fun b hb => by
    obtain rfl : b = s1.heap.objs.size := by simpa using hb
    exact I1.fpOk (Nat.le_refl _) (I1.hok.fresh (Nat.le_refl _))
  rcases way with hq | hq
  · obtain ⟨its, rv, p, hz⟩ := I1.list (SqL.of hq)
    exact wpAny_pyIter_list p.isList ⟨s1.heap.objs.size, [s1.heap.objs.size], _, _, H1, rfl, I1.kept (t' := s1.toks) fun b o e => Heap.get?_push_of_some _ e, turn_list a _, ⟨_, Heap.get?_push_size _ rfl, rfl, rfl⟩, far, q _ _ walk_list fun H' e => SqL.of (e.trans hq)⟩
  · obtain ⟨its, rv, p, hz⟩ := I1.tuple (SqT.of hq)
    exact wpAny_pyIter_tuple (show s1.heap.IsTuple a its.toArray from p) ⟨s1.heap.objs.size, [s1.heap.objs.size], _, _, H1, rfl, I1.kept (t' := s1.toks) fun b o e => Heap.get?_push_of_some _ e, turn_tuple a _, ⟨_, Heap.get?_push_size _ rfl, rfl, rfl⟩, far, q _ _ walk_tup fun H' e => SqT.of (e.trans hq)⟩
/-- len of a set of texts: n, as many as there are different ones -/
theorem call_lenSS : CallR X (.builtin "len") (fun xs H Q => ∃ (a : Addr) (zs : List Str), xs = [.ref a] ∧ H a = some (SetS X.prog X.w a zs) ∧ zs.length < 4096 ∧ ∀ l : List Str, l.Nodup → (∀ z, z ∈ l ↔ z ∈ zs) → Q (.int l.length) H) := by
  intro pins s σ H xs us Q I r h
  obtain ⟨a, zs, rfl, ha, few, q⟩ := h
  obtain ⟨l, T, mem, short⟩ := (I.hok a _ ha).1
  obtain ⟨⟨es, ep, t⟩, g, F, nd, _, _⟩ := T
  rw [Vals.ref1 r]
  have sz : es.size = l.length := F.sz
  exact call_len_set g (show (PySem.Froz.sObj "set" (es, ep, t)).ExactSet from ⟨rfl, rfl, rfl⟩) rfl F.fit (by show ((es.size : Nat) : Int) < 2 ^ 63; omega) ⟨.int l.length, H, I.tok _, ⟨s.toks + 1, by rw [sz]⟩, q l nd mem⟩
end
end K1

/-! ## B2_9 -/
set_option Elab.async false
set_option linter.all false
set_option maxRecDepth 100000
set_option maxHeartbeats 8000000
namespace B2_
open PySem PySem.Spec PyProof.Rows L2
/-! ### lines, checked -/
structure LnsOk (ls : List Ln) : Prop where
  good : ∀ l ∈ ls, l.Ok
  nd : (ls.map (·.t)).Nodup
  one : 1 ≤ ls.length
  six : ls.length ≤ 6
  cols : ∃ C : List Str, C.length ≤ 6 ∧ ∀ l ∈ ls, ∀ z ∈ l.cs, z ∈ C
def ordL (ls : List Ln) : List Ln := (ls.map Ln.srt).mergeSort fun a b => leT a.t b.t
theorem ordL_perm (ls : List Ln) : (ordL ls).Perm (ls.map Ln.srt) := List.mergeSort_perm _ _
theorem ordL_pair (ls : List Ln) : (ordL ls).Pairwise fun a b => leT a.t b.t = true := List.pairwise_mergeSort (fun a b c => leT_trans a.t b.t c.t) (fun a b => leT_total a.t b.t) _
theorem nodup_t {ls : List Ln} (n : (ls.map (·.t)).Nodup) {a b : Ln} (ha : a ∈ ls) (hb : b ∈ ls) (e : a.t = b.t) : a = b := by
  induction ls with
  | nil => cases ha
  | cons l r ih =>
    rw [List.map_cons, List.nodup_cons] at n
    have out : ∀ x ∈ r, x.t ≠ l.t := fun x hx q => n.1 (List.mem_map.mpr ⟨x, hx, q⟩)
    rcases List.mem_cons.mp ha with ea | ha2
    · rcases List.mem_cons.mp hb with eb | hb2
      · rw [ea, eb]
      · exact absurd (by rw [← e, ea]) (out b hb2)
    · rcases List.mem_cons.mp hb with eb | hb2
      · exact absurd (by rw [e, eb]) (out a ha2)
      · exact ih n.2 ha2 hb2
theorem srt_t (ls : List Ln) : (ls.map Ln.srt).map (·.t) = ls.map (·.t) := by rw [List.map_map]; rfl
theorem ordL_of {ls Ls : List Ln} (n : (ls.map (·.t)).Nodup) (p : Ls.Perm (ls.map Ln.srt)) (s : Ls.Pairwise fun a b => leT a.t b.t = true) : Ls = ordL ls := by
  refine List.Perm.eq_of_pairwise (le := fun a b => leT a.t b.t = true) (fun a b ha hb h1 h2 => ?_) s (ordL_pair ls) (p.trans (ordL_perm ls).symm)
  exact nodup_t (ls := ls.map Ln.srt) (by rw [srt_t]; exact n) (p.mem_iff.mp ha) ((ordL_perm ls).mem_iff.mp hb) (leT_anti h1 h2)
theorem ordL_congr {ls ms : List Ln} (n : (ls.map (·.t)).Nodup) (p : (ls.map Ln.srt).Perm (ms.map Ln.srt)) : ordL ls = ordL ms := by
  have n2 : (ms.map (·.t)).Nodup := by
    rw [← srt_t, ← (p.map (·.t)).nodup_iff, srt_t]; exact n
  exact ordL_of n2 ((ordL_perm ls).trans p) (ordL_pair ls)
theorem ordL_ts (ls : List Ln) : (ordL ls).map (·.t) = srtd (ls.map (·.t)) := by
  refine List.Perm.eq_of_pairwise (le := fun a b => leT a b = true) (fun a b _ _ h1 h2 => leT_anti h1 h2) (List.pairwise_map.mpr (ordL_pair ls)) (srtd_pair _) ?_
  refine ((ordL_perm ls).map (·.t)).trans ?_
  rw [srt_t]
  exact (srtd_perm _).symm
/-- what stands in by_table behind some of the lines -/
def Tabled (H : Hp) (kv : Key × V) (l : Ln) : Prop := kv.1 = Sum.inr l.t ∧ LnAt H kv.2 l.srt
theorem LnAt.off {d : Addr} {H H' : Hp} {v : V} {l : Ln} (h : LnAt H v l) (s : K1.Off d H H') (hd : ∀ xs, H d ≠ some (.tup xs)) : LnAt H' v l := by
  obtain ⟨p, c, kv, e, h1, h2, h3⟩ := h
  have ne : ∀ {a : Addr} {xs : List V}, H a = some (.tup xs) → a ≠ d := fun q z => hd _ (z ▸ q)
  refine ⟨p, c, kv, e, s _ _ (ne h1) h1, s _ _ (ne h2) h2, ?_⟩
  cases ek : l.k with
  | chg => rw [ek] at h3; exact h3
  | fix => rw [ek] at h3; exact h3
  | key ks =>
    rw [ek] at h3
    obtain ⟨q, e1, e2⟩ := h3
    exact ⟨q, e1, s _ _ (ne e2) e2⟩
theorem LnAt.off' {d : Addr} {H H' : Hp} {v : V} {l : Ln} (h : LnAt H v l) (s : K1.Off d H H') (hd : ∀ xs, H d ≠ some (.tup xs)) : LnAt H' v l := h.off s hd
theorem tabled_keys {H : Hp} : ∀ {kvs : List (Key × V)} {ls : List Ln}, Paired (Tabled H) kvs ls → kvs.map (·.1) = (ls.map (·.t)).map Sum.inr
  | _, _, .nil => rfl
  | _, _, .cons h t => by rw [List.map_cons, List.map_cons, List.map_cons, h.1, tabled_keys t]
theorem tabled_val {H : Hp} : ∀ {kvs : List (Key × V)} {ls : List Ln}, Paired (Tabled H) kvs ls → ∀ {z : Str}, z ∈ ls.map (·.t) → ∃ v l, valV kvs (Sum.inr z) = some v ∧ l ∈ ls ∧ l.t = z ∧ LnAt H v l.srt
  | _, _, .nil, z, h => by cases h
  | _, _, .cons (a := kv) (b := l) (l₁ := kvs) (l₂ := ls) h t, z, m => by
    by_cases e : l.t = z
    · refine ⟨kv.2, l, valV_pos (by rw [h.1, e]), List.mem_cons_self, e, h.2⟩
    · rw [List.map_cons, List.mem_cons] at m
      obtain ⟨v, l2, e1, e2, e3, e4⟩ := tabled_val t (m.resolve_left fun q => e q.symm)
      exact ⟨v, l2, by rw [valV_neg (by rw [h.1]; intro q; exact e (Sum.inr.inj q)), e1], List.mem_cons_of_mem _ e2, e3, e4⟩
theorem tabled_none {H : Hp} {kvs : List (Key × V)} {ls : List Ln} (h : Paired (Tabled H) kvs ls) {z : Str} (n : z ∉ ls.map (·.t)) : valV kvs (Sum.inr z) = none := by
  cases e : valV kvs (Sum.inr z) with
  | none => rfl
  | some v =>
    have m := valV_in e
    rw [tabled_keys h] at m
    obtain ⟨y, hy, q⟩ := List.mem_map.mp m
    exact absurd (Sum.inr.inj q ▸ hy) n
theorem vals_ord {H : Hp} {kvs : List (Key × V)} {ls : List Ln} (tb : Paired (Tabled H) kvs ls) (n : (ls.map (·.t)).Nodup) : ∀ {Ms : List Ln}, (∀ m ∈ Ms, ∃ l ∈ ls, m = l.srt) → Paired (LnAt H) ((Ms.map (·.t)).map fun z => (valV kvs (Sum.inr z)).getD .non) Ms
  | [], _ => .nil
  | m :: r, h => by
    obtain ⟨l, hl, rfl⟩ := h m List.mem_cons_self
    obtain ⟨v, l2, e1, e2, e3, e4⟩ := tabled_val tb (z := l.srt.t) (List.mem_map.mpr ⟨l, hl, rfl⟩)
    obtain rfl := nodup_t n e2 hl e3
    rw [List.map_cons, List.map_cons]
    refine .cons ?_ (vals_ord tb n fun y hy => h y (List.mem_cons_of_mem _ hy))
    rw [e1]
    exact e4
theorem vals_all {H : Hp} {kvs : List (Key × V)} {ls : List Ln} (tb : Paired (Tabled H) kvs ls) (n : (ls.map (·.t)).Nodup) : Paired (LnAt H) ((srtd (ls.map (·.t))).map fun z => (valV kvs (Sum.inr z)).getD .non) (ordL ls) := by
  rw [← ordL_ts]
  refine vals_ord tb n fun m hm => ?_
  obtain ⟨l, hl, e⟩ := List.mem_map.mp ((ordL_perm ls).mem_iff.mp hm)
  exact ⟨l, hl, e.symm⟩
abbrev s_chk : Stmt := topS 20
abbrev N_chk : List Str := ["lines", "by_table", "line", "checked", "column", "table"]
theorem sc_chk : FnScope N_chk ["lines"] (defScope s_chk) := ⟨rfl, rfl, rfl, by decide +kernel, rfl, by decide +kernel, by decide +kernel⟩
def LinesAt (H : Hp) (a : Addr) (ls : List Ln) : Prop := ∃ xs, Its H a xs ∧ Paired (LnAt H) xs ls
def spChk : Sp := fun vs H Q _ => ∃ (a : Addr) (ls : List Ln), vs = [.ref a] ∧ LinesAt H a ls ∧ LnsOk ls ∧ ∀ p rs H', Same H H' → H p = none → H' p = some (.tup rs) → Paired (LnAt H') rs (ordL ls) → Q (.ref p) H'
section
variable {P : Program} {w : World} {K : PySem.W.Frag} {mg : Str → Option Value} {base : Heap}
theorem ok_chk {f : Addr} {fd : FuncData} (F : Fun K "_checked" "_checked" s_chk f fd) (T : NamesS mg) (C5 : Callee P w K mg base CX0 5 "_checked_line" ["line"] spCL) : FnOk P w K mg base CX0 6 f fd ["lines"] spChk := by
  have nd := sc_chk.nd
  refine F.ok sc_chk (fun vs H Q E h => ?_) (fun cdv A outer s H vs Q E hr h => ?_)
  · obtain ⟨a, ls, rfl, _⟩ := h
    rfl
  · obtain ⟨a, ls, rfl, ⟨xs, hxs, hp⟩, ok, k⟩ := h
    have hu := hu_of hr
    obtain ⟨tt, hmtab⟩ := T.mtab
    obtain ⟨tc, hmcol⟩ := T.mcol
    refine ⟨_, (pss_cons
    (ps_set (i := 1) nd rfl (Or.inr rfl) pe_dnewK)
    (pss_cons
    (ps_for PassesOwn.never rfl (K1.pi_its (pv 0)) (pg_name (i := 2) nd rfl (Or.inl rfl)) (pss_cons
      (ps_set (i := 3) nd rfl (Or.inl rfl) (pe_use C5 hr rfl pass0 (pa_cons (pv 2) pa_nil)))
      (pss_cons
      (ps_if (pt_cmp (pc_din hu (pe_ix ix_tup (pv 3) pe_int (fun _ _ => rfl)) (pv 1))) (pss_one ps_never) pss_nil)
      (pss_one
      (ps_dput hu (pv 1) (pe_ix ix_tup (pv 3) pe_int (fun _ _ => rfl)) (pv 3) rfl)))))
    (pss_cons
    (ps_if (pt_not (pt_chain op_le op_le pe_int (pe_callB call_lenD (by rfl) T.len (by decide +kernel) (pa_cons (pv 1) pa_nil)) (pe_glob (v := .int 6) rfl hmtab ⟨_, rfl⟩))) (pss_one ps_never) pss_nil)
    (pss_cons
    (ps_if (pt_cmpR op_gt (pe_callB K1.call_lenSS (by rfl) T.len (by decide +kernel) (pa_cons (pe_lock (K1.pe_texts2 (own := [("column", 4), ("line", 2)]) (vs1 := [4]) (te := tVar 4) (g := gName 2) (g1 := gName 4) (wi1 := iTup K (tOp (rIxT K) (tVar 2) (tC (.int 1)))) rfl nd (pi_values (pv 1)) (blkOk_by (N := N_chk) (sc := defScope s_chk) (by decide +kernel)) (by decide) (fun _ _ _ _ _ => pg_name (i := 2) nd rfl (Or.inl rfl)) (fun _ _ _ _ _ => pi_tup (pe_ix ix_tup (pv 2) pe_int (fun _ _ => rfl))) (fun _ _ _ _ _ => pg_name (i := 4) nd rfl (Or.inl rfl)) (fun _ _ _ _ _ => pv 4))) pa_nil)) (pe_glob (v := .int 6) rfl hmcol ⟨_, rfl⟩) (nomark _)) (pss_one ps_never) pss_nil)
    (pss_one
    (ps_ret (pe_callTy call_tuple_of (by rfl) T.tuple (by decide +kernel) (pa_cons (pe_lc (own := [("table", 5)]) (g := (gName 5)) rfl nd (pi_list (pe_callB (call_sortedD rfl) (by rfl) T.sorted (by decide +kernel) (pa_cons (pv 1) pa_nil))) (blkOk_by (N := N_chk) (sc := defScope s_chk) (by decide +kernel)) (fun _ _ _ _ _ => (pg_name (i := 5) nd rfl (Or.inl rfl))) (fun _ _ _ _ _ => pts_nil) (fun _ _ _ _ _ => (pe_dget hu (pv 1) (pv 5) (fun _ _ => rfl)))) pa_nil)))))))), ?_⟩
    refine fun d hd => ?_
    have nad : a ≠ d := hxs.ne_none hd
    have len : xs.length = ls.length := hp.length
    refine ⟨_, rfl, a, xs, rfl, (hxs.new hd), fun J G wk hG => ?_⟩
    refine for_it wk (fun i σ H' => ∃ (v2 v3 : Option V) (kvs : List (Key × V)), σ = [some (.ref a), some (.ref d), v2, v3, none, none] ∧ K1.Off d H H' ∧ H' d = some (.dK kvs) ∧ Paired (Tabled H') kvs (ls.take i)) ⟨none, none, [], rfl, (K1.Off.refl d H).put, upd_same, .nil⟩ (fun i σ H1 _ p => ?_) (fun i x σ HA H1 hi p y => ?_) (fun σ H1 p => ?_)
    · obtain ⟨v2, v3, kvs, _, off, _, _⟩ := p
      refine hG H1 ?_
      rw [upd_ne nad]
      rcases hxs with q | q
      · rw [off _ _ nad q, q]
      · rw [off _ _ nad q, q]
    · obtain ⟨v2, v3, kvs, rfl, off, hkv, pr⟩ := p
      obtain ⟨rfl, hx⟩ := y
      obtain ⟨l, hl, la⟩ := paired_get hp hx
      have ml : l ∈ ls := List.mem_of_getElem? hl
      have nd1 : ∀ ys, H1 d ≠ some (.tup ys) := fun ys q => by rw [hkv] at q; cases q
      have la1 : LnAt H1 x l := la.off' off fun ys q => by rw [hd] at q; cases q
      refine ⟨_, rfl, x, l, rfl, la1, ok.good l ml, fun r H2 s2 lr => ?_⟩
      obtain ⟨p, c, kv, rfl, e1, e2, e3⟩ := id lr
      have hkv2 := s2 _ _ hkv
      have nt : valV kvs (Sum.inr l.t) = none := by
        refine tabled_none pr fun m => ?_
        obtain ⟨l2, m2, et⟩ := List.mem_map.mp m
        have n := ok.nd
        rw [← List.take_append_drop i ls, List.map_append, List.nodup_append] at n
        refine n.2.2 _ (List.mem_map.mpr ⟨l2, m2, rfl⟩) _ (List.mem_map.mpr ⟨l, ?_, rfl⟩) et
        rw [List.drop_eq_getElem_cons (by rw [← len]; exact hi)]
        rw [List.getElem?_eq_getElem (by rw [← len]; exact hi)] at hl
        rw [Option.some.inj hl]
        exact List.mem_cons_self
      refine ⟨_, rfl, p, _, _, _, rfl, rfl, SqT.of e1, at_of (j := 0) rfl rfl, _, rfl, d, _, rfl, DGet.k (k := Sum.inr l.t) hkv2, ?_⟩
      rw [nt]
      refine ⟨_, rfl, iteF ?_⟩
      have short : kvs.length ≤ 6 := by
        have h1 := pr.length
        rw [List.length_take] at h1
        have := ok.six
        omega
      refine ⟨_, rfl, _, rfl, _, rfl, p, _, _, _, rfl, rfl, SqT.of e1, at_of (j := 0) rfl rfl, d, _, rfl, DPut.k (k := Sum.inr l.t) hkv2 (Nat.lt_of_le_of_lt short (by decide)), ?_⟩
      rw [putK_new _ nt]
      refine ⟨_, _, _, rfl, (off.trans (K1.Off.same s2)).put, upd_same, ?_⟩
      have nd2 : ∀ ys, H2 d ≠ some (.tup ys) := fun ys z => by rw [hkv2] at z; cases z
      have put : ∀ (kv : Key × V) (l : Ln), Tabled H1 kv l → Tabled (upd H2 d (.dK (kvs ++ [(Sum.inr l.t, .ref p)]))) kv l := fun kv l q => ⟨q.1, (q.2.same s2).off (K1.Off.refl d H2).put nd2⟩
      rw [take_snoc hl]
      refine Paired.snoc (Paired.mapP pr fun kv l q => ⟨q.1, (q.2.same s2).off (K1.Off.refl d H2).put nd2⟩) ⟨rfl, lr.off (K1.Off.refl d H2).put nd2⟩
    · obtain ⟨v2, v3, kvs, rfl, off, hkv, pr⟩ := p
      rw [len, List.take_length] at pr
      have kl : kvs.length = ls.length := pr.length
      have one := ok.one
      have six := ok.six
      clear hp hxs nad
      refine ⟨_, rfl, d, _, rfl, hkv, _, _, rfl, rfl, _, rfl, ?_⟩
      rw [decide_eq_true (by omega : (1 : Int) ≤ ((kvs.length : Nat) : Int))]
      refine iteT ⟨_, _, rfl, rfl, _, rfl, ?_⟩
      rw [decide_eq_true (by omega : ((kvs.length : Nat) : Int) ≤ 6)]
      refine iteF ?_
      have atKv : ∀ {i : Nat} {kv : Key × V}, kvs[i]? = some kv → ∃ l, ls[i]? = some l ∧ Tabled H1 kv l := fun e => paired_get pr e
      refine ⟨d, .dK kvs, hkv, trivial, fun od => ⟨_, rfl, d, od, kvs, rfl, upd_same, ?_⟩⟩
      obtain ⟨C, few, inC⟩ := ok.cols
      have bound : ∀ (ms : List Ln), (∀ l ∈ ms, l ∈ ls) → (ms.flatMap fun l => srtd l.cs).length ≤ 4 * ms.length := fun ms => by
        induction ms with
        | nil => intro _; simp
        | cons m r ih =>
          intro hm
          have h1 := ih fun l hl => hm l (List.mem_cons_of_mem _ hl)
          have h2 := (ok.good m (hm m List.mem_cons_self)).few
          rw [List.flatMap_cons, List.length_append, srtd_len, List.length_cons]
          omega
      have flat : ∀ n, n ≤ ls.length → K1.flatT (fun i => match ls[i]? with | some l => srtd l.cs | none => []) n = (ls.take n).flatMap fun l => srtd l.cs := fun n => by
        induction n with
        | zero => intro _; rfl
        | succ n ih =>
          intro hn
          have e : ls[n]? = some ls[n] := List.getElem?_eq_getElem (by omega)
          rw [K1.flatT, ih (by omega), take_snoc e, List.flatMap_append, e]
          simp
      refine ⟨kvs.length, _, _, fun i => match ls[i]? with | some l => srtd l.cs | none => [], walk_values, ?_, fun D nD => ⟨fun H' off' => ?_, fun i x H2 H3 hi off' y => ?_, fun H' same hS => ?_⟩⟩
      · rw [kl, flat _ (Nat.le_refl _), List.take_length]
        have := bound ls fun _ h => h
        have : (4096 : Nat) = scanBound := rfl
        omega
      · exact off' _ _ (ne_of_none upd_same nD) upd_same
      · obtain ⟨rfl, kk, hk⟩ := y
        obtain ⟨l, hl, tb⟩ := atKv hk
        simp only [hl]
        have hx : LnAt (upd H1 d (.frz od (.dK kvs))) x l.srt := tb.2.off (K1.Off.refl d H1).put fun ys z => by rw [hkv] at z; cases z
        obtain ⟨p, c, kv', rfl, f1, f2, f3⟩ := hx
        have cD : c ≠ D := ne_of_none f2 nD
        have e1 := off' _ _ (ne_of_none f1 nD) f1
        have e2 := off' _ _ cD f2
        have wk1 : Walk (Itt K c) (srtd l.cs).length (fun H => SqT K H c ((srtd l.cs).map V.str)) (YAt ((srtd l.cs).map V.str)) := by
          have w1 := walk_tup (K := K) (a := c) (xs := (srtd l.cs).map V.str)
          rwa [List.length_map] at w1
        refine ⟨rfl, _, rfl, p, _, _, _, rfl, rfl, SqT.of e1, at_of (j := 1) rfl rfl, c, rfl, ⟨_, SqT.of e2⟩, K1.Off.refl _ _, rfl, _, _, wk1, fun H' o2 => SqT.of (o2 _ _ cD e2), fun j y H6 H7 hj o2 y1 => ?_⟩
        obtain ⟨rfl, hy⟩ := y1
        rw [List.getElem?_map] at hy
        obtain ⟨z, ez, rfl⟩ := Option.map_eq_some_iff.mp hy
        exact ⟨rfl, _, rfl, K1.Off.refl _ _, rfl, z, rfl, ez⟩
      · rw [kl, flat _ (Nat.le_refl _), List.take_length] at hS
        have nDd : D ≠ d := (ne_of_none upd_same nD).symm
        have off2 : K1.Off d H1 (upd H' d (.dK kvs)) := fun b o n e => by
          rw [upd_ne n]
          exact same _ _ (by rw [upd_ne n]; exact e)
        refine ⟨same _ _ upd_same, D, _, rfl, by rw [upd_ne nDd]; exact hS, ?_, fun l nl ml => ⟨_, _, rfl, rfl, _, rfl, ?_⟩⟩
        · have := bound ls fun _ h => h
          omega
        · have lz : l.length ≤ C.length := nl.length_le_of_subset fun z hz => by
            obtain ⟨m, hm, h2⟩ := List.mem_flatMap.mp ((ml z).mp hz)
            exact inC m hm z (mem_srtd.mp h2)
          rw [decide_eq_false (by omega : ¬ (6 : Int) < ((l.length : Nat) : Int))]
          refine iteF ?_
          have hd2 : (upd H' d (.dK kvs)) d = some (.dK kvs) := upd_same
          have tb2 : Paired (Tabled (upd H' d (.dK kvs))) kvs ls := Paired.mapP pr fun kv m q => ⟨q.1, q.2.off off2 fun ys z => by rw [hkv] at z; cases z⟩
          have off3 : K1.Off d H (upd H' d (.dK kvs)) := off.trans off2
          generalize upd H' d (.dK kvs) = H2 at hd2 tb2 off3
          clear same hS off2 pr nD nDd ml nl lz flat bound
          have keys := tabled_keys tb2
          refine ⟨_, rfl, d, kvs, ls.map (·.t), rfl, Rd.of hd2, keys, by rw [List.length_map]; omega, fun ys p pm st hp => ?_⟩
          obtain rfl := srtd_of pm st
          refine ⟨p, rfl, ⟨_, SqL.of upd_same⟩, fun D2 hD2 => ?_⟩
          have hd3 : (upd H2 p (.lst ((srtd (ls.map (·.t))).map V.str))) d = some (.dK kvs) := by rw [upd_ne (ne_of_none hd2 hp)]; exact hd2
          refine lc_acc walk_list (fun i => (((srtd (ls.map (·.t))).take i).map fun z => (valV kvs (Sum.inr z)).getD .non)) rfl hD2 (fun i hi => ?_) (fun H3 s3 => SqL.of (s3 _ _ upd_same)) (fun i x H3 H4 N hi s3 y keep skip => ?_) (fun H3 s3 hL => ?_)
          · have : (6 : Nat) < sizeLine := by decide
            rw [List.length_map, srtd_len, List.length_map] at hi
            rw [List.length_map, List.length_take]; omega
          · obtain ⟨rfl, hx⟩ := y
            rw [List.getElem?_map] at hx
            obtain ⟨z, ez, rfl⟩ := Option.map_eq_some_iff.mp hx
            obtain ⟨v, l2, e1, e2, e3, e4⟩ := tabled_val tb2 (z := z) (mem_srtd.mp (List.mem_of_getElem? ez))
            refine ⟨rfl, _, rfl, _, rfl, d, v, rfl, ?_, ?_⟩
            · have g := DGet.k (k := Sum.inr z) (s3 _ _ hd3)
              rw [e1] at g
              exact g
            · refine keep _ _ (Same.refl _) ?_
              rw [take_snoc ez, List.map_append]
              simp [e1]
          · refine ⟨D2, _, rfl, .inl ⟨SqL.of hL, fun q hq => ?_⟩⟩
            have s4 := Same.new (o := .tup ((((srtd (ls.map (·.t))).take ((srtd (ls.map (·.t))).map V.str).length).map fun z => (valV kvs (Sum.inr z)).getD .non))) ((Same.new (o := .lst ((srtd (ls.map (·.t))).map V.str)) (Same.refl H2) hp).trans s3) hq
            have tb4 := vals_all (Paired.mapP tb2 fun kv m r => (⟨r.1, r.2.same s4⟩ : Tabled _ kv m)) ok.nd
            have s5 := (off3.full hd).trans s4
            refine k q _ _ s5 ?_ upd_same ?_
            · exact (off3.full hd).free (((Same.new (Same.refl H2) hp).trans s3).free hq)
            · rw [List.length_map, List.take_length]
              rw [List.length_map, List.take_length] at tb4
              exact tb4
end
end B2_

/-! ## C4 -/
set_option Elab.async false
set_option linter.all false
set_option maxRecDepth 100000
set_option maxHeartbeats 4000000
namespace K1
open PySem PySem.Spec PyProof.Rows L2
/-! ### comprehensions whose items are new things, told by a relation -/
def pickT {β : Type} (ch : Nat → Option β) : Nat → List β
  | 0 => []
  | n + 1 => pickT ch n ++ (ch n).toList
theorem pickT_map {β : Type} (ys : List β) : ∀ n, n ≤ ys.length → pickT (fun i => ys[i]?) n = ys.take n
  | 0, _ => rfl
  | n + 1, h => by
    rw [pickT, pickT_map ys n (by omega), List.take_add_one]
theorem pickT_all {β : Type} (ys : List β) : pickT (fun i => ys[i]?) ys.length = ys := by rw [pickT_map ys _ (Nat.le_refl _), List.take_length]
theorem pickT_filter {α β : Type} (f : α → Option β) (xs : List α) : ∀ n, n ≤ xs.length → pickT (fun i => xs[i]?.bind f) n = (xs.take n).filterMap f
  | 0, _ => rfl
  | n + 1, h => by
    have e : xs[n]? = some xs[n] := List.getElem?_eq_getElem (by omega)
    rw [pickT, pickT_filter f xs n (by omega), List.take_add_one, List.filterMap_append, e]
    simp [List.filterMap_cons]
    cases f xs[n] <;> rfl
theorem pickT_filter_all {α β : Type} (f : α → Option β) (xs : List α) : pickT (fun i => xs[i]?.bind f) xs.length = xs.filterMap f := by rw [pickT_filter f xs _ (Nat.le_refl _), List.take_length]
theorem pickT_le {β : Type} (ch : Nat → Option β) : ∀ n, (pickT ch n).length ≤ n
  | 0 => Nat.le_refl _
  | n + 1 => by
    have := pickT_le ch n
    rw [pickT, List.length_append]
    cases ch n <;> simp <;> omega
theorem pickT_pre {β : Type} (ch : Nat → Option β) : ∀ {n i : Nat}, i ≤ n → ∃ more, pickT ch n = pickT ch i ++ more
  | 0, i, h => ⟨[], by rw [show i = 0 by omega, List.append_nil]⟩
  | n + 1, i, h => by
    by_cases e : i = n + 1
    · exact ⟨[], by rw [e, List.append_nil]⟩
    · obtain ⟨more, em⟩ := pickT_pre ch (n := n) (i := i) (by omega)
      exact ⟨more ++ (ch n).toList, by rw [pickT, em, List.append_assoc]⟩
theorem Paired.snocO {α β : Type} {R : α → β → Prop} {xs : List α} {ys : List β} {x : α} {o : Option β} {y : β} (h : Paired R xs ys) (e : o = some y) (r : R x y) : Paired R (xs ++ [x]) (ys ++ o.toList) := by
  rw [e]; exact h.snoc r
theorem lc_rel {β : Type} {J : It} {n : Nat} {G : Hp → Prop} {Y : Nat → Hp → V → Hp → Prop} (w : Walk J n G Y) {g : TG} {tt : TT} {te : TE} {vs : List Nat} {σ : L2.St} {H0 : Hp} {D : Addr} {Qd : Hp → Prop} (R : Hp → V → β → Prop) (ch : Nat → Option β) (hD : H0 D = none) (few : n < sizeLine)
    (stab : ∀ H H' v y, R H v y → (∃ a, H D = some (.lst a)) → Off D H H' → R H' v y) (hG : ∀ H, Same H0 H → G H)
    (hs : ∀ i x H H' (N : Hp → Prop), i < n → Same H0 H → (∃ a, H D = some (.lst a)) → Y i H x H' → (∀ H4 v y, Same H H4 → ch i = some y → R H4 v y → ∃ a, H4 D = some (.lst a) ∧ a.length < sizeLine ∧ N (upd H4 D (.lst (a ++ [v])))) → (∀ H4, Same H H4 → ch i = none → N H4) →
      g x (wipe σ vs) H' fun σ2 H2 => wipe σ2 vs = wipe σ vs ∧ tt σ2 H2 fun b H3 => if b = true then te σ2 H3 fun v H4 => ∃ a, H4 D = some (.lst a) ∧ a.length < sizeLine ∧ N (upd H4 D (.lst (a ++ [v]))) else N H3)
    (hd : ∀ H acc, Same H0 H → H D = some (.lst acc) → Paired (R H) acc (pickT ch n) → Qd H) :
    ∃ W : Nat → Nat → Hp → Prop, (∃ m, W 0 m (upd H0 D (.lst []))) ∧ ∀ i m H, W i m H →
      (J.stop i H ∧ Qd H) ∨ (J.go i H ∧ ∃ Nx : Hp → Prop, (∀ H', Nx H' → ∃ m', m' < m ∧ W (i + 1) m' H') ∧ ∀ x H', J.yld i H x H' → g x (wipe σ vs) H' fun σ2 H2 => wipe σ2 vs = wipe σ vs ∧ tt σ2 H2 fun b H3 =>
        if b = true then te σ2 H3 fun v H4 => ∃ a, H4 D = some (.lst a) ∧ a.length < sizeLine ∧ Nx (upd H4 D (.lst (a ++ [v]))) else Nx H3) := by
  refine lc_it w (fun i H => i ≤ n ∧ Same H0 H ∧ ∃ acc, H D = some (.lst acc) ∧ Paired (R H) acc (pickT ch i)) ⟨Nat.zero_le _, (Off.refl D H0).put.full hD, [], upd_same, .nil⟩ (fun i H _ p => hG H p.2.1) (fun i x H H' hi p y => ?_) (fun H p => ?_)
  · obtain ⟨_, sm, acc, hacc, pr⟩ := p
    refine hs i x H H' _ hi sm ⟨acc, hacc⟩ y (fun H4 v y' s e r => ?_) fun H4 s e => ?_
    · have h4 := s _ _ hacc
      refine ⟨acc, h4, ?_, hi, ?_, _, upd_same, ?_⟩
      · have h1 := pr.length
        have h2 := pickT_le ch i
        omega
      · exact ((Off.same (sm.trans s)).put.full hD)
      · exact Paired.snocO (Paired.mapP pr fun v y r => stab _ _ _ _ r ⟨acc, hacc⟩ ((Off.same s).put)) e (stab _ _ _ _ r ⟨acc, h4⟩ (Off.refl D H4).put)
    · refine ⟨hi, sm.trans s, acc, s _ _ hacc, ?_⟩
      rw [pickT, e]
      show Paired _ _ (pickT ch i ++ [])
      rw [List.append_nil]
      exact Paired.mapP pr fun v y r => stab _ _ _ _ r ⟨acc, hacc⟩ (Off.same s)
  · obtain ⟨_, sm, acc, hacc, pr⟩ := p
    exact hd H acc sm hacc pr
/-- a dict comprehension likewise: its keys differ -/
theorem dc_rel {β : Type} {J : It} {n : Nat} {G : Hp → Prop} {Y : Nat → Hp → V → Hp → Prop} (w : Walk J n G Y) {g : TG} {tt : TT} {tk tv : TE} {vs : List Nat} {σ : L2.St} {H0 : Hp} {D : Addr} {Qd : Hp → Prop} (R : Hp → V → β → Prop) (key : β → Key) (ch : Nat → Option β) (hD : H0 D = none) (few : n < sizeLine)
    (nod : ((pickT ch n).map key).Nodup) (stab : ∀ H H' v y, R H v y → (∃ a, H D = some (.dK a)) → Off D H H' → R H' v y) (hG : ∀ H, Same H0 H → G H)
    (hs : ∀ i x H H' (N : Hp → Prop), i < n → Same H0 H → (∃ a, H D = some (.dK a)) → Y i H x H' → (∀ H4 v y, Same H H4 → ch i = some y → R H4 v y → ∃ a k, kV (key y) = kV k ∧ H4 D = some (.dK a) ∧ a.length < sizeLine ∧ N (upd H4 D (.dK (putK a k v)))) → (∀ H4, Same H H4 → ch i = none → N H4) →
      g x (wipe σ vs) H' fun σ2 H2 => wipe σ2 vs = wipe σ vs ∧ tt σ2 H2 fun b H3 => if b = true then tk σ2 H3 fun y H4 => tv σ2 H4 fun z H5 => ∃ a k, y = kV k ∧ H5 D = some (.dK a) ∧ a.length < sizeLine ∧ N (upd H5 D (.dK (putK a k z))) else N H3)
    (hd : ∀ H kvs, Same H0 H → H D = some (.dK kvs) → Paired (fun kv y => kv.1 = key y ∧ R H kv.2 y) kvs (pickT ch n) → Qd H) :
    ∃ W : Nat → Nat → Hp → Prop, (∃ m, W 0 m (upd H0 D (.dK []))) ∧ ∀ i m H, W i m H →
      (J.stop i H ∧ Qd H) ∨ (J.go i H ∧ ∃ Nx : Hp → Prop, (∀ H', Nx H' → ∃ m', m' < m ∧ W (i + 1) m' H') ∧ ∀ x H', J.yld i H x H' → g x (wipe σ vs) H' fun σ2 H2 => wipe σ2 vs = wipe σ vs ∧ tt σ2 H2 fun b H3 =>
        if b = true then tk σ2 H3 fun y H4 => tv σ2 H4 fun z H5 => ∃ a k, y = kV k ∧ H5 D = some (.dK a) ∧ a.length < sizeLine ∧ Nx (upd H5 D (.dK (putK a k z))) else Nx H3) := by
  refine ⟨fun i m H => m = n - i ∧ i ≤ n ∧ Same H0 H ∧ ∃ kvs, H D = some (.dK kvs) ∧ Paired (fun kv y => kv.1 = key y ∧ R H kv.2 y) kvs (pickT ch i), ⟨n, by simp, Nat.zero_le _, (Off.refl D H0).put.full hD, [], upd_same, .nil⟩, ?_⟩
  rintro i m H ⟨rfl, hi, sm, kvs, hk, pr⟩
  by_cases lt : i < n
  · refine .inr ⟨w.goes i H lt (hG H sm), fun H' => i + 1 ≤ n ∧ Same H0 H' ∧ ∃ kvs, H' D = some (.dK kvs) ∧ Paired (fun kv y => kv.1 = key y ∧ R H' kv.2 y) kvs (pickT ch (i + 1)), fun H' p => ⟨n - (i + 1), by omega, rfl, p⟩, fun x H' y => ?_⟩
    refine hs i x H H' _ lt sm ⟨kvs, hk⟩ (w.yields i H x H' lt (hG H sm) y) (fun H4 v y' s e r => ?_) fun H4 s e => ?_
    · have h4 := s _ _ hk
      have pl : kvs.length = (pickT ch i).length := pr.length
      have new : valV kvs (key y') = none := by
        cases q : valV kvs (key y') with
        | none => rfl
        | some v =>
          have m := valV_in q
          have ks : kvs.map (·.1) = (pickT ch i).map key := by
            clear pl hk
            generalize pickT ch i = ys at pr
            clear q m h4
            induction pr with
            | nil => rfl
            | cons r t ih => rw [List.map_cons, List.map_cons, r.1, ih]
          rw [ks] at m
          obtain ⟨more, em⟩ := pickT_pre ch (n := n) (i := i + 1) lt
          rw [em, pickT, e] at nod
          simp only [Option.toList_some, List.map_append, List.map_cons, List.map_nil] at nod
          have := (List.nodup_append.mp (List.nodup_append.mp nod).1).2.2 _ m _ List.mem_cons_self
          exact absurd rfl this
      refine ⟨kvs, key y', rfl, h4, ?_, lt, (Off.same (sm.trans s)).put.full hD, _, upd_same, ?_⟩
      · have h2 := pickT_le ch i
        omega
      · rw [putK_new v new]
        exact Paired.snocO (Paired.mapP pr fun kv y r => ⟨r.1, stab _ _ _ _ r.2 ⟨kvs, hk⟩ ((Off.same s).put)⟩) e ⟨rfl, stab _ _ _ _ r ⟨kvs, h4⟩ (Off.refl D H4).put⟩
    · refine ⟨lt, sm.trans s, kvs, s _ _ hk, ?_⟩
      rw [pickT, e]
      show Paired _ _ (pickT ch i ++ [])
      rw [List.append_nil]
      exact Paired.mapP pr fun kv y r => ⟨r.1, stab _ _ _ _ r.2 ⟨kvs, hk⟩ (Off.same s)⟩
  · obtain rfl : i = n := by omega
    exact .inl ⟨w.stops H (hG H sm), hd H kvs sm hk pr⟩
end K1

/-! ## B2_10 -/
set_option Elab.async false
set_option linter.all false
set_option maxRecDepth 100000
set_option maxHeartbeats 8000000
namespace B2_
open PySem PySem.Spec PyProof.Rows L2
/-! ### dicts of tables -/
/-- a dict from names to tuples of texts -/
def ColsOf (H : Hp) (v : V) (e : Str × List Str) : Prop := ∃ c, v = .ref c ∧ H c = some (.tup (e.2.map V.str))
def TupD (H : Hp) (d : Addr) (m : List (Str × List Str)) : Prop := ∃ kvs, H d = some (.dK kvs) ∧ Paired (fun kv e => kv.1 = Sum.inr e.1 ∧ ColsOf H kv.2 e) kvs m
def OptD (H : Hp) (v : V) (m : List (Str × List Str)) : Prop := (v = .non ∧ m = []) ∨ ∃ d, v = .ref d ∧ TupD H d m
theorem ColsOf.off {D : Addr} {H H' : Hp} {v : V} {e : Str × List Str} (h : ColsOf H v e) (s : K1.Off D H H') (hd : ∀ xs, H D ≠ some (.tup xs)) : ColsOf H' v e := by
  obtain ⟨c, rfl, h⟩ := h
  exact ⟨c, rfl, s _ _ (fun z => hd _ (z ▸ h)) h⟩
theorem ColsOf.same {H H' : Hp} {v : V} {e : Str × List Str} (h : ColsOf H v e) (s : Same H H') : ColsOf H' v e := h.imp fun c q => ⟨q.1, s _ _ q.2⟩
theorem TupD.same {H H' : Hp} {d : Addr} {m : List (Str × List Str)} (h : TupD H d m) (s : Same H H') : TupD H' d m := by
  obtain ⟨kvs, h1, h2⟩ := h
  exact ⟨kvs, s _ _ h1, Paired.mapP h2 fun kv e q => ⟨q.1, q.2.same s⟩⟩
theorem TupD.off {D d : Addr} {H H' : Hp} {m : List (Str × List Str)} (h : TupD H d m) (s : K1.Off D H H') (n : d ≠ D) (hd : ∀ xs, H D ≠ some (.tup xs)) : TupD H' d m := by
  obtain ⟨kvs, h1, h2⟩ := h
  exact ⟨kvs, s _ _ n h1, Paired.mapP h2 fun kv e q => ⟨q.1, q.2.off s hd⟩⟩
theorem OptD.same {H H' : Hp} {v : V} {m : List (Str × List Str)} (h : OptD H v m) (s : Same H H') : OptD H' v m := h.imp id fun ⟨d, e, q⟩ => ⟨d, e, q.same s⟩
theorem keysOf {H : Hp} : ∀ {kvs : List (Key × V)} {m : List (Str × List Str)}, Paired (fun kv e => kv.1 = Sum.inr e.1 ∧ ColsOf H kv.2 e) kvs m → kvs.map (·.1) = (m.map (·.1)).map Sum.inr
  | _, _, .nil => rfl
  | _, _, .cons r t => by rw [List.map_cons, List.map_cons, List.map_cons, r.1, keysOf t]
theorem valOf {H : Hp} : ∀ {kvs : List (Key × V)} {m : List (Str × List Str)}, Paired (fun kv e => kv.1 = Sum.inr e.1 ∧ ColsOf H kv.2 e) kvs m → ∀ (z : Str), match m.lookup z with
    | none => valV kvs (Sum.inr z) = none
    | some cs => ∃ c, valV kvs (Sum.inr z) = some (.ref c) ∧ H c = some (.tup (cs.map V.str))
  | _, _, .nil, z => rfl
  | _, _, .cons (a := kv) (b := e) r t, z => by
    rw [List.lookup_cons]
    by_cases q : e.1 = z
    · have q2 : (z == e.1) = true := by simpa using q.symm
      rw [q2]
      obtain ⟨c, e1, e2⟩ := r.2
      exact ⟨c, by rw [valV_pos (by rw [r.1, q]), e1], e2⟩
    · have q2 : (z == e.1) = false := by simpa using fun w => q w.symm
      rw [q2]
      have ih := valOf t z
      rw [valV_neg (by rw [r.1]; intro w; exact q (Sum.inr.inj w))]
      exact ih
/-! ### _dict_told -/
abbrev s_dt : Stmt := topS 19
abbrev N_dt : List Str := ["value", "table"]
theorem sc_dt : FnScope N_dt ["value"] (defScope s_dt) := ⟨rfl, rfl, rfl, by decide +kernel, rfl, by decide +kernel, by decide +kernel⟩
def spDT : Sp := fun vs H Q _ => ∃ (v : V) (m : List (Str × List Str)), vs = [v] ∧ OptD H v m ∧ (∀ e ∈ m, nameB e.1 = true) ∧ m.length ≤ 1000 ∧ ∀ d H', (H d = none ∨ v = .ref d) → Same H H' → TupD H' d m → Q (.ref d) H'
section
variable {P : Program} {w : World} {K : PySem.W.Frag} {mg : Str → Option Value} {base : Heap}
theorem ok_dt {f : Addr} {fd : FuncData} (F : Fun K "_dict_told" "_dict_told" s_dt f fd) (T : NamesS mg) (C1 : Callee P w K mg base CX0 1 "is_name" ["value"] (spName K)) : FnOk P w K mg base CX0 2 f fd ["value"] spDT := by
  have nd := sc_dt.nd
  refine F.ok sc_dt (fun vs H Q E h => ?_) (fun cdv A outer s H vs Q E hr h => ?_)
  · obtain ⟨v, m, rfl, _⟩ := h
    rfl
  · obtain ⟨v, m, rfl, hv, nm, few, k⟩ := h
    refine ⟨_, (pss_cons
    (ps_if (pt_cmpR op_isN (pv 0) pe_non (nomark _)) (pss_one
      (ps_ret pe_dnewK)) pss_nil)
    (pss_cons
    (ps_if (PW.pt (pw_or (pt_not (pt_val (pe_callB call_isi (by rfl) T.isinstance (by decide +kernel) (pa_cons (pv 0) (pa_cons (pe_bltn (v := .ty "dict") (by rfl) T.dict (by decide +kernel) rfl) pa_nil))))) (pw_or1 (pt_not (pt_val (pe_callB (cr_all rfl) (by rfl) T.all (by decide +kernel) (pa_cons (pe_lock (pe_lc (own := [("table", 1)]) (g := (gName 1)) rfl nd (pi_keys (pv 0)) (blkOk_by (N := N_dt) (sc := defScope s_dt) (by decide +kernel)) (fun _ _ _ _ _ => (pg_name (i := 1) nd rfl (Or.inl rfl))) (fun _ _ _ _ _ => pts_nil) (fun _ _ _ _ _ => (pe_use C1 hr rfl pass0 (pa_cons (pv 1) pa_nil))))) pa_nil))))))) (pss_one ps_never) pss_nil)
    (pss_one
    (ps_ret (pv 0))))), ?_⟩
    rcases hv with ⟨rfl, rfl⟩ | ⟨d, rfl, kvs, hd, pr⟩
    · refine ⟨_, rfl, rfl, _, rfl, ?_⟩
      rw [decide_eq_true rfl]
      refine iteT fun d hd => ?_
      exact k d _ (.inl hd) (Same.new (Same.refl H) hd) ⟨[], upd_same, .nil⟩
    · refine ⟨_, rfl, rfl, _, rfl, ?_⟩
      rw [decide_eq_false (by intro z; cases z)]
      refine iteF ?_
      refine ⟨_, rfl, _, _, _, _, true, rfl, .ty _, .base (.dK hd), kit_ty (by decide +kernel), _, rfl, iteF ?_⟩
      refine ⟨d, .dK kvs, hd, trivial, fun od => ⟨_, rfl, d, od, rfl, .inl ⟨kvs, upd_same, fun D hD => ?_⟩⟩⟩
      have kl : kvs.length = m.length := pr.length
      refine lc_acc walk_keys (fun i => (m.take i).map fun _ => V.bl true) rfl hD (fun i hi => ?_) (fun H1 s1 => s1 _ _ upd_same) (fun i x H1 H2 N hi s1 y keep skip => ?_) (fun H1 s1 hL => ?_)
      · have : (1000 : Nat) < sizeLine := by decide
        rw [List.length_map, List.length_take]; omega
      · obtain ⟨rfl, kk, vv, hk, rfl⟩ := y
        obtain ⟨e, he, r1, r2⟩ := paired_get pr hk
        obtain rfl : kk = Sum.inr e.1 := r1
        have ne := nm e (List.mem_of_getElem? he)
        refine ⟨rfl, _, rfl, .str e.1, true, rfl, .inl ⟨_, rfl, name_size ne, ne.symm⟩, fun H3 s3 => keep _ _ s3 ?_⟩
        rw [take_snoc he, List.map_append]; rfl
      · have off : K1.Off d H (upd H1 d (.dK kvs)) := fun b o n e => by
          rw [upd_ne n]
          exact s1 _ _ (by rw [upd_ne n]; exact e)
        have same : Same H (upd H1 d (.dK kvs)) := fun b o e => by
          by_cases q : b = d
          · subst q; rw [upd_same]; rw [hd] at e; exact e
          · exact off b o q e
        have nDd : D ≠ d := (ne_of_none upd_same hD).symm
        refine ⟨s1 _ _ upd_same, D, m.map fun _ => true, rfl, SqL.of ?_, ?_⟩
        · rw [upd_ne nDd, hL, kl, List.take_length, List.map_map]; rfl
        · have e : (m.map fun _ => true).all id = true := by rw [List.all_map, List.all_eq_true]; exact fun _ _ => rfl
          rw [e]
          exact ⟨_, rfl, iteF ⟨_, rfl, k d _ (.inr rfl) same ⟨kvs, upd_same, Paired.mapP pr fun kv e q => ⟨q.1, q.2.same same⟩⟩⟩⟩
end
end B2_

/-! ## B2_11 -/
set_option Elab.async false
set_option linter.all false
set_option maxRecDepth 100000
set_option maxHeartbeats 8000000
namespace B2_
open PySem PySem.Spec PyProof.Rows L2
/-! ### _lines_told, of three dicts that tell a scene -/
abbrev Told := List (Str × List Str)
def kdOf (gv : Told) (z : Str) : Kd := match gv.lookup z with
  | some ks => .key ks
  | none => .fix
def lnsOf (mv st gv : Told) : List Ln := mv.map (fun e => ⟨e.1, e.2, .chg⟩) ++ st.map fun e => ⟨e.1, e.2, kdOf gv e.1⟩
structure ToldOk (mv st gv : Told) : Prop where
  ok : LnsOk (lnsOf mv st gv)
  sub : ∀ e ∈ gv, e.1 ∈ st.map (·.1)
theorem lnsOf_len (mv st gv : Told) : (lnsOf mv st gv).length = mv.length + st.length := by simp [lnsOf]
theorem ToldOk.mv {mv st gv : Told} (h : ToldOk mv st gv) : mv.length ≤ 6 := by
  have := h.ok.six
  rw [lnsOf_len] at this; omega
theorem ToldOk.st {mv st gv : Told} (h : ToldOk mv st gv) : st.length ≤ 6 := by
  have := h.ok.six
  rw [lnsOf_len] at this; omega
theorem ToldOk.nmv {mv st gv : Told} (h : ToldOk mv st gv) : ∀ e ∈ mv, nameB e.1 = true := fun e he => (h.ok.good ⟨e.1, e.2, .chg⟩ (List.mem_append_left _ (List.mem_map.mpr ⟨e, he, rfl⟩))).name
theorem ToldOk.nst {mv st gv : Told} (h : ToldOk mv st gv) : ∀ e ∈ st, nameB e.1 = true := fun e he => (h.ok.good ⟨e.1, e.2, kdOf gv e.1⟩ (List.mem_append_right _ (List.mem_map.mpr ⟨e, he, rfl⟩))).name
theorem ToldOk.ngv {mv st gv : Told} (h : ToldOk mv st gv) : ∀ e ∈ gv, nameB e.1 = true := fun e he => by
  obtain ⟨x, hx, e1⟩ := List.mem_map.mp (h.sub e he)
  rw [← e1]; exact h.nst x hx
abbrev s_lt : Stmt := topS 18
abbrev N_lt : List Str := ["changing", "fixed", "keyed", "moving", "still", "chosen", "first", "more", "table", "key", "columns"]
theorem sc_lt : FnScope N_lt ["changing", "fixed", "keyed"] (defScope s_lt) := ⟨rfl, rfl, rfl, by decide +kernel, rfl, by decide +kernel, by decide +kernel⟩
def spLT : Sp := fun vs H Q _ => ∃ (a b c : V) (mv st gv : Told), vs = [a, b, c] ∧ OptD H a mv ∧ OptD H b st ∧ OptD H c gv ∧ gv.length ≤ 1000 ∧ (∀ d, b = .ref d → c ≠ .ref d) ∧ ToldOk mv st gv ∧ ∀ p rs H', Same H H' → H p = none → H' p = some (.tup rs) → Paired (LnAt H') rs (ordL (lnsOf mv st gv)) → Q (.ref p) H'
theorem unlock {H H1 : Hp} {d : Addr} {u : HO} {o : Obj} (hd : H d = some u) (s : Same (upd H d (.frz o u)) H1) : Same H (upd H1 d u) := fun b z e => by
  by_cases q : b = d
  · subst q; rw [upd_same]; rw [hd] at e; exact e
  · rw [upd_ne q]; exact s _ _ (by rw [upd_ne q]; exact e)
theorem paired_app {α β : Type} {R : α → β → Prop} : ∀ {xs xs' : List α} {ys ys' : List β}, Paired R xs ys → Paired R xs' ys' → Paired R (xs ++ xs') (ys ++ ys')
  | _, _, _, _, .nil, h => h
  | _, _, _, _, .cons r t, h => .cons r (paired_app t h)
section
variable {P : Program} {w : World} {K : PySem.W.Frag} {mg : Str → Option Value} {base : Heap}
theorem ok_lt {f : Addr} {fd : FuncData} (F : Fun K "_lines_told" "_lines_told" s_lt f fd) (T : NamesS mg) (CD : Callee P w K mg base CX0 2 "_dict_told" ["value"] spDT) (C6 : Callee P w K mg base CX0 6 "_checked" ["lines"] spChk) : FnOk P w K mg base CX0 7 f fd ["changing", "fixed", "keyed"] spLT := by
  have nd := sc_lt.nd
  refine F.ok sc_lt (fun vs H Q E h => ?_) (fun cdv A outer s H vs Q E hr h => ?_)
  · obtain ⟨a, b, c, mv, st, gv, rfl, _⟩ := h
    rfl
  · obtain ⟨a, b, c, mv, st, gv, rfl, ha, hb, hc, gl, hne, ok, k⟩ := h
    have hr2 : Room 2 _ := hr.mono (by decide)
    have hu := hu_of hr
    obtain ⟨tc, hchg⟩ := T.chg
    refine ⟨_, (pss_cons
    (ps_asg (pe_tup (pa_cons (pe_use CD hr2 rfl pass0 (pa_cons (pv 0) pa_nil)) (pa_cons (pe_use CD hr2 rfl pass0 (pa_cons (pv 1) pa_nil)) (pa_cons (pe_use CD hr2 rfl pass0 (pa_cons (pv 2) pa_nil)) pa_nil)))) (pg_tup rfl (pgs_cons (pg_name (i := 3) nd rfl (Or.inl rfl)) (pgs_cons (pg_name (i := 4) nd rfl (Or.inr rfl)) (pgs_cons (pg_name (i := 5) nd rfl (Or.inr rfl)) pgs_nil)))))
    (pss_cons
    (ps_if (pt_not (pt_val (pe_callB (cr_all rfl) (by rfl) T.all (by decide +kernel) (pa_cons (pe_lock (pe_lc (own := [("table", 8)]) (g := (gName 8)) rfl nd (pi_keys (pv 5)) (blkOk_by (N := N_lt) (sc := defScope s_lt) (by decide +kernel)) (fun _ _ _ _ _ => (pg_name (i := 8) nd rfl (Or.inl rfl))) (fun _ _ _ _ _ => pts_nil) (fun _ _ _ _ _ => (pe_cmp (pc_din hu (pv 8) (pv 4)) rfl)))) pa_nil)))) (pss_one ps_never) pss_nil)
    (pss_cons
    (ps_if (pt_not (pt_val (pe_callB (cr_all rfl) (by rfl) T.all (by decide +kernel) (pa_cons (pe_lock (pe_lc (own := [("key", 9)]) (g := (gName 9)) rfl nd (pi_values (pv 5)) (blkOk_by (N := N_lt) (sc := defScope s_lt) (by decide +kernel)) (fun _ _ _ _ _ => (pg_name (i := 9) nd rfl (Or.inl rfl))) (fun _ _ _ _ _ => pts_nil) (fun _ _ _ _ _ => (pe_callB (r := rIsi K) call_isi (by rfl) T.isinstance (by decide +kernel) (pa_cons (pv 9) (pa_cons (pe_bltn (v := .ty "tuple") (by rfl) T.tuple (by decide +kernel) rfl) pa_nil)))))) pa_nil)))) (pss_one ps_never) pss_nil)
    (pss_cons
    (ps_lock (ps_setLc (i := 6) (own := [("table", 8), ("columns", 10)]) (g := gTup K 2 (gCons (gName 8) (gCons (gName 10) gNil))) rfl nd rfl rfl (sw_true rfl rfl rfl (by decide +kernel)) (pi_items (pv 3)) (blkOk_by (N := N_lt) (sc := defScope s_lt) (by decide +kernel)) (fun _ _ _ _ _ => (pg_tup rfl (pgs_cons (pg_name (i := 8) nd rfl (Or.inl rfl)) (pgs_cons (pg_name (i := 10) nd rfl (Or.inl rfl)) pgs_nil)))) (fun _ _ _ _ _ => pts_nil) (fun _ _ _ _ _ => (pe_tup (pa_cons (pv 8) (pa_cons (pv 10) (pa_cons (pe_glob (v := .str "changing") rfl hchg ⟨_, rfl⟩) pa_nil)))))))
    (pss_cons
    (ps_lock (ps_setLc (i := 7) (own := [("table", 8), ("columns", 10)]) (g := gTup K 2 (gCons (gName 8) (gCons (gName 10) gNil))) rfl nd rfl rfl (sw_true rfl rfl rfl (by decide +kernel)) (pi_items (pv 4)) (blkOk_by (N := N_lt) (sc := defScope s_lt) (by decide +kernel)) (fun _ _ _ _ _ => (pg_tup rfl (pgs_cons (pg_name (i := 8) nd rfl (Or.inl rfl)) (pgs_cons (pg_name (i := 10) nd rfl (Or.inl rfl)) pgs_nil)))) (fun _ _ _ _ _ => pts_nil) (fun _ _ _ _ _ => (pe_tup (pa_cons (pv 8) (pa_cons (pv 10) (pa_cons (pe_dget1 hu (pv 5) (pv 8) ⟨rfl, rfl, rfl, rfl⟩) pa_nil)))))))
    (pss_one
    (ps_ret (pe_use C6 hr rfl pass0 (pa_cons (pe_lst (StX.pa_star (pv 6) (StX.pa_star (pv 7) pa_nil))) pa_nil))))))))), ?_⟩
    have six : (1000 : Nat) < sizeLine := by decide
    have m6 := ok.mv
    have s6 := ok.st
    refine ⟨_, rfl, a, mv, rfl, ha, ok.nmv, by omega, fun d1 H1 w1 s1 t1 => ⟨_, rfl, b, st, rfl, hb.same s1, ok.nst, by omega, fun d2 H2 w2 s2 t2 => ⟨_, rfl, c, gv, rfl, (hc.same s1).same s2, ok.ngv, gl, fun d3 H3 w3 s3 t3 => ⟨Nat.le_of_ble_eq_true rfl, fun p0 hp0 => ⟨p0, _, rfl, SqT.of upd_same, rfl, _, _, rfl, _, _, rfl, _, _, rfl, rfl, ?_⟩⟩⟩⟩⟩
    have ne23 : d2 ≠ d3 := fun e => by
      subst e
      obtain ⟨kv2, h2, _⟩ := t2
      rcases w3 with w3 | rfl
      · rw [h2] at w3; cases w3
      · rcases w2 with w2 | w2
        · rcases hc with ⟨z, _⟩ | ⟨d, z, kv3, h3, _⟩
          · cases z
          · cases z
            rw [s1 _ _ h3] at w2; cases w2
        · exact hne d2 w2 rfl
    have s4 := Same.new (o := .tup [.ref d1, .ref d2, .ref d3]) (Same.refl H3) hp0
    have t1' := ((t1.same s2).same s3).same s4
    have t2' := (t2.same s3).same s4
    have t3' := t3.same s4
    have sH := ((s1.trans s2).trans s3).trans s4
    clear s4 t1 t2 t3 hp0 w1 w2 w3 s1 s2 s3 ha hb hc
    generalize upd H3 p0 _ = H4 at t1' t2' t3' sH
    obtain ⟨kv1, h1, pr1⟩ := t1'
    obtain ⟨kv2, h2, pr2⟩ := t2'
    obtain ⟨kv3, h3, pr3⟩ := t3'
    have l1 : kv1.length = mv.length := pr1.length
    have l2 : kv2.length = st.length := pr2.length
    have l3 : kv3.length = gv.length := pr3.length
    -- each key is a fixed table's
    refine ⟨d3, .dK kv3, h3, trivial, fun od => ⟨_, rfl, d3, od, rfl, .inl ⟨kv3, upd_same, fun D hD => ?_⟩⟩⟩
    refine lc_acc walk_keys (fun i => (gv.take i).map fun _ => V.bl true) rfl hD (fun i hi => ?_) (fun H1 s1 => s1 _ _ upd_same) (fun i x H1 H2 N hi s1 y keep skip => ?_) (fun H5 s5 hL => ?_)
    · rw [List.length_map, List.length_take]; omega
    · obtain ⟨rfl, kk, vv, hk, rfl⟩ := y
      obtain ⟨e, he, r1, r2⟩ := paired_get pr3 hk
      obtain rfl : kk = Sum.inr e.1 := r1
      refine ⟨rfl, _, rfl, _, rfl, d2, _, rfl, DGet.k (k := Sum.inr e.1) (s1 _ _ (by rw [upd_ne ne23]; exact h2)), keep _ _ (Same.refl _) ?_⟩
      have some_ : (valV kv2 (Sum.inr e.1)).isSome = true := by
        have v := valOf pr2 e.1
        cases q : st.lookup e.1 with
        | none =>
          rw [q] at v
          obtain ⟨x, hx, ex⟩ := List.mem_map.mp (ok.sub e (List.mem_of_getElem? he))
          rw [List.lookup_eq_none_iff] at q
          exact absurd (q x hx) (by simp [ex])
        | some cs =>
          rw [q] at v
          obtain ⟨c, v, _⟩ := v
          rw [v]; rfl
      rw [take_snoc he, List.map_append, some_]; rfl
    have same5 := unlock h3 s5
    have nD3 : D ≠ d3 := (ne_of_none upd_same hD).symm
    refine ⟨s5 _ _ upd_same, D, gv.map fun _ => true, rfl, SqL.of ?_, ?_⟩
    · rw [upd_ne nD3, hL, l3, List.take_length, List.map_map]; rfl
    rw [show (gv.map fun _ => true).all id = true by rw [List.all_map, List.all_eq_true]; exact fun _ _ => rfl]
    refine ⟨_, rfl, iteF ?_⟩
    have sH5 := sH.trans same5
    replace h1 := same5 _ _ h1
    replace h2 := same5 _ _ h2
    replace h3 := same5 _ _ h3
    replace pr1 := Paired.mapP pr1 fun kv e q => (⟨q.1, q.2.same same5⟩ : kv.1 = Sum.inr e.1 ∧ ColsOf _ kv.2 e)
    replace pr2 := Paired.mapP pr2 fun kv e q => (⟨q.1, q.2.same same5⟩ : kv.1 = Sum.inr e.1 ∧ ColsOf _ kv.2 e)
    replace pr3 := Paired.mapP pr3 fun kv e q => (⟨q.1, q.2.same same5⟩ : kv.1 = Sum.inr e.1 ∧ ColsOf _ kv.2 e)
    clear same5 s5 hL hD nD3 sH
    generalize upd H5 d3 _ = H6 at *
    -- each key is a tuple
    refine ⟨d3, .dK kv3, h3, trivial, fun od => ⟨_, rfl, d3, od, kv3, rfl, upd_same, fun D hD => ?_⟩⟩
    refine lc_acc walk_values (fun i => (gv.take i).map fun _ => V.bl true) rfl hD (fun i hi => ?_) (fun H1 s1 => s1 _ _ upd_same) (fun i x H1 H2 N hi s1 y keep skip => ?_) (fun H7 s7 hL => ?_)
    · rw [List.length_map, List.length_take]; omega
    · obtain ⟨rfl, kk, hk⟩ := y
      obtain ⟨e, he, r1, c, rfl, hc⟩ := paired_get pr3 hk
      have hc2 := s1 _ _ (show (upd H6 d3 (.frz od (.dK kv3))) c = _ from by rw [upd_ne (fun z => by rw [z, h3] at hc; cases hc)]; exact hc)
      refine ⟨rfl, _, rfl, _, _, _, _, true, rfl, .ty _, .base (.tup hc2), kit_ty (by decide +kernel), keep _ _ (Same.refl _) ?_⟩
      rw [take_snoc he, List.map_append]; rfl
    have same7 := unlock h3 s7
    have nD3 : D ≠ d3 := (ne_of_none upd_same hD).symm
    refine ⟨s7 _ _ upd_same, D, gv.map fun _ => true, rfl, SqL.of ?_, ?_⟩
    · rw [upd_ne nD3, hL, l3, List.take_length, List.map_map]; rfl
    rw [show (gv.map fun _ => true).all id = true by rw [List.all_map, List.all_eq_true]; exact fun _ _ => rfl]
    refine ⟨_, rfl, iteF ?_⟩
    have sH7 := sH5.trans same7
    replace h1 := same7 _ _ h1
    replace h2 := same7 _ _ h2
    replace h3 := same7 _ _ h3
    replace pr1 := Paired.mapP pr1 fun kv e q => (⟨q.1, q.2.same same7⟩ : kv.1 = Sum.inr e.1 ∧ ColsOf _ kv.2 e)
    replace pr2 := Paired.mapP pr2 fun kv e q => (⟨q.1, q.2.same same7⟩ : kv.1 = Sum.inr e.1 ∧ ColsOf _ kv.2 e)
    replace pr3 := Paired.mapP pr3 fun kv e q => (⟨q.1, q.2.same same7⟩ : kv.1 = Sum.inr e.1 ∧ ColsOf _ kv.2 e)
    clear same7 s7 hL hD nD3 sH5
    generalize upd H7 d3 _ = H8 at *
    -- the lines of the tables that change
    refine ⟨d1, .dK kv1, h1, trivial, fun od => ⟨_, rfl, d1, od, kv1, rfl, upd_same, fun D hD => ?_⟩⟩
    have lst_tup : ∀ {H : Hp} {D : Addr}, (∃ a, H D = some (.lst a)) → ∀ xs, H D ≠ some (.tup xs) := fun ⟨a, e⟩ xs z => by rw [e] at z; cases z
    refine K1.lc_rel walk_items LnAt (fun i => (mv.map fun e => (⟨e.1, e.2, .chg⟩ : Ln))[i]?) hD (by omega) (fun H H' v l r e o => r.off o (lst_tup e)) (fun H1 s1 => s1 _ _ upd_same) (fun i x H1 H2 N hi s1 lD y keep skip => ?_) (fun H9 acc1 s9 hL pL => ?_)
    · obtain ⟨T, x, y, rfl, hT, rfl, hx, hy⟩ := y
      obtain ⟨kv, hkv, rfl⟩ := Option.map_eq_some_iff.mp hx
      have hy : kv1[i]?.map Prod.snd = some y := hy
      rw [hkv] at hy
      obtain ⟨e, he, r1, c, rc, hc⟩ := paired_get pr1 hkv
      obtain rfl : kv.2 = y := Option.some.inj hy
      have hc2 := s1 _ _ (show (upd H8 d1 (.frz od (.dK kv1))) c = _ from by rw [upd_ne (fun z => by rw [z, h1] at hc; cases hc)]; exact hc)
      refine ⟨T, _, rfl, SqT.of upd_same, rfl, _, _, rfl, _, _, rfl, rfl, rfl, _, rfl, _, rfl, Nat.le_of_ble_eq_true rfl, fun q hq => ?_⟩
      refine keep _ (.ref q) ⟨e.1, e.2, .chg⟩ (Same.new (Same.new (Same.refl _) hT) hq) (by rw [List.getElem?_map, he]; rfl) ⟨q, c, .str "changing", rfl, ?_, ?_, rfl⟩
      · rw [upd_same, r1, rc]; rfl
      · exact (Same.new (Same.new (Same.refl _) hT) hq) _ _ hc2
    refine ⟨s9 _ _ upd_same, ?_⟩
    have nDd : D ≠ d1 := (ne_of_none upd_same hD).symm
    have same9 := unlock h1 s9
    have hL1 : (upd H9 d1 (.dK kv1)) D = some (.lst acc1) := by rw [upd_ne nDd]; exact hL
    have pL1 : Paired (LnAt (upd H9 d1 (.dK kv1))) acc1 (mv.map fun e => (⟨e.1, e.2, .chg⟩ : Ln)) := by
      rw [l1, ← List.length_map (fun e : Str × List Str => (⟨e.1, e.2, .chg⟩ : Ln)), K1.pickT_all] at pL
      exact Paired.mapP pL fun v l r => r.off (K1.Off.refl d1 H9).put fun ys z => by rw [s9 _ _ upd_same] at z; cases z
    have sH9 := sH7.trans same9
    replace h2 := same9 _ _ h2
    replace h3 := same9 _ _ h3
    replace pr2 := Paired.mapP pr2 fun kv e q => (⟨q.1, q.2.same same9⟩ : kv.1 = Sum.inr e.1 ∧ ColsOf _ kv.2 e)
    replace pr3 := Paired.mapP pr3 fun kv e q => (⟨q.1, q.2.same same9⟩ : kv.1 = Sum.inr e.1 ∧ ColsOf _ kv.2 e)
    clear same9 s9 hL hD nDd sH7 h1 pr1 pL
    generalize upd H9 d1 _ = HA at *
    -- the lines of the fixed tables
    refine ⟨d2, .dK kv2, h2, trivial, fun od => ⟨_, rfl, d2, od, kv2, rfl, upd_same, fun D2 hD2 => ?_⟩⟩
    refine K1.lc_rel walk_items LnAt (fun i => (st.map fun e => (⟨e.1, e.2, kdOf gv e.1⟩ : Ln))[i]?) hD2 (by omega) (fun H H' v l r e o => r.off o (lst_tup e)) (fun H1 s1 => s1 _ _ upd_same) (fun i x H1 H2 N hi s1 lD y keep skip => ?_) (fun HB acc2 sB hL pL => ?_)
    · obtain ⟨T, x, y, rfl, hT, rfl, hx, hy⟩ := y
      obtain ⟨kv, hkv, rfl⟩ := Option.map_eq_some_iff.mp hx
      have hy : kv2[i]?.map Prod.snd = some y := hy
      rw [hkv] at hy
      obtain ⟨e, he, r1, c, rc, hc⟩ := paired_get pr2 hkv
      obtain rfl : kv.2 = y := Option.some.inj hy
      have tup : ∀ {c : Addr} {xs : List V}, HA c = some (.tup xs) → H1 c = some (.tup xs) := fun {c xs} hc => s1 _ _ (show (upd HA d2 (.frz od (.dK kv2))) c = _ from by rw [upd_ne (fun z => by rw [z, h2] at hc; cases hc)]; exact hc)
      have hd3 : H1 d3 = some (.dK kv3) := s1 _ _ (show (upd HA d2 (.frz od (.dK kv2))) d3 = _ from by rw [upd_ne (Ne.symm ne23)]; exact h3)
      have hc2 := tup hc
      have sT := Same.new (o := .tup [kV kv.1, kv.2]) (Same.refl H1) hT
      refine ⟨T, _, rfl, SqT.of upd_same, rfl, _, _, rfl, _, _, rfl, rfl, rfl, _, rfl, _, rfl, _, rfl, d3, rfl, .inl ⟨kv3, Rd.of (sT _ _ hd3)⟩, _, rfl, valV kv3 (Sum.inr e.1), ?_, Nat.le_of_ble_eq_true rfl, fun q hq => ?_⟩
      · have g := DGet.k (k := Sum.inr e.1) (sT _ _ hd3)
        have hk : kV kv.1 = kV (Sum.inr e.1) := by rw [r1]
        rw [hk] at g ⊢
        exact g
      have s2 := Same.new (o := .tup [kV kv.1, kv.2, (valV kv3 (Sum.inr e.1)).getD .non]) sT hq
      refine keep _ (.ref q) ⟨e.1, e.2, kdOf gv e.1⟩ s2 (by rw [List.getElem?_map, he]; rfl) ⟨q, c, (valV kv3 (Sum.inr e.1)).getD .non, rfl, ?_, s2 _ _ hc2, ?_⟩
      · rw [upd_same, r1, rc]; rfl
      · have v := valOf pr3 e.1
        unfold kdOf
        cases ql : gv.lookup e.1 with
        | none =>
          rw [ql] at v
          rw [v]
          exact rfl
        | some ks =>
          rw [ql] at v
          obtain ⟨kc, v, hk⟩ := v
          have z := s2 _ _ (tup hk)
          rw [v] at z ⊢
          exact ⟨kc, rfl, z⟩
    refine ⟨sB _ _ upd_same, ?_⟩
    have nDd : D2 ≠ d2 := (ne_of_none upd_same hD2).symm
    have sameB := unlock h2 sB
    have hL2 : (upd HB d2 (.dK kv2)) D2 = some (.lst acc2) := by rw [upd_ne nDd]; exact hL
    have pL2 : Paired (LnAt (upd HB d2 (.dK kv2))) acc2 (st.map fun e => (⟨e.1, e.2, kdOf gv e.1⟩ : Ln)) := by
      rw [l2, ← List.length_map (fun e : Str × List Str => (⟨e.1, e.2, kdOf gv e.1⟩ : Ln)), K1.pickT_all] at pL
      exact Paired.mapP pL fun v l r => r.off (K1.Off.refl d2 HB).put fun ys z => by rw [sB _ _ upd_same] at z; cases z
    replace hL1 := sameB _ _ hL1
    replace pL1 := Paired.mapP pL1 fun v l r => LnAt.same r sameB
    have sHB := sH9.trans sameB
    clear sameB sB hL hD2 nDd h2 h3 pr2 pr3 pL sH9
    generalize upd HB d2 _ = HC at *
    have la : (acc1 ++ acc2).length ≤ 12 := by
      have e1 := pL1.length
      have e2 := pL2.length
      rw [List.length_map] at e1 e2
      rw [List.length_append]; omega
    refine ⟨_, rfl, D, acc1, rfl, .inr (SqL.of hL1), _, rfl, D2, acc2, rfl, .inr (SqL.of hL2), ?_, fun l hl => ?_⟩
    · rw [List.append_nil]; exact Nat.le_trans la (by decide)
    refine ⟨l, lnsOf mv st gv, rfl, ⟨_, .inl upd_same, ?_⟩, ok.ok, fun p rs H' s' hp hr' pr' => k p rs H' ((sHB.trans (Same.new (Same.refl HC) hl)).trans s') ((sHB.trans (Same.new (Same.refl HC) hl)).free hp) hr' pr'⟩
    rw [List.append_nil]
    have sl := Same.new (o := .lst (acc1 ++ acc2)) (Same.refl HC) hl
    exact paired_app (Paired.mapP pL1 fun v l r => r.same sl) (Paired.mapP pL2 fun v l r => r.same sl)
end
end B2_

/-! ## B2_12 -/
set_option Elab.async false
set_option linter.all false
set_option maxRecDepth 100000
set_option maxHeartbeats 8000000
namespace B2_
open PySem PySem.Spec PyProof.Rows L2
/-! ### a scene as it stands -/
def isC : Kd → Bool
  | .chg => true
  | _ => false
def isChg (l : Ln) : Bool := isC l.k
def dedupS : List Str → List Str
  | [] => []
  | x :: r => if x ∈ r then dedupS r else x :: dedupS r
theorem mem_dedupS {z : Str} : ∀ {l : List Str}, z ∈ dedupS l ↔ z ∈ l
  | [] => Iff.rfl
  | x :: r => by
    unfold dedupS
    split
    · rename_i h
      rw [mem_dedupS, List.mem_cons]
      exact ⟨.inr, fun q => q.elim (fun e => e ▸ h) id⟩
    · rw [List.mem_cons, List.mem_cons, mem_dedupS]
theorem nodup_dedupS : ∀ l : List Str, (dedupS l).Nodup
  | [] => List.nodup_nil
  | x :: r => by
    unfold dedupS
    split
    · exact nodup_dedupS r
    · rename_i h
      exact List.nodup_cons.mpr ⟨fun m => h (mem_dedupS.mp m), nodup_dedupS r⟩
def uniqS (l : List Str) : List Str := srtd (dedupS l)
theorem uniqS_of {ys l : List Str} (n : ys.Nodup) (m : ∀ z, z ∈ ys ↔ z ∈ l) (s : sortedS ys = true) : ys = uniqS l :=
  srtd_of (K1.perm_of_len n (fun z hz => mem_dedupS.mpr ((m z).mp hz)) ((nodup_dedupS l).length_le_of_subset fun z hz => (m z).mpr (mem_dedupS.mp hz))) s
def colsOf (Ls : List Ln) : List Str := uniqS (Ls.flatMap (·.cs))
def tabsOf (Ls : List Ln) : List Str := Ls.map (·.t)
def chgOf (Ls : List Ln) : List Str := (Ls.filter isChg).map (·.t)
def fixOf (Ls : List Ln) : List Str := (Ls.filter fun l => !isChg l).map (·.t)
abbrev Texts (H : Hp) (p : Addr) (zs : List Str) : Prop := H p = some (.tup (zs.map V.str))
def ColR (H : Hp) (v : V) (l : Ln) : Prop := ∃ c, v = .ref c ∧ H c = some (.tup (l.cs.map V.str))
def KeyR (H : Hp) (v : V) (l : Ln) : Prop := KdAt H v l.k
structure SceneIs (H : Hp) (Ls : List Ln) (pl pt pc pg pf dc dk : Addr) : Prop where
  lines : ∃ rs, H pl = some (.tup rs) ∧ Paired (LnAt H) rs Ls
  tabs : Texts H pt (tabsOf Ls)
  cols : Texts H pc (colsOf Ls)
  chg : Texts H pg (chgOf Ls)
  fix : Texts H pf (fixOf Ls)
  cby : ∃ kvs, H dc = some (.dK kvs) ∧ Paired (fun kv l => kv.1 = Sum.inr l.t ∧ ColR H kv.2 l) kvs Ls
  kby : ∃ kvs, H dk = some (.dK kvs) ∧ Paired (fun kv l => kv.1 = Sum.inr l.t ∧ KeyR H kv.2 l) kvs (Ls.filter fun l => !isChg l)
abbrev flds (pl pt pc pg pf dc dk : Addr) : List (Str × V) := [("_lines", .ref pl), ("_tables", .ref pt), ("_columns", .ref pc), ("_changing", .ref pg), ("_fixed", .ref pf), ("_columns_by_table", .ref dc), ("_key_by_table", .ref dk)]
/-- a scene with the lines Ls stands at x -/
def SceneAt (C : Addr) (H : Hp) (x : Addr) (Ls : List Ln) : Prop := ∃ dx pl pt pc pg pf dc dk, H x = some (.ins C dx (flds pl pt pc pg pf dc dk)) ∧ SceneIs H Ls pl pt pc pg pf dc dk
/-- .., whose own dicts are not among what H0 has -/
def SceneAtN (C : Addr) (H0 H : Hp) (x : Addr) (Ls : List Ln) : Prop := ∃ dx pl pt pc pg pf dc dk, H x = some (.ins C dx (flds pl pt pc pg pf dc dk)) ∧ SceneIs H Ls pl pt pc pg pf dc dk ∧ H0 dc = none ∧ H0 dk = none
theorem SceneAtN.at {C : Addr} {H0 H : Hp} {x : Addr} {Ls : List Ln} (h : SceneAtN C H0 H x Ls) : SceneAt C H x Ls := by
  obtain ⟨dx, pl, pt, pc, pg, pf, dc, dk, h1, h2, _⟩ := h
  exact ⟨dx, pl, pt, pc, pg, pf, dc, dk, h1, h2⟩
theorem SceneAtN.back {C : Addr} {H0 H1 H : Hp} {x : Addr} {Ls : List Ln} (h : SceneAtN C H1 H x Ls) (s : Same H0 H1) : SceneAtN C H0 H x Ls := by
  obtain ⟨dx, pl, pt, pc, pg, pf, dc, dk, h1, h2, h3, h4⟩ := h
  have f : ∀ {e : Addr}, H1 e = none → H0 e = none := fun {e} z => by
    cases q : H0 e with
    | none => rfl
    | some o => rw [s _ _ q] at z; cases z
  exact ⟨dx, pl, pt, pc, pg, pf, dc, dk, h1, h2, f h3, f h4⟩
theorem ColR.off {D : Addr} {H H' : Hp} {v : V} {l : Ln} (h : ColR H v l) (s : K1.Off D H H') (hd : ∀ xs, H D ≠ some (.tup xs)) : ColR H' v l := by
  obtain ⟨c, e, h⟩ := h
  exact ⟨c, e, s _ _ (fun z => hd _ (z ▸ h)) h⟩
theorem KdAt.off {D : Addr} {H H' : Hp} {v : V} {k : Kd} (h : KdAt H v k) (s : K1.Off D H H') (hd : ∀ xs, H D ≠ some (.tup xs)) : KdAt H' v k := by
  cases k with
  | chg => exact h
  | fix => exact h
  | key ks => exact h.imp fun q e => ⟨e.1, s _ _ (fun z => hd _ (z ▸ e.2)) e.2⟩
theorem SceneIs.same {H H' : Hp} {Ls : List Ln} {pl pt pc pg pf dc dk : Addr} (h : SceneIs H Ls pl pt pc pg pf dc dk) (s : Same H H') : SceneIs H' Ls pl pt pc pg pf dc dk where
  lines := h.lines.imp fun rs q => ⟨s _ _ q.1, Paired.mapP q.2 fun v l r => r.same s⟩
  tabs := s _ _ h.tabs
  cols := s _ _ h.cols
  chg := s _ _ h.chg
  fix := s _ _ h.fix
  cby := h.cby.imp fun kvs q => ⟨s _ _ q.1, Paired.mapP q.2 fun kv l r => ⟨r.1, r.2.imp fun c e => ⟨e.1, s _ _ e.2⟩⟩⟩
  kby := h.kby.imp fun kvs q => ⟨s _ _ q.1, Paired.mapP q.2 fun kv l r => ⟨r.1, KdAt.same r.2 s⟩⟩
theorem SceneAt.same {C x : Addr} {H H' : Hp} {Ls : List Ln} (h : SceneAt C H x Ls) (s : Same H H') : SceneAt C H' x Ls := by
  obtain ⟨dx, pl, pt, pc, pg, pf, dc, dk, h1, h2⟩ := h
  exact ⟨dx, pl, pt, pc, pg, pf, dc, dk, s _ _ h1, h2.same s⟩
/-! ### Scene.__init__ -/
abbrev s_ini : Stmt := inClass (topS 15) 0
abbrev N_ini : List Str := ["self", "changing", "fixed", "keyed", "lines", "line", "column"]
theorem sc_ini : FnScope N_ini ["self", "changing", "fixed", "keyed"] (defScope s_ini) := ⟨rfl, rfl, rfl, by decide +kernel, rfl, by decide +kernel, by decide +kernel⟩
/-! what is read off a line in slot 5 -/
section
variable {K : PySem.W.Frag} {σ : L2.St} {H : Hp} {v : V} {l : Ln}
theorem rd_t {Q : VK} (h5 : σ[5]? = some (some v)) (la : LnAt H v l) (q : Q (.str l.t) H) : (tOp (rIxT K) (tVar 5) (tC (.int 0))) σ H Q := by
  obtain ⟨p, c, kv, rfl, e1, e2, e3⟩ := la
  exact ⟨_, h5, p, _, _, _, rfl, rfl, SqT.of e1, at_of (j := 0) rfl rfl, q⟩
theorem rd_c {Q : VK} (h5 : σ[5]? = some (some v)) (la : LnAt H v l) (q : ∀ c, H c = some (.tup (l.cs.map V.str)) → Q (.ref c) H) : (tOp (rIxT K) (tVar 5) (tC (.int 1))) σ H Q := by
  obtain ⟨p, c, kv, rfl, e1, e2, e3⟩ := la
  exact ⟨_, h5, p, _, _, _, rfl, rfl, SqT.of e1, at_of (j := 1) rfl rfl, q c e2⟩
theorem rd_k {Q : VK} (h5 : σ[5]? = some (some v)) (la : LnAt H v l) (q : ∀ kv, KdAt H kv l.k → Q kv H) : (tOp (rIxT K) (tVar 5) (tC (.int 2))) σ H Q := by
  obtain ⟨p, c, kv, rfl, e1, e2, e3⟩ := la
  exact ⟨_, h5, p, _, _, _, rfl, rfl, SqT.of e1, at_of (j := 2) rfl rfl, q kv e3⟩
theorem kd_dp {kv : V} {cs : List Str} {k : Kd} (h : KdAt H kv k) (ok : k.Ok cs) : ∃ d, Dp K H kv d ∧ SeqAt.shaped d = true ∧ PyData.eqv d (.str "changing") = isC k := by
  cases k with
  | chg =>
    obtain rfl : kv = .str "changing" := h
    exact ⟨.str "changing", .str _, by decide +kernel, (by decide +kernel : PyData.eqv (.str "changing") (.str "changing") = true)⟩
  | fix =>
    obtain rfl : kv = .non := h
    exact ⟨.none, .non, by decide +kernel, rfl⟩
  | key ks =>
    obtain ⟨q, rfl, hq⟩ := h
    exact ⟨.tuple (ks.map PyData.str), .tup (SqT.of hq) (dp_strs ks), shaped_tup ks fun z hz => name_strOk (ok.1 z hz), rfl⟩
theorem rd_eq {Q : Bool → Hp → Prop} (h5 : σ[5]? = some (some v)) (la : LnAt H v l) (ok : l.k.Ok l.cs) (q : Q (isChg l) H) : (tTest (tOp (rEqD K) (tOp (rIxT K) (tVar 5) (tC (.int 2))) (tC (.str "changing")))) σ H Q := by
  refine rd_k h5 la fun kv hk => ?_
  obtain ⟨d, d1, d2, d3⟩ := kd_dp (K := K) hk ok
  exact ⟨d, .str "changing", d1, .str _, d2, by decide +kernel, _, rfl, by rw [d3]; exact q⟩
theorem rd_ne {Q : Bool → Hp → Prop} (h5 : σ[5]? = some (some v)) (la : LnAt H v l) (ok : l.k.Ok l.cs) (q : Q (!isChg l) H) : (tTest (tOp (rNeD K) (tOp (rIxT K) (tVar 5) (tC (.int 2))) (tC (.str "changing")))) σ H Q := by
  refine rd_k h5 la fun kv hk => ?_
  obtain ⟨d, d1, d2, d3⟩ := kd_dp (K := K) hk ok
  exact ⟨d, .str "changing", d1, .str _, d2, by decide +kernel, _, rfl, by rw [d3]; exact q⟩
/-- [line[0] for line in lines if ..] -/
theorem lc_lines {tt : TT} {σ : L2.St} {pl : Addr} {rs : List V} {Ls : List Ln} {Q : VK} (f : Ln → Bool) (hσ : σ[4]? = some (some (.ref pl))) (hl : σ.length = 7) (hp : H pl = some (.tup rs)) (pr : Paired (LnAt H) rs Ls) (few : rs.length ≤ 6)
    (test : ∀ {σ' : L2.St} {H' : Hp} {v : V} {l : Ln} {R : Bool → Hp → Prop}, σ'[5]? = some (some v) → LnAt H' v l → l ∈ Ls → R (f l) H' → tt σ' H' R)
    (q : ∀ D H', H D = none → Same H H' → H' D = some (.lst (((Ls.filter f).map (·.t)).map V.str)) → Q (.ref D) H') : (tLc (iTup K (tVar 4)) (gName 5) tt (tOp (rIxT K) (tVar 5) (tC (.int 0))) [5]) σ H Q := by
  refine ⟨_, hσ, pl, rfl, ⟨_, SqT.of hp⟩, fun D hD => ?_⟩
  refine lc_acc walk_tup (fun i => ((((Ls.take i).filter f).map (·.t)).map V.str)) rfl hD (fun i hi => ?_) (fun H1 s1 => SqT.of (s1 _ _ hp)) (fun i x H1 H2 N hi s1 y keep skip => ?_) (fun H1 s1 hL => ?_)
  · have h1 : (1000 : Nat) < sizeLine := by decide
    have h2 := List.length_filter_le f (Ls.take i)
    have h3 := pr.length
    rw [List.length_map, List.length_map]
    rw [List.length_take] at h2
    omega
  · obtain ⟨rfl, hx⟩ := y
    obtain ⟨l, hl2, la⟩ := paired_get pr hx
    have la2 := la.same s1
    have g5 : ((wipe σ [5]).set 5 (some x))[5]? = some (some x) := List.getElem?_set_self (by rw [wipe_length, hl]; decide)
    refine ⟨?_, test g5 la2 (List.mem_of_getElem? hl2) ?_⟩
    · unfold wipe; simp [wipe]
    · cases e : f l with
      | true =>
        refine iteT (rd_t g5 la2 (keep _ _ (Same.refl _) ?_))
        rw [take_snoc hl2, List.filter_append, List.map_append, List.map_append]
        simp [e]
      | false =>
        refine iteF (skip _ (Same.refl _) ?_)
        rw [take_snoc hl2, List.filter_append]
        simp [e]
  · refine q D H1 hD s1 ?_
    rw [hL, pr.length, List.take_length]
/-- {column for line in lines for column in line[1]} -/
theorem sc_lines {P : Program} {w : World} {σ : L2.St} {pl : Addr} {rs : List V} {Ls : List Ln} {Q : VK} (hσ : σ[4]? = some (some (.ref pl))) (hl : σ.length = 7) (hp : H pl = some (.tup rs)) (pr : Paired (LnAt H) rs Ls) (few : rs.length ≤ 6) (small : ∀ l ∈ Ls, l.cs.length ≤ 4)
    (q : ∀ D H', H D = none → Same H H' → H' D = some (K1.SetS P w D (Ls.flatMap (·.cs))) → Q (.ref D) H') : (K1.tTexts2 P w (iTup K (tVar 4)) (gName 5) (iTup K (tOp (rIxT K) (tVar 5) (tC (.int 1)))) (gName 6) (tVar 6) [6, 5] [6]) σ H Q := by
  have pl' := pr.length
  have flat : ∀ n, n ≤ Ls.length → K1.flatT (fun i => match Ls[i]? with | some l => l.cs | none => []) n = (Ls.take n).flatMap (·.cs) := fun n => by
    induction n with
    | zero => intro _; rfl
    | succ n ih =>
      intro hn
      have e : Ls[n]? = some Ls[n] := List.getElem?_eq_getElem (by omega)
      rw [K1.flatT, ih (by omega), take_snoc e, List.flatMap_append, e]
      simp
  have bound : ∀ ms : List Ln, (∀ l ∈ ms, l.cs.length ≤ 4) → (ms.flatMap (·.cs)).length ≤ 4 * ms.length := fun ms => by
    induction ms with
    | nil => intro _; simp
    | cons m r ih =>
      intro hm
      have h1 := ih fun l hl => hm l (List.mem_cons_of_mem _ hl)
      have h2 := hm m List.mem_cons_self
      rw [List.flatMap_cons, List.length_append, List.length_cons]
      omega
  have hs : (4096 : Nat) = scanBound := rfl
  refine ⟨_, hσ, pl, rfl, ⟨_, SqT.of hp⟩, rs.length, _, _, fun i => match Ls[i]? with | some l => l.cs | none => [], walk_tup, ?_, fun D nD => ⟨fun H' off => SqT.of (off _ _ (ne_of_none hp nD) hp), fun i x H2 H3 hi off y => ?_, fun H' same hS => ?_⟩⟩
  · rw [pl', flat _ (Nat.le_refl _), List.take_length]
    have := bound Ls small
    omega
  · obtain ⟨rfl, hx⟩ := y
    obtain ⟨l, hl2, p, c, kv, rfl, f1, f2, f3⟩ := paired_get pr hx
    simp only [hl2]
    have cD : c ≠ D := ne_of_none f2 nD
    have e1 := off _ _ (ne_of_none f1 nD) f1
    have e2 := off _ _ cD f2
    have wk1 : Walk (Itt K c) l.cs.length (fun H => SqT K H c (l.cs.map V.str)) (YAt (l.cs.map V.str)) := by
      have w1 := walk_tup (K := K) (a := c) (xs := l.cs.map V.str)
      rwa [List.length_map] at w1
    have g5 : ((wipe σ [6, 5]).set 5 (some (V.ref p)))[5]? = some (some (V.ref p)) := List.getElem?_set_self (by rw [wipe_length, hl]; decide)
    refine ⟨by simp [wipe, List.set_comm], _, g5, p, _, _, _, rfl, rfl, SqT.of e1, at_of (j := 1) rfl rfl, c, rfl, ⟨_, SqT.of e2⟩, K1.Off.refl _ _, rfl, _, _, wk1, fun H' o2 => SqT.of (o2 _ _ cD e2), fun j y H6 H7 hj o2 y1 => ?_⟩
    obtain ⟨rfl, hy⟩ := y1
    rw [List.getElem?_map] at hy
    obtain ⟨z, ez, rfl⟩ := Option.map_eq_some_iff.mp hy
    refine ⟨by simp [wipe], _, List.getElem?_set_self ?_, K1.Off.refl _ _, rfl, z, rfl, ez⟩
    simp [wipe, hl]
  · rw [pl', flat _ (Nat.le_refl _), List.take_length] at hS
    exact q D H' nD same hS
theorem filt_eq {α : Type} (f : α → Bool) : ∀ xs : List α, xs.filterMap (fun l => if f l = true then some l else none) = xs.filter f
  | [] => rfl
  | x :: r => by
    rw [List.filterMap_cons, List.filter_cons, filt_eq f r]
    cases f x <;> rfl
/-- {line[0]: .. for line in lines if ..} -/
theorem dc_lines {tt : TT} {tv : TE} {σ : L2.St} {pl : Addr} {rs : List V} {Ls : List Ln} {Q : VK} (f : Ln → Bool) (R : Hp → V → Ln → Prop) (hσ : σ[4]? = some (some (.ref pl))) (hl : σ.length = 7) (hp : H pl = some (.tup rs)) (pr : Paired (LnAt H) rs Ls) (few : rs.length ≤ 6) (nod : (Ls.map (·.t)).Nodup)
    (stab : ∀ {D : Addr} {H H' : Hp} {v : V} {l : Ln}, R H v l → K1.Off D H H' → (∀ xs, H D ≠ some (.tup xs)) → R H' v l)
    (test : ∀ {σ' : L2.St} {H' : Hp} {v : V} {l : Ln} {R : Bool → Hp → Prop}, σ'[5]? = some (some v) → LnAt H' v l → l ∈ Ls → R (f l) H' → tt σ' H' R)
    (val : ∀ {σ' : L2.St} {H' : Hp} {v : V} {l : Ln} {Q' : VK}, σ'[5]? = some (some v) → LnAt H' v l → (∀ u, R H' u l → Q' u H') → tv σ' H' Q')
    (q : ∀ D H' kvs, H D = none → Same H H' → H' D = some (.dK kvs) → Paired (fun kv l => kv.1 = Sum.inr l.t ∧ R H' kv.2 l) kvs (Ls.filter f) → Q (.ref D) H') : (tDc (iTup K (tVar 4)) (gName 5) tt (tOp (rIxT K) (tVar 5) (tC (.int 0))) tv [5]) σ H Q := by
  have pl' := pr.length
  have all : K1.pickT (fun i => Ls[i]?.bind fun l => if f l = true then some l else none) rs.length = Ls.filter f := by
    rw [pl', K1.pickT_filter_all, filt_eq]
  refine ⟨_, hσ, pl, rfl, ⟨_, SqT.of hp⟩, fun D hD => ?_⟩
  refine K1.dc_rel walk_tup R (fun l => Sum.inr l.t) (fun i => Ls[i]?.bind fun l => if f l = true then some l else none) hD (Nat.lt_of_le_of_lt few (by decide)) ?_ (fun H H' v y r e o => stab r o fun xs z => by obtain ⟨a, e⟩ := e; rw [e] at z; cases z) (fun H1 s1 => SqT.of (s1 _ _ hp)) (fun i x H1 H2 N hi s1 lD y keep skip => ?_) (fun H1 kvs s1 hk pk => ?_)
  · rw [all, show (fun l : Ln => (Sum.inr l.t : Key)) = Sum.inr ∘ (fun l => l.t) from rfl, ← List.map_map]
    have n2 : ((Ls.filter f).map (·.t)).Nodup := List.Nodup.sublist (List.Sublist.map _ List.filter_sublist) nod
    exact List.pairwise_map.mpr (n2.imp fun h q => h (Sum.inr.inj q))
  · obtain ⟨rfl, hx⟩ := y
    obtain ⟨l, hl2, la⟩ := paired_get pr hx
    have la2 := la.same s1
    have g5 : ((wipe σ [5]).set 5 (some x))[5]? = some (some x) := List.getElem?_set_self (by rw [wipe_length, hl]; decide)
    refine ⟨by simp [wipe], test g5 la2 (List.mem_of_getElem? hl2) ?_⟩
    cases e : f l with
    | true => exact iteT (rd_t g5 la2 (val g5 la2 fun u hu => keep _ _ l (Same.refl _) (by rw [hl2]; simp [e]) hu))
    | false => exact iteF (skip _ (Same.refl _) (by rw [hl2]; simp [e]))
  · rw [all] at pk
    exact q D H1 kvs hD s1 hk pk
end
/-- self.f = an expression whose reading is told -/
theorem fld_seq {K : PySem.W.Frag} {ta tv : TE} {f : Str} {b : TS} {D : Ends} {σ : L2.St} {H : Hp} (h : tv σ H fun y H1 => ta σ H1 fun x H2 => ∃ a C dx fs, x = .ref a ∧ H2 a = some (.ins C dx fs) ∧ Cls K C ∧ NoAttr K C f ∧ fs.length < 1000 ∧ b D σ (upd H2 a (.ins C dx (putF f y fs)))) : (tSeq (sFld K ta tv f) b) D σ H := h
theorem fld_last {K : PySem.W.Frag} {ta tv : TE} {f : Str} {D : Ends} {σ : L2.St} {H : Hp} (h : tv σ H fun y H1 => ta σ H1 fun x H2 => ∃ a C dx fs, x = .ref a ∧ H2 a = some (.ins C dx fs) ∧ Cls K C ∧ NoAttr K C f ∧ fs.length < 1000 ∧ D.nx σ (upd H2 a (.ins C dx (putF f y fs)))) : (sFld K ta tv f) D σ H := h
theorem cb_one {r : List V → Hp → VK → Prop} {te : TE} {σ : L2.St} {H : Hp} {Q : VK} (h : te σ H fun x H1 => r [x] H1 Q) : (tCB r (tCons te tNil)) σ H Q := h
structure ClsS (K : PySem.W.Frag) (mg : Str → Option Value) (C : Addr) : Prop where
  cl : Cls K C
  nl : NoAttr K C "_lines"
  nt : NoAttr K C "_tables"
  nc : NoAttr K C "_columns"
  ng : NoAttr K C "_changing"
  nf : NoAttr K C "_fixed"
  ncb : NoAttr K C "_columns_by_table"
  nkb : NoAttr K C "_key_by_table"
  mgC : mg "Scene" = some (.ref C)
def spIni (C : Addr) : Sp := fun vs H Q _ => ∃ (x dx : Addr) (a b c : V) (mv st gv : Told), vs = [.ref x, a, b, c] ∧ H x = some (.ins C dx []) ∧ OptD H a mv ∧ OptD H b st ∧ OptD H c gv ∧ gv.length ≤ 1000 ∧ (∀ d, b = .ref d → c ≠ .ref d) ∧ ToldOk mv st gv ∧
  ∀ H', K1.Off x H H' → SceneAtN C H H' x (ordL (lnsOf mv st gv)) → Q .non H'
section
variable {P : Program} {w : World} {K : PySem.W.Frag} {mg : Str → Option Value} {base : Heap}
theorem ok_ini {f C : Addr} {fd : FuncData} (F : Fun K "__init__" "Scene.__init__" s_ini f fd) (T : NamesS mg) (TC : ClsS K mg C) (CL : Callee P w K mg base CX0 7 "_lines_told" ["changing", "fixed", "keyed"] spLT) : FnOk P w K mg base CX0 8 f fd ["self", "changing", "fixed", "keyed"] (spIni C) := by
  have nd := sc_ini.nd
  refine F.ok sc_ini (fun vs H Q E h => ?_) (fun cdv A outer s H vs Q E hr h => ?_)
  · obtain ⟨x, dx, a, b, c, mv, st, gv, rfl, _⟩ := h
    rfl
  · obtain ⟨x, dx, a, b, c, mv, st, gv, rfl, hx, ha, hb, hc, gl, hne, ok, k⟩ := h
    obtain ⟨tc, hchg⟩ := T.chg
    have hu64 : (A.deeper (envOfC "Scene.__init__" (defScope s_ini) s.heap.objs.size f cdv)).units + 64 < cLine := by have := hr.un; omega
    refine ⟨_, (pss_cons
    (ps_set (i := 4) nd rfl (Or.inl rfl) (pe_use CL hr rfl pass0 (pa_cons (pv 1) (pa_cons (pv 2) (pa_cons (pv 3) pa_nil)))))
    (pss_cons
    (ps_fld (pv 0) (pv 4) rfl)
    (pss_cons
    (ps_fld (pv 0) (pe_callTy call_tuple_of (by rfl) T.tuple (by decide +kernel) (pa_cons (pe_lc (own := [("line", 5)]) (g := gName 5) (te := tOp (rIxT K) (tVar 5) (tC (.int 0))) rfl nd (pi_tup (pv 4)) (blkOk_by (N := N_ini) (sc := defScope s_ini) (by decide +kernel)) (fun _ _ _ _ _ => (pg_name (i := 5) nd rfl (Or.inl rfl))) (fun _ _ _ _ _ => pts_nil) (fun _ _ _ _ _ => pe_ix ix_tup (pv 5) pe_int (fun _ _ => rfl))) pa_nil)) rfl)
    (pss_cons
    (ps_fld (pv 0) (pe_callTy call_tuple_of (by rfl) T.tuple (by decide +kernel) (pa_cons (pe_callB (K1.cr_sortedSS rfl) (by rfl) T.sorted (by decide +kernel) (pa_cons (K1.pe_texts2 (own := [("column", 6), ("line", 5)]) (vs1 := [6]) (te := tVar 6) (g := gName 5) (g1 := gName 6) (wi1 := iTup K (tOp (rIxT K) (tVar 5) (tC (.int 1)))) rfl nd (pi_tup (pv 4)) (blkOk_by (N := N_ini) (sc := defScope s_ini) (by decide +kernel)) (by decide) (fun _ _ _ _ _ => pg_name (i := 5) nd rfl (Or.inl rfl)) (fun _ _ _ _ _ => pi_tup (pe_ix ix_tup (pv 5) pe_int (fun _ _ => rfl))) (fun _ _ _ _ _ => pg_name (i := 6) nd rfl (Or.inl rfl)) (fun _ _ _ _ _ => pv 6)) pa_nil)) pa_nil)) rfl)
    (pss_cons
    (ps_fld (pv 0) (pe_callTy call_tuple_of (by rfl) T.tuple (by decide +kernel) (pa_cons (pe_lc (own := [("line", 5)]) (g := gName 5) (tt := tTest (tOp (rEqD K) (tOp (rIxT K) (tVar 5) (tC (.int 2))) (tC (.str "changing")))) (te := tOp (rIxT K) (tVar 5) (tC (.int 0))) rfl nd (pi_tup (pv 4)) (blkOk_by (N := N_ini) (sc := defScope s_ini) (by decide +kernel)) (fun _ _ _ _ _ => (pg_name (i := 5) nd rfl (Or.inl rfl))) (fun _ _ _ _ _ => pts_one (pt_cmpR (op_eqD hu64) (pe_ix ix_tup (pv 5) pe_int (fun _ _ => rfl)) (pe_glob (v := .str "changing") rfl hchg ⟨_, rfl⟩) (nomark _))) (fun _ _ _ _ _ => pe_ix ix_tup (pv 5) pe_int (fun _ _ => rfl))) pa_nil)) rfl)
    (pss_cons
    (ps_fld (pv 0) (pe_callTy call_tuple_of (by rfl) T.tuple (by decide +kernel) (pa_cons (pe_lc (own := [("line", 5)]) (g := gName 5) (tt := tTest (tOp (rNeD K) (tOp (rIxT K) (tVar 5) (tC (.int 2))) (tC (.str "changing")))) (te := tOp (rIxT K) (tVar 5) (tC (.int 0))) rfl nd (pi_tup (pv 4)) (blkOk_by (N := N_ini) (sc := defScope s_ini) (by decide +kernel)) (fun _ _ _ _ _ => (pg_name (i := 5) nd rfl (Or.inl rfl))) (fun _ _ _ _ _ => pts_one (pt_cmpR (op_neD hu64) (pe_ix ix_tup (pv 5) pe_int (fun _ _ => rfl)) (pe_glob (v := .str "changing") rfl hchg ⟨_, rfl⟩) (nomark _))) (fun _ _ _ _ _ => pe_ix ix_tup (pv 5) pe_int (fun _ _ => rfl))) pa_nil)) rfl)
    (pss_cons
    (ps_fld (pv 0) (pe_dc (own := [("line", 5)]) (g := gName 5) (tk := tOp (rIxT K) (tVar 5) (tC (.int 0))) (tv := tOp (rIxT K) (tVar 5) (tC (.int 1))) rfl nd (pi_tup (pv 4)) (blkOk_by (N := N_ini) (sc := defScope s_ini) (by decide +kernel)) (fun _ _ _ _ _ => (pg_name (i := 5) nd rfl (Or.inl rfl))) (fun _ _ _ _ _ => pts_nil) (fun _ _ _ _ _ => pe_ix ix_tup (pv 5) pe_int (fun _ _ => rfl)) (fun _ _ _ _ _ => pe_ix ix_tup (pv 5) pe_int (fun _ _ => rfl))) rfl)
    (pss_one
    (ps_fld (pv 0) (pe_dc (own := [("line", 5)]) (g := gName 5) (tt := tTest (tOp (rNeD K) (tOp (rIxT K) (tVar 5) (tC (.int 2))) (tC (.str "changing")))) (tk := tOp (rIxT K) (tVar 5) (tC (.int 0))) (tv := tOp (rIxT K) (tVar 5) (tC (.int 2))) rfl nd (pi_tup (pv 4)) (blkOk_by (N := N_ini) (sc := defScope s_ini) (by decide +kernel)) (fun _ _ _ _ _ => (pg_name (i := 5) nd rfl (Or.inl rfl))) (fun _ _ _ _ _ => pts_one (pt_cmpR (op_neD hu64) (pe_ix ix_tup (pv 5) pe_int (fun _ _ => rfl)) (pe_glob (v := .str "changing") rfl hchg ⟨_, rfl⟩) (nomark _))) (fun _ _ _ _ _ => pe_ix ix_tup (pv 5) pe_int (fun _ _ => rfl)) (fun _ _ _ _ _ => pe_ix ix_tup (pv 5) pe_int (fun _ _ => rfl))) rfl))))))))), ?_⟩
    have six := ok.ok.six
    have goodL : ∀ l ∈ ordL (lnsOf mv st gv), l.Ok := fun l hl => by
      obtain ⟨m, hm, rfl⟩ := List.mem_map.mp ((ordL_perm _).mem_iff.mp hl)
      exact (ok.ok.good m hm).srt
    have lenL : (ordL (lnsOf mv st gv)).length ≤ 6 := by rw [(ordL_perm _).length_eq, List.length_map]; exact six
    have nodL : ((ordL (lnsOf mv st gv)).map (·.t)).Nodup := by rw [ordL_ts]; exact (srtd_perm _).nodup_iff.mpr ok.ok.nd
    refine ⟨_, rfl, _, rfl, _, rfl, a, b, c, mv, st, gv, rfl, ha, hb, hc, gl, hne, ok, fun pl rs H1 s1 npl hpl pr => ?_⟩
    generalize ordL (lnsOf mv st gv) = Ls at pr goodL lenL nodL k
    have few : rs.length ≤ 6 := by rw [pr.length]; exact lenL
    have hx1 := s1 _ _ hx
    have o1 : K1.Off x H H1 := K1.Off.same s1
    have few64 : (Ls.flatMap (·.cs)).length < 64 := by
      have bound : ∀ ms : List Ln, (∀ l ∈ ms, l.cs.length ≤ 4) → (ms.flatMap (·.cs)).length ≤ 4 * ms.length := fun ms => by
        induction ms with
        | nil => intro _; simp
        | cons m r ih =>
          intro hm
          have h1 := ih fun l hl => hm l (List.mem_cons_of_mem _ hl)
          have h2 := hm m List.mem_cons_self
          rw [List.flatMap_cons, List.length_append, List.length_cons]
          omega
      have := bound Ls fun l hl => (goodL l hl).few
      omega
    clear ha hb hc gl hne ok six s1
    -- what stands is kept by a store at x
    have tup : ∀ {fs : List (Str × V)} {H H' : Hp} {p : Addr} {xs : List V}, H x = some (.ins C dx fs) → K1.Off x H H' → H p = some (.tup xs) → H' p = some (.tup xs) := fun h o e => o _ _ (fun z => by rw [z, h] at e; cases e) e
    have dik : ∀ {fs : List (Str × V)} {H H' : Hp} {p : Addr} {kvs : List (Key × V)}, H x = some (.ins C dx fs) → K1.Off x H H' → H p = some (.dK kvs) → H' p = some (.dK kvs) := fun h o e => o _ _ (fun z => by rw [z, h] at e; cases e) e
    have notup : ∀ {fs : List (Str × V)} {H : Hp}, H x = some (.ins C dx fs) → ∀ xs, H x ≠ some (.tup xs) := fun h xs z => by rw [h] at z; cases z
    -- self._lines
    refine ⟨_, rfl, _, rfl, x, C, dx, _, rfl, hx1, TC.cl, TC.nl, (by show 0 < 1000; decide), ?_⟩
    have o2 : K1.Off x H1 (upd H1 x (.ins C dx (putF "_lines" (.ref pl) []))) := (K1.Off.refl x H1).put
    have hx2 : (upd H1 x (.ins C dx (putF "_lines" (.ref pl) []))) x = some (.ins C dx (putF "_lines" (.ref pl) [])) := upd_same
    replace hpl := tup hx1 o2 hpl
    replace pr := Paired.mapP pr fun v l r => r.off o2 (notup hx1)
    replace o1 := o1.trans o2
    clear hx1 o2
    generalize upd H1 x _ = H2 at *
    -- self._tables
    try dsimp only
    refine fld_seq (cb_one ?_)
    refine lc_lines (K := K) (tt := tYes) (σ := [some (.ref x), some a, some b, some c, some (.ref pl), none, none]) (fun _ => true) rfl rfl hpl pr few (fun _ _ _ r => r) fun D G nD sG hD => ?_
    refine ⟨D, _, rfl, .inl ⟨SqL.of hD, fun pt np => ⟨_, rfl, x, C, dx, _, rfl, by rw [upd_ne (ne_of_none (sG _ _ hx2) np)]; exact sG _ _ hx2, TC.cl, TC.nt, (by show 1 < 1000; decide), ?_⟩⟩⟩
    have npx : pt ≠ x := (ne_of_none (sG _ _ hx2) np).symm
    have ox : K1.Off x H2 (upd (upd G pt (.tup (((Ls.filter fun _ => true).map (·.t)).map V.str))) x (.ins C dx (putF "_tables" (.ref pt) (putF "_lines" (.ref pl) [])))) := (K1.Off.same (Same.new sG np)).put
    have hx' : (upd (upd G pt (.tup (((Ls.filter fun _ => true).map (·.t)).map V.str))) x (.ins C dx (putF "_tables" (.ref pt) (putF "_lines" (.ref pl) [])))) x = some (.ins C dx (putF "_tables" (.ref pt) (putF "_lines" (.ref pl) []))) := upd_same
    replace hpl := tup hx2 ox hpl
    replace pr := Paired.mapP pr fun v l r => r.off ox (notup hx2)
    replace o1 := o1.trans ox
    have ht : (upd (upd G pt (.tup (((Ls.filter fun _ => true).map (·.t)).map V.str))) x (.ins C dx (putF "_tables" (.ref pt) (putF "_lines" (.ref pl) [])))) pt = some (.tup (((Ls.filter fun _ => true).map (·.t)).map V.str)) := (upd_ne npx).trans upd_same
    clear npx np nD hD sG
    clear ox hx2
    generalize upd (upd G pt (.tup (((Ls.filter fun _ => true).map (·.t)).map V.str))) x (.ins C dx (putF "_tables" (.ref pt) (putF "_lines" (.ref pl) []))) = H3 at *
    have hx3 := hx'
    clear hx'
    -- self._columns
    try dsimp only
    refine fld_seq (cb_one (cb_one ?_))
    refine sc_lines (P := P) (w := w) (K := K) (σ := [some (.ref x), some a, some b, some c, some (.ref pl), none, none]) rfl rfl hpl pr few (fun l hl => (goodL l hl).few) fun D G nD sG hD => ?_
    refine ⟨D, _, rfl, hD, few64, fun ys p0 ndy memy sty np0 => ?_⟩
    obtain rfl := uniqS_of ndy memy sty
    refine ⟨p0, _, rfl, .inl ⟨SqL.of upd_same, fun pc np => ?_⟩⟩
    have hxp : (upd G p0 (.lst ((uniqS (Ls.flatMap (·.cs))).map V.str))) x = _ := (show (upd G p0 (.lst ((uniqS (Ls.flatMap (·.cs))).map V.str))) x = G x from upd_ne (ne_of_none (sG _ _ hx3) np0)).trans (sG _ _ hx3)
    refine ⟨_, rfl, x, C, dx, _, rfl, (upd_ne (ne_of_none hxp np)).trans hxp, TC.cl, TC.nc, (by show 2 < 1000; decide), ?_⟩
    have npx : pc ≠ x := (ne_of_none hxp np).symm
    have ox : K1.Off x H3 (upd (upd (upd G p0 (.lst ((uniqS (Ls.flatMap (·.cs))).map V.str))) pc (.tup ((uniqS (Ls.flatMap (·.cs))).map V.str))) x (.ins C dx (putF "_columns" (.ref pc) (putF "_tables" (.ref pt) (putF "_lines" (.ref pl) []))))) := (K1.Off.same (Same.new (Same.new sG np0) np)).put
    have hx' : (upd (upd (upd G p0 (.lst ((uniqS (Ls.flatMap (·.cs))).map V.str))) pc (.tup ((uniqS (Ls.flatMap (·.cs))).map V.str))) x (.ins C dx (putF "_columns" (.ref pc) (putF "_tables" (.ref pt) (putF "_lines" (.ref pl) []))))) x = some (.ins C dx (putF "_columns" (.ref pc) (putF "_tables" (.ref pt) (putF "_lines" (.ref pl) [])))) := upd_same
    replace ht := tup hx3 ox ht
    replace hpl := tup hx3 ox hpl
    replace pr := Paired.mapP pr fun v l r => r.off ox (notup hx3)
    replace o1 := o1.trans ox
    have hc : (upd (upd (upd G p0 (.lst ((uniqS (Ls.flatMap (·.cs))).map V.str))) pc (.tup ((uniqS (Ls.flatMap (·.cs))).map V.str))) x (.ins C dx (putF "_columns" (.ref pc) (putF "_tables" (.ref pt) (putF "_lines" (.ref pl) []))))) pc = some (.tup ((colsOf Ls).map V.str)) := (upd_ne npx).trans upd_same
    clear npx np nD hD sG np0 ndy memy sty
    clear ox hx3
    generalize upd (upd (upd G p0 (.lst ((uniqS (Ls.flatMap (·.cs))).map V.str))) pc (.tup ((uniqS (Ls.flatMap (·.cs))).map V.str))) x (.ins C dx (putF "_columns" (.ref pc) (putF "_tables" (.ref pt) (putF "_lines" (.ref pl) [])))) = H4 at *
    have hx4 := hx'
    clear hx'
    -- self._changing
    try dsimp only
    refine fld_seq (cb_one ?_)
    refine lc_lines (K := K) (tt := (tTest (tOp (rEqD K) (tOp (rIxT K) (tVar 5) (tC (.int 2))) (tC (.str "changing"))))) (σ := [some (.ref x), some a, some b, some c, some (.ref pl), none, none]) isChg rfl rfl hpl pr few (fun h5 la ml q => rd_eq h5 la (goodL _ ml).key q) fun D G nD sG hD => ?_
    refine ⟨D, _, rfl, .inl ⟨SqL.of hD, fun pg np => ⟨_, rfl, x, C, dx, _, rfl, by rw [upd_ne (ne_of_none (sG _ _ hx4) np)]; exact sG _ _ hx4, TC.cl, TC.ng, (by show 3 < 1000; decide), ?_⟩⟩⟩
    have npx : pg ≠ x := (ne_of_none (sG _ _ hx4) np).symm
    have ox : K1.Off x H4 (upd (upd G pg (.tup (((Ls.filter isChg).map (·.t)).map V.str))) x (.ins C dx (putF "_changing" (.ref pg) (putF "_columns" (.ref pc) (putF "_tables" (.ref pt) (putF "_lines" (.ref pl) [])))))) := (K1.Off.same (Same.new sG np)).put
    have hx' : (upd (upd G pg (.tup (((Ls.filter isChg).map (·.t)).map V.str))) x (.ins C dx (putF "_changing" (.ref pg) (putF "_columns" (.ref pc) (putF "_tables" (.ref pt) (putF "_lines" (.ref pl) [])))))) x = some (.ins C dx (putF "_changing" (.ref pg) (putF "_columns" (.ref pc) (putF "_tables" (.ref pt) (putF "_lines" (.ref pl) []))))) := upd_same
    replace ht := tup hx4 ox ht
    replace hc := tup hx4 ox hc
    replace hpl := tup hx4 ox hpl
    replace pr := Paired.mapP pr fun v l r => r.off ox (notup hx4)
    replace o1 := o1.trans ox
    have hg : (upd (upd G pg (.tup (((Ls.filter isChg).map (·.t)).map V.str))) x (.ins C dx (putF "_changing" (.ref pg) (putF "_columns" (.ref pc) (putF "_tables" (.ref pt) (putF "_lines" (.ref pl) [])))))) pg = some (.tup ((chgOf Ls).map V.str)) := (upd_ne npx).trans upd_same
    clear npx np nD hD sG
    clear ox hx4
    generalize upd (upd G pg (.tup (((Ls.filter isChg).map (·.t)).map V.str))) x (.ins C dx (putF "_changing" (.ref pg) (putF "_columns" (.ref pc) (putF "_tables" (.ref pt) (putF "_lines" (.ref pl) []))))) = H5 at *
    have hx5 := hx'
    clear hx'
    -- self._fixed
    try dsimp only
    refine fld_seq (cb_one ?_)
    refine lc_lines (K := K) (tt := (tTest (tOp (rNeD K) (tOp (rIxT K) (tVar 5) (tC (.int 2))) (tC (.str "changing"))))) (σ := [some (.ref x), some a, some b, some c, some (.ref pl), none, none]) (fun l => !isChg l) rfl rfl hpl pr few (fun h5 la ml q => rd_ne h5 la (goodL _ ml).key q) fun D G nD sG hD => ?_
    refine ⟨D, _, rfl, .inl ⟨SqL.of hD, fun pf np => ⟨_, rfl, x, C, dx, _, rfl, by rw [upd_ne (ne_of_none (sG _ _ hx5) np)]; exact sG _ _ hx5, TC.cl, TC.nf, (by show 4 < 1000; decide), ?_⟩⟩⟩
    have npx : pf ≠ x := (ne_of_none (sG _ _ hx5) np).symm
    have ox : K1.Off x H5 (upd (upd G pf (.tup (((Ls.filter fun l => !isChg l).map (·.t)).map V.str))) x (.ins C dx (putF "_fixed" (.ref pf) (putF "_changing" (.ref pg) (putF "_columns" (.ref pc) (putF "_tables" (.ref pt) (putF "_lines" (.ref pl) []))))))) := (K1.Off.same (Same.new sG np)).put
    have hx' : (upd (upd G pf (.tup (((Ls.filter fun l => !isChg l).map (·.t)).map V.str))) x (.ins C dx (putF "_fixed" (.ref pf) (putF "_changing" (.ref pg) (putF "_columns" (.ref pc) (putF "_tables" (.ref pt) (putF "_lines" (.ref pl) []))))))) x = some (.ins C dx (putF "_fixed" (.ref pf) (putF "_changing" (.ref pg) (putF "_columns" (.ref pc) (putF "_tables" (.ref pt) (putF "_lines" (.ref pl) [])))))) := upd_same
    replace ht := tup hx5 ox ht
    replace hc := tup hx5 ox hc
    replace hg := tup hx5 ox hg
    replace hpl := tup hx5 ox hpl
    replace pr := Paired.mapP pr fun v l r => r.off ox (notup hx5)
    replace o1 := o1.trans ox
    have hf : (upd (upd G pf (.tup (((Ls.filter fun l => !isChg l).map (·.t)).map V.str))) x (.ins C dx (putF "_fixed" (.ref pf) (putF "_changing" (.ref pg) (putF "_columns" (.ref pc) (putF "_tables" (.ref pt) (putF "_lines" (.ref pl) []))))))) pf = some (.tup ((fixOf Ls).map V.str)) := (upd_ne npx).trans upd_same
    clear npx np nD hD sG
    clear ox hx5
    generalize upd (upd G pf (.tup (((Ls.filter fun l => !isChg l).map (·.t)).map V.str))) x (.ins C dx (putF "_fixed" (.ref pf) (putF "_changing" (.ref pg) (putF "_columns" (.ref pc) (putF "_tables" (.ref pt) (putF "_lines" (.ref pl) [])))))) = H6 at *
    have hx6 := hx'
    clear hx'
    -- self._columns_by_table
    try dsimp only
    refine fld_seq ?_
    refine dc_lines (K := K) (tt := tYes) (tv := (tOp (rIxT K) (tVar 5) (tC (.int 1)))) (σ := [some (.ref x), some a, some b, some c, some (.ref pl), none, none]) (fun _ => true) ColR rfl rfl hpl pr few nodL (fun r o h => ColR.off r o h) (fun _ _ _ r => r) (fun h5 la q => rd_c h5 la fun c hc => q _ ⟨c, rfl, hc⟩) fun dc G kvs nD sG hD pk => ?_
    refine ⟨_, rfl, x, C, dx, _, rfl, sG _ _ hx6, TC.cl, TC.ncb, (by show 5 < 1000; decide), ?_⟩
    have ndx : dc ≠ x := fun z => by rw [z, sG _ _ hx6] at hD; cases hD
    have fdc : H dc = none := by
      cases e : H dc with
      | none => rfl
      | some o => rw [o1 _ _ ndx e] at nD; cases nD
    have ox : K1.Off x H6 (upd G x (.ins C dx (putF "_columns_by_table" (.ref dc) (putF "_fixed" (.ref pf) (putF "_changing" (.ref pg) (putF "_columns" (.ref pc) (putF "_tables" (.ref pt) (putF "_lines" (.ref pl) [])))))))) := (K1.Off.same sG).put
    have hx' : (upd G x (.ins C dx (putF "_columns_by_table" (.ref dc) (putF "_fixed" (.ref pf) (putF "_changing" (.ref pg) (putF "_columns" (.ref pc) (putF "_tables" (.ref pt) (putF "_lines" (.ref pl) [])))))))) x = some (.ins C dx (putF "_columns_by_table" (.ref dc) (putF "_fixed" (.ref pf) (putF "_changing" (.ref pg) (putF "_columns" (.ref pc) (putF "_tables" (.ref pt) (putF "_lines" (.ref pl) []))))))) := upd_same
    replace ht := tup hx6 ox ht
    replace hc := tup hx6 ox hc
    replace hg := tup hx6 ox hg
    replace hf := tup hx6 ox hf
    replace hpl := tup hx6 ox hpl
    replace pr := Paired.mapP pr fun v l r => r.off ox (notup hx6)
    replace o1 := o1.trans ox
    have hb : ∃ kvs, (upd G x (.ins C dx (putF "_columns_by_table" (.ref dc) (putF "_fixed" (.ref pf) (putF "_changing" (.ref pg) (putF "_columns" (.ref pc) (putF "_tables" (.ref pt) (putF "_lines" (.ref pl) [])))))))) dc = some (.dK kvs) ∧ Paired (fun kv l => kv.1 = Sum.inr l.t ∧ ColR (upd G x (.ins C dx (putF "_columns_by_table" (.ref dc) (putF "_fixed" (.ref pf) (putF "_changing" (.ref pg) (putF "_columns" (.ref pc) (putF "_tables" (.ref pt) (putF "_lines" (.ref pl) [])))))))) kv.2 l) kvs (Ls.filter fun _ => true) := ⟨kvs, by rw [upd_ne ndx]; exact hD, Paired.mapP pk fun kv l r => ⟨r.1, ColR.off r.2 (K1.Off.refl x G).put (notup (sG _ _ hx6))⟩⟩
    clear ndx nD hD pk
    clear ox hx6
    generalize upd G x (.ins C dx (putF "_columns_by_table" (.ref dc) (putF "_fixed" (.ref pf) (putF "_changing" (.ref pg) (putF "_columns" (.ref pc) (putF "_tables" (.ref pt) (putF "_lines" (.ref pl) []))))))) = H7 at *
    have hx7 := hx'
    clear hx'
    -- self._key_by_table
    try dsimp only
    refine fld_last ?_
    refine dc_lines (K := K) (tt := (tTest (tOp (rNeD K) (tOp (rIxT K) (tVar 5) (tC (.int 2))) (tC (.str "changing"))))) (tv := (tOp (rIxT K) (tVar 5) (tC (.int 2)))) (σ := [some (.ref x), some a, some b, some c, some (.ref pl), none, none]) (fun l => !isChg l) KeyR rfl rfl hpl pr few nodL (fun r o h => KdAt.off r o h) (fun h5 la ml q => rd_ne h5 la (goodL _ ml).key q) (fun h5 la q => rd_k h5 la fun kv hk => q _ hk) fun dk G kvs nD sG hD pk => ?_
    refine ⟨_, rfl, x, C, dx, _, rfl, sG _ _ hx7, TC.cl, TC.nkb, (by show 6 < 1000; decide), ?_⟩
    have ndx : dk ≠ x := fun z => by rw [z, sG _ _ hx7] at hD; cases hD
    have fdk : H dk = none := by
      cases e : H dk with
      | none => rfl
      | some o => rw [o1 _ _ ndx e] at nD; cases nD
    have ox : K1.Off x H7 (upd G x (.ins C dx (putF "_key_by_table" (.ref dk) (putF "_columns_by_table" (.ref dc) (putF "_fixed" (.ref pf) (putF "_changing" (.ref pg) (putF "_columns" (.ref pc) (putF "_tables" (.ref pt) (putF "_lines" (.ref pl) []))))))))) := (K1.Off.same sG).put
    have hx' : (upd G x (.ins C dx (putF "_key_by_table" (.ref dk) (putF "_columns_by_table" (.ref dc) (putF "_fixed" (.ref pf) (putF "_changing" (.ref pg) (putF "_columns" (.ref pc) (putF "_tables" (.ref pt) (putF "_lines" (.ref pl) []))))))))) x = some (.ins C dx (putF "_key_by_table" (.ref dk) (putF "_columns_by_table" (.ref dc) (putF "_fixed" (.ref pf) (putF "_changing" (.ref pg) (putF "_columns" (.ref pc) (putF "_tables" (.ref pt) (putF "_lines" (.ref pl) [])))))))) := upd_same
    replace ht := tup hx7 ox ht
    replace hc := tup hx7 ox hc
    replace hg := tup hx7 ox hg
    replace hf := tup hx7 ox hf
    obtain ⟨kb, kb1, kb2⟩ := hb
    replace kb1 := dik hx7 ox kb1
    replace kb2 := Paired.mapP kb2 fun kv l r => (⟨r.1, ColR.off r.2 ox (notup hx7)⟩ : kv.1 = Sum.inr l.t ∧ ColR _ kv.2 l)
    replace hpl := tup hx7 ox hpl
    replace pr := Paired.mapP pr fun v l r => r.off ox (notup hx7)
    replace o1 := o1.trans ox
    have hk : ∃ kvs, (upd G x (.ins C dx (putF "_key_by_table" (.ref dk) (putF "_columns_by_table" (.ref dc) (putF "_fixed" (.ref pf) (putF "_changing" (.ref pg) (putF "_columns" (.ref pc) (putF "_tables" (.ref pt) (putF "_lines" (.ref pl) []))))))))) dk = some (.dK kvs) ∧ Paired (fun kv l => kv.1 = Sum.inr l.t ∧ KeyR (upd G x (.ins C dx (putF "_key_by_table" (.ref dk) (putF "_columns_by_table" (.ref dc) (putF "_fixed" (.ref pf) (putF "_changing" (.ref pg) (putF "_columns" (.ref pc) (putF "_tables" (.ref pt) (putF "_lines" (.ref pl) []))))))))) kv.2 l) kvs (Ls.filter fun l => !isChg l) := ⟨kvs, by rw [upd_ne ndx]; exact hD, Paired.mapP pk fun kv l r => ⟨r.1, KdAt.off r.2 (K1.Off.refl x G).put (notup (sG _ _ hx7))⟩⟩
    clear ndx nD hD pk
    clear ox hx7
    generalize upd G x (.ins C dx (putF "_key_by_table" (.ref dk) (putF "_columns_by_table" (.ref dc) (putF "_fixed" (.ref pf) (putF "_changing" (.ref pg) (putF "_columns" (.ref pc) (putF "_tables" (.ref pt) (putF "_lines" (.ref pl) [])))))))) = H8 at *
    have hx8 := hx'
    clear hx'
    have ftrue : (Ls.filter fun _ => true) = Ls := List.filter_eq_self.mpr fun _ _ => rfl
    rw [ftrue] at ht kb2
    have fin : SceneAtN C H H8 x Ls := ⟨dx, pl, pt, pc, pg, pf, dc, dk, hx8, ⟨⟨rs, hpl, pr⟩, ht, hc, hg, hf, ⟨kb, kb1, kb2⟩, hk⟩, fdc, fdk⟩
    exact k _ o1 fin
end
end B2_

/-! ## C5 -/
set_option Elab.async false
set_option linter.all false
set_option maxRecDepth 100000
set_option maxHeartbeats 4000000
namespace K1
open PySem PySem.Spec PyProof.Rows L2
/-! ### name = {k: v for ..} on one line, the name a local -/
section
variable {X : Cx}
theorem ps_setDc {i : Nat} {y : Str} {py : Pos} {kx vx tg iter : Expr} {ifs : List Expr} {scope : Scope} {own : List (Str × Nat)} {pos spos : Pos} {wi : TI} {g : TG} {tt : TT} {tk tv : TE} (calm : X.calm = true) (nod : X.N.Nodup) (hy : X.N[i]? = some y) (loc : X.env.scope.names.lookup y = some .local)
    (used : swapsWith (.DictComp kx vx [⟨tg, iter, ifs, 0⟩] scope pos) (some (.Name y py)) spos.line X.env = pure true) (hi : PI X tg iter wi) (ok : BlkOk X.N X.env.scope scope own)
    (hg : ∀ s0 H0 C cl fp, PG (X.blk s0 H0 scope (compEnvC scope cl C X.env) fp) tg g) (ht : ∀ s0 H0 C cl fp, PTs (X.blk s0 H0 scope (compEnvC scope cl C X.env) fp) ifs tt)
    (hk : ∀ s0 H0 C cl fp, PE (X.blk s0 H0 scope (compEnvC scope cl C X.env) fp) kx tk) (hv : ∀ s0 H0 C cl fp, PE (X.blk s0 H0 scope (compEnvC scope cl C X.env) fp) vx tv) (fold : ∀ x, foldedSetIterable iter X.env x = pure x := by intro _; rfl) :
    PS X (.Assign [.Name y py] (.DictComp kx vx [⟨tg, iter, ifs, 0⟩] scope pos) spos) (tAsg (tDc wi g tt tk tv (own.map (·.2))) (gName i)) := by
  refine ⟨fun pins s σ H D I h => ?_⟩
  rw [exec_Assign_Name_used _ _ _ _ used]
  refine wpAny_bind (wpAny_standAt (wpAny_bind ?_))
  show wpAny _ X.A (do let _ ← comprehension (.DictComp kx vx [⟨tg, iter, ifs, 0⟩] scope pos) scope X.env (firstIterPos [⟨tg, iter, ifs, 0⟩] pos) newDict false (eval iter X.env) (some (assign (.Name y py) X.env))) _ _ s
  refine wpAny_bind (thn (dc_core (Qf := fun _ s' => SP X pins D .next s') calm nod I hi ok hg ht hk hv fold (show tDc wi g tt tk tv (own.map (·.2)) σ H (fun x H1 => gName i x σ H1 D.nx) from h) fun L C s' m H' I' q hn far => ?_) fun _ s' done => wpAny_pure (wpAny_pure done))
  show wpAny _ _ (assign (.Name y py) X.env (.ref L)) _ _ _
  obtain ⟨f0, f1, f2, f3, f4, f5⟩ := far
  refine wpAny_assign_Name (store_ok2 (v := V.ref L) I' nod hy (.inl loc) rfl (fun s2 I2 stored => ?_) (.inr loc))
  obtain ⟨a, sb, at_⟩ := stored
  have apart : C ≠ a := by
    rcases at_ with z | z
    · rw [z]; exact f1
    · exact fun e => f4 y a z e.symm
  exact ⟨m, hn.sameBut sb apart, fun h3 sb3 => ⟨_, H', I2.turned (t' := s2.toks) (fun b o hb e => (sb3.2 b hb).trans e) f0 f1 f3 f4 f5, q⟩⟩
theorem sw_trueD {kx vx : Expr} {gs : List Comprehension} {scope : Scope} {pos py : Pos} {y : Str} {l : Nat} {env : Env} (hk : env.scope.kind = .function) (hy : env.scope.names.lookup y = some .local) (hl : (py.line == pos.line) = true)
    (ha : (scope.names.any fun (n, k) => n == y && (k == .local || k == .cell)) = false) : swapsWith (.DictComp kx vx gs scope pos) (some (.Name y py)) l env = pure true := by
  have e1 : env.kindOf y = some .local := hy
  have e2 : env.blockKind = .function := by unfold Env.blockKind; rw [hk]; rfl
  unfold swapsWith
  simp only [e2, e1, ha, Expr.pos, hl]
  rfl
end
end K1

/-! ## B2_13 -/
set_option Elab.async false
set_option linter.all false
set_option maxRecDepth 100000
set_option maxHeartbeats 8000000
namespace B2_
open PySem PySem.Spec PyProof.Rows L2
/-! ### _dicts_of -/
def keyO (l : Ln) : Option (List Str) := match l.k with | .key ks => some ks | _ => none
def mvOf (Ls : List Ln) : Told := (Ls.filter isChg).map fun l => (l.t, l.cs)
def stOf (Ls : List Ln) : Told := (Ls.filter fun l => !isChg l).map fun l => (l.t, l.cs)
def gvOf (Ls : List Ln) : Told := Ls.filterMap fun l => (keyO l).map fun ks => (l.t, ks)
theorem gv_lookup : ∀ {Ls : List Ln}, (Ls.map (·.t)).Nodup → ∀ {l : Ln}, l ∈ Ls → (gvOf Ls).lookup l.t = keyO l
  | [], _, l, h => by cases h
  | m :: r, n, l, h => by
    rw [List.map_cons, List.nodup_cons] at n
    have out : ∀ x ∈ r, x.t ≠ m.t := fun x hx q => n.1 (List.mem_map.mpr ⟨x, hx, q⟩)
    have skip : (gvOf r).lookup m.t = none := by
      rw [List.lookup_eq_none_iff]
      intro p hp
      obtain ⟨x, hx, e⟩ := List.mem_filterMap.mp hp
      obtain ⟨ks, _, rfl⟩ := Option.map_eq_some_iff.mp e
      simpa using fun q => out x hx q.symm
    have e : gvOf (m :: r) = ((keyO m).map fun ks => (m.t, ks)).toList ++ gvOf r := by
      unfold gvOf
      rw [List.filterMap_cons]
      cases keyO m <;> rfl
    rw [e]
    rcases List.mem_cons.mp h with rfl | h
    · cases q : keyO l with
      | none => exact skip
      | some ks => simp
    · have ih := gv_lookup n.2 h
      have ne := out l h
      cases q : keyO m with
      | none => exact ih
      | some ks =>
        have q2 : (l.t == m.t) = false := by simpa using ne
        simp only [Option.map_some, Option.toList_some, List.singleton_append, List.lookup_cons, q2]
        exact ih
theorem lns_back {Ls : List Ln} (n : (Ls.map (·.t)).Nodup) : lnsOf (mvOf Ls) (stOf Ls) (gvOf Ls) = Ls.filter isChg ++ Ls.filter fun l => !isChg l := by
  unfold lnsOf mvOf stOf
  rw [List.map_map, List.map_map]
  congr 1
  · refine (List.map_congr_left fun l hl => ?_).trans (List.map_id _)
    have h := (List.mem_filter.mp hl).2
    obtain ⟨t, cs, k⟩ := l
    cases k with
    | chg => rfl
    | fix => cases h
    | key ks => cases h
  · refine (List.map_congr_left fun l hl => ?_).trans (List.map_id _)
    have h := List.mem_filter.mp hl
    have g := gv_lookup n h.1
    show (⟨l.t, l.cs, kdOf (gvOf Ls) l.t⟩ : Ln) = l
    unfold kdOf
    rw [g]
    obtain ⟨t, cs, k⟩ := l
    cases k with
    | chg => exact absurd h.2 (by simp [isChg, isC])
    | fix => rfl
    | key ks => rfl
theorem ordL_srt {ls : List Ln} {l : Ln} (h : l ∈ ordL ls) : l.srt = l := by
  obtain ⟨m, _, rfl⟩ := List.mem_map.mp ((ordL_perm ls).mem_iff.mp h)
  exact m.srt_srt
theorem ordL_nd {ls : List Ln} (n : (ls.map (·.t)).Nodup) : ((ordL ls).map (·.t)).Nodup := by rw [ordL_ts]; exact (srtd_perm _).nodup_iff.mpr n
theorem ordL_back {ls : List Ln} (n : (ls.map (·.t)).Nodup) : ordL (lnsOf (mvOf (ordL ls)) (stOf (ordL ls)) (gvOf (ordL ls))) = ordL ls := by
  have n1 := ordL_nd n
  rw [lns_back n1]
  have pm : ((ordL ls).filter isChg ++ (ordL ls).filter fun l => !isChg l).Perm (ordL ls) := List.filter_append_perm isChg (ordL ls)
  refine (ordL_of ((pm.map (·.t)).nodup_iff.mpr n1) ?_ (ordL_pair ls)).symm
  have fixed : (((ordL ls).filter isChg ++ (ordL ls).filter fun l => !isChg l).map Ln.srt) = ((ordL ls).filter isChg ++ (ordL ls).filter fun l => !isChg l) :=
    (List.map_congr_left fun l hl => ordL_srt (pm.mem_iff.mp hl)).trans (List.map_id _)
  rw [fixed]
  exact pm.symm
theorem ordL_ok {ls : List Ln} (h : LnsOk ls) : LnsOk (ordL ls) where
  good := fun l hl => by
    obtain ⟨m, hm, rfl⟩ := List.mem_map.mp ((ordL_perm _).mem_iff.mp hl)
    exact (h.good m hm).srt
  nd := ordL_nd h.nd
  one := by rw [(ordL_perm _).length_eq, List.length_map]; exact h.one
  six := by rw [(ordL_perm _).length_eq, List.length_map]; exact h.six
  cols := by
    obtain ⟨C, few, inC⟩ := h.cols
    refine ⟨C, few, fun l hl z hz => ?_⟩
    obtain ⟨m, hm, rfl⟩ := List.mem_map.mp ((ordL_perm _).mem_iff.mp hl)
    exact inC m hm z (mem_srtd.mp hz)
theorem told_back {ls : List Ln} (h : LnsOk ls) : ToldOk (mvOf (ordL ls)) (stOf (ordL ls)) (gvOf (ordL ls)) := by
  have n1 := ordL_nd h.nd
  have pm : ((ordL ls).filter isChg ++ (ordL ls).filter fun l => !isChg l).Perm (ordL ls) := List.filter_append_perm isChg (ordL ls)
  have o := ordL_ok h
  refine ⟨?_, fun e he => ?_⟩
  · rw [lns_back n1]
    refine ⟨fun l hl => o.good l (pm.mem_iff.mp hl), (pm.map (·.t)).nodup_iff.mpr n1, by rw [pm.length_eq]; exact o.one, by rw [pm.length_eq]; exact o.six, ?_⟩
    obtain ⟨C, few, inC⟩ := o.cols
    exact ⟨C, few, fun l hl => inC l (pm.mem_iff.mp hl)⟩
  · obtain ⟨l, hl, e1⟩ := List.mem_filterMap.mp he
    obtain ⟨ks, q, rfl⟩ := Option.map_eq_some_iff.mp e1
    refine List.mem_map.mpr ⟨(l.t, l.cs), List.mem_map.mpr ⟨l, List.mem_filter.mpr ⟨hl, ?_⟩, rfl⟩, rfl⟩
    unfold isChg
    unfold keyO at q
    cases e : l.k with
    | chg => rw [e] at q; cases q
    | fix => rfl
    | key ks => rfl
theorem filtm {α β : Type} (p : α → Bool) (g : α → β) : ∀ xs : List α, xs.filterMap (fun l => if p l = true then some (g l) else none) = (xs.filter p).map g
  | [] => rfl
  | x :: r => by
    rw [List.filterMap_cons, List.filter_cons, filtm p g r]
    cases p x <;> rfl
abbrev s_do : Stmt := topS 17
abbrev N_do : List Str := ["lines", "checked", "changing", "fixed", "keyed", "table", "columns", "key"]
theorem sc_do : FnScope N_do ["lines"] (defScope s_do) := ⟨rfl, rfl, rfl, by decide +kernel, rfl, by decide +kernel, by decide +kernel⟩
def spDO : Sp := fun vs H Q _ => ∃ (a : Addr) (ls : List Ln), vs = [.ref a] ∧ LinesAt H a ls ∧ LnsOk ls ∧ ∀ p d1 d2 d3 H', Same H H' → H' p = some (.tup [.ref d1, .ref d2, .ref d3]) → d2 ≠ d3 → TupD H' d1 (mvOf (ordL ls)) → TupD H' d2 (stOf (ordL ls)) → TupD H' d3 (gvOf (ordL ls)) → Q (.ref p) H'
section
variable {K : PySem.W.Frag} {H : Hp}
/-- {table: .. for table, columns, key in checked if ..} -/
theorem dc3 {tt : TT} {tv : TE} {σ : L2.St} {pc : Addr} {rs : List V} {Ls : List Ln} {Q : VK} (f : Ln → Option (Str × List Str)) (ft : ∀ l e, f l = some e → e.1 = l.t) (hσ : σ[1]? = some (some (.ref pc))) (hl : σ.length = 8) (hp : H pc = some (.tup rs)) (pr : Paired (LnAt H) rs Ls) (few : rs.length ≤ 6) (nod : (Ls.map (·.t)).Nodup)
    (test : ∀ {σ' : L2.St} {H' : Hp} {l : Ln} {c : Addr} {kv : V} {R : Bool → Hp → Prop}, σ'[6]? = some (some (.ref c)) → σ'[7]? = some (some kv) → H' c = some (.tup (l.cs.map V.str)) → KdAt H' kv l.k → l ∈ Ls → R (f l).isSome H' → tt σ' H' R)
    (val : ∀ {σ' : L2.St} {H' : Hp} {l : Ln} {c : Addr} {kv : V} {e : Str × List Str} {Q' : VK}, σ'[6]? = some (some (.ref c)) → σ'[7]? = some (some kv) → H' c = some (.tup (l.cs.map V.str)) → KdAt H' kv l.k → f l = some e → (∀ u, ColsOf H' u e → Q' u H') → tv σ' H' Q')
    (q : ∀ D H', H D = none → Same H H' → TupD H' D (Ls.filterMap f) → Q (.ref D) H') : (tDc (iTup K (tVar 1)) (gTup K 3 (gCons (gName 5) (gCons (gName 6) (gCons (gName 7) gNil)))) tt (tVar 5) tv [5, 6, 7]) σ H Q := by
  have pl' := pr.length
  have all : K1.pickT (fun i => Ls[i]?.bind f) rs.length = Ls.filterMap f := by rw [pl', K1.pickT_filter_all]
  obtain ⟨s0, s1', s2', s3', s4', s5', s6', s7', rfl⟩ : ∃ a b c d e f g h, σ = [a, b, c, d, e, f, g, h] := by
    match σ, hl with
    | [a, b, c, d, e, f, g, h], _ => exact ⟨a, b, c, d, e, f, g, h, rfl⟩
  refine ⟨_, hσ, pc, rfl, ⟨_, SqT.of hp⟩, fun D hD => ?_⟩
  refine K1.dc_rel walk_tup ColsOf (fun e => Sum.inr e.1) (fun i => Ls[i]?.bind f) hD (Nat.lt_of_le_of_lt few (by decide)) ?_ (fun H H' v y r e o => ColsOf.off r o fun xs z => by obtain ⟨a, e⟩ := e; rw [e] at z; cases z) (fun H1 s1 => SqT.of (s1 _ _ hp)) (fun i x H1 H2 N hi s1 lD y keep skip => ?_) (fun H1 kvs s1 hk pk => ?_)
  · rw [all, show (fun e : Str × List Str => (Sum.inr e.1 : Key)) = Sum.inr ∘ (fun e => e.1) from rfl, ← List.map_map]
    have n2 : ((Ls.filterMap f).map (·.1)).Nodup := by
      have e : (Ls.filterMap f).map (·.1) = (Ls.filter fun l => (f l).isSome).map (·.t) := by
        clear nod all pl' pr few hp hσ hD q val test
        induction Ls with
        | nil => rfl
        | cons l r ih =>
          cases ef : f l with
          | none => simp [List.filterMap_cons, List.filter_cons, ef, ih]
          | some e => simp [List.filterMap_cons, List.filter_cons, ef, ih, ft l e ef]
      rw [e]
      exact List.Nodup.sublist (List.Sublist.map _ List.filter_sublist) nod
    exact List.pairwise_map.mpr (n2.imp fun h q => h (Sum.inr.inj q))
  · obtain ⟨rfl, hx⟩ := y
    obtain ⟨l, hl2, la⟩ := paired_get pr hx
    obtain ⟨p, c, kv, rfl, e1, e2, e3⟩ := la.same s1
    refine ⟨p, _, rfl, SqT.of e1, rfl, _, _, rfl, _, _, rfl, _, _, rfl, rfl, rfl, test rfl rfl e2 e3 (List.mem_of_getElem? hl2) ?_⟩
    cases ef : f l with
    | none => exact iteF (skip _ (Same.refl _) (by rw [hl2]; exact ef))
    | some e =>
      refine iteT ⟨_, rfl, val rfl rfl e2 e3 ef fun u hu => ?_⟩
      have k := keep _ u e (Same.refl _) (by rw [hl2]; exact ef) hu
      obtain ⟨a, kk, h1, h2⟩ := k
      exact ⟨a, kk, by rw [← h1]; show V.str l.t = V.str e.1; rw [ft l e ef], h2⟩
  · rw [all] at pk
    exact q D H1 hD s1 ⟨kvs, hk, pk⟩
end
section
variable {P : Program} {w : World} {K : PySem.W.Frag} {mg : Str → Option Value} {base : Heap}
theorem ok_do {f : Addr} {fd : FuncData} (F : Fun K "_dicts_of" "_dicts_of" s_do f fd) (T : NamesS mg) (C6 : Callee P w K mg base CX0 6 "_checked" ["lines"] spChk) : FnOk P w K mg base CX0 7 f fd ["lines"] spDO := by
  have nd := sc_do.nd
  refine F.ok sc_do (fun vs H Q E h => ?_) (fun cdv A outer s H vs Q E hr h => ?_)
  · obtain ⟨a, ls, rfl, _⟩ := h
    rfl
  · obtain ⟨a, ls, rfl, la, ok, k⟩ := h
    obtain ⟨tc, hchg⟩ := T.chg
    have hu64 : (A.deeper (envOfC "_dicts_of" (defScope s_do) s.heap.objs.size f cdv)).units + 64 < cLine := by have := hr.un; omega
    refine ⟨_, (pss_cons
    (ps_set (i := 1) nd rfl (Or.inl rfl) (pe_use C6 hr rfl pass0 (pa_cons (pv 0) pa_nil)))
    (pss_cons
    (K1.ps_setDc (i := 2) (own := [("table", 5), ("columns", 6), ("key", 7)]) (g := gTup K 3 (gCons (gName 5) (gCons (gName 6) (gCons (gName 7) gNil)))) (tt := tTest (tOp (rEqD K) (tVar 7) (tC (.str "changing")))) rfl nd rfl rfl (K1.sw_trueD rfl rfl rfl (by decide +kernel)) (pi_tup (pv 1)) (blkOk_by (N := N_do) (sc := defScope s_do) (by decide +kernel)) (fun _ _ _ _ _ => pg_tup rfl (pgs_cons (pg_name (i := 5) nd rfl (Or.inl rfl)) (pgs_cons (pg_name (i := 6) nd rfl (Or.inl rfl)) (pgs_cons (pg_name (i := 7) nd rfl (Or.inl rfl)) pgs_nil)))) (fun _ _ _ _ _ => pts_one (pt_cmpR (op_eqD hu64) (pv 7) (pe_glob (v := .str "changing") rfl hchg ⟨_, rfl⟩) (nomark _))) (fun _ _ _ _ _ => pv 5) (fun _ _ _ _ _ => pv 6))
    (pss_cons
    (K1.ps_setDc (i := 3) (own := [("table", 5), ("columns", 6), ("key", 7)]) (g := gTup K 3 (gCons (gName 5) (gCons (gName 6) (gCons (gName 7) gNil)))) (tt := tTest (tOp (rNeD K) (tVar 7) (tC (.str "changing")))) rfl nd rfl rfl (K1.sw_trueD rfl rfl rfl (by decide +kernel)) (pi_tup (pv 1)) (blkOk_by (N := N_do) (sc := defScope s_do) (by decide +kernel)) (fun _ _ _ _ _ => pg_tup rfl (pgs_cons (pg_name (i := 5) nd rfl (Or.inl rfl)) (pgs_cons (pg_name (i := 6) nd rfl (Or.inl rfl)) (pgs_cons (pg_name (i := 7) nd rfl (Or.inl rfl)) pgs_nil)))) (fun _ _ _ _ _ => pts_one (pt_cmpR (op_neD hu64) (pv 7) (pe_glob (v := .str "changing") rfl hchg ⟨_, rfl⟩) (nomark _))) (fun _ _ _ _ _ => pv 5) (fun _ _ _ _ _ => pv 6))
    (pss_cons
    (K1.ps_setDc (i := 4) (own := [("table", 5), ("columns", 6), ("key", 7)]) (g := gTup K 3 (gCons (gName 5) (gCons (gName 6) (gCons (gName 7) gNil)))) (tt := tB (tCB (rIsi K) (tCons (tVar 7) (tCons (tC (.ty "tuple")) tNil)))) rfl nd rfl rfl (K1.sw_trueD rfl rfl rfl (by decide +kernel)) (pi_tup (pv 1)) (blkOk_by (N := N_do) (sc := defScope s_do) (by decide +kernel)) (fun _ _ _ _ _ => pg_tup rfl (pgs_cons (pg_name (i := 5) nd rfl (Or.inl rfl)) (pgs_cons (pg_name (i := 6) nd rfl (Or.inl rfl)) (pgs_cons (pg_name (i := 7) nd rfl (Or.inl rfl)) pgs_nil)))) (fun _ _ _ _ _ => pts_one (pt_val (pe_callB (r := rIsi K) call_isi (by rfl) T.isinstance (by decide +kernel) (pa_cons (pv 7) (pa_cons (pe_bltn (v := .ty "tuple") (by rfl) T.tuple (by decide +kernel) rfl) pa_nil))))) (fun _ _ _ _ _ => pv 5) (fun _ _ _ _ _ => pv 7))
    (pss_one
    (ps_ret (pe_tup (pa_cons (pv 2) (pa_cons (pv 3) (pa_cons (pv 4) pa_nil)))))))))), ?_⟩
    have oL := ordL_ok ok
    refine ⟨_, rfl, a, ls, rfl, la, ok, fun pc rs H1 s1 npc hpc pr => ?_⟩
    generalize ordL ls = Ls at pr oL k
    have few : rs.length ≤ 6 := by rw [pr.length]; exact oL.six
    clear la
    have seq1 : ∀ {te : TE} {g : TG} {b : TS} {D : Ends} {σ : L2.St} {H : Hp}, (te σ H fun x H1 => g x σ H1 (b D)) → (tSeq (tAsg te g) b) D σ H := fun h => h
    try dsimp only
    refine seq1 ?_
    refine dc3 (K := K) (tt := tTest (tOp (rEqD K) (tVar 7) (tC (.str "changing")))) (tv := tVar 6) (σ := [some (.ref a), some (.ref pc), none, none, none, none, none, none]) (fun l => if isChg l = true then some (l.t, l.cs) else none) (fun l e h => by split at h <;> cases h; rfl) rfl rfl hpc pr few oL.nd
      (fun {σ' H' l c kv R} h6 h7 e2 e3 ml q => ?_) (fun {σ' H' l c kv e Q'} h6 h7 e2 e3 ef q => ⟨_, h6, q _ ?_⟩) (fun d1 H2 n1 s2 t1 => ?_)
    · obtain ⟨d, d1, d2, d3⟩ := kd_dp (K := K) e3 (oL.good l ml).key
      refine ⟨_, h7, d, .str "changing", d1, .str _, d2, by decide +kernel, _, rfl, ?_⟩
      rw [d3]
      have : (if isChg l = true then some (l.t, l.cs) else none).isSome = isC l.k := by unfold isChg; cases isC l.k <;> rfl
      rw [← this]; exact q
    · split at ef <;> cases ef
      exact ⟨c, rfl, e2⟩
    rw [filtm] at t1
    have pr2 := Paired.mapP pr fun v l r => r.same s2
    have hpc2 := s2 _ _ hpc
    try dsimp only
    refine seq1 ?_
    refine dc3 (K := K) (tt := tTest (tOp (rNeD K) (tVar 7) (tC (.str "changing")))) (tv := tVar 6) (σ := [some (.ref a), some (.ref pc), some (.ref d1), none, none, none, none, none]) (fun l => if (!isChg l) = true then some (l.t, l.cs) else none) (fun l e h => by split at h <;> cases h; rfl) rfl rfl hpc2 pr2 few oL.nd
      (fun {σ' H' l c kv R} h6 h7 e2 e3 ml q => ?_) (fun {σ' H' l c kv e Q'} h6 h7 e2 e3 ef q => ⟨_, h6, q _ ?_⟩) (fun d2 H3 n2 s3 t2 => ?_)
    · obtain ⟨d, d1, d2, d3⟩ := kd_dp (K := K) e3 (oL.good l ml).key
      refine ⟨_, h7, d, .str "changing", d1, .str _, d2, by decide +kernel, _, rfl, ?_⟩
      rw [d3]
      have : (if (!isChg l) = true then some (l.t, l.cs) else none).isSome = !isC l.k := by unfold isChg; cases isC l.k <;> rfl
      rw [← this]; exact q
    · split at ef <;> cases ef
      exact ⟨c, rfl, e2⟩
    rw [filtm] at t2
    have pr3 := Paired.mapP pr2 fun v l r => r.same s3
    have hpc3 := s3 _ _ hpc2
    try dsimp only
    refine seq1 ?_
    refine dc3 (K := K) (tt := tB (tCB (rIsi K) (tCons (tVar 7) (tCons (tC (.ty "tuple")) tNil)))) (tv := tVar 7) (σ := [some (.ref a), some (.ref pc), some (.ref d1), some (.ref d2), none, none, none, none]) (fun l => (keyO l).map fun ks => (l.t, ks)) (fun l e h => by obtain ⟨ks, _, rfl⟩ := Option.map_eq_some_iff.mp h; rfl) rfl rfl hpc3 pr3 few oL.nd
      (fun {σ' H' l c kv R} h6 h7 e2 e3 ml q => ?_) (fun {σ' H' l c kv e Q'} h6 h7 e2 e3 ef q => ⟨_, h7, q _ ?_⟩) (fun d3 H4 n3 s4 t3 => ?_)
    · unfold keyO at q
      cases e : l.k with
      | chg =>
        rw [e] at e3 q
        obtain rfl : kv = .str "changing" := e3
        exact ⟨_, h7, _, _, _, _, false, rfl, .ty _, .base (.str "changing"), kit_ty (by decide +kernel), _, rfl, q⟩
      | fix =>
        rw [e] at e3 q
        obtain rfl : kv = .non := e3
        exact ⟨_, h7, _, _, _, _, false, rfl, .ty _, .base .non, kit_ty (by decide +kernel), _, rfl, q⟩
      | key ks =>
        rw [e] at e3 q
        obtain ⟨q0, rfl, hq⟩ := e3
        exact ⟨_, h7, _, _, _, _, true, rfl, .ty _, .base (.tup hq), kit_ty (by decide +kernel), _, rfl, q⟩
    · obtain ⟨ks, h1, rfl⟩ := Option.map_eq_some_iff.mp ef
      unfold keyO at h1
      cases e : l.k with
      | chg => rw [e] at h1; cases h1
      | fix => rw [e] at h1; cases h1
      | key ks2 =>
        rw [e] at h1 e3
        cases h1
        obtain ⟨q0, rfl, hq⟩ := e3
        exact ⟨q0, rfl, hq⟩
    have t1' := (t1.same s3).same s4
    have t2' := t2.same s4
    have ne : d2 ≠ d3 := fun z => by
      obtain ⟨kvs, h1, _⟩ := t2
      rw [z, n3] at h1; cases h1
    refine ⟨_, rfl, _, rfl, _, rfl, Nat.le_of_ble_eq_true rfl, fun p hp => ?_⟩
    have sp := Same.new (o := .tup [.ref d1, .ref d2, .ref d3]) (Same.refl H4) hp
    exact k p d1 d2 d3 _ ((((s1.trans s2).trans s3).trans s4).trans sp) upd_same ne (t1'.same sp) (t2'.same sp) (t3.same sp)
end
end B2_

/-! ## C6 -/
set_option Elab.async false
set_option linter.all false
set_option maxRecDepth 100000
set_option maxHeartbeats 4000000
namespace K1
open PySem PySem.Spec PyProof.Rows L2
/-! ### c(k = v, ..), c a local name that holds a class -/
section
variable {X : Cx} {CX : CXT} {k i : Nat} {f C : Addr} {fd : FuncData} {ps ks : List Str} {sp : Sp} {E : XK} {x : Str} {p pos : Pos} {kws : List Keyword} {tk : TA} {g : List Value → List Value → List Value} {gV : List V → List V → List V}
def tMakeKL (i : Nat) (C : Addr) (m : Nat) (sp : Sp) (gV : List V → List V → List V) (E : XK) (tk : TA) : TE := fun σ H Q => σ[i]? = some (some (.ref C)) ∧ tMakeK C 0 m sp gV E tNil tk σ H Q
theorem pe_makeKL (M : Mk X.K C f) (F : FnOk X.prog X.w X.K X.mg X.base CX k f fd ps sp) (hr : Room (k + 1) X.A) (hN : X.N[i]? = some x) (hv : Vis X.env.scope x) (hb : KBn X.K fd ps 1 ks g gV) (hx : Passes CX X E) (hkw : PK X kws tk)
    (hall : (backToKw pos (keywordEach kws X.env)).all (·.1.isSome) = true := by rfl) (hks : (backToKw pos (keywordEach kws X.env)).filterMap (·.1) = ks := by rfl) (hdb : (x == ("__debug__" : Str)) = false := by decide) (hcd : (x == ("__classdict__" : Str)) = false := by decide)
    (hpl : ((backTo pos (starEach [] X.env)).any (·.1) || (backToKw pos (keywordEach kws X.env)).any (·.1.isNone)) = false := by rfl) :
    PE X (.Call (.Name x p) [] kws pos) (tMakeKL i C ks.length sp gV E tk) := by
  refine ⟨fun pins s σ H Q I h => ?_⟩
  obtain ⟨held, h⟩ := h
  refine wpAny_Call_Name_kw (thn ((pe_var (pos := p) hN hv hdb hcd).run pins s σ H (fun v H1 => v = .ref C ∧ H1 = H) I ⟨.ref C, held, rfl, rfl⟩) fun u s1 got => ?_)
  obtain ⟨v, H1, I1, r1, rfl, rfl⟩ := got
  cases r1
  refine PySem.W.callWith_KW0 (h₀ := X.base) I1.ok.mod.kin M.kp hall (thn (hkw.run pos pins s1 σ _ _ I1 h) fun ws s2 told => ?_) hpl
  obtain ⟨zs, H2, I2, rz, l1, l2, q2⟩ := told
  refine ⟨I2.kIn, ?_⟩
  rw [hks]
  exact run_makeK (us := []) (vs := []) M F hr hb hx I2 .nil rz rfl l2 q2
end
end K1

/-! ## B2_14 -/
set_option Elab.async false
set_option linter.all false
set_option maxRecDepth 100000
set_option maxHeartbeats 8000000
namespace B2_
open PySem PySem.Spec PyProof.Rows L2
/-! ### Scene.of -/
abbrev s_of : Stmt := inClass (topS 15) 1
abbrev N_of : List Str := ["cls", "lines", "changing", "fixed", "keyed"]
theorem sc_of : FnScope N_of ["cls", "lines"] (defScope s_of) := ⟨rfl, rfl, rfl, by decide +kernel, rfl, by decide +kernel, by decide +kernel⟩
abbrev psI : List Str := ["self", "changing", "fixed", "keyed"]
/-- how a scene is made by a call of the class -/
structure MakeS (P : Program) (w : World) (K : PySem.W.Frag) (mg : Str → Option Value) (base : Heap) (C : Addr) : Prop where
  ex : ∃ (f : Addr) (fd : FuncData), Mk K C f ∧ FnOk P w K mg base CX0 8 f fd psI (spIni C) ∧ (∃ g, KBn K fd psI 1 ["changing", "fixed", "keyed"] g (fun vs zs => vs ++ zs)) ∧ (∃ g, KBn K fd psI 1 ["changing"] g (fun vs zs => vs ++ (zs ++ [.non, .non]))) ∧
    (∃ g, KBn K fd psI 1 ["keyed", "fixed", "changing"] g (fun vs zs => vs ++ zs.reverse)) ∧ ∃ g, KBn K fd psI 1 ["fixed", "keyed"] g (fun vs zs => vs ++ (.non :: zs))
def spOf (C : Addr) : Sp := fun vs H Q _ => ∃ (a : Addr) (xs : List V) (ls : List Ln), vs = [.ref C, .ref a] ∧ H a = some (.tup xs) ∧ Paired (LnAt H) xs ls ∧ LnsOk ls ∧ ∀ x H', Same H H' → H x = none → SceneAtN C H H' x (ordL ls) → Q (.ref x) H'
theorem off_make {H H' : Hp} {x dx C : Addr} (nx : H x = none) (ndx : H dx = none) (s : K1.Off x (upd (upd H dx (.own x)) x (.ins C dx [])) H') : Same H H' := fun b o e => by
  have b1 : b ≠ x := ne_of_none e nx
  have b2 : b ≠ dx := ne_of_none e ndx
  exact s _ _ b1 (by rw [upd_ne b1, upd_ne b2]; exact e)
section
variable {P : Program} {w : World} {K : PySem.W.Frag} {mg : Str → Option Value} {base : Heap}
theorem ok_of {f C : Addr} {fd : FuncData} (F : Fun K "of" "Scene.of" s_of f fd) (T : NamesS mg) (CO : Callee P w K mg base CX0 7 "_dicts_of" ["lines"] spDO) (M : MakeS P w K mg base C) : FnOk P w K mg base CX0 10 f fd ["cls", "lines"] (spOf C) := by
  have nd := sc_of.nd
  obtain ⟨fI, fdI, MI, GI, ⟨g3, B3⟩, _⟩ := M.ex
  refine F.ok sc_of (fun vs H Q E h => ?_) (fun cdv A outer s H vs Q E hr h => ?_)
  · obtain ⟨a, xs, ls, rfl, _⟩ := h
    rfl
  · obtain ⟨a, xs, ls, rfl, ha, la, ok, k⟩ := h
    have hr7 : Room 7 _ := hr.mono (by decide)
    refine ⟨_, (pss_cons
    (ps_if (pt_not (pt_val (pe_callB call_isi (by rfl) T.isinstance (by decide +kernel) (pa_cons (pv 1) (pa_cons (pe_bltn (v := .ty "tuple") (by rfl) T.tuple (by decide +kernel) rfl) pa_nil))))) (pss_one ps_never) pss_nil)
    (pss_cons
    (ps_asg (pe_use CO hr7 rfl pass0 (pa_cons (pv 1) pa_nil)) (pg_tup rfl (pgs_cons (pg_name (i := 2) nd rfl (Or.inl rfl)) (pgs_cons (pg_name (i := 3) nd rfl (Or.inl rfl)) (pgs_cons (pg_name (i := 4) nd rfl (Or.inl rfl)) pgs_nil)))))
    (pss_one
    (ps_ret (K1.pe_makeKL (i := 0) MI GI hr rfl (Or.inl rfl) B3 pass0 (pk_cons (pv 2) (pk_cons (pv 3) (pk_cons (pv 4) pk_nil)))))))), ?_⟩
    refine ⟨_, rfl, _, _, _, _, true, rfl, .ty _, .base (.tup ha), kit_ty (by decide +kernel), _, rfl, iteF ?_⟩
    refine ⟨_, rfl, a, ls, rfl, ⟨xs, .inr ha, la⟩, ok, fun p d1 d2 d3 H1 s1 hp ne t1 t2 t3 => ?_⟩
    refine ⟨p, _, rfl, SqT.of hp, rfl, _, _, rfl, _, _, rfl, _, _, rfl, rfl, ?_⟩
    refine ⟨rfl, _, rfl, _, rfl, _, rfl, rfl, rfl, fun x dx nx ndx nex => ?_⟩
    have s2 : Same H1 (upd (upd H1 dx (.own x)) x (.ins C dx [])) := fun b o e => by rw [upd_ne (ne_of_none e nx), upd_ne (ne_of_none e ndx)]; exact e
    refine ⟨x, dx, .ref d1, .ref d2, .ref d3, _, _, _, rfl, upd_same, .inr ⟨d1, rfl, t1.same s2⟩, .inr ⟨d2, rfl, t2.same s2⟩, .inr ⟨d3, rfl, t3.same s2⟩, ?_, fun d e1 e2 => ?_, told_back ok, fun H' off sc => ⟨rfl, ?_⟩⟩
    · have h1 := (ordL_ok ok).six
      have h2 : (gvOf (ordL ls)).length ≤ (ordL ls).length := List.length_filterMap_le _ _
      omega
    · cases e1
      cases e2
      exact ne rfl
    · rw [ordL_back ok.nd] at sc
      exact k x H' (s1.trans (off_make nx ndx off)) (s1.free nx) (sc.back (s1.trans s2))
end
end B2_

/-! ## C7 -/
set_option Elab.async false
set_option linter.all false
set_option maxRecDepth 100000
set_option maxHeartbeats 4000000
namespace K1
open PySem PySem.Spec PyProof.Rows L2
/-! ### what an own class says by its special methods -/
/-- the method m of C stands at f and keeps sp; nothing leaves it -/
structure Spc (X : Cx) (C : Addr) (m : Str) (n : Nat) (sp : Sp) : Prop where
  ex : ∃ f fd ps, PySem.W.findIn X.K (.ref C) m = some (some (.ref f)) ∧ PySem.W.isFn X.K (.ref f) = true ∧ FnOk X.prog X.w X.K X.mg X.base CX0 n f fd ps sp ∧ Binds X.K fd ps []
section
variable {X : Cx} {C : Addr} {n : Nat} {sp : Sp} {pins : List (Addr × Obj)} {σ : L2.St} {H : Hp} {s : Shared}
theorem run_own {E : Value → Shared → Prop} {A : Around} {f : Addr} {fd : FuncData} {ps : List Str} {vs : List V} {us : List Value} {Q : VK} (sb : Sub X n A) (F : FnOk X.prog X.w X.K X.mg X.base CX0 n f fd ps sp) (hb : Binds X.K fd ps []) (I : Inv X pins σ H s) (r : Vals vs us) (h : sp vs H Q E0) :
    wpAny (model X.prog X.w) A (call (.ref f) us) (EP X pins σ Q) E s := by
  have e0 : Env0 X.prog X.w X.K X.mg X.base A X.stack s H := by
    have e := I.env0
    exact ⟨by rw [sb.fr]; exact e.frames, e.mod, e.bs, e.bsz, e.funs, e.frf, e.hok, e.bare⟩
  have hl := F.len _ _ _ _ h
  refine wpAny_call (codeAny_mono (F.run A X.stack s H ⟨us, []⟩ us vs Q E0 sb.room e0 (by
    have := hb s us I.kIn (by rw [List.append_nil, ← r.length]; exact hl)
    rwa [List.append_nil] at this) r h) fun q s' hq => ?_)
  cases q with
  | error e => exact hq.elim
  | ok fl =>
    cases fl with
    | ret u => exact I.after hq
    | next => exact hq.elim
    | brk => exact hq.elim
    | cont => exact hq.elim
/-- x in o -/
theorem op_inOwn (S : Spc X C "__contains__" n sp) (hr : Room n X.A) : OpR X (compareOp .In) (fun x y H Q => ∃ a dx fs, y = .ref a ∧ H a = some (.ins C dx fs) ∧ sp [.ref a, x] H (fun v H' => ∃ b, v = .bl b ∧ Q (.bl b) H') E0) := by
  intro pins s σ H x y v u Q I rx ry h
  obtain ⟨a, dx, fs, rfl, ha, q⟩ := h
  obtain ⟨f, fd, ps, hs, hf, F, hb⟩ := S.ex
  cases ry
  obtain ⟨mA, J, _⟩ := ins_get I.hok ha
  obtain ⟨od, J, _⟩ := J.look
  obtain ⟨m, hF⟩ := I.fr
  refine PySem.W.in_K hF I.ok.mod.kin J hs hf (wpAny_mono (run_own ⟨hr, rfl⟩ F hb I (.cons (show L2.RelV (V.ref a) (Value.ref a) from rfl) (.cons rx .nil)) q) (fun r s' hq => ?_) fun _ _ x => x)
  obtain ⟨z, H', I', rz, b, rfl, q'⟩ := hq
  cases rz
  exact wpAny_truthy_bool ⟨.bl b, H', I', rfl, q'⟩
/-- x not in o -/
theorem op_notInOwn (S : Spc X C "__contains__" n sp) (hr : Room n X.A) : OpR X (compareOp .NotIn) (fun x y H Q => ∃ a dx fs, y = .ref a ∧ H a = some (.ins C dx fs) ∧ sp [.ref a, x] H (fun v H' => ∃ b, v = .bl b ∧ Q (.bl (!b)) H') E0) := by
  intro pins s σ H x y v u Q I rx ry h
  obtain ⟨a, dx, fs, rfl, ha, q⟩ := h
  obtain ⟨f, fd, ps, hs, hf, F, hb⟩ := S.ex
  cases ry
  obtain ⟨mA, J, _⟩ := ins_get I.hok ha
  obtain ⟨od, J, _⟩ := J.look
  obtain ⟨m, hF⟩ := I.fr
  refine PySem.W.notIn_K hF I.ok.mod.kin J hs hf (wpAny_mono (run_own ⟨hr, rfl⟩ F hb I (.cons (show L2.RelV (V.ref a) (Value.ref a) from rfl) (.cons rx .nil)) q) (fun r s' hq => ?_) fun _ _ x => x)
  obtain ⟨z, H', I', rz, b, rfl, q'⟩ := hq
  cases rz
  exact wpAny_truthy_bool ⟨.bl (!b), H', I', rfl, q'⟩
/-- len(o), whatever is done with errors -/
theorem lenOwnE {E : Value → Shared → Prop} {A : Around} {a dx : Addr} {fs : List (Str × V)} {R : Value → Shared → Prop} (S : Spc X C "__len__" n sp) (sb : Sub X (n + 1) A) (I : Inv X pins σ H s) (ha : H a = some (.ins C dx fs))
    {Qv : VK} (q : sp [.ref a] H Qv E0) (hk : ∀ v H', Qv v H' → ∃ k : Nat, v = .int k ∧ k < 2 ^ 62) (go : ∀ (k : Nat) t H' s', Inv X pins σ H' s' → Qv (.int k) H' → R (.int k t) s') : wpAny (model X.prog X.w) A (call (.builtin "len") [.ref a]) R E s := by
  obtain ⟨f, fd, ps, hs, hf, F, hb⟩ := S.ex
  obtain ⟨mA, J, _⟩ := ins_get I.hok ha
  obtain ⟨od, J, _⟩ := J.look
  obtain ⟨m, hF⟩ := I.fr
  refine PySem.W.len_K hF I.ok.mod.kin J hs hf (wpAny_mono (run_own (A := A.in1) (Sub.in1 sb) F hb I (.cons (show L2.RelV (V.ref a) (Value.ref a) from rfl) .nil) q) (fun r s' hq => ?_) fun _ _ x => x)
  obtain ⟨z, H', I', rz, q'⟩ := hq
  obtain ⟨k, rfl, few⟩ := hk _ _ q'
  obtain ⟨t, rfl⟩ := rz
  exact ⟨⟨by omega, by omega⟩, go k _ _ _ (I'.tok _) q'⟩
/-- len(o) -/
theorem call_lenOwn (S : Spc X C "__len__" n sp) (hr : Room (n + 1) X.A) : CallR X (.builtin "len") (fun xs H Q => ∃ a dx fs, xs = [.ref a] ∧ H a = some (.ins C dx fs) ∧ sp [.ref a] H (fun v H' => ∃ k : Nat, v = .int k ∧ k < 2 ^ 62 ∧ ∀ w, w = V.int k → Q w H') E0) := by
  intro pins s σ H xs us Q I r h
  obtain ⟨a, dx, fs, rfl, ha, q⟩ := h
  rw [Vals.ref1 r]
  obtain ⟨f, fd, ps, hs, hf, F, hb⟩ := S.ex
  obtain ⟨mA, J, _⟩ := ins_get I.hok ha
  obtain ⟨od, J, _⟩ := J.look
  obtain ⟨m, hF⟩ := I.fr
  refine PySem.W.len_K hF I.ok.mod.kin J hs hf (wpAny_mono (run_own (A := X.A.in1) (Sub.in1 ⟨hr, rfl⟩) F hb I (.cons (show L2.RelV (V.ref a) (Value.ref a) from rfl) .nil) q) (fun r s' hq => ?_) fun _ _ x => x)
  obtain ⟨z, H', I', rz, k, rfl, few, q'⟩ := hq
  obtain ⟨t, rfl⟩ := rz
  exact ⟨⟨by omega, by omega⟩, .int k, H', I'.tok _, ⟨_, rfl⟩, q' _ rfl⟩
/-- str(o) -/
theorem call_strOwn (S : Spc X C "__str__" n sp) (hr : Room (n + 2) X.A) : CallR X (.type "str") (fun xs H Q => ∃ a dx fs, xs = [.ref a] ∧ H a = some (.ins C dx fs) ∧ sp [.ref a] H (fun v H' => ∃ z, v = .str z ∧ Q (.str z) H') E0) := by
  intro pins s σ H xs us Q I r h
  obtain ⟨a, dx, fs, rfl, ha, q⟩ := h
  obtain ⟨f, fd, ps, hs, hf, F, hb⟩ := S.ex
  rw [Vals.ref1 r]
  obtain ⟨mA, J, _⟩ := ins_get I.hok ha
  obtain ⟨od, J, _⟩ := J.look
  have sb : Sub X n X.A.in1.in1 := Sub.in1 (Sub.in1 ⟨hr, rfl⟩)
  refine PySem.W.kso_call sb.room.units0 I.kIn J hs hf (wpAny_mono (run_own sb F hb I (.cons (show L2.RelV (V.ref a) (Value.ref a) from rfl) .nil) q) (fun r s' hq => ?_) fun _ _ x => x)
  obtain ⟨z, H', I', rz, k, rfl, q'⟩ := hq
  obtain ⟨t, rfl⟩ := rz
  exact ⟨.str k, H', I', ⟨_, rfl⟩, q'⟩
/-- y is no text of the program's own before C -/
def EqTy (K : PySem.W.Frag) (C : Addr) (H : Hp) (y : V) : Prop := (∃ t, TyX K H y t ∧ PySem.W.notFirst K C t = true) ∨ ∃ b dy gs, y = .ref b ∧ H b = some (.ins C dy gs)
theorem looks_eqTy {A : Around} {y : V} {u : Value} (I : Inv X pins σ H s) (ry : L2.RelV y u) (h : EqTy X.K C H y) : ∃ t, PySem.W.Looks (model X.prog X.w) s.heap (typeOf u) t ∧ PySem.W.notFirst X.K C t = true := by
  rcases h with ⟨t, ty, nf⟩ | ⟨b, dy, gs, rfl, hb⟩
  · obtain ⟨P, k, p, _⟩ := kit_of I ry ty
    exact ⟨t, k.ty _ _ I.kIn p, nf⟩
  · cases ry
    obtain ⟨mA, J, _⟩ := ins_get I.hok hb
    obtain ⟨od, J, _⟩ := J.look
    exact ⟨_, J.type, by unfold PySem.W.notFirst; simp⟩
/-- o == y, y of a type that does not come first -/
theorem op_eqOwn (S : Spc X C "__eq__" n sp) (hr : Room n X.A) : OpR X (compareOp .Eq) (fun x y H Q => ∃ a dx fs, x = .ref a ∧ H a = some (.ins C dx fs) ∧ EqTy X.K C H y ∧ sp [.ref a, y] H (fun v H' => ∃ b, v = .bl b ∧ Q (.bl b) H') E0) := by
  intro pins s σ H x y v u Q I rx ry h
  obtain ⟨a, dx, fs, rfl, ha, ty, q⟩ := h
  obtain ⟨f, fd, ps, hs, hf, F, hb⟩ := S.ex
  cases rx
  obtain ⟨mA, J, _⟩ := ins_get I.hok ha
  obtain ⟨od, J, _⟩ := J.look
  obtain ⟨m, hF⟩ := I.fr
  obtain ⟨t, lk, nf⟩ := looks_eqTy (A := X.A) I ry ty
  refine PySem.W.cmp_K (op := .Eq) hr.units0 hF I.ok.mod.kin J lk nf hs hf (wpAny_mono (run_own ⟨hr, rfl⟩ F hb I (.cons (show L2.RelV (V.ref a) (Value.ref a) from rfl) (.cons ry .nil)) q) (fun r s' hq => ?_) fun _ _ x => x)
  obtain ⟨z, H', I', rz, b, rfl, q'⟩ := hq
  cases rz
  exact ⟨.bl b, H', I', rfl, q'⟩
end
end K1

/-! ## C8 -/
set_option Elab.async false
set_option linter.all false
set_option maxRecDepth 100000
set_option maxHeartbeats 4000000
namespace K1
open PySem PySem.Spec PyProof.Rows L2
/-! ### o != y where only == is told by the class -/
section
variable {prog : Program} {w : World} {A : Around} {E : Value → Shared → Prop} {s : Shared} {K : PySem.W.Frag} {x C L f : Addr} {h0 : Heap} {m : Str → Option Value} {ox od : Obj} {b tb : Value}
/-- the slot of object: it asks ==, and turns the answer -/
theorem neSlot {Q : Fin → Shared → Prop} (hu : A.units < cLine) (kin : K.In s.heap) (I : PySem.W.InstAt s.heap x ox C (some od)) (heq : PySem.W.findIn K (.ref C) "__eq__" = some (some (.ref f))) (fn : PySem.W.isFn K (.ref f) = true)
    (go : wpAny (model prog w) A (call (.ref f) [.ref x, b]) (fun v s' => ∃ z, v = .bool z ∧ Q (.done (.ret (.bool (!z)))) s') E s) :
    wpAny (model prog w) A (Builtin.«object.__ne__» ⟨[.ref x, b], []⟩) Q E s := by
  unfold Builtin.«object.__ne__»
  repeat (first
    | with_reducible refine wpAny_cRoomFor hu ?_
    | (refine wpAny_bind (m := callSpecialIfBound? (.ref x) (Str.ofString "__eq__") [b]) (PySem.W.ifBound_K kin I heq fn (wpAny_mono go (fun r s' hr => by
        obtain ⟨z, rfl, hq⟩ := hr
        repeat (first | exact hq | exact wpAny_pure hq | exact wpAny_truthy_bool hq | (refine wpAny_bind (m := truthy (.bool _)) (wpAny_truthy_bool ?_)) | wp_step)) fun _ _ e => e)))
    | wp_step)
theorem neBound {args : List Value} {Q : Option Value → Shared → Prop} (kin : K.In s.heap) (I : PySem.W.InstAt s.heap x ox C (some od)) (hne : PySem.W.findIn K (.ref C) "__ne__" = some (some (.builtin "object.__ne__")))
    (go : wpAny (model prog w) A (call (.builtin "object.__ne__") (.ref x :: args)) (fun v => Q (some v)) E s) : wpAny (model prog w) A (callSpecialIfBound? (.ref x) "__ne__" args) Q E s := by
  have last : wpAny (model prog w) A (call (.builtin "object.__ne__") ([.ref x] ++ args) >>= fun v => pure (some v)) Q E s := wpAny_bind (wpAny_mono go (fun _ _ z => wpAny_pure z) fun _ _ z => z)
  simp only [callSpecialIfBound?, bindSpecialIfBound?]
  refine wpAny_holding (wpAny_bind (wpAny_bind (wpAny_bind (I.type.here ((PySem.W.looks_findIn kin hne).here (wpAny_bind (wpAny_askSetting (wpAny_ite ?_))))))))
  split
  · exact wpAny_bind (wpAny_of_eq (F.cmp_object.ne.bind _) (wpAny_pure (by exact last)))
  · exact wpAny_tryCatch (wpAny_bind (wpAny_of_eq (F.cmp_object.ne.bind _) (wpAny_pure (by exact last))))
theorem neRich {Q : Value → Shared → Prop} (hu : A.units + 1 < cLine) (kin : K.In s.heap) (I : PySem.W.InstAt s.heap x ox C (some od)) (hob : PySem.W.mroIn K C (.type "object") = some true) (hne : PySem.W.findIn K (.ref C) "__ne__" = some (some (.builtin "object.__ne__")))
    (heq : PySem.W.findIn K (.ref C) "__eq__" = some (some (.ref f))) (fn : PySem.W.isFn K (.ref f) = true) (lk : PySem.W.Looks (model prog w) s.heap (typeOf b) tb) (nf : PySem.W.notFirst K C tb = true)
    (go : wpAny (model prog w) A.in1 (call (.ref f) [.ref x, b]) (fun v s' => ∃ z, v = .bool z ∧ Q (.bool (!z)) s') E s) :
    wpAny (model prog w) A (richCompare .NotEq (.ref x) b) Q E s := by
  have one : wpAny (model prog w) A (tryCompare (.ref x) "__ne__" b) (fun r s' => ∃ v, r = some v ∧ Q v s') E s := by
    unfold tryCompare
    refine wpAny_bind (neBound kin I hne (wpAny_call (codeAny_call_builtin F.cmp_object.ne.plain F.cmpEntry_ne (PySem.W.check_slot F.cmpKind_ne F.cmpSplit_ne (I.type.andThen (PySem.W.looks_mroIn kin hob)) (F.cmpArgs_ne _ _)
      (neSlot (A := A.in1) hu kin I heq fn (wpAny_mono go (fun v s' hv => ?_) fun _ _ e => e))))))
    obtain ⟨z, rfl, hq⟩ := hv
    first | exact ⟨z, rfl, wpAny_pure ⟨_, rfl, hq⟩⟩ | exact ⟨z, rfl, wpAny_pure (wpAny_pure ⟨_, rfl, hq⟩)⟩ | exact ⟨z, rfl, _, rfl, hq⟩
  unfold richCompare
  simp only [oneThing_ref]
  refine wpAny_holding (wpAny_bind (wpAny_cRoomFor (Nat.lt_of_succ_lt hu) ?_))
  rw [cmpInfo_NotEq]
  dsimp only
  refine wpAny_bind (I.type.here (wpAny_bind (lk.here ?_)))
  split
  · rename_i q
    have e : PySem.W.subIn K tb (.ref C) = some false := by
      rcases Bool.or_eq_true_iff.mp nf with e | e
      · rw [beq_iff_eq.mp e] at q; simp at q
      · exact beq_iff_eq.mp e
    refine wpAny_bind ((PySem.W.looks_subIn kin e).here ?_)
    simp only [Bool.false_eq_true, if_false]
    refine wpAny_bind (wpAny_mono one (fun r s' z => ?_) fun _ _ e => e)
    obtain ⟨v, rfl, hq⟩ := z
    exact wpAny_pure hq
  · refine wpAny_bind (wpAny_pure ?_)
    simp only [Bool.false_eq_true, if_false]
    refine wpAny_bind (wpAny_mono one (fun r s' z => ?_) fun _ _ e => e)
    obtain ⟨v, rfl, hq⟩ := z
    exact wpAny_pure hq
end
/-- the class takes != from object -/
structure NeO (K : PySem.W.Frag) (C : Addr) : Prop where
  ne : PySem.W.findIn K (.ref C) "__ne__" = some (some (.builtin "object.__ne__"))
  ob : PySem.W.mroIn K C (.type "object") = some true
section
variable {X : Cx} {C : Addr} {n : Nat} {sp : Sp}
theorem op_neOwn (S : Spc X C "__eq__" n sp) (N : NeO X.K C) (hr : Room (n + 1) X.A) : OpR X (compareOp .NotEq) (fun x y H Q => ∃ a dx fs, x = .ref a ∧ H a = some (.ins C dx fs) ∧ EqTy X.K C H y ∧ sp [.ref a, y] H (fun v H' => ∃ b, v = .bl b ∧ Q (.bl (!b)) H') E0) := by
  intro pins s σ H x y v u Q I rx ry h
  obtain ⟨a, dx, fs, rfl, ha, ty, q⟩ := h
  obtain ⟨f, fd, ps, hs, hf, F, hb⟩ := S.ex
  cases rx
  obtain ⟨mA, J, _⟩ := ins_get I.hok ha
  obtain ⟨od, J, _⟩ := J.look
  obtain ⟨t, lk, nf⟩ := looks_eqTy (A := X.A) I ry ty
  refine neRich (A := X.A) (by have := hr.units; omega) I.kIn J N.ob N.ne hs hf lk nf (wpAny_mono (run_own (A := X.A.in1) (Sub.in1 ⟨hr, rfl⟩) F hb I (.cons (show L2.RelV (V.ref a) (Value.ref a) from rfl) (.cons ry .nil)) q) (fun r s' hq => ?_) fun _ _ x => x)
  obtain ⟨z, H', I', rz, b, rfl, q'⟩ := hq
  cases rz
  exact ⟨b, rfl, .bl (!b), H', I', rfl, q'⟩
end
end K1

/-! ## C9 -/
set_option Elab.async false
set_option linter.all false
set_option maxRecDepth 100000
set_option maxHeartbeats 4000000
namespace K1
open PySem PySem.Spec PyProof.Rows L2
/-! ### iterators over tuples -/
section
variable {prog : Program} {w : World} {A : Around} {E : Value → Shared → Prop} {s : Shared}
/-- the end of such an iterator: it stays where it was -/
theorem titEnd {it t : Addr} {i : Nat} {xs : Array Value} {Q : Option Value → Shared → Prop} (hh : A.handled = none) (at_ : s.heap.IsTupleIter it t i) (tp : s.heap.IsTuple t xs) (no : xs[i]? = none)
    (q : ∀ h', (∃ u, h'.get? it = some u) → Heap.ExtBut it s.heap h' → Q none { s with heap := h' }) : wpAny (model prog w) A (pyNext (.ref it)) Q E s := by
  obtain ⟨ob, eb, cb, db⟩ := id at_
  obtain ⟨ot, et, _, k, dt⟩ := tp
  unfold pyNext
  refine wpAny_bind (wpAny_attempt (wpAny_callSpecial?_slot (name := Str.ofString "__next__") at_.typeIs F.slot_tuple_iterator_next (wpAny_call_entry F.slot_tuple_iterator_next at_.typeIs F.entry_tuple_iterator_next ?_ (F.args_tuple_iterator_next_1 _))))
  show wpAny _ _ (field (.ref it) 0 >>= _) _ _ s
  refine wpAny_bind (wpAny_field eb db (x := .ref t) rfl ?_)
  show wpAny _ _ (if (Value.ref t == Value.none) = true then _ else _) _ _ s
  refine PySem.W.KFB.if_not rfl ?_
  show wpAny _ _ (field (.ref it) 1 >>= _) _ _ s
  refine wpAny_bind (wpAny_field eb db (x := .int i 0) rfl ?_)
  show wpAny _ _ (seqItems? (.ref t) >>= _) _ _ s
  refine wpAny_bind (wpAny_seqItems et dt ?_)
  simp only [Int.toNat_natCast, no]
  refine wpAny_bind (wpAny_rule (wpAny_bind (wpAny_setField eb db (by simp) ?_)))
  show wpAny _ _ (newExc (.type "StopIteration") [] >>= _) _ _ _
  simp only [newExc, newTuple]
  refine wpAny_bind (wpAny_bind (wpAny_newObj_type ?_ (by size_fits)))
  refine wpAny_bind (m := firstArgMember _ _) (wpAny_of_eq (a := Value.none) (by first | rfl | (simp only [firstArgMember]; rfl)) ?_)
  refine wpAny_newObj_type ?_ (by size_fits)
  simp only [raiseNew]
  refine wpAny_bind (wpAny_handled ?_)
  first | rw [show A.in1.handled = none from hh] | rw [hh]
  refine wpAny_bind (wpAny_pure (wpAny_throw ?_))
  refine wpAny_bind (wpAny_isInstance (T := "StopIteration") (b := true) ⟨_, Heap.get?_push_size _ rfl, rfl⟩ isSubtype_stop (wpAny_pure (q _ ?_ (((Heap.SameBut.update ..).extBut.push _).push _))))
  exact ⟨_, Heap.get?_push_of_some _ (Heap.get?_push_of_some _ (Heap.get?_update_self _ eb (Obj.isFreed_of_fields (Obj.data_mapFields db _))))⟩
end
/-- at it an iterator over the tuple at l; i is the next place -/
def TIt (l it : Addr) (i : Nat) : HO := .ext fun h => h.IsTupleIter it l i
/-- .. at its end -/
def TEnd (it : Addr) : HO := .ext fun h => ∃ u, h.get? it = some u
theorem tIt_ok {P : Program} {w : World} {H : Hp} {h : Heap} {l it : Addr} {i : Nat} (e : h.IsTupleIter it l i) : ObjOk P w H h it (TIt l it i) := ⟨e, ⟨e.choose, e.choose_spec.1⟩, fun h1 h2 q k => by
  obtain ⟨o, e1, e2⟩ := q
  exact ⟨o, k _ e1, e2⟩⟩
theorem tEnd_ok {P : Program} {w : World} {H : Hp} {h : Heap} {it : Addr} (e : ∃ u, h.get? it = some u) : ObjOk P w H h it (TEnd it) := ⟨e, e, fun h1 h2 q k => by
  obtain ⟨o, e1⟩ := q
  exact ⟨o, k _ e1⟩⟩
section
variable {X : Cx} {pins : List (Addr × Obj)} {σ : L2.St} {H : Hp} {s : Shared} {l it : Addr} {i : Nat} {xs : List V}
theorem tIt_get (I : Inv X pins σ H s) (e : H it = some (TIt l it i)) : s.heap.IsTupleIter it l i := (I.hok it _ e).1
/-- iter(t) -/
def rIterT (K : PySem.W.Frag) : List V → Hp → VK → Prop := fun xs H Q => ∃ (l : Addr) (zs : List V), xs = [.ref l] ∧ SqT K H l zs ∧ ∀ it, H it = none → Q (.ref it) (upd H it (TIt l it 0))
theorem call_iterT : CallR X (.builtin "iter") (rIterT X.K) := by
  intro pins s σ H xs us Q I r h
  obtain ⟨l, zs, rfl, hq, q⟩ := h
  obtain rfl := Vals.ref1 r
  obtain ⟨its, rv, pl, hz⟩ := I.tuple hq
  refine Calls.call_function_entry (by decide +kernel) (by decide +kernel) PySem.W.kdk_entry_iter (PySem.W.kdk_args_iter _) ?_
  unfold Builtin.«iter»
  refine wpAny_bind (m := someArgs "iter" 1 2 _) (wpAny_of_eq (a := [Value.ref l]) (by first | rfl | kernel_rfl!) ?_)
  show wpAny _ _ (pyIter (.ref l) >>= _) _ _ _
  refine wpAny_bind (wpAny_pyIter_tuple (items := its.toArray) pl (wpAny_pure ⟨_, rfl, ?_⟩))
  exact ⟨.ref s.heap.objs.size, _, I.laid (t' := s.toks) (fun b u e => Heap.get?_push_of_some _ e) (Nat.le_refl _) (tIt_ok ⟨_, Heap.get?_push_size _ rfl, rfl, rfl⟩), rfl, q _ (I.hok.fresh (Nat.le_refl _))⟩
theorem tit_mut (e : H it = some (TIt l it i)) : Mut (H it) := by rw [e]; exact True.intro
theorem tit_item {A : Around} {E : Value → Shared → Prop} {v : V} {Q : Option Value → Shared → Prop} (I : Inv X pins σ H s) (e : H it = some (TIt l it i)) (t : SqT X.K H l xs) (x : xs[i]? = some v)
    (q : ∀ s' u, Inv X pins σ (upd H it (TIt l it (i + 1))) s' → L2.RelV v u → Q (some u) s') : wpAny (model X.prog X.w) A (pyNext (.ref it)) Q E s := by
  obtain ⟨its, rv, pl, hz⟩ := I.tuple t
  obtain ⟨u, hu, ru⟩ := rv.get x
  exact wpAny_pyNext_tuple_item (items := its.toArray) (x := u) (tIt_get I e) pl (by simpa using hu) fun h' e' sb => q _ u (I.write (x := it) (e := it) (t' := s.toks) (tit_mut e) (.inl rfl) (fun b o nb z => (sb.2 b nb).trans z) ⟨e'.choose, e'.choose_spec.1⟩ (tIt_ok e')) ru
theorem tit_end {A : Around} {E : Value → Shared → Prop} {Q : Option Value → Shared → Prop} (hh : A.handled = none) (I : Inv X pins σ H s) (e : H it = some (TIt l it i)) (t : SqT X.K H l xs) (x : xs[i]? = none)
    (q : ∀ s', Inv X pins σ (upd H it (TEnd it)) s' → Q none s') : wpAny (model X.prog X.w) A (pyNext (.ref it)) Q E s := by
  obtain ⟨its, rv, pl, hz⟩ := I.tuple t
  exact titEnd (xs := its.toArray) hh (tIt_get I e) pl (by simpa using rv.none_of x) fun h' ex sb => q _ (I.write (x := it) (e := it) (t' := s.toks) (tit_mut e) (.inl rfl) (fun b o nb z => sb b o nb z) ex (tEnd_ok ex))
end
end K1

/-! ## C10 -/
set_option Elab.async false
set_option linter.all false
set_option maxRecDepth 100000
set_option maxHeartbeats 4000000
namespace K1
open PySem PySem.Spec PyProof.Rows L2
/-! ### list(o), where o gives an iterator over a tuple and tells its length -/
theorem sqT_upd {K : PySem.W.Frag} {H : Hp} {l b : Addr} {ys : List V} {o : HO} (t : SqT K H l ys) (n : (∃ zs, H b = some (.lst zs)) ∨ (∃ a' i, H b = some (TIt a' b i)) ∨ H b = none) : SqT K (upd H b o) l ys := by
  rcases t with (h | ⟨ob, h⟩) | h
  · refine .inl (.inl ?_)
    rw [upd_ne (fun z => by
      rw [z] at h
      rcases n with ⟨_, n⟩ | ⟨_, _, n⟩ | n <;> rw [n] at h <;> exact absurd h (fun z => nomatch z))]
    exact h
  · refine .inl (.inr ⟨ob, ?_⟩)
    rw [upd_ne (fun z => by
      rw [z] at h
      rcases n with ⟨_, n⟩ | ⟨_, _, n⟩ | n <;> rw [n] at h <;> exact absurd h (fun z => nomatch z))]
    exact h
  · exact .inr h
section
variable {X : Cx} {pins : List (Addr × Obj)} {σ : L2.St} {H : Hp} {s : Shared} {l it q : Addr} {ys : List V} {A : Around}
theorem upd4 {H : Hp} {it q : Addr} {a b c d : HO} (n : q ≠ it) : upd (upd (upd (upd H it a) q b) it c) q d = upd (upd H it c) q d := by
  funext z
  simp only [upd]
  by_cases h1 : z = q <;> by_cases h2 : z = it <;> simp [h1, h2]
theorem tl_loop {Rs : Result → Shared → Prop} (hh : A.in1.handled = none) (n : q ≠ it) (H0q : H q = some (.lst [])) (H0i : H it = some (TIt l it 0)) (t : SqT X.K H l ys) (few : ys.length ≤ sizeLine)
    (done : ∀ s', Inv X pins σ (upd (upd H it (TEnd it)) q (.lst ys)) s' → Rs (.ok (.ret .none)) s') :
    ∀ (m i : Nat) (s : Shared), ys.length - i = m → i ≤ ys.length → Inv X pins σ (upd (upd H it (TIt l it i)) q (.lst (ys.take i))) s →
      codeAny (model X.prog X.w) A (.builtin "list.extend.loop" ⟨[.ref q, .ref it, .none], []⟩) Rs s := by
  intro m
  induction m with
  | zero =>
    intro i s e le I
    obtain rfl : i = ys.length := by omega
    refine codeAny_builtin PySem.F.entry_extend_loop ?_
    rw [Around.under_plainId PySem.F.plain_extend_loop _]
    show wpAny _ A.in1 (pyNext (.ref it) >>= _) _ _ s
    have t1 : SqT X.K (upd (upd H it (TIt l it ys.length)) q (.lst (ys.take ys.length))) l ys := sqT_upd (sqT_upd t (.inr (.inl ⟨_, _, H0i⟩))) (.inl ⟨[], by rw [upd_ne n]; exact H0q⟩)
    refine wpAny_bind (tit_end hh I (by rw [upd_ne (Ne.symm n), upd_same]) t1 (by simp) fun s' I' => wpAny_pure (done s' ?_))
    have e : upd (upd (upd H it (TIt l it ys.length)) q (.lst (ys.take ys.length))) it (TEnd it) = upd (upd H it (TEnd it)) q (.lst ys) := by
      funext z
      simp only [upd]
      by_cases h1 : z = q <;> by_cases h2 : z = it <;> simp [h1, h2, n, Ne.symm n]
    rw [e] at I'
    exact I'
  | succ m ih =>
    intro i s e le I
    have lt : i < ys.length := by omega
    refine codeAny_builtin PySem.F.entry_extend_loop ?_
    rw [Around.under_plainId PySem.F.plain_extend_loop _]
    show wpAny _ A.in1 (pyNext (.ref it) >>= _) _ _ s
    have t1 : SqT X.K (upd (upd H it (TIt l it i)) q (.lst (ys.take i))) l ys := sqT_upd (sqT_upd t (.inr (.inl ⟨_, _, H0i⟩))) (.inl ⟨[], by rw [upd_ne n]; exact H0q⟩)
    refine wpAny_bind (tit_item I (by rw [upd_ne (Ne.symm n), upd_same]) t1 (v := ys[i]) (by simp [lt]) fun s' u I' ru => ?_)
    show wpAny _ A.in1 (updateSeq q (·.push u) >>= _) _ _ _
    have hq : upd (upd (upd H it (TIt l it i)) q (.lst (ys.take i))) it (TIt l it (i + 1)) q = some (.lst (ys.take i)) := by rw [upd_ne n, upd_same]
    obtain ⟨z, its, k, r2, hl, e2⟩ := I'.lstM hq
    have lz : its.length = i := by rw [← hl, List.length_take]; omega
    refine wpAny_bind (wpAny_updateSeq e2 rfl (wpAny_pure ⟨plainId_quiet PySem.F.plain_extend_loop _, ?_⟩) (by rw [List.size_toArray]; omega) (by show (its.toArray.push u).size ≤ sizeLine + 1; rw [Array.size_push, List.size_toArray]; omega))
    have I2 := I'.lset (its' := its ++ [u]) (ys := ys.take i ++ [ys[i]]) (f := (·.push u)) (t' := s'.toks) hq e2 (by simp) (r2.append (.cons ru .nil)) (by rw [List.length_append, List.length_singleton, List.length_take]; omega)
    rw [upd4 n, show ys.take i ++ [ys[i]] = ys.take (i + 1) from by simp] at I2
    exact ih (i + 1) _ (by omega) lt I2
end
/-- list(o) -/
def rListOwn (C : Addr) (spI spL : Sp) (K : PySem.W.Frag) : List V → Hp → VK → Prop := fun xs H Q => ∃ a dx fs, xs = [.ref a] ∧ H a = some (.ins C dx fs) ∧ ∀ q, H q = none →
  spI [.ref a] (upd H q (.lst [])) (fun v H1 => ∃ it l ys, v = .ref it ∧ H1 it = some (TIt l it 0) ∧ (∃ dx' fs', H1 a = some (.ins C dx' fs')) ∧
    spL [.ref a] H1 (fun v H2 => ∃ k : Nat, v = .int k ∧ k ≤ sizeLine ∧ q ≠ it ∧ H2 q = some (.lst []) ∧ H2 it = some (TIt l it 0) ∧ SqT K H2 l ys ∧ ys.length ≤ sizeLine ∧ Q (.ref q) (upd (upd H2 it (TEnd it)) q (.lst ys))) E0) E0
section
variable {X : Cx} {C : Addr} {n nL : Nat} {spI spL : Sp} {pins : List (Addr × Obj)} {σ : L2.St} {H : Hp} {s : Shared}
theorem it_next {M : Model} {A : Around} {E : Value → Shared → Prop} {Q : Value → Shared → Prop} {it l : Addr} {i : Nat} (e : s.heap.IsTupleIter it l i) (q : Q (.ref it) s) : PySem.W.OwitIt M A Q E (.ref it) s := by
  unfold PySem.W.OwitIt
  refine wpAny_specialOf e.typeIs F.slot_tuple_iterator_next.lookup ?_
  exact q
/-- the length that o tells -/
theorem own_room {E : Value → Shared → Prop} {A : Around} {a dx : Addr} {fs : List (Str × V)} {Q : Bool → Shared → Prop} (S : Spc X C "__len__" nL spL) (sb : Sub X (nL + 1) A) (I : Inv X pins σ H s) (ha : H a = some (.ins C dx fs))
    {Qv : VK} (q : spL [.ref a] H Qv E0) (hk : ∀ v H', Qv v H' → ∃ k : Nat, v = .int k ∧ k ≤ sizeLine) (go : ∀ (k : Nat) H' s', Inv X pins σ H' s' → Qv (.int k) H' → Q ((k : Int) != 0) s') :
    wpAny (model X.prog X.w) A (Builtin.List.listLengthHint (.ref a)) Q E s := by
  obtain ⟨f, fd, ps, hs, hf, F, hb⟩ := id S.ex
  obtain ⟨mA, J, _⟩ := ins_get I.hok ha
  obtain ⟨od, J, _⟩ := J.look
  unfold Builtin.List.listLengthHint
  refine wpAny_bind (wpAny_bind (J.type.here ((PySem.W.looks_findIn I.kIn hs).here ?_)))
  refine PySem.W.KFB.if_not rfl ?_
  refine wpAny_ite_split (fun _ => ?_) (fun z => absurd rfl z)
  refine wpAny_bind (wpAny_rule (wpAny_bind (wpAny_attempt (lenOwnE S sb I ha q (fun v H' h => ?_) fun k t H' s' I' q' => ?_))))
  · obtain ⟨k, e, few⟩ := hk _ _ h
    exact ⟨k, e, Nat.lt_of_le_of_lt few (by rw [sizeLine_eq]; decide)⟩
  · obtain ⟨k', e, few⟩ := hk _ _ q'
    obtain rfl : k = k' := by
      injection e with e
      exact Int.ofNat.inj e
    show wpAny _ _ (asInt? (.int k t) >>= _) _ _ _
    refine wpAny_bind (wpAny_of_eq (a := some (k : Int)) (by first | rfl | kernel_rfl) ?_)
    show wpAny _ _ (if Builtin.List.listTooLong (k : Int).toNat = true then _ else _) _ _ _
    refine PySem.W.KFB.if_not (by
      show decide ((k : Int).toNat > sizeLine) = false
      simp only [Int.toNat_natCast, decide_eq_false_iff_not]
      omega) (wpAny_pure (go k H' s' I' q'))
theorem own_extendT {A1 : Around} {Rs : Result → Shared → Prop} {a dx q : Addr} {fs : List (Str × V)} {Q : VK} (hh : A1.in1.handled = none) (SI : Spc X C "__iter__" n spI) (SL : Spc X C "__len__" n spL) (sb : Sub X (n + 1) A1.in1)
    (I : Inv X pins σ H s) (ha : H a = some (.ins C dx fs)) (hq : H q = some (.lst []))
    (h : spI [.ref a] H (fun v H1 => ∃ it l ys, v = .ref it ∧ H1 it = some (TIt l it 0) ∧ (∃ dx' fs', H1 a = some (.ins C dx' fs')) ∧
      spL [.ref a] H1 (fun v H2 => ∃ k : Nat, v = .int k ∧ k ≤ sizeLine ∧ q ≠ it ∧ H2 q = some (.lst []) ∧ H2 it = some (TIt l it 0) ∧ SqT X.K H2 l ys ∧ ys.length ≤ sizeLine ∧ Q (.ref q) (upd (upd H2 it (TEnd it)) q (.lst ys))) E0) E0)
    (hdone : ∀ H s, Inv X pins σ H s → Q (.ref q) H → Rs (.ok (.ret .none)) s) :
    wpAny (model X.prog X.w) A1.in1 (Builtin.List.listExtendWith (.ref q) (.ref a) .none)
      (fun fin s' => match fin with | .done f => Rs (.ok f) s' | .again c' => c'.quiet = true ∧ codeAny (model X.prog X.w) A1 c' Rs s') (fun e s' => Rs (.error e) s') s := by
  have hne : q ≠ a := ne_of hq ha (fun z => nomatch z)
  obtain ⟨f, fd, ps, hs, hf, F, hb⟩ := id SI.ex
  obtain ⟨mA, J, _⟩ := ins_get I.hok ha
  obtain ⟨od, J, _⟩ := J.look
  obtain ⟨m0, hF⟩ := I.fr
  unfold Builtin.List.listExtendWith
  refine wpAny_bind (J.type.here ?_)
  simp only [show Builtin.List.listSameRef (.ref q) (.ref a) = false from by simp [Builtin.List.listSameRef, hne], show (Value.ref C == Value.type "list") = false from rfl, show (Value.ref C == Value.type "tuple") = false from rfl, Bool.or_false, Bool.false_eq_true, if_false]
  refine wpAny_bind (PySem.W.owit_iter hF I.ok.mod.kin J hs hf (wpAny_mono (run_own (A := A1.in1) (sb.mono (Nat.le_succ n)) F hb I (.cons (show L2.RelV (V.ref a) (Value.ref a) from rfl) .nil) h) (fun r s' hq' => ?_) fun _ _ x => x))
  obtain ⟨v, H1, I1, rv, it, l, ys, rfl, ei, ⟨dx', fs', ha1⟩, h2⟩ := hq'
  cases rv
  refine it_next (tIt_get I1 ei) ?_
  refine wpAny_bind (wpAny_holding (own_room SL sb I1 ha1 h2 (fun v H' z => ?_) fun k H2 s2 I2 z => ?_))
  · obtain ⟨k, e, few, _⟩ := z
    exact ⟨k, e, few⟩
  · obtain ⟨_, _, _, nqi, hq2, ei2, t, few, fin⟩ := z
    have start : ∀ s3, Inv X pins σ H2 s3 → codeAny (model X.prog X.w) A1 (.builtin "list.extend.loop" ⟨[.ref q, .ref it, .none], []⟩) Rs s3 := fun s3 I3 =>
      tl_loop hh nqi hq2 ei2 t few (fun s' I' => hdone _ _ I' fin) _ 0 s3 rfl (Nat.zero_le _) (by
        have e : upd (upd H2 it (TIt l it 0)) q (.lst (ys.take 0)) = H2 := by
          funext z
          simp only [upd]
          by_cases h1 : z = q
          · simp [h1, hq2]
          · by_cases h2 : z = it <;> simp [h1, h2, ei2, Ne.symm nqi]
        rw [e]
        exact I3)
    refine wpAny_ite_split (fun _ => ?_) (fun _ => wpAny_pure ⟨plainId_quiet PySem.F.plain_extend_loop _, start s2 I2⟩)
    obtain ⟨z, its, k, r3, hl3, e3⟩ := I2.lstM hq2
    cases r3
    refine wpAny_bind (wpAny_rule (wpAny_bind ?_))
    show wpAny _ _ (updateSeq q (·.push .none) >>= fun _ => updateSeq q (·.pop)) _ _ _
    refine wpAny_bind (wpAny_updateSeq e3 rfl ?_)
    have I4 := I2.lset (f := (·.push Value.none)) (its' := [Value.none]) (ys := [.non]) (t' := s2.toks) hq2 e3 (by simp) (.cons rfl .nil) (by rw [List.length_singleton, sizeLine_eq]; decide)
    obtain ⟨z4, its4, k4, r4, hl4, e4⟩ := I4.lstM upd_same
    obtain ⟨u4, rfl, ru4⟩ := r4.one
    refine wpAny_updateSeq e4 rfl ?_ (by show 1 ≤ sizeLine; rw [sizeLine_eq]; decide) (by show 0 ≤ sizeLine + 1; exact Nat.zero_le _)
    have I5 := I4.lset (f := (·.pop)) (its := [u4]) (its' := []) (ys := []) (t' := s2.toks) upd_same e4 (by rfl) .nil (Nat.zero_le _)
    rw [upd_upd, show upd H2 q (.lst []) = H2 from by
      funext b
      by_cases hb : b = q
      · rw [hb, upd_same, hq2]
      · rw [upd_ne hb]] at I5
    exact wpAny_pure ⟨plainId_quiet PySem.F.plain_extend_loop _, start _ I5⟩
theorem call_listOwnT (hc : X.calm = true) (SI : Spc X C "__iter__" n spI) (SL : Spc X C "__len__" n spL) (hr : Room (n + 3) X.A) : CallR X (.type "list") (rListOwn C spI spL X.K) := by
  intro pins s σ H xs us Q I rv h
  obtain ⟨a, dx, fs, rfl, ha, hq⟩ := h
  obtain rfl := Vals.ref1 rv
  refine callType_codes (Q₁ := fun obj s₁ => obj = .ref s.heap.objs.size ∧ s₁ = { s with heap := s.heap.push { cls := .type "list", data := .seq #[] } }) PySem.F.called_list (PySem.F.typeCall_list_1 _) PySem.F.entry_list_init (code_list_new _ ⟨rfl, rfl⟩) fun obj s₁ h₁ => ?_
  obtain ⟨rfl, rfl⟩ := h₁
  have hS : (s.heap.push { cls := .type "list", data := .seq #[] }).get? s.heap.objs.size = some { cls := .type "list", data := .seq #[] } := Heap.get?_push_size _ rfl
  refine ⟨⟨_, hS, rfl⟩, PySem.F.args_list_init_2 _ _, ?_⟩
  have fr : H s.heap.objs.size = none := I.hok.fresh (Nat.le_refl _)
  have I1 : Inv X pins σ (upd H s.heap.objs.size (.lst [])) { s with heap := s.heap.push { cls := .type "list", data := .seq #[] } } := I.lnew (its := []) (t' := s.toks) .nil (Nat.zero_le _)
  show wpAny _ _ (do let old ← Builtin.List.listItems (.ref s.heap.objs.size); Builtin.List.listUpdate (.ref s.heap.objs.size) (fun _ => #[]); letGo old.toList.reverse; Builtin.List.listExtendWith (.ref s.heap.objs.size) (.ref a) .none) _ _ _
  refine wpAny_bind ?_
  unfold Builtin.List.listItems
  refine wpAny_bind (wpAny_seqItems hS rfl (wpAny_pure ?_))
  show wpAny _ _ (updateSeq s.heap.objs.size (fun _ => #[]) >>= fun _ => letGo (#[] : Array Value).toList.reverse >>= fun _ => Builtin.List.listExtendWith (.ref s.heap.objs.size) (.ref a) .none) _ _ _
  refine wpAny_bind (wpAny_updateSeq hS rfl ?_)
  have I2 := I1.lset (f := fun _ => #[]) (its := []) (its' := []) (ys := []) (t' := s.toks) upd_same hS rfl .nil (Nat.zero_le _)
  rw [upd_upd] at I2
  refine wpAny_bind (wpAny_letGo ?_)
  exact own_extendT (A1 := X.A.in1) (Q := Q) (Rs := wants (fun r s₂ => r = .none ∧ EP X pins σ Q (.ref s.heap.objs.size) s₂) X.xe) (I.ok.hd hc) SI SL (Sub.in1 (Sub.in1 (⟨hr, rfl⟩ : Sub X (n + 3) X.A))) I2 (by rw [upd_ne (ne_of_none ha fr)]; exact ha) upd_same (hq _ fr)
    fun H' s' I' q => ⟨rfl, .ref s.heap.objs.size, H', I', rfl, q⟩
end
end K1

/-! ## C11 -/
set_option Elab.async false
set_option linter.all false
set_option maxRecDepth 100000
set_option maxHeartbeats 4000000
namespace K1
open PySem RZ
open PySem.Sem (wp)
/-! ### list(zip(a, b)) of lists -/
section
variable {prog : Program} {w : World} {A : Around} {E : Value → Shared → Prop} {s : Shared}
end
structure ZipAtL (z TI TO i1 i2 l1 l2 d : Addr) (xs ys : Array Value) (i : Nat) (h : Heap) : Prop where
  its : IsPair h TI (.ref i1) (.ref i2)
  p1 : h.IsListIter i1 l1 i
  p2 : h.IsListIter i2 l2 i
  t1 : h.IsList l1 xs
  t2 : h.IsList l2 ys
  st : (IsZip h z TI TO .none ∧ ∃ a b, IsPair h TO a b) ∨ ∃ T f oT, IsZipHeld h z TI TO T f ∧ h.get? T = some oT ∧ T ≠ z ∧ T ≠ i1 ∧ T ≠ i2 ∧ T ≠ d
theorem ZipAtL.src {prog : Program} {w : World} {A : Around} {z TI TO i1 i2 l1 l2 d : Addr} {xs ys : Array Value} (hh : A.handled = none) (D : ZipApart z TI TO i1 i2 l1 l2) (ap : ∀ c ∈ [z, TI, TO, i1, i2, l1, l2], d ≠ c) :
    PairSrc prog w A z d [z, TO, i1, i2] (min xs.size ys.size) (fun i k v => xs[i]? = some k ∧ ys[i]? = some v) (ZipAtL z TI TO i1 i2 l1 l2 d xs ys) where
  off := fun m => by
    simp only [List.mem_cons, List.not_mem_nil, or_false] at m
    rcases m with e | e | e | e <;> exact ap d (by simp [e]) rfl
  frame := fun i h h' Z k => by
    have o : ∀ c ∈ [z, TI, TO, i1, i2, l1, l2], ∀ u, h.get? c = some u → h'.get? c = some u := fun c m u q => k c u (Ne.symm (ap c m)) q
    refine ⟨o _ (by simp) _ Z.its, Z.p1.at fun u q => o i1 (by simp) u q, Z.p2.at fun u q => o i2 (by simp) u q, Z.t1.at fun u q => o l1 (by simp) u q, Z.t2.at fun u q => o l2 (by simp) u q, ?_⟩
    rcases Z.st with ⟨a, x, y, b⟩ | ⟨T, f, oT, a, b, n1, n2, n3, n4⟩
    · exact .inl ⟨o _ (by simp) _ a, x, y, o _ (by simp) _ b⟩
    · exact .inr ⟨T, f, oT, o _ (by simp) _ a, k _ _ n4 b, n1, n2, n3, n4⟩
  item := fun i s Q E hi Z lt k => by
    have e1 := Array.getElem?_eq_getElem (Nat.lt_of_lt_of_le hi (Nat.min_le_left xs.size ys.size))
    have e2 := Array.getElem?_eq_getElem (Nat.lt_of_lt_of_le hi (Nat.min_le_right xs.size ys.size))
    have off : ∀ {c o}, s.heap.get? c = some o → s.heap.objs.size ≠ c := fun e => Nat.ne_of_gt (Heap.lt_size e)
    have n1 : s.heap.objs.size ≠ i1 := by obtain ⟨_, e, _⟩ := Z.p1; exact off e
    have n2 : s.heap.objs.size ≠ i2 := by obtain ⟨_, e, _⟩ := Z.p2; exact off e
    rcases Z.st with ⟨a, x, y, b⟩ | ⟨T, f, oT, a, b, m1, m2, m3, m4⟩
    · refine wpAny_pyNext_zip_item D a Z.its b Z.p1 Z.p2 Z.t1 Z.t2 e1 e2 fun h' a1 a2 a3 a4 a5 _ kept => ?_
      refine k s.heap.objs.size _ _ h' s.toks ⟨e1, e2⟩ (.inl ⟨_, a5, rfl, _, rfl⟩) ⟨kept _ _ D.TIz D.TITO D.TIi1 D.TIi2 Z.its, a3, a4, Z.t1.at fun o q => kept _ o D.l1z D.l1TO D.l1i1 D.l1i2 q, Z.t2.at fun o q => kept _ o D.l2z D.l2TO D.l2i1 D.l2i2 q, .inr ⟨_, false, _, a1, a5, off a, n1, n2, Nat.ne_of_gt lt⟩⟩ fun c o m q => ?_
      simp only [List.mem_cons, List.not_mem_nil, or_false, not_or] at m
      exact kept c o m.1 m.2.1 m.2.2.1 m.2.2.2 q
    · refine wpAny_pyNext_zip_item_held D a b Z.its Z.p1 Z.p2 Z.t1 Z.t2 e1 e2 fun h' a1 a3 a4 a5 _ kept => ?_
      refine k s.heap.objs.size _ _ h' s.toks ⟨e1, e2⟩ (.inl ⟨_, a5, rfl, _, rfl⟩) ⟨kept _ _ D.TIz D.TIi1 D.TIi2 Z.its, a3, a4, Z.t1.at fun o q => kept _ o D.l1z D.l1i1 D.l1i2 q, Z.t2.at fun o q => kept _ o D.l2z D.l2i1 D.l2i2 q, .inr ⟨T, true, oT, a1, kept _ _ m1 m2 m3 b, m1, m2, m3, m4⟩⟩ fun c o m q => ?_
      simp only [List.mem_cons, List.not_mem_nil, or_false, not_or] at m
      exact kept c o m.1 m.2.2.1 m.2.2.2 q
  done := fun s Q E Z k => by
    have over : xs[min xs.size ys.size]? = none ∨ ys[min xs.size ys.size]? = none := by
      rcases Nat.le_total xs.size ys.size with h | h
      · rw [Nat.min_eq_left h]; exact .inl (Array.getElem?_eq_none (Nat.le_refl _))
      · rw [Nat.min_eq_right h]; exact .inr (Array.getElem?_eq_none (Nat.le_refl _))
    rcases Z.st with ⟨a, x, y, b⟩ | ⟨T, f, oT, a, b, _⟩
    · refine wpAny_pyNext_zip_end hh D a Z.its b Z.p1 Z.p2 Z.t1 Z.t2 over fun h' kept => k h' s.toks fun c o m q => ?_
      simp only [List.mem_cons, List.not_mem_nil, or_false, not_or] at m
      exact kept c o m.1 m.2.1 m.2.2.1 m.2.2.2 q
    · refine wpAny_pyNext_zip_end_held hh D a b Z.its Z.p1 Z.p2 Z.t1 Z.t2 over fun h' kept => k h' s.toks fun c o m q => ?_
      simp only [List.mem_cons, List.not_mem_nil, or_false, not_or] at m
      exact kept c o m.1 m.2.2.1 m.2.2.2 q
/-- a zip of two tuples that nobody has asked yet -/
structure ZipNewL (z TI TO i1 i2 l1 l2 : Addr) (xs ys : Array Value) (h : Heap) : Prop where
  zip : IsZip h z TI TO .none
  its : IsPair h TI (.ref i1) (.ref i2)
  out : ∃ a b, IsPair h TO a b
  p1 : h.IsListIter i1 l1 0
  p2 : h.IsListIter i2 l2 0
  t1 : h.IsList l1 xs
  t2 : h.IsList l2 ys
theorem zipArgL {prog : Program} {w : World} (z TI TO i1 i2 l1 l2 : Addr) (D : ZipApart z TI TO i1 i2 l1 l2) (xs ys : Array Value) :
    PairArg prog w "zip" z [z, TI, TO, i1, i2, l1, l2] [z, TO, i1, i2] (min xs.size ys.size) (fun i k v => xs[i]? = some k ∧ ys[i]? = some v) (ZipNewL z TI TO i1 i2 l1 l2 xs ys) where
  type := fun s Z => ⟨_, Z.zip, rfl⟩
  notDict := by decide
  keep := fun h h' Z k => by
    obtain ⟨a, b, q⟩ := Z.out
    exact ⟨k _ _ Z.zip, k _ _ Z.its, ⟨a, b, k _ _ q⟩, Z.p1.at fun o q => k _ o q, Z.p2.at fun o q => k _ o q, Z.t1.at fun o q => k _ o q, Z.t2.at fun o q => k _ o q⟩
  there := fun h Z b m => by
    obtain ⟨_, _, q⟩ := Z.out
    obtain ⟨o1, h1, _⟩ := Z.p1
    obtain ⟨o2, h2, _⟩ := Z.p2
    obtain ⟨o3, h3, _⟩ := Z.t1
    obtain ⟨o4, h4, _⟩ := Z.t2
    simp only [List.mem_cons, List.not_mem_nil, or_false] at m
    rcases m with rfl | rfl | rfl | rfl | rfl | rfl | rfl
    · exact ⟨_, Z.zip⟩
    · exact ⟨_, Z.its⟩
    · exact ⟨_, q⟩
    · exact ⟨_, h1⟩
    · exact ⟨_, h2⟩
    · exact ⟨_, h3⟩
    · exact ⟨_, h4⟩
  sub := fun b m => by
    simp only [List.mem_cons, List.not_mem_nil, or_false] at m ⊢
    rcases m with e | e | e | e <;> simp [e]
  noKeys := fun A s Q E hA Z k => getAttrOr_miss_zip Z.zip rfl rfl rfl zip_no_keys (by decide +kernel) hA k
  iter := fun A s d Q E hA Z lt off k => by
    refine wpAny_pyIter_zip Z.zip (k z _ _ s.heap s.toks (ZipAtL.src hA D fun c m e => off (by rw [e]; exact m)) ⟨Z.its, Z.p1, Z.p2, Z.t1, Z.t2, .inl ⟨Z.zip, Z.out⟩⟩ (fun _ _ q => q) fun b m => .inl m)
structure ZlL (b0 S z TI TO i1 i2 l1 l2 : Addr) (xs ys : Array Value) (i : Nat) (h : Heap) : Prop where
  pos : ZipAtL z TI TO i1 i2 l1 l2 S xs ys i h
  size : h.objs.size = b0 + i
  made : ∀ (j : Nat) (x y : Value), j < i → xs[j]? = some x → ys[j]? = some y → IsPair h (b0 + j) x y
section
variable {prog : Program} {w : World} {A : Around} {R : Result → Shared → Prop} {b0 S z TI TO i1 i2 l1 l2 : Addr} {xs ys : Array Value}
theorem ZlL.other {i : Nat} {h h' : Heap} (Z : ZlL b0 S z TI TO i1 i2 l1 l2 xs ys i h) (ap : ∀ c ∈ [z, TI, TO, i1, i2, l1, l2], S ≠ c) (lowS : S < b0) (len : h'.objs.size = h.objs.size) (k : ∀ b o, b ≠ S → h.get? b = some o → h'.get? b = some o) : ZlL b0 S z TI TO i1 i2 l1 l2 xs ys i h' := by
  have D : ∀ c ∈ [z, TI, TO, i1, i2, l1, l2], ∀ u, h.get? c = some u → h'.get? c = some u := fun c m u q => k c u (Ne.symm (ap c m)) q
  refine ⟨⟨D _ (by simp) _ Z.pos.its, Z.pos.p1.at fun u q => D i1 (by simp) u q, Z.pos.p2.at fun u q => D i2 (by simp) u q, Z.pos.t1.at fun u q => D l1 (by simp) u q, Z.pos.t2.at fun u q => D l2 (by simp) u q, ?_⟩, len.trans Z.size, fun j x y hj hx hy => ?_⟩
  · rcases Z.pos.st with ⟨a, x, y, b⟩ | ⟨T, f, oT, a, b, n1, n2, n3, n4⟩
    · exact .inl ⟨D _ (by simp) _ a, x, y, D _ (by simp) _ b⟩
    · exact .inr ⟨T, f, oT, D _ (by simp) _ a, k _ _ n4 b, n1, n2, n3, n4⟩
  · exact k _ _ (Nat.ne_of_gt (Nat.lt_of_lt_of_le lowS (Nat.le_add_right _ _))) (Z.made j x y hj hx hy)
/-- one more pair -/
theorem zlL_next {A : Around} {E : Value → Shared → Prop} {s : Shared} {i : Nat} {x y : Value} {Q : Option Value → Shared → Prop} (D : ZipApart z TI TO i1 i2 l1 l2) (low : ∀ c ∈ [S, z, TO, i1, i2], c < b0) (Z : ZlL b0 S z TI TO i1 i2 l1 l2 xs ys i s.heap) (gx : xs[i]? = some x) (gy : ys[i]? = some y)
    (k : ∀ h', ZlL b0 S z TI TO i1 i2 l1 l2 xs ys (i + 1) h' → (∀ c o, c ∉ [z, TO, i1, i2] → s.heap.get? c = some o → h'.get? c = some o) → Q (some (.ref (b0 + i))) { s with heap := h' }) : wpAny (model prog w) A (pyNext (.ref z)) Q E s := by
  have off : ∀ c ∈ [S, z, TO, i1, i2], s.heap.objs.size ≠ c := fun c m => by
    rw [Z.size]
    exact Nat.ne_of_gt (Nat.lt_of_lt_of_le (low c m) (Nat.le_add_right _ _))
  have fin : ∀ h', IsPair h' TI (.ref i1) (.ref i2) → h'.IsListIter i1 l1 (i + 1) → h'.IsListIter i2 l2 (i + 1) → h'.IsList l1 xs → h'.IsList l2 ys →
      ((IsZip h' z TI TO .none ∧ ∃ a b, IsPair h' TO a b) ∨ ∃ T f oT, IsZipHeld h' z TI TO T f ∧ h'.get? T = some oT ∧ T ≠ z ∧ T ≠ i1 ∧ T ≠ i2 ∧ T ≠ S) → IsPair h' s.heap.objs.size x y → h'.objs.size = s.heap.objs.size + 1 →
      (∀ c o, c ∉ [z, TO, i1, i2] → s.heap.get? c = some o → h'.get? c = some o) → Q (some (.ref s.heap.objs.size)) { s with heap := h' } := fun h' c1 c2 c3 c4 c5 c6 new len kept => by
    rw [Z.size]
    refine k h' ⟨⟨c1, c2, c3, c4, c5, c6⟩, by rw [len, Z.size]; rfl, fun j u v hj hu hv => ?_⟩ kept
    by_cases e : j = i
    · subst e
      rw [gx] at hu
      rw [gy] at hv
      cases hu
      cases hv
      rw [← Z.size]
      exact new
    · refine kept _ _ (fun m => ?_) (Z.made j u v (by omega) hu hv)
      exact Nat.lt_irrefl _ (Nat.lt_of_le_of_lt (Nat.le_add_right b0 j) (low _ (List.mem_cons_of_mem _ m)))
  have mem : ∀ {c : Addr}, c ∉ [z, TO, i1, i2] → c ≠ z ∧ c ≠ TO ∧ c ≠ i1 ∧ c ≠ i2 := fun m => by
    simpa only [List.mem_cons, List.not_mem_nil, or_false, not_or] using m
  rcases Z.pos.st with ⟨a, p, q, b⟩ | ⟨T, f, oT, a, b, m1, m2, m3, m4⟩
  · refine wpAny_pyNext_zip_item D a Z.pos.its b Z.pos.p1 Z.pos.p2 Z.pos.t1 Z.pos.t2 gx gy fun h' a1 a2 a3 a4 a5 a6 kept => fin h' (kept _ _ D.TIz D.TITO D.TIi1 D.TIi2 Z.pos.its) a3 a4 (Z.pos.t1.at fun o q => kept _ o D.l1z D.l1TO D.l1i1 D.l1i2 q) (Z.pos.t2.at fun o q => kept _ o D.l2z D.l2TO D.l2i1 D.l2i2 q) (.inr ⟨_, false, _, a1, a5, off z (by simp), off i1 (by simp), off i2 (by simp), off S (by simp)⟩) a5 a6 fun c o m e => ?_
    obtain ⟨n1, n2, n3, n4⟩ := mem m
    exact kept c o n1 n2 n3 n4 e
  · refine wpAny_pyNext_zip_item_held D a b Z.pos.its Z.pos.p1 Z.pos.p2 Z.pos.t1 Z.pos.t2 gx gy fun h' a1 a3 a4 a5 a6 kept => fin h' (kept _ _ D.TIz D.TIi1 D.TIi2 Z.pos.its) a3 a4 (Z.pos.t1.at fun o q => kept _ o D.l1z D.l1i1 D.l1i2 q) (Z.pos.t2.at fun o q => kept _ o D.l2z D.l2i1 D.l2i2 q) (.inr ⟨T, true, oT, a1, kept _ _ m1 m2 m3 b, m1, m2, m3, m4⟩) a5 a6 fun c o m e => ?_
    obtain ⟨n1, n2, n3, n4⟩ := mem m
    exact kept c o n1 n3 n4 e
theorem zlL_stop {A : Around} {E : Value → Shared → Prop} {s : Shared} {Q : Option Value → Shared → Prop} (hh : A.handled = none) (D : ZipApart z TI TO i1 i2 l1 l2) (ap : ∀ c ∈ [z, TI, TO, i1, i2, l1, l2], S ≠ c) (low : ∀ c ∈ [S, z, TO, i1, i2], c < b0) (Z : ZlL b0 S z TI TO i1 i2 l1 l2 xs ys (min xs.size ys.size) s.heap)
    (k : ∀ h', (∀ (j : Nat) (x y : Value), j < min xs.size ys.size → xs[j]? = some x → ys[j]? = some y → IsPair h' (b0 + j) x y) → (∀ c o, c ∉ [z, TO, i1, i2] → s.heap.get? c = some o → h'.get? c = some o) → ∀ tk, Q none { s with heap := h', toks := tk }) : wpAny (model prog w) A (pyNext (.ref z)) Q E s := by
  refine (ZipAtL.src hh D ap).done s Q E Z.pos fun h' tk kept => k h' (fun j x y hj hx hy => ?_) kept tk
  refine kept _ _ (fun m => ?_) (Z.made j x y hj hx hy)
  exact Nat.lt_irrefl _ (Nat.lt_of_le_of_lt (Nat.le_add_right b0 j) (low _ (List.mem_cons_of_mem _ m)))
/-- the list at S takes all pairs -/
theorem zlL_loop (hh : A.in1.handled = none) (D : ZipApart z TI TO i1 i2 l1 l2) (ap : ∀ c ∈ [z, TI, TO, i1, i2, l1, l2], S ≠ c) (low : ∀ c ∈ [S, z, TO, i1, i2], c < b0) (few : min xs.size ys.size ≤ sizeLine) (res : Value) :
    ∀ (left i : Nat) (s : Shared) (acc : Array Value) (c : Nat), min xs.size ys.size - i = left → i ≤ min xs.size ys.size → ZlL b0 S z TI TO i1 i2 l1 l2 xs ys i s.heap → s.heap.get? S = some (lobj acc c) → Refs b0 i acc →
    (∀ h' tk acc' c', h'.get? S = some (lobj acc' c') → Refs b0 (min xs.size ys.size) acc' → (∀ (j : Nat) (x y : Value), j < min xs.size ys.size → xs[j]? = some x → ys[j]? = some y → IsPair h' (b0 + j) x y) →
      (∀ b o, b ∉ [S, z, TO, i1, i2] → s.heap.get? b = some o → h'.get? b = some o) → R (.ok (.ret res)) { s with heap := h', toks := tk }) →
    codeAny (model prog w) A (.builtin "list.extend.loop" ⟨[.ref S, .ref z, res], []⟩) R s := by
  have lowS : S < b0 := low S (by simp)
  have nS : S ∉ [z, TO, i1, i2] := fun m => by
    refine ap S ?_ rfl
    simp only [List.mem_cons, List.not_mem_nil, or_false] at m ⊢
    rcases m with e | e | e | e <;> simp [← e]
  intro left
  induction left with
  | zero =>
    intro i s acc c e hi Z L r k
    obtain rfl : i = min xs.size ys.size := by omega
    refine codeAny_builtin F.entry_extend_loop ?_
    rw [Around.under_plainId F.plain_extend_loop _]; show wpAny _ A.in1 (pyNext (.ref z) >>= _) _ _ s
    refine wpAny_bind (zlL_stop hh D ap low Z fun h' made kept tk => wpAny_pure (k h' tk acc c (kept S _ nS L) r made fun b o m q => kept b o (fun z => m (List.mem_cons_of_mem _ z)) q))
  | succ left ih =>
    intro i s acc c e hi Z L r k
    have hlt : i < min xs.size ys.size := by omega
    have gx := Array.getElem?_eq_getElem (Nat.lt_of_lt_of_le hlt (Nat.min_le_left xs.size ys.size))
    have gy := Array.getElem?_eq_getElem (Nat.lt_of_lt_of_le hlt (Nat.min_le_right xs.size ys.size))
    refine codeAny_builtin F.entry_extend_loop ?_
    rw [Around.under_plainId F.plain_extend_loop _]; show wpAny _ A.in1 (pyNext (.ref z) >>= _) _ _ s
    refine wpAny_bind (zlL_next D low Z gx gy fun h' Z' kept => ?_)
    have L' := kept S _ nS L
    show wpAny _ A.in1 (updateSeq S (·.push (.ref (b0 + i))) >>= _) _ _ _
    refine wpAny_bind (wpAny_updateSeq L' rfl (wpAny_pure ⟨plainId_quiet F.plain_extend_loop _, ?_⟩) (by rw [r.1]; omega) (by show (acc.push _).size ≤ sizeLine + 1; rw [Array.size_push, r.1]; omega))
    have other : ∀ b o, b ≠ S → h'.get? b = some o → (h'.update S (Obj.mapSeq (·.push (.ref (b0 + i))))).get? b = some o := fun b o n q => (Heap.get?_update_other _ _ (Ne.symm n)).trans q
    refine ih (i + 1) { s with heap := h'.update S (Obj.mapSeq (·.push (.ref (b0 + i)))) } (acc.push (.ref (b0 + i))) _ (by omega) hlt (Z'.other ap lowS (by rw [Heap.size_update]) other) (Heap.get?_update_self _ L' rfl) r.push fun h2 tk acc' c' L2 r2 made kept2 => ?_
    refine k h2 tk acc' c' L2 r2 made fun b o m q => kept2 b o m (other b o (fun z => m (by rw [z]; exact List.mem_cons_self)) (kept b o (fun z => m (List.mem_cons_of_mem _ z)) q))
end
section
variable {prog : Program} {w : World} {A : Around} {R : Result → Shared → Prop} {S z TI TO i1 i2 l1 l2 : Addr} {xs ys : Array Value}
/-- what list() of such a zip leaves -/
abbrev ZlEndL (R : Result → Shared → Prop) (res : Value) (b0 S z TO i1 i2 : Addr) (xs ys : Array Value) (s : Shared) : Prop := ∀ h' tk acc' c', h'.get? S = some (lobj acc' c') → Refs b0 (min xs.size ys.size) acc' →
  (∀ (j : Nat) (x y : Value), j < min xs.size ys.size → xs[j]? = some x → ys[j]? = some y → IsPair h' (b0 + j) x y) → (∀ b o, b ∉ [S, z, TO, i1, i2] → s.heap.get? b = some o → h'.get? b = some o) → R (.ok (.ret res)) { s with heap := h', toks := tk }
theorem zlL_extend {s : Shared} {c : Nat} (hh : A.in1.handled = none) (D : ZipApart z TI TO i1 i2 l1 l2) (ap : ∀ c ∈ [z, TI, TO, i1, i2, l1, l2], S ≠ c) (few : min xs.size ys.size ≤ sizeLine) (res : Value) (Z : ZipAtL z TI TO i1 i2 l1 l2 S xs ys 0 s.heap) (zip : IsZip s.heap z TI TO .none)
    (low : ∀ c ∈ [S, z, TO, i1, i2], c < s.heap.objs.size) (L : s.heap.get? S = some (lobj #[] c)) (k : ZlEndL R res s.heap.objs.size S z TO i1 i2 xs ys s) :
    wpAny (model prog w) A.in1 (Builtin.List.listExtendWith (.ref S) (.ref z) res) (fun fin s' => match fin with | .done f => R (.ok f) s' | .again c' => c'.quiet = true ∧ codeAny (model prog w) A c' R s') (fun e s' => R (.error e) s') s := by
  have ty : s.TypeIs (.ref z) "zip" := ⟨_, zip, rfl⟩
  have nSz : S ≠ z := ap z (by simp)
  unfold Builtin.List.listExtendWith
  refine wpAny_bind (wpAny_typeOf ty ?_)
  simp only [show Builtin.List.listSameRef (.ref S) (.ref z) = false from by simp [Builtin.List.listSameRef, nSz], show (Value.type "zip" == Value.type "list") = false from by decide, show (Value.type "zip" == Value.type "tuple") = false from by decide, Bool.or_false, Bool.false_eq_true, if_false]
  refine wpAny_bind (wpAny_pyIter_zip zip (wpAny_bind (wpAny_holding ?_)))
  unfold Builtin.List.listLengthHint
  refine wpAny_bind (wpAny_specialOf ty zip_len0 ?_)
  show wpAny _ A.in1 (specialOf (.ref z) (Str.ofString "__length_hint__") >>= _) _ _ _
  refine wpAny_bind (wpAny_specialOf ty zip_hint0 (wpAny_pure ?_))
  show wpAny _ A.in1 (rule "list.extend.makes-room" >>= fun _ => Builtin.List.listTouch (.ref S) >>= fun _ => again (.builtin "list.extend.loop" ⟨[.ref S, .ref z, res], []⟩)) _ _ _
  refine wpAny_bind (wpAny_rule (wpAny_bind ?_))
  show wpAny _ A.in1 (updateSeq S (·.push .none) >>= fun _ => updateSeq S (·.pop)) _ _ _
  refine wpAny_bind (wpAny_updateSeq L rfl ?_)
  have L2 := Heap.get?_update_self (Obj.mapSeq (·.push Value.none)) L rfl
  refine wpAny_updateSeq (hz := by seq_fits) L2 rfl ?_
  have L3 := Heap.get?_update_self (Obj.mapSeq (·.pop)) L2 rfl
  obtain ⟨h2, eq2⟩ : ∃ h2, h2 = (s.heap.update S (Obj.mapSeq (·.push Value.none))).update S (Obj.mapSeq (·.pop)) := ⟨_, rfl⟩
  rw [← eq2] at L3 ⊢
  have other : ∀ b o, b ≠ S → s.heap.get? b = some o → h2.get? b = some o := fun b o n q => by
    rw [eq2]
    exact (Heap.get?_update_other _ _ (Ne.symm n)).trans ((Heap.get?_update_other _ _ (Ne.symm n)).trans q)
  have len : h2.objs.size = s.heap.objs.size := by rw [eq2, Heap.size_update, Heap.size_update]
  have Z0 : ZlL s.heap.objs.size S z TI TO i1 i2 l1 l2 xs ys 0 s.heap := ⟨Z, rfl, fun j x y hj => absurd hj (Nat.not_lt_zero j)⟩
  refine wpAny_pure ⟨plainId_quiet F.plain_extend_loop _, zlL_loop hh D ap low few res _ 0 { s with heap := h2 } #[] _ rfl (Nat.zero_le _) (Z0.other ap (low S (by simp)) len other) L3 ⟨rfl, fun j hj => absurd hj (Nat.not_lt_zero j)⟩ fun h' tk acc' c' a b d e => ?_⟩
  exact k h' tk acc' c' a b d fun c o m q => e c o m (other c o (fun z => m (by rw [z]; exact List.mem_cons_self)) q)
theorem zlL_init {s : Shared} (hh : A.in1.handled = none) (D : ZipApart z TI TO i1 i2 l1 l2) (ap : ∀ c ∈ [z, TI, TO, i1, i2, l1, l2], S ≠ c) (few : min xs.size ys.size ≤ sizeLine) (Z : ZipAtL z TI TO i1 i2 l1 l2 S xs ys 0 s.heap) (zip : IsZip s.heap z TI TO .none)
    (low : ∀ c ∈ [S, z, TO, i1, i2], c < s.heap.objs.size) (L : s.heap.get? S = some (lobj #[] 0)) (k : ZlEndL R .none s.heap.objs.size S z TO i1 i2 xs ys s) :
    wpAny (model prog w) A.in1 (Builtin.«list.__init__» ⟨[.ref S, .ref z], []⟩) (fun fin s' => match fin with | .done f => R (.ok f) s' | .again c' => c'.quiet = true ∧ codeAny (model prog w) A c' R s') (fun e s' => R (.error e) s') s := by
  show wpAny _ A.in1 (do let old ← Builtin.List.listItems (.ref S); Builtin.List.listUpdate (.ref S) (fun _ => #[]); letGo old.toList.reverse; Builtin.List.listExtendWith (.ref S) (.ref z) .none) _ _ s
  refine wpAny_bind ?_
  unfold Builtin.List.listItems
  refine wpAny_bind (wpAny_seqItems L rfl (wpAny_pure ?_))
  show wpAny _ A.in1 (updateSeq S (fun _ => #[]) >>= fun _ => letGo (#[] : Array Value).toList.reverse >>= fun _ => Builtin.List.listExtendWith (.ref S) (.ref z) .none) _ _ s
  refine wpAny_bind (wpAny_updateSeq L rfl (wpAny_bind (wpAny_letGo ?_)))
  have L2 := Heap.get?_update_self (Obj.mapSeq (fun _ => (#[] : Array Value))) L rfl
  obtain ⟨h2, eq2⟩ : ∃ h2, h2 = s.heap.update S (Obj.mapSeq (fun _ => (#[] : Array Value))) := ⟨_, rfl⟩
  rw [← eq2] at L2 ⊢
  have other : ∀ b o, b ≠ S → s.heap.get? b = some o → h2.get? b = some o := fun b o n q => by
    rw [eq2]
    exact (Heap.get?_update_other _ _ (Ne.symm n)).trans q
  have len : h2.objs.size = s.heap.objs.size := by rw [eq2, Heap.size_update]
  have Z0 : ZlL s.heap.objs.size S z TI TO i1 i2 l1 l2 xs ys 0 s.heap := ⟨Z, rfl, fun j x y hj => absurd hj (Nat.not_lt_zero j)⟩
  refine zlL_extend (s := { s with heap := h2 }) hh D ap few .none (Z0.other ap (low S (by simp)) len other).pos (other _ _ (Ne.symm (ap z (by simp))) zip) (fun c m => by show c < h2.objs.size; rw [len]; exact low c m) L2 fun h' tk acc' c' a b d e => ?_
  have b' : Refs s.heap.objs.size (min xs.size ys.size) acc' := by rw [← len]; exact b
  refine k h' tk acc' c' a b' (fun j x y hj hx hy => by rw [← len]; exact d j x y hj hx hy) fun c o m q => e c o m (other c o (fun z => m (by rw [z]; exact List.mem_cons_self)) q)
/-- list(z): the pairs in new tuples behind the list -/
theorem call_listZipL {E : Value → Shared → Prop} {s : Shared} {Q : Value → Shared → Prop} (hh : A.handled = none) (D : ZipApart z TI TO i1 i2 l1 l2) (few : min xs.size ys.size ≤ sizeLine) (Z : ZipNewL z TI TO i1 i2 l1 l2 xs ys s.heap)
    (k : ∀ h' tk acc' c', h'.get? s.heap.objs.size = some (lobj acc' c') → Refs (s.heap.objs.size + 1) (min xs.size ys.size) acc' → (∀ (j : Nat) (x y : Value), j < min xs.size ys.size → xs[j]? = some x → ys[j]? = some y → IsPair h' (s.heap.objs.size + 1 + j) x y) →
      (∀ b o, b ∉ [z, TO, i1, i2] → s.heap.get? b = some o → h'.get? b = some o) → Q (.ref s.heap.objs.size) { s with heap := h', toks := tk }) : wpAny (model prog w) A (call (.type "list") [.ref z]) Q E s := by
  have there : ∀ c ∈ [z, TI, TO, i1, i2, l1, l2], c < s.heap.objs.size := fun c m => by
    obtain ⟨o, q⟩ := (zipArgL (prog := prog) (w := w) z TI TO i1 i2 l1 l2 D xs ys).there _ Z c m
    exact Heap.lt_size q
  refine callType_codes (Q₁ := fun obj s₁ => obj = .ref s.heap.objs.size ∧ s₁ = { s with heap := s.heap.push (lobj #[] 0) }) F.called_list (F.typeCall_list_1 _) F.entry_list_init (code_list_new _ ⟨rfl, rfl⟩) fun obj s₁ e => ?_
  obtain ⟨rfl, rfl⟩ := e
  have new : (s.heap.push (lobj #[] 0)).get? s.heap.objs.size = some (lobj #[] 0) := Heap.get?_push_size _ rfl
  have up : ∀ b o, s.heap.get? b = some o → (s.heap.push (lobj #[] 0)).get? b = some o := fun b o q => Heap.get?_push_of_some _ q
  have ap : ∀ c ∈ [z, TI, TO, i1, i2, l1, l2], s.heap.objs.size ≠ c := fun c m => Nat.ne_of_gt (there c m)
  have Z2 := (zipArgL (prog := prog) (w := w) z TI TO i1 i2 l1 l2 D xs ys).keep _ _ Z up
  have len : (s.heap.push (lobj #[] 0)).objs.size = s.heap.objs.size + 1 := Heap.size_push ..
  refine ⟨⟨_, new, rfl⟩, F.args_list_init_2 _ _, zlL_init (A := A.in1) (s := { s with heap := s.heap.push (lobj #[] 0) }) hh D ap few ⟨Z2.its, Z2.p1, Z2.p2, Z2.t1, Z2.t2, .inl ⟨Z2.zip, Z2.out⟩⟩ Z2.zip (fun c m => ?_) new fun h' tk acc' c' a b d e => ?_⟩
  · show c < (s.heap.push (lobj #[] 0)).objs.size
    rw [len]
    rcases List.mem_cons.mp m with rfl | m
    · exact Nat.lt_succ_self _
    · refine Nat.lt_succ_of_lt (there c ?_)
      simp only [List.mem_cons, List.not_mem_nil, or_false] at m ⊢
      rcases m with e | e | e | e <;> simp [e]
  · refine ⟨rfl, k h' tk acc' c' a (by rw [← len]; exact b) (fun j x y hj hx hy => by rw [← len]; exact d j x y hj hx hy) fun c o m q => e c o (fun n => ?_) (up c o q)⟩
    rcases List.mem_cons.mp n with rfl | n
    · exact Nat.lt_irrefl _ (Heap.lt_size q)
    · exact m n
end
end K1

/-! ## C12 -/
set_option Elab.async false
set_option linter.all false
set_option maxRecDepth 100000
set_option maxHeartbeats 4000000
namespace K1
open PySem PySem.Spec PyProof.Rows L2
/-! ### a list of new pairs is laid -/
/-- the heap with the list at S and the pairs behind it -/
def hpPairs (H : Hp) (S : Addr) (ps : List (V × V)) : Hp := fun b => if b = S then some (.lst ((List.range ps.length).map fun j => V.ref (S + 1 + j))) else if LT.lt (α := Nat) S b then (ps[Nat.sub b (S + 1)]?).map (fun p => HO.tup [p.1, p.2]) else H b
theorem hpPairs_at {H : Hp} {S : Addr} {ps : List (V × V)} : hpPairs H S ps S = some (.lst ((List.range ps.length).map fun j => V.ref (S + 1 + j))) := by unfold hpPairs; rw [if_pos rfl]
theorem hpPairs_in {H : Hp} {S : Addr} {ps : List (V × V)} {j : Nat} {p : V × V} (e : ps[j]? = some p) : hpPairs H S ps (S + 1 + j) = some (.tup [p.1, p.2]) := by
  have lt : LT.lt (α := Nat) S (S + 1 + j) := Nat.lt_of_lt_of_le (Nat.lt_succ_self S) (Nat.le_add_right _ _)
  have sb : Nat.sub (S + 1 + j) (S + 1) = j := Nat.add_sub_cancel_left (S + 1) j
  unfold hpPairs
  rw [if_neg (Nat.ne_of_gt lt), if_pos lt, sb, e]
  rfl
theorem hpPairs_low {H : Hp} {S b : Addr} {ps : List (V × V)} (h : LT.lt (α := Nat) b S) : hpPairs H S ps b = H b := by
  unfold hpPairs
  rw [if_neg (Nat.ne_of_lt h), if_neg (Nat.lt_asymm h)]
/-- the new ones -/
theorem hpPairs_new {H : Hp} {S b : Addr} {ps : List (V × V)} {o : HO} (h : ¬ LT.lt (α := Nat) b S) (e : hpPairs H S ps b = some o) : (b = S ∧ o = .lst ((List.range ps.length).map fun j => V.ref (S + 1 + j))) ∨ ∃ j p, b = S + 1 + j ∧ ps[j]? = some p ∧ o = .tup [p.1, p.2] := by
  unfold hpPairs at e
  by_cases h1 : b = S
  · rw [if_pos h1] at e
    cases e
    exact .inl ⟨h1, rfl⟩
  · rw [if_neg h1] at e
    by_cases h2 : LT.lt (α := Nat) S b
    · rw [if_pos h2] at e
      refine .inr ⟨Nat.sub b (S + 1), ?_⟩
      cases q : ps[Nat.sub b (S + 1)]? with
      | none => rw [q] at e; cases e
      | some p =>
        rw [q] at e
        cases e
        exact ⟨p, (Nat.add_sub_cancel' h2).symm, rfl, rfl⟩
    · exact absurd (Nat.lt_of_le_of_ne (Nat.le_of_not_lt h2) h1) h
theorem paired_at {α β : Type} {F : α → β → Prop} : ∀ {xs : List α} {ys : List β}, Paired F xs ys → ∀ {i : Nat} {x : α}, xs[i]? = some x → ∃ y, ys[i]? = some y ∧ F x y
  | _, _, .nil, i, x, h => by cases h
  | _, _, .cons r t, 0, x, h => by
    cases h
    exact ⟨_, rfl, r⟩
  | _, _, .cons r t, i + 1, x, h => paired_at t h
section
variable {X : Cx} {pins : List (Addr × Obj)} {σ : L2.St} {H : Hp} {s : Shared}
theorem lowH_of {S : Addr} (I : Inv X pins σ H s) (low : ∀ b o, s.heap.get? b = some o → LT.lt (α := Nat) b S) : ∀ b o, H b = some o → LT.lt (α := Nat) b S := fun b o e => by
  cases q : s.heap.get? b with
  | none => rw [I.hok.gone q] at e; cases e
  | some u => exact low b u q
theorem pairs_land {ps : List (V × V)} {us : List (Value × Value)} {h' : Heap} {tk : Nat} {acc : Array Value} {c : Nat} {S : Addr} (I : Inv X pins σ H s) (rel : Paired (fun (p : V × V) (u : Value × Value) => L2.RelV p.1 u.1 ∧ L2.RelV p.2 u.2) ps us) (few : ps.length ≤ sizeLine)
    (keep : ∀ b o, s.heap.get? b = some o → h'.get? b = some o) (low : ∀ b o, s.heap.get? b = some o → LT.lt (α := Nat) b S) (L : h'.get? S = some (lobj acc c)) (refs : Refs (S + 1) ps.length acc) (made : ∀ (j : Nat) x y, us[j]? = some (x, y) → IsPair h' (S + 1 + j) x y) :
    Inv X pins σ (hpPairs H S ps) { s with heap := h', toks := tk } := by
  have lowH : ∀ b o, H b = some o → LT.lt (α := Nat) b S := lowH_of I low
  have kp : ∀ b u, H b = some u → hpPairs H S ps b = some u := fun b u e => by rw [hpPairs_low (lowH b u e)]; exact e
  refine I.call' (ch := []) rfl ⟨fun b o q _ _ _ => keep b o q, fun b o q _ _ _ => ⟨o.slots, keep b o q⟩, fun b o q n _ => ?_, fun b o q _ => ⟨o, keep b o q⟩, fun b xs q => kp b _ q, fun b o u q => kp b _ q, fun b qs q => ⟨#[], by rw [kp b _ q]; simp⟩⟩ (fun b u q => ?_) I.bare fun b z => by simp at z
  · rw [hpPairs_low (low b o q)]
    exact n
  · by_cases hb : LT.lt (α := Nat) b S
    · rw [hpPairs_low hb] at q
      exact (I.hok b u q).stay (fun d v _ y => keep d v y) (fun d y => kp d _ y) fun d xs y => kp d _ y
    · rcases hpPairs_new hb q with ⟨rfl, rfl⟩ | ⟨j, p, rfl, e, rfl⟩
      · refine ⟨by simpa using few, acc.toList, c, ?_, by rw [Array.toArray_toList]; exact L⟩
        have el : acc.toList = ((List.range ps.length).map fun j => Value.ref (b + 1 + j)) := by
          apply List.ext_getElem?
          intro i
          by_cases hi : i < ps.length
          · rw [Array.getElem?_toList, refs.2 i hi, List.getElem?_map, List.getElem?_range hi]
            rfl
          · rw [Array.getElem?_toList, Array.getElem?_eq_none (by rw [refs.1]; omega), List.getElem?_eq_none (by simpa using hi)]
        rw [el]
        generalize List.range ps.length = rs
        induction rs with
        | nil => exact .nil
        | cons r rs ih => exact .cons rfl ih
      · obtain ⟨⟨x, y⟩, e2, r1, r2⟩ := paired_at rel e
        exact ⟨by show 2 ≤ sizeLine; decide, [x, y], .cons r1 (.cons r2 .nil), ⟨_, made j x y e2, rfl, _, rfl⟩⟩
theorem zip_rel {α : Type} : ∀ {xs ys : List V} {us vs : List Value}, Vals xs us → Vals ys vs → Paired (fun (p : V × V) (u : Value × Value) => L2.RelV p.1 u.1 ∧ L2.RelV p.2 u.2) (xs.zip ys) (us.zip vs)
  | _, _, _, _, .nil, _ => by simp; exact .nil
  | _, _, _, _, .cons _ _, .nil => .nil
  | _, _, _, _, .cons a b, .cons c d => .cons ⟨a, c⟩ (zip_rel (α := α) b d)
end
end K1

/-! ## C13 -/
set_option Elab.async false
set_option linter.all false
set_option maxRecDepth 100000
set_option maxHeartbeats 4000000
namespace K1
open PySem PySem.Spec PyProof.Rows L2
/-- what list(zip(..)) leaves: S is new -/
def ZipOut (xs ys : List V) (H : Hp) (Q : VK) : Prop := ∀ S, (∀ b o, H b = some o → LT.lt (α := Nat) b S) → Q (.ref S) (hpPairs H S (xs.zip ys))
/-- list(zip(a, b)) of two lists -/
def tLZip (K : PySem.W.Frag) (ta : TA) : TE := fun σ H Q => ta σ H fun vs H1 => ∃ a b xs ys, vs = [.ref a, .ref b] ∧ SqL K H1 a xs ∧ SqL K H1 b ys ∧ ZipOut xs ys H1 Q
section
variable {X : Cx}
theorem pe_listZip {e1 e2 : Expr} {ta : TA} {p2 p3 pos2 pos3 : Pos} (hc : X.calm = true) (hg3 : Gl X "list") (hm3 : X.mg "list" = none) (hg2 : Gl X "zip") (hm2 : X.mg "zip" = none) (ha : PA X [e1, e2] ta)
    (hst : starEach [e1, e2] X.env = (false, eval e1 X.env) :: starEach [e2] X.env := by rfl) (hpl : (backTo pos2 (starEach [e2] X.env)).any (·.1) = false := by rfl) :
    PE X (.Call (.Name "list" p3) [.Call (.Name "zip" p2) [e1, e2] [] pos2] [] pos3) (tLZip X.K ta) := by
  refine ⟨fun pins s σ H Q I h => ?_⟩
  refine Call_ (ld_blt I hg3 hm3 boot_list (PyProof.Rows.callWith_type1 (PyProof.Rows.args_cons ?_ rfl) rfl rfl))
  refine Call_ (ld_blt I hg2 hm2 PyProof.Rows.boot_zip (PyProof.Rows.callWith_type1 (thn (ha.run pos2 pins s σ H _ I h) fun us s1 ⟨vs, H1, J, r, q⟩ => ?_) hst hpl))
  obtain ⟨a, b, xs, ys, rfl, t1, t2, q⟩ := q
  obtain ⟨u1, u2, rfl, r1, r2⟩ := vals2 r
  cases r1
  cases r2
  obtain ⟨its, rv, q1, sm⟩ := J.list t1
  obtain ⟨jts, rw_, q2, small⟩ := J.list t2
  have w1 : s1.heap.IsList a its.toArray := q1.isList
  have w2 : s1.heap.IsList b jts.toArray := q2.isList
  obtain ⟨o1, g1, _⟩ := id w1
  obtain ⟨o2, g2, _⟩ := id w2
  have few : min its.toArray.size jts.toArray.size ≤ sizeLine := by
    rw [List.size_toArray, List.size_toArray]
    exact Nat.le_trans (Nat.min_le_right _ _) (by rw [← rw_.length]; exact small)
  refine PySem.call_zip_2 w1 w2 fun h' hz hTI hTO h1 h2 len kept => PyProof.Rows.args_nil ?_
  have ap := PySem.W.ktu_apart s1.heap.objs.size a b (Heap.lt_size g1) (Heap.lt_size g2)
  refine call_listZipL (s := { s1 with heap := h' }) (xs := its.toArray) (ys := jts.toArray) (J.ok.hd hc) ap few ⟨hz, hTI, ⟨_, _, hTO⟩, h1, h2, w1.at fun o e => kept _ o e, w2.at fun o e => kept _ o e⟩ fun h3 tk3 acc c L refs made kept3 => ?_
  have ml : (xs.zip ys).length = min its.toArray.size jts.toArray.size := by rw [List.length_zip, List.size_toArray, List.size_toArray, rv.length, rw_.length]
  have keep : ∀ c o, s1.heap.get? c = some o → h3.get? c = some o := fun c o e => by
    refine kept3 c o (fun m => ?_) (kept c o e)
    have lt := Heap.lt_size e
    simp only [List.mem_cons, List.not_mem_nil, or_false] at m
    have no : ∀ n : Nat, ¬ (s1.heap.objs.size + n < s1.heap.objs.size) := fun n z => Nat.lt_irrefl _ (Nat.lt_of_le_of_lt (Nat.le_add_right _ n) z)
    rcases m with z | z | z | z <;> rw [z] at lt
    · exact no 4 lt
    · exact no 3 lt
    · exact no 0 lt
    · exact no 1 lt
  have le : Nat.le s1.heap.objs.size h'.objs.size := by rw [len]; exact Nat.le_add_right _ 5
  have ask : ∀ (j : Nat) x y, (its.zip jts)[j]? = some (x, y) → IsPair h3 (h'.objs.size + 1 + j) x y := fun j x y e => by
    obtain ⟨e1, e2⟩ := List.getElem?_zip_eq_some.mp e
    have lt : j < min its.toArray.size jts.toArray.size := by
      rw [List.size_toArray, List.size_toArray]
      exact Nat.lt_min.mpr ⟨(List.getElem?_eq_some_iff.mp e1).1, (List.getElem?_eq_some_iff.mp e2).1⟩
    exact made j x y lt (by rw [List.getElem?_toArray]; exact e1) (by rw [List.getElem?_toArray]; exact e2)
  have land := pairs_land (s := s1) (tk := tk3) J (zip_rel (α := Nat) rv rw_) (by rw [ml]; exact few) keep (fun b o e => Nat.lt_of_lt_of_le (Heap.lt_size e) le) L (by rw [ml]; exact refs) ask
  refine ⟨.ref h'.objs.size, _, land, rfl, q _ fun b o e => Nat.lt_of_lt_of_le (J.hok.lt e) le⟩
end
end K1

/-! ## C14 -/
set_option Elab.async false
set_option linter.all false
set_option maxRecDepth 100000
set_option maxHeartbeats 4000000
namespace K1
open PySem PySem.Spec PyProof.Rows L2
/-! ### zip(a, b) of any two things that are iterated over -/
abbrev zTI (i1 i2 : Value) : Obj := { cls := .type "tuple", data := .seq #[i1, i2] }
abbrev zTO : Obj := { cls := .type "tuple", data := .seq #[.none, .none] }
abbrev zZ (a b : Addr) : Obj := { cls := .type "zip", data := .fields #[.none, .bool false, .bool false, .ref a, .ref b] }
section
variable {prog : Program} {w : World} {A : Around} {E : Value → Shared → Prop} {s : Shared}
theorem zipNew2 {o1 o2 : Value} {R : Value → Shared → Prop} (h : wpAny (model prog w) A (pyIter o1) (fun i1 s1 => wpAny (model prog w) A (pyIter o2) (fun i2 s2 =>
      R (.ref (s2.heap.objs.size + 2)) { s2 with heap := ((s2.heap.push (zTI i1 i2)).push zTO).push (zZ s2.heap.objs.size (s2.heap.objs.size + 1)) }) E s1) E s) :
    wpAny (model prog w) A (Builtin.«zip.__new__» ⟨[.type "zip", o1, o2], []⟩) (fun fin s' => ∃ v, fin = .done (.ret v) ∧ R v s') E s := by
  have hsub := sub_zip
  unfold Builtin.«zip.__new__»
  refine wpAny_bind ?_
  unfold Builtin.SmallTypes.newClass
  refine wpAny_bind (wpAny_of_eq (a := true) (by first | rfl | kernel_rfl | (unfold isType; rw [isSubtype_type]; kernel_rfl)) ?_)
  refine PySem.W.KFB.if_not rfl ?_
  refine wpAny_bind (wpAny_of_eq hsub ?_)
  refine PySem.W.KFB.if_not rfl ?_
  refine wpAny_pure ?_
  dsimp only
  refine wpAny_ite_split (fun z => absurd z (by decide)) (fun _ => ?_)
  refine wpAny_bind ?_
  unfold Builtin.SmallTypes.iterAll
  simp only [List.forIn_cons, List.forIn_nil, List.forIn'_cons, List.forIn'_nil, bind_assoc, pure_bind]
  refine wpAny_bind (wpAny_holding (wpAny_mono h (fun i1 s1 h1 => ?_) fun _ _ x => x))
  refine wpAny_bind (wpAny_holding (wpAny_mono h1 (fun i2 s2 h2 => ?_) fun _ _ x => x))
  refine wpAny_pure ?_
  show wpAny _ _ (do let a ← newTuple [i1, i2]; let b ← newTuple [.none, .none]; let c ← Builtin.SmallTypes.newRecord (.type "zip") [.none, .bool false, .bool false, a, b]; ret c) _ _ _
  refine wpAny_bind (wpAny_newTuple (wpAny_bind (wpAny_newTuple (wpAny_bind ?_))))
  unfold Builtin.SmallTypes.newRecord
  dsimp only
  refine wpAny_newObj_type (wpAny_pure ⟨_, rfl, ?_⟩)
  have e1 : (s2.heap.push (zTI i1 i2)).objs.size = s2.heap.objs.size + 1 := Heap.size_push ..
  have e2 : ((s2.heap.push (zTI i1 i2)).push zTO).objs.size = s2.heap.objs.size + 2 := by rw [Heap.size_push, e1]
  have g : R (.ref ((s2.heap.push (zTI i1 i2)).push zTO).objs.size) { s2 with heap := ((s2.heap.push (zTI i1 i2)).push zTO).push (zZ s2.heap.objs.size (s2.heap.push (zTI i1 i2)).objs.size) } := by
    rw [e1, e2]
    exact h2
  exact g
theorem zAt (h : Heap) (i1 i2 : Value) : (((h.push (zTI i1 i2)).push zTO).push (zZ h.objs.size (h.objs.size + 1))).get? (h.objs.size + 2) = some (zZ h.objs.size (h.objs.size + 1)) := by
  have e2 : ((h.push (zTI i1 i2)).push zTO).objs.size = h.objs.size + 2 := by rw [Heap.size_push, Heap.size_push]
  rw [← e2]
  exact Heap.get?_push_size _ rfl
theorem call_zip2 {o1 o2 : Value} {Q : Value → Shared → Prop} (h : wpAny (model prog w) A.in1.in1 (pyIter o1) (fun i1 s1 => wpAny (model prog w) A.in1.in1 (pyIter o2) (fun i2 s2 =>
      Q (.ref (s2.heap.objs.size + 2)) { s2 with heap := ((s2.heap.push (zTI i1 i2)).push zTO).push (zZ s2.heap.objs.size (s2.heap.objs.size + 1)) }) E s1) E s) :
    wpAny (model prog w) A (call (.type "zip") [o1, o2]) Q E s := by
  refine callType_codes (Q₁ := fun obj s₁ => s₁.TypeIs obj "zip" ∧ Q obj s₁) F.called_zip (F.typeCall_zip_2 _ _) F.entry_object_init
    (codeAny_call_builtin_at (Code.quiet_builtin _ (by decide +kernel)) F.entry_zip_new (wpAny_of_eq (F.newCall_zip_2 _ _) ?_)) fun obj s₁ h₁ => ?_
  · rw [show (A.in1).under (.builtin "zip.__new__" ⟨[.type "zip", o1, o2], []⟩) = A.in1.in1 from Around.under_plainId (by decide +kernel) _]
    refine wpAny_mono (zipNew2 (R := fun obj s₁ => s₁.TypeIs obj "zip" ∧ Q obj s₁) (wpAny_mono h (fun i1 s1 h1 => wpAny_mono h1 (fun i2 s2 h2 => ⟨⟨zZ s2.heap.objs.size (s2.heap.objs.size + 1), zAt s2.heap i1 i2, rfl⟩, h2⟩) fun _ _ x => x) fun _ _ x => x)) (fun fin s' q => ?_) fun _ _ x => x
    obtain ⟨v, rfl, q⟩ := q
    exact q
  · exact ⟨h₁.1, F.args_object_init_3 obj _ _, object_init_meets F.called_zip.init.lookup F.called_zip.made (by decide) prog w A.in1 _ s₁ ⟨h₁.1, rfl, h₁.2⟩⟩
end
end K1

/-! ## C15 -/
set_option Elab.async false
set_option linter.all false
set_option maxRecDepth 100000
set_option maxHeartbeats 4000000
namespace K1
open PySem PySem.Spec PyProof.Rows L2
/-! ### list(zip(a, b)) of objects that give iterators over tuples -/
def tZipOwn (X : Cx) (C : Addr) (spI : Sp) (ta : TA) : TE := fun σ H Q => ta σ H fun vs H1 => ∃ a dx fs b dy gs, vs = [.ref a, .ref b] ∧ H1 a = some (.ins C dx fs) ∧ H1 b = some (.ins C dy gs) ∧
  spI [.ref a] H1 (fun v H2 => ∃ i1 l1 xs, v = .ref i1 ∧ H2 = upd H1 i1 (TIt l1 i1 0) ∧ H1 i1 = none ∧ Fr0 X.H_0 i1 ∧ SqT X.K H1 l1 xs ∧
    spI [.ref b] (upd H1 i1 (TIt l1 i1 0)) (fun w H3 => ∃ i2 l2 ys, w = .ref i2 ∧ H3 = upd (upd H1 i1 (TIt l1 i1 0)) i2 (TIt l2 i2 0) ∧ i2 ≠ i1 ∧ H1 i2 = none ∧ Fr0 X.H_0 i2 ∧ SqT X.K H1 l2 ys ∧ ZipOut xs ys H1 Q) E0) E0
theorem delH_upd {H : Hp} {a : Addr} {o : HO} (e : H a = none) : delH (upd H a o) a = H := by
  funext b
  unfold delH upd
  by_cases h : b = a <;> simp [h, e]
section
variable {X : Cx} {C : Addr} {n : Nat} {spI : Sp}
theorem pyIter_own {pins : List (Addr × Obj)} {σ : L2.St} {H : Hp} {s : Shared} {A : Around} {E : Value → Shared → Prop} {a dx : Addr} {fs : List (Str × V)} {Qv : VK} {Q : Value → Shared → Prop} (S : Spc X C "__iter__" n spI) (sb : Sub X n A) (I : Inv X pins σ H s) (ha : H a = some (.ins C dx fs))
    (q : spI [.ref a] H Qv E0) (go : ∀ v H', Qv v H' → ∃ it l i, v = .ref it ∧ H' it = some (TIt l it i) ∧ ∀ s', Inv X pins σ H' s' → Q (.ref it) s') : wpAny (model X.prog X.w) A (pyIter (.ref a)) Q E s := by
  obtain ⟨f, fd, ps, hs, hf, F, hb⟩ := S.ex
  obtain ⟨mA, J, _⟩ := ins_get I.hok ha
  obtain ⟨od, J, _⟩ := J.look
  obtain ⟨m0, hF⟩ := I.fr
  refine PySem.W.owit_iter hF I.ok.mod.kin J hs hf (wpAny_mono (run_own (A := A) sb F hb I (.cons (show L2.RelV (V.ref a) (Value.ref a) from rfl) .nil) q) (fun r s' hq => ?_) fun _ _ x => x)
  obtain ⟨v, H1, I1, rv, h1⟩ := hq
  obtain ⟨it, l, i, rfl, ei, h2⟩ := go _ _ h1
  cases rv
  exact it_next (tIt_get I1 ei) (h2 _ I1)
theorem pe_listZipOwn {e1 e2 : Expr} {ta : TA} {p2 p3 pos2 pos3 : Pos} (hc : X.calm = true) (hx : X.ex = []) (SI : Spc X C "__iter__" n spI) (hr : Room (n + 2) X.A) (hg3 : Gl X "list") (hm3 : X.mg "list" = none) (hg2 : Gl X "zip") (hm2 : X.mg "zip" = none) (ha : PA X [e1, e2] ta)
    (hst : starEach [e1, e2] X.env = (false, eval e1 X.env) :: starEach [e2] X.env := by rfl) (hpl : (backTo pos2 (starEach [e2] X.env)).any (·.1) = false := by rfl) :
    PE X (.Call (.Name "list" p3) [.Call (.Name "zip" p2) [e1, e2] [] pos2] [] pos3) (tZipOwn X C spI ta) := by
  refine ⟨fun pins s σ H Q I h => ?_⟩
  refine Call_ (ld_blt I hg3 hm3 boot_list (PyProof.Rows.callWith_type1 (PyProof.Rows.args_cons ?_ rfl) rfl rfl))
  refine Call_ (ld_blt I hg2 hm2 PyProof.Rows.boot_zip (PyProof.Rows.callWith_type1 (thn (ha.run pos2 pins s σ H _ I h) fun us s1 ⟨vs, H1, J, r, q⟩ => ?_) hst hpl))
  obtain ⟨a, dx, fs, b, dy, gs, rfl, hA, hB, q⟩ := q
  obtain ⟨u1, u2, rfl, r1, r2⟩ := vals2 r
  cases r1
  cases r2
  have sb : Sub X n X.A.in1.in1 := Sub.in1 (Sub.in1 ⟨hr, rfl⟩)
  refine call_zip2 (pyIter_own SI sb J hA q fun v H2 z => ?_)
  obtain ⟨i1, l1, xs, rfl, rfl, n1, f1, t1, z⟩ := z
  refine ⟨i1, l1, 0, rfl, upd_same, fun s2 J2 => pyIter_own SI sb J2 (by rw [upd_ne (ne_of_none hB n1)]; exact hB) z fun w H3 z => ?_⟩
  obtain ⟨i2, l2, ys, rfl, rfl, n12, n2, f2, t2, q⟩ := z
  refine ⟨i2, l2, 0, rfl, upd_same, fun s3 J3 => PyProof.Rows.args_nil ?_⟩
  have n2' : upd H1 i1 (TIt l1 i1 0) i2 = none := by rw [upd_ne n12]; exact n2
  have g1 : s3.heap.IsTupleIter i1 l1 0 := tIt_get J3 (by rw [upd_ne (Ne.symm n12)]; exact upd_same)
  have g2 : s3.heap.IsTupleIter i2 l2 0 := tIt_get J3 upd_same
  have t1' : SqT X.K (upd (upd H1 i1 (TIt l1 i1 0)) i2 (TIt l2 i2 0)) l1 xs := sqT_upd (sqT_upd t1 (.inr (.inr n1))) (.inr (.inr n2'))
  have t2' : SqT X.K (upd (upd H1 i1 (TIt l1 i1 0)) i2 (TIt l2 i2 0)) l2 ys := sqT_upd (sqT_upd t2 (.inr (.inr n1))) (.inr (.inr n2'))
  obtain ⟨its, rv, q1, sm⟩ := J3.tuple t1'
  obtain ⟨jts, rw_, q2, small⟩ := J3.tuple t2'
  have w1 : s3.heap.IsTuple l1 its.toArray := q1
  have w2 : s3.heap.IsTuple l2 jts.toArray := q2
  obtain ⟨G2, k2, no2, J4⟩ := J3.untrack upd_same f2 hx
  rw [delH_upd n2'] at J4
  obtain ⟨G1, k1, no1, J5⟩ := J4.untrack upd_same f1 hx
  rw [delH_upd n1] at J5
  have low : ∀ {c o}, s3.heap.get? c = some o → LT.lt (α := Nat) c s3.heap.objs.size := fun e => Heap.lt_size e
  obtain ⟨o1, e1, c1, _⟩ := id g1
  obtain ⟨o2, e2, c2, _⟩ := id g2
  obtain ⟨o3, e3, c3, _⟩ := id w1
  obtain ⟨o4, e4, c4, _⟩ := id w2
  have li1 := low e1
  have li2 := low e2
  have ll1 := low e3
  have ll2 := low e4
  have tt : (Value.type "tuple_iterator" = Value.type "tuple") → False := fun z => by injection z with z; exact absurd z (by decide)
  have d1 : l1 ≠ i1 := fun z => by rw [z, e1] at e3; cases e3; exact tt (c1.symm.trans c3)
  have d2 : l1 ≠ i2 := fun z => by rw [z, e2] at e3; cases e3; exact tt (c2.symm.trans c3)
  have d3 : l2 ≠ i1 := fun z => by rw [z, e1] at e4; cases e4; exact tt (c1.symm.trans c4)
  have d4 : l2 ≠ i2 := fun z => by rw [z, e2] at e4; cases e4; exact tt (c2.symm.trans c4)
  have up : ∀ {c k : Nat}, c < s3.heap.objs.size → c ≠ s3.heap.objs.size + k := fun h => Nat.ne_of_lt (Nat.lt_of_lt_of_le h (Nat.le_add_right _ _))
  have up' : ∀ {c k : Nat}, c < s3.heap.objs.size → s3.heap.objs.size + k ≠ c := fun h => Ne.symm (up h)
  have ap : ZipApart (s3.heap.objs.size + 2) s3.heap.objs.size (s3.heap.objs.size + 1) i1 i2 l1 l2 :=
    ⟨Nat.ne_of_lt (Nat.lt_add_of_pos_right (by decide)), Nat.ne_of_lt (Nat.lt_succ_self _), up li1, up li2, Nat.ne_of_lt (Nat.lt_succ_self _), Nat.ne_of_gt li1, Nat.ne_of_gt li2, up' li1, up' li2, Ne.symm n12, up ll1, up ll1, d1, d2, up ll2, up ll2, d3, d4⟩
  have few : min its.toArray.size jts.toArray.size ≤ sizeLine := by
    rw [List.size_toArray, List.size_toArray]
    exact Nat.le_trans (Nat.min_le_right _ _) (by rw [← rw_.length]; exact small)
  obtain ⟨h', eh⟩ : ∃ h', h' = ((s3.heap.push (zTI (.ref i1) (.ref i2))).push zTO).push (zZ s3.heap.objs.size (s3.heap.objs.size + 1)) := ⟨_, rfl⟩
  have kept : ∀ c o, s3.heap.get? c = some o → h'.get? c = some o := fun c o e => by
    rw [eh]
    exact Heap.get?_push_of_some _ (Heap.get?_push_of_some _ (Heap.get?_push_of_some _ e))
  have len : h'.objs.size = s3.heap.objs.size + 3 := by rw [eh, Heap.size_push, Heap.size_push, Heap.size_push]
  have pz : h'.get? (s3.heap.objs.size + 2) = some (zZ s3.heap.objs.size (s3.heap.objs.size + 1)) := by rw [eh]; exact zAt _ _ _
  have pTI : h'.get? s3.heap.objs.size = some (zTI (.ref i1) (.ref i2)) := by
    rw [eh]
    exact Heap.get?_push_of_some _ (Heap.get?_push_of_some _ (Heap.get?_push_size _ rfl))
  have pTO : h'.get? (s3.heap.objs.size + 1) = some zTO := by
    rw [eh, ← Heap.size_push s3.heap (zTI (.ref i1) (.ref i2))]
    exact Heap.get?_push_of_some _ (Heap.get?_push_size _ rfl)
  rw [← eh]
  refine call_listZip (s := { s3 with heap := h' }) (xs := its.toArray) (ys := jts.toArray) (J3.ok.hd hc) ap few ⟨pz, pTI, ⟨_, _, pTO⟩, g1.at fun o e => kept _ o e, g2.at fun o e => kept _ o e, w1.at fun o e => kept _ o e, w2.at fun o e => kept _ o e⟩ fun h3 tk3 acc c L refs made kept3 => ?_
  have ml : (xs.zip ys).length = min its.toArray.size jts.toArray.size := by rw [List.length_zip, List.size_toArray, List.size_toArray, rv.length, rw_.length]
  have keep : ∀ c o, G1.get? c = some o → h3.get? c = some o := fun c o e => by
    have e3 := k2 c o (k1 c o e)
    refine kept3 c o (fun m => ?_) (kept c o e3)
    have lt := low e3
    simp only [List.mem_cons, List.not_mem_nil, or_false] at m
    rcases m with z | z | z | z
    · exact up lt z
    · exact up lt z
    · rw [z, no1] at e; cases e
    · rw [z] at e
      have := k1 _ _ e
      rw [no2] at this
      cases this
  have leG : ∀ b o, G1.get? b = some o → LT.lt (α := Nat) b h'.objs.size := fun b o e => Nat.lt_of_lt_of_le (low (k2 b o (k1 b o e))) (by rw [len]; exact Nat.le_add_right _ _)
  have ask : ∀ (j : Nat) x y, (its.zip jts)[j]? = some (x, y) → IsPair h3 (h'.objs.size + 1 + j) x y := fun j x y e => by
    obtain ⟨e1, e2⟩ := List.getElem?_zip_eq_some.mp e
    have lt : j < min its.toArray.size jts.toArray.size := by
      rw [List.size_toArray, List.size_toArray]
      exact Nat.lt_min.mpr ⟨(List.getElem?_eq_some_iff.mp e1).1, (List.getElem?_eq_some_iff.mp e2).1⟩
    exact made j x y lt (by rw [List.getElem?_toArray]; exact e1) (by rw [List.getElem?_toArray]; exact e2)
  have land := pairs_land (s := { s3 with heap := G1 }) (tk := tk3) J5 (zip_rel (α := Nat) rv rw_) (by rw [ml]; exact few) keep leG L (by rw [ml]; exact refs) ask
  refine ⟨.ref h'.objs.size, _, land, rfl, q _ fun b o e => ?_⟩
  exact lowH_of J5 leG b o e
end
end K1

/-! ## B2_15 -/
set_option Elab.async false
set_option linter.all false
set_option maxRecDepth 100000
set_option maxHeartbeats 8000000
namespace B2_
open PySem PySem.Spec PyProof.Rows L2
/-! ### what a scene's dicts give -/
theorem val_at {R : V → Ln → Prop} : ∀ {kvs : List (Key × V)} {ls : List Ln}, Paired (fun kv l => kv.1 = Sum.inr l.t ∧ R kv.2 l) kvs ls → ∀ {z : Str}, z ∈ ls.map (·.t) → ∃ v l, valV kvs (Sum.inr z) = some v ∧ l ∈ ls ∧ l.t = z ∧ R v l
  | _, _, .nil, z, h => by simp at h
  | _, _, .cons (a := kv) (b := l) ⟨e, r⟩ t, z, h => by
    by_cases q : l.t = z
    · refine ⟨kv.2, l, ?_, List.mem_cons_self, q, r⟩
      unfold valV
      rw [List.find?_cons_of_pos (by rw [e, q]; simp)]
      rfl
    · have h2 := (List.mem_cons.mp h).resolve_left fun w => q w.symm
      obtain ⟨v, m, a, b, c, d⟩ := val_at t h2
      refine ⟨v, m, ?_, List.mem_cons_of_mem _ b, c, d⟩
      unfold valV at a ⊢
      rw [List.find?_cons_of_neg (by rw [e]; simp; exact q)]
      exact a
theorem val_no {R : V → Ln → Prop} : ∀ {kvs : List (Key × V)} {ls : List Ln}, Paired (fun kv l => kv.1 = Sum.inr l.t ∧ R kv.2 l) kvs ls → ∀ {z : Str}, z ∉ ls.map (·.t) → valV kvs (Sum.inr z) = none
  | _, _, .nil, z, h => rfl
  | _, _, .cons (a := kv) (b := l) ⟨e, r⟩ t, z, h => by
    have q : l.t ≠ z := fun q => h (by rw [← q]; exact List.mem_cons_self)
    have a := val_no t (z := z) fun m => h (List.mem_cons_of_mem _ m)
    unfold valV at a ⊢
    rw [List.find?_cons_of_neg (by rw [e]; simp; exact q)]
    exact a
theorem val_some {R : V → Ln → Prop} {kvs : List (Key × V)} {ls : List Ln} (h : Paired (fun kv l => kv.1 = Sum.inr l.t ∧ R kv.2 l) kvs ls) (z : Str) : (valV kvs (Sum.inr z)).isSome = decide (z ∈ ls.map (·.t)) := by
  by_cases m : z ∈ ls.map (·.t)
  · obtain ⟨v, l, e, _⟩ := val_at h m
    rw [e, decide_eq_true m]
    rfl
  · rw [val_no h m, decide_eq_false m]
    rfl
/-! ### value in scene -/
abbrev s_con : Stmt := inClass (topS 15) 16
abbrev N_con : List Str := ["self", "value"]
theorem sc_con : FnScope N_con ["self", "value"] (defScope s_con) := ⟨rfl, rfl, rfl, by decide +kernel, rfl, by decide +kernel, by decide +kernel⟩
/-- a value that is no text -/
def NoText (K : PySem.W.Frag) (H : Hp) (v : V) : Prop := ∃ t, TyX K H v t ∧ PySem.W.kitOne K t (.type "str") = some false
def spCon (K : PySem.W.Frag) (C : Addr) : Sp := fun vs H Q _ => ∃ x v Ls, vs = [.ref x, v] ∧ SceneAt C H x Ls ∧ ((∃ z, v = .str z ∧ Q (.bl (decide (z ∈ tabsOf Ls))) H) ∨ (NoText K H v ∧ Q (.bl false) H))
section
variable {P : Program} {w : World} {K : PySem.W.Frag} {mg : Str → Option Value} {base : Heap}
theorem ok_con {f C : Addr} {fd : FuncData} (F : Fun K "__contains__" "Scene.__contains__" s_con f fd) (T : NamesS mg) (hstr : mg "str" = none) (TC : ClsS K mg C) : FnOk P w K mg base CX0 1 f fd ["self", "value"] (spCon K C) := by
  have nd := sc_con.nd
  refine F.ok sc_con (fun vs H Q E h => ?_) (fun cdv A outer s H vs Q E hr h => ?_)
  · obtain ⟨x, v, Ls, rfl, _⟩ := h
    rfl
  · obtain ⟨x, v, Ls, rfl, hx, k⟩ := h
    have hu : (A.deeper (envOfC "Scene.__contains__" (defScope s_con) s.heap.objs.size f cdv)).units + 1 < cLine := by have := hr.un; omega
    refine ⟨_, pss_one (ps_ret (pe_and (pe_callB (r := rIsi K) call_isi (by rfl) T.isinstance (by decide +kernel) (pa_cons (pv 1) (pa_cons (pe_bltn (v := .ty "str") (by rfl) hstr (by decide +kernel) rfl) pa_nil))) (pe_one (pe_cmp (pc_din hu (pv 1) (pe_fld (pv 0) rfl)) rfl)))), ?_⟩
    obtain ⟨dx, pl, pt, pc, pg, pf, dc, dk, h1, h2⟩ := hx
    rcases k with ⟨z, rfl, q⟩ | ⟨⟨t, ty, kit⟩, q⟩
    · refine ⟨_, rfl, _, _, _, _, true, rfl, .ty _, .base (.str z), kit_ty (by decide +kernel), true, rfl, iteT ?_⟩
      obtain ⟨kvs, e, pr⟩ := h2.cby
      refine ⟨_, rfl, .ref x, rfl, x, C, dx, _, .ref dc, rfl, h1, TC.cl, TC.ncb, rfl, dc, _, rfl, DGet.k (k := Sum.inr z) e, ?_⟩
      rw [val_some pr]
      exact q
    · exact ⟨_, rfl, _, _, t, _, false, rfl, .ty _, ty, kit, false, rfl, iteF q⟩
end
/-! ### the class's own ways -/
/-- a method of the class: its def keeps sp -/
structure Mth (P : Program) (w : World) (K : PySem.W.Frag) (mg : Str → Option Value) (base : Heap) (C : Addr) (n : Nat) (m : Str) (ps : List Str) (sp : Sp) : Prop where
  ex : ∃ f fd, Meth K C m f ∧ FnOk P w K mg base CX0 n f fd ps sp ∧ Binds K fd ps []
/-- its call with arguments -/
theorem pe_mth {X : Cx} {C : Addr} {n : Nat} {m : Str} {ps : List Str} {sp : Sp} {o e : Expr} {es : List Expr} {ta : TE} {t : TA} {apos pos : Pos} {pl : Sem Bool} (M : Mth X.prog X.w X.K X.mg X.base C n m ps sp) (c : Cls X.K C) (hr : Room n X.A) (he : PE X o ta) (ha : PA X (e :: es) t)
    (hst : starEach (e :: es) X.env = (false, eval e X.env) :: starEach es X.env := by rfl) (hpl : (backTo pos (starEach es X.env)).any (·.1) = false := by rfl)
    (ht : eval (.Call (.Attribute o m apos) (e :: es) [] pos) X.env = (do
      let ov ← eval o X.env
      standAt apos.atName
      let (f, first) ← holding [ov] (getMethod ov m pl)
      callWith pos f first (backTo pos (starEach (e :: es) X.env)) (backToKw pos (keywordEach [] X.env))) := by rfl) :
    PE X (.Call (.Attribute o m apos) (e :: es) [] pos) (tMeth C m sp [] E0 ta t) := by
  obtain ⟨f, fd, h1, h2, h3⟩ := M.ex
  exact pe_meth he c h1 h2 hr h3 .nil pass0 ha hst hpl ht
/-! ### _need -/
abbrev s_need : Stmt := inClass (topS 15) 21
abbrev N_need : List Str := ["self", "table"]
theorem sc_need : FnScope N_need ["self", "table"] (defScope s_need) := ⟨rfl, rfl, rfl, by decide +kernel, rfl, by decide +kernel, by decide +kernel⟩
def spNeed (C : Addr) : Sp := fun vs H Q _ => ∃ x z Ls, vs = [.ref x, .str z] ∧ SceneAt C H x Ls ∧ z ∈ tabsOf Ls ∧ Q .non H
section
variable {P : Program} {w : World} {K : PySem.W.Frag} {mg : Str → Option Value} {base : Heap}
/-- `in` of the class, told apart from a def's room -/
theorem spc_of {X : Cx} {C : Addr} {n : Nat} {m : Str} {ps : List Str} {sp : Sp} (M : Mth X.prog X.w X.K X.mg X.base C n m ps sp) : K1.Spc X C m n sp := by
  obtain ⟨f, fd, h1, h2, h3⟩ := M.ex
  exact ⟨f, fd, ps, h1.at_, h1.fn, h2, h3⟩
theorem ok_need {f C : Addr} {fd : FuncData} (F : Fun K "_need" "Scene._need" s_need f fd) (MC : Mth P w K mg base C 1 "__contains__" ["self", "value"] (spCon K C)) : FnOk P w K mg base CX0 2 f fd ["self", "table"] (spNeed C) := by
  have nd := sc_need.nd
  refine F.ok sc_need (fun vs H Q E h => ?_) (fun cdv A outer s H vs Q E hr h => ?_)
  · obtain ⟨x, z, Ls, rfl, _⟩ := h
    rfl
  · obtain ⟨x, z, Ls, rfl, hx, mz, q⟩ := h
    refine ⟨_, pss_one (ps_if (pt_cmpR (K1.op_notInOwn (spc_of MC) hr) (pv 1) (pv 0) rfl) (pss_one ps_never) pss_nil), ?_⟩
    obtain ⟨dx, pl, pt, pc, pg, pf, dc, dk, h1, h2⟩ := id hx
    refine ⟨_, rfl, _, rfl, x, dx, _, rfl, h1, x, .str z, Ls, rfl, hx, .inl ⟨z, rfl, _, rfl, ?_⟩⟩
    rw [decide_eq_true mz]
    exact ⟨_, rfl, iteF q⟩
end
end B2_

/-! ## B2_16 -/
set_option Elab.async false
set_option linter.all false
set_option maxRecDepth 100000
set_option maxHeartbeats 8000000
namespace B2_
open PySem PySem.Spec PyProof.Rows L2
theorem same_line {Ls : List Ln} {l m : Ln} (n : (Ls.map (·.t)).Nodup) (hl : l ∈ Ls) (hm : m ∈ Ls) (e : m.t = l.t) : m = l := by
  induction Ls with
  | nil => cases hl
  | cons a r ih =>
    have h := List.nodup_cons.mp n
    rcases List.mem_cons.mp hl with e1 | h1
    · rcases List.mem_cons.mp hm with e2 | h2
      · rw [e1, e2]
      · exact (h.1 (List.mem_map.mpr ⟨m, h2, by rw [e, e1]⟩)).elim
    · rcases List.mem_cons.mp hm with e2 | h2
      · exact (h.1 (List.mem_map.mpr ⟨l, h1, by rw [← e, e2]⟩)).elim
      · exact ih h.2 h1 h2
/-! ### columns_of -/
abbrev s_cof : Stmt := inClass (topS 15) 7
abbrev N_cof : List Str := ["self", "table"]
theorem sc_cof : FnScope N_cof ["self", "table"] (defScope s_cof) := ⟨rfl, rfl, rfl, by decide +kernel, rfl, by decide +kernel, by decide +kernel⟩
def spCof (C : Addr) : Sp := fun vs H Q _ => ∃ x l Ls, vs = [.ref x, .str l.t] ∧ SceneAt C H x Ls ∧ l ∈ Ls ∧ (Ls.map (·.t)).Nodup ∧ ∀ c, H c = some (.tup (l.cs.map V.str)) → Q (.ref c) H
/-! ### key_of -/
abbrev s_kof : Stmt := inClass (topS 15) 8
theorem sc_kof : FnScope N_cof ["self", "table"] (defScope s_kof) := ⟨rfl, rfl, rfl, by decide +kernel, rfl, by decide +kernel, by decide +kernel⟩
/-- the key as it is told -/
def KeyV (H : Hp) (v : V) : Kd → Prop
  | .key ks => ∃ p, v = .ref p ∧ H p = some (.tup (ks.map V.str))
  | _ => v = .non
def spKof (C : Addr) : Sp := fun vs H Q _ => ∃ x l Ls, vs = [.ref x, .str l.t] ∧ SceneAt C H x Ls ∧ l ∈ Ls ∧ (Ls.map (·.t)).Nodup ∧ ∀ v, KeyV H v l.k → Q v H
section
variable {P : Program} {w : World} {K : PySem.W.Frag} {mg : Str → Option Value} {base : Heap}
theorem ok_cof {f C : Addr} {fd : FuncData} (F : Fun K "columns_of" "Scene.columns_of" s_cof f fd) (TC : ClsS K mg C) (MN : Mth P w K mg base C 2 "_need" ["self", "table"] (spNeed C)) : FnOk P w K mg base CX0 3 f fd ["self", "table"] (spCof C) := by
  have nd := sc_cof.nd
  refine F.ok sc_cof (fun vs H Q E h => ?_) (fun cdv A outer s H vs Q E hr h => ?_)
  · obtain ⟨x, l, Ls, rfl, _⟩ := h
    rfl
  · obtain ⟨x, l, Ls, rfl, hx, ml, n, k⟩ := h
    have hu : (A.deeper (envOfC "Scene.columns_of" (defScope s_cof) s.heap.objs.size f cdv)).units + 1 < cLine := by have := hr.un; omega
    refine ⟨_, pss_cons (ps_expr (pe_mth MN TC.cl hr (pv 0) (pa_cons (pv 1) pa_nil))) (pss_one (ps_ret (pe_dget hu (pe_fld (pv 0) rfl) (pv 1) (fun _ _ => rfl)))), ?_⟩
    have mz : l.t ∈ tabsOf Ls := List.mem_map_of_mem ml
    obtain ⟨dx, pl, pt, pc, pg, pf, dc, dk, h1, h2⟩ := id hx
    refine ⟨.ref x, rfl, x, dx, _, rfl, h1, rfl, _, rfl, x, l.t, Ls, rfl, hx, mz, ?_⟩
    obtain ⟨kvs, e, pr⟩ := h2.cby
    obtain ⟨v, m, e1, e2, e3, c, rfl, hc⟩ := val_at pr mz
    obtain rfl := same_line n ml e2 e3
    exact ⟨.ref x, rfl, x, C, dx, _, .ref dc, rfl, h1, TC.cl, TC.ncb, rfl, _, rfl, dc, .ref c, rfl, e1 ▸ DGet.k (k := Sum.inr _) e, k c hc⟩
theorem ok_kof {f C : Addr} {fd : FuncData} (F : Fun K "key_of" "Scene.key_of" s_kof f fd) (TC : ClsS K mg C) (MN : Mth P w K mg base C 2 "_need" ["self", "table"] (spNeed C)) : FnOk P w K mg base CX0 3 f fd ["self", "table"] (spKof C) := by
  have nd := sc_kof.nd
  refine F.ok sc_kof (fun vs H Q E h => ?_) (fun cdv A outer s H vs Q E hr h => ?_)
  · obtain ⟨x, l, Ls, rfl, _⟩ := h
    rfl
  · obtain ⟨x, l, Ls, rfl, hx, ml, n, k⟩ := h
    have hu : (A.deeper (envOfC "Scene.key_of" (defScope s_kof) s.heap.objs.size f cdv)).units + 1 < cLine := by have := hr.un; omega
    refine ⟨_, pss_cons (ps_expr (pe_mth MN TC.cl hr (pv 0) (pa_cons (pv 1) pa_nil))) (pss_one (ps_ret (pe_dget1 hu (pe_fld (pv 0) rfl) (pv 1) ⟨rfl, rfl, rfl, rfl⟩))), ?_⟩
    have mz : l.t ∈ tabsOf Ls := List.mem_map_of_mem ml
    obtain ⟨dx, pl, pt, pc, pg, pf, dc, dk, h1, h2⟩ := id hx
    refine ⟨.ref x, rfl, x, dx, _, rfl, h1, rfl, _, rfl, x, l.t, Ls, rfl, hx, mz, ?_⟩
    obtain ⟨kvs, e, pr⟩ := h2.kby
    refine ⟨.ref x, rfl, x, C, dx, _, .ref dk, rfl, h1, TC.cl, TC.nkb, rfl, dk, rfl, ?_, _, rfl, _, DGet.k (k := Sum.inr _) e, ?_⟩
    · exact .inl ⟨kvs, Rd.of e⟩
    · by_cases q : isChg l = true
      · rw [val_no pr (fun m => ?_)]
        · refine k .non ?_
          unfold isChg at q
          cases hk : l.k with
          | chg => rfl
          | fix => rfl
          | key ks => rw [hk] at q; cases q
        · obtain ⟨a, m1, m2⟩ := List.mem_map.mp m
          obtain ⟨m3, m4⟩ := List.mem_filter.mp m1
          obtain rfl := same_line n ml m3 m2
          rw [q] at m4
          cases m4
      · have mf : l ∈ Ls.filter fun l => !isChg l := List.mem_filter.mpr ⟨ml, by simpa using q⟩
        obtain ⟨v, m, e1, e2, e3, hv⟩ := val_at pr (List.mem_map_of_mem mf)
        obtain rfl := same_line n ml (List.mem_filter.mp e2).1 e3
        rw [e1]
        refine k v ?_
        have q2 : ¬ isC m.k = true := q
        have hv2 : KdAt H v m.k := hv
        revert q2 hv2
        cases m.k with
        | chg => exact fun q2 _ => absurd rfl q2
        | fix => exact fun _ h => h
        | key ks => exact fun _ h => h
end
end B2_

/-! ## B2_17 -/
set_option Elab.async false
set_option linter.all false
set_option maxRecDepth 100000
set_option maxHeartbeats 8000000
namespace B2_
open PySem PySem.Spec PyProof.Rows L2
/-! ### lines as data -/
def dKd : Kd → PyData
  | .chg => .str "changing"
  | .fix => .none
  | .key ks => .tuple (ks.map .str)
def dLn (l : Ln) : PyData := .tuple [.str l.t, .tuple (l.cs.map .str), dKd l.k]
def dLines (Ls : List Ln) : PyData := .tuple (Ls.map dLn)
theorem eqv_strs : ∀ xs ys : List Str, PyData.eqvAll (xs.map .str) (ys.map .str) = true ↔ xs = ys
  | [], [] => by simp [PyData.eqvAll]
  | [], _ :: _ => by simp [PyData.eqvAll]
  | _ :: _, [] => by simp [PyData.eqvAll]
  | x :: xs, y :: ys => by
    have h := eqv_strs xs ys
    simp only [List.map_cons, PyData.eqvAll, PyData.eqv, Bool.and_eq_true, h, beq_iff_eq, List.cons.injEq]
theorem eqv_kd : ∀ a b : Kd, PyData.eqv (dKd a) (dKd b) = true ↔ a = b
  | .chg, .chg => by
    simp only [dKd, PyData.eqv, iff_true]
    exact beq_self_eq_true _
  | .chg, .fix => by simp [dKd, PyData.eqv]
  | .chg, .key _ => by simp [dKd, PyData.eqv]
  | .fix, .chg => by simp [dKd, PyData.eqv]
  | .fix, .fix => by simp [dKd, PyData.eqv]
  | .fix, .key _ => by simp [dKd, PyData.eqv]
  | .key _, .chg => by simp [dKd, PyData.eqv]
  | .key _, .fix => by simp [dKd, PyData.eqv]
  | .key xs, .key ys => by
    have h := eqv_strs xs ys
    simp only [dKd, PyData.eqv, h, Kd.key.injEq]
theorem eqv_ln (a b : Ln) : PyData.eqv (dLn a) (dLn b) = true ↔ a = b := by
  have h1 := eqv_strs a.cs b.cs
  have h2 := eqv_kd a.k b.k
  obtain ⟨t, cs, k⟩ := a
  obtain ⟨t2, cs2, k2⟩ := b
  simp only at h1 h2
  simp only [dLn, PyData.eqv, PyData.eqvAll, Bool.and_eq_true, h1, h2, beq_iff_eq, Ln.mk.injEq, and_true]
theorem eqv_lnsAll : ∀ xs ys : List Ln, PyData.eqvAll (xs.map dLn) (ys.map dLn) = true ↔ xs = ys
  | [], [] => by simp [PyData.eqvAll]
  | [], _ :: _ => by simp [PyData.eqvAll]
  | _ :: _, [] => by simp [PyData.eqvAll]
  | x :: xs, y :: ys => by
    have h := eqv_lnsAll xs ys
    have g := eqv_ln x y
    simp only [List.map_cons, PyData.eqvAll, Bool.and_eq_true, h, g, List.cons.injEq]
theorem eqv_lines (xs ys : List Ln) : PyData.eqv (dLines xs) (dLines ys) = true ↔ xs = ys := by
  unfold dLines
  rw [PyData.eqv]
  exact eqv_lnsAll xs ys
theorem dp_kd {K : PySem.W.Frag} {H : Hp} {v : V} {k : Kd} (h : KdAt H v k) : Dp K H v (dKd k) := by
  cases k with
  | chg =>
    obtain rfl : v = .str "changing" := h
    exact .str _
  | fix =>
    obtain rfl : v = .non := h
    exact .non
  | key ks =>
    obtain ⟨p, rfl, e⟩ := h
    exact .tup (SqT.of e) (dp_strs ks)
theorem dp_ln {K : PySem.W.Frag} {H : Hp} {v : V} {l : Ln} (h : LnAt H v l) : Dp K H v (dLn l) := by
  obtain ⟨p, c, kv, rfl, e1, e2, e3⟩ := h
  exact .tup (SqT.of e1) (.cons (.str _) (.cons (.tup (SqT.of e2) (dp_strs _)) (.cons (dp_kd e3) .nil)))
theorem dp_lns {K : PySem.W.Frag} {H : Hp} : ∀ {rs : List V} {Ls : List Ln}, Paired (LnAt H) rs Ls → DpAll K H rs (Ls.map dLn)
  | _, _, .nil => .nil
  | _, _, .cons a b => .cons (dp_ln a) (dp_lns b)
theorem dp_lines {K : PySem.W.Frag} {H : Hp} {pl : Addr} {rs : List V} {Ls : List Ln} (e : H pl = some (.tup rs)) (pr : Paired (LnAt H) rs Ls) : Dp K H (.ref pl) (dLines Ls) := .tup (SqT.of e) (dp_lns pr)
theorem lay_strs : ∀ xs : List Str, (∀ x ∈ xs, PyData.strOk x = true) → PyData.canLayAll0 (xs.map .str) = true ∧ PyData.depthAll (xs.map .str) = 0
  | [], _ => by simp [PyData.canLayAll0, PyData.depthAll]
  | x :: xs, h => by
    have g := lay_strs xs fun z hz => h z (List.mem_cons_of_mem _ hz)
    have e := h x List.mem_cons_self
    simp only [List.map_cons, PyData.canLayAll0, PyData.canLay0, PyData.depthAll, PyData.depth, g, e]
    simp
theorem lay_kd (k : Kd) (cs : List Str) (ok : k.Ok cs) : PyData.canLay0 (dKd k) = true ∧ PyData.depth (dKd k) ≤ 1 := by
  cases k with
  | chg => exact ⟨by decide +kernel, by simp [dKd, PyData.depth]⟩
  | fix => exact ⟨by decide +kernel, by simp [dKd, PyData.depth]⟩
  | key ks =>
    have g := lay_strs ks fun z hz => name_strOk (ok.1 z hz)
    simp only [dKd, PyData.canLay0, PyData.depth, g]
    simp
theorem lay_ln (l : Ln) (ok : l.Ok) : PyData.canLay0 (dLn l) = true ∧ PyData.depth (dLn l) ≤ 2 := by
  have g := lay_strs l.cs fun z hz => name_strOk (ok.cols z hz)
  have h := lay_kd l.k l.cs ok.key
  have e := name_strOk ok.name
  refine ⟨by simp only [dLn, PyData.canLay0, PyData.canLayAll0, g, h, e, Bool.and_true], ?_⟩
  have h2 := h.2
  simp only [dLn, PyData.depth, PyData.depthAll, g]
  omega
theorem lay_lns : ∀ Ls : List Ln, (∀ l ∈ Ls, l.Ok) → PyData.canLayAll0 (Ls.map dLn) = true ∧ PyData.depthAll (Ls.map dLn) ≤ 2
  | [], _ => by simp [PyData.canLayAll0, PyData.depthAll]
  | l :: Ls, h => by
    obtain ⟨g1, g2⟩ := lay_lns Ls fun z hz => h z (List.mem_cons_of_mem _ hz)
    obtain ⟨e1, e2⟩ := lay_ln l (h l List.mem_cons_self)
    simp only [List.map_cons, PyData.canLayAll0, PyData.depthAll, g1, e1]
    exact ⟨rfl, by omega⟩
theorem shaped_lines (Ls : List Ln) (h : ∀ l ∈ Ls, l.Ok) : SeqAt.shaped (dLines Ls) = true := by
  obtain ⟨g1, g2⟩ := lay_lns Ls h
  unfold SeqAt.shaped dLines
  rw [Bool.and_eq_true]
  refine ⟨by simp only [PyData.canLay0, g1], decide_eq_true ?_⟩
  simp only [PyData.depth]
  omega
/-! ### the class as a type -/
structure ClsI (K : PySem.W.Frag) (C : Addr) : Prop where
  cl : Cls K C
  ga : PySem.W.findIn K (.ref C) "__class__" = some (some (.builtin "object.__class__"))
  gn : PySem.W.specialIn K (.builtin "object.__class__") "__get__" = some (some (.builtin "getset_descriptor.__get__"))
  gt : PySem.W.takesIn K (.builtin "object.__class__") = some true
  gm : PySem.W.mroIn K C (.type "object") = some true
  self : PySem.W.kitOne K (.ref C) (.ref C) = some true
  str : PySem.W.kitOne K (.ref C) (.type "str") = some false
theorem ty_scene {K : PySem.W.Frag} {C x : Addr} {H : Hp} {Ls : List Ln} (I : ClsI K C) (h : SceneAt C H x Ls) : TyX K H (.ref x) (.ref C) := by
  obtain ⟨dx, pl, pt, pc, pg, pf, dc, dk, h1, _⟩ := h
  exact .base (.ins h1 I.cl I.ga I.gn I.gt I.gm)
/-! ### scene == value -/
abbrev s_eq : Stmt := inClass (topS 15) 19
abbrev N_eq : List Str := ["self", "other"]
theorem sc_eq : FnScope N_eq ["self", "other"] (defScope s_eq) := ⟨rfl, rfl, rfl, by decide +kernel, rfl, by decide +kernel, by decide +kernel⟩
def NoScene (K : PySem.W.Frag) (C : Addr) (H : Hp) (v : V) : Prop := ∃ t, TyX K H v t ∧ PySem.W.kitOne K t (.ref C) = some false
def spEq (K : PySem.W.Frag) (C : Addr) : Sp := fun vs H Q _ => ∃ x v Ls, vs = [.ref x, v] ∧ SceneAt C H x Ls ∧ (∀ l ∈ Ls, l.Ok) ∧
  ((NoScene K C H v ∧ Q (.bl false) H) ∨ ∃ y Ms, v = .ref y ∧ SceneAt C H y Ms ∧ (∀ l ∈ Ms, l.Ok) ∧ ∀ b : Bool, (b = true ↔ Ls = Ms) → Q (.bl b) H)
/-! ### len(scene), iter(scene), str(scene) -/
abbrev s_len : Stmt := inClass (topS 15) 17
abbrev s_it : Stmt := inClass (topS 15) 18
abbrev s_str : Stmt := inClass (topS 15) 20
abbrev N_1 : List Str := ["self"]
theorem sc_len : FnScope N_1 ["self"] (defScope s_len) := ⟨rfl, rfl, rfl, by decide +kernel, rfl, by decide +kernel, by decide +kernel⟩
theorem sc_it : FnScope N_1 ["self"] (defScope s_it) := ⟨rfl, rfl, rfl, by decide +kernel, rfl, by decide +kernel, by decide +kernel⟩
theorem sc_str : FnScope N_1 ["self"] (defScope s_str) := ⟨rfl, rfl, rfl, by decide +kernel, rfl, by decide +kernel, by decide +kernel⟩
def spLen (C : Addr) : Sp := fun vs H Q _ => ∃ x Ls, vs = [.ref x] ∧ SceneAt C H x Ls ∧ Q (.int Ls.length) H
def spIt (C : Addr) : Sp := fun vs H Q _ => ∃ x Ls, vs = [.ref x] ∧ SceneAt C H x Ls ∧ ∀ pt it, H pt = some (.tup ((tabsOf Ls).map V.str)) → H it = none → Q (.ref it) (upd H it (K1.TIt pt it 0))
/-- what str(scene) tells -/
def txtScene (n m : Nat) : Str := Str.empty ++ "scene of " ++ toString (n : Int) ++ " tables, " ++ toString (m : Int) ++ " columns"
theorem txt_len : ∀ (n : Fin 7) (m : Fin 25), (Str.empty ++ ("scene of " : Str)).length ≤ 1000 ∧ (Str.empty ++ ("scene of " : Str) ++ toString ((n.val : Nat) : Int)).length ≤ 1000 ∧ (Str.empty ++ ("scene of " : Str) ++ toString ((n.val : Nat) : Int) ++ (" tables, " : Str)).length ≤ 1000 ∧
    (Str.empty ++ ("scene of " : Str) ++ toString ((n.val : Nat) : Int) ++ (" tables, " : Str) ++ toString ((m.val : Nat) : Int)).length ≤ 1000 ∧ (txtScene n.val m.val).length ≤ 1000 := by decide +kernel
theorem log_small : ∀ n : Fin 25, ((n.val : Nat) : Int).natAbs.log2 < 1920 := by decide +kernel
def spStr (C : Addr) : Sp := fun vs H Q _ => ∃ x Ls, vs = [.ref x] ∧ SceneAt C H x Ls ∧ Ls.length ≤ 6 ∧ (colsOf Ls).length ≤ 24 ∧ Q (.str (txtScene Ls.length (colsOf Ls).length)) H
section
variable {P : Program} {w : World} {K : PySem.W.Frag} {mg : Str → Option Value} {base : Heap}
theorem ok_eq {f C : Addr} {fd : FuncData} (F : Fun K "__eq__" "Scene.__eq__" s_eq f fd) (T : NamesS mg) (TC : ClsS K mg C) (I : ClsI K C) (kC : PySem.W.keepIn K (.ref C) = true) : FnOk P w K mg base CX0 1 f fd ["self", "other"] (spEq K C) := by
  have nd := sc_eq.nd
  refine F.ok sc_eq (fun vs H Q E h => ?_) (fun cdv A outer s H vs Q E hr h => ?_)
  · obtain ⟨x, v, Ls, rfl, _⟩ := h
    rfl
  · obtain ⟨x, v, Ls, rfl, hx, ok, k⟩ := h
    have hu : (A.deeper (envOfC "Scene.__eq__" (defScope s_eq) s.heap.objs.size f cdv)).units + 64 < cLine := by have := hr.un; omega
    refine ⟨_, pss_one (ps_ret (pe_and (pe_callB (r := rIsi K) call_isi (by rfl) T.isinstance (by decide +kernel) (pa_cons (pv 1) (pa_cons (pe_glob (v := .ref C) rfl TC.mgC rfl) pa_nil))) (pe_one (pe_cmpR (op_eqD hu) (pe_fld (pv 0) rfl) (pe_fld (pv 1) rfl) (nomark _))))), ?_⟩
    rcases k with ⟨⟨t, ty, kit⟩, q⟩ | ⟨y, Ms, rfl, hy, ok2, q⟩
    · exact ⟨_, rfl, _, _, t, _, false, rfl, .own C, ty, kit, false, rfl, iteF q⟩
    · refine ⟨_, rfl, _, _, .ref C, _, true, rfl, .own C, ty_scene I hy, I.self, true, rfl, iteT ?_⟩
      obtain ⟨dx, pl, pt, pc, pg, pf, dc, dk, h1, h2⟩ := hx
      obtain ⟨dx', pl', pt', pc', pg', pf', dc', dk', g1, g2⟩ := hy
      obtain ⟨rs, e1, r1⟩ := h2.lines
      obtain ⟨rs', e2, r2⟩ := g2.lines
      exact ⟨.ref x, rfl, x, C, dx, _, .ref pl, rfl, h1, TC.cl, TC.nl, rfl, .ref y, rfl, y, C, dx', _, .ref pl', rfl, g1, TC.cl, TC.nl, rfl, dLines Ls, dLines Ms, dp_lines e1 r1, dp_lines e2 r2, shaped_lines _ ok, shaped_lines _ ok2, q _ (eqv_lines Ls Ms)⟩
theorem ok_len {f C : Addr} {fd : FuncData} (F : Fun K "__len__" "Scene.__len__" s_len f fd) (T : NamesS mg) (TC : ClsS K mg C) : FnOk P w K mg base CX0 1 f fd ["self"] (spLen C) := by
  have nd := sc_len.nd
  refine F.ok sc_len (fun vs H Q E h => ?_) (fun cdv A outer s H vs Q E hr h => ?_)
  · obtain ⟨x, Ls, rfl, _⟩ := h
    rfl
  · obtain ⟨x, Ls, rfl, hx, q⟩ := h
    refine ⟨_, pss_one (ps_ret (pe_callB call_len_seq (by rfl) T.len (by decide +kernel) (pa_cons (pe_fld (pv 0) rfl) pa_nil))), ?_⟩
    obtain ⟨dx, pl, pt, pc, pg, pf, dc, dk, h1, h2⟩ := hx
    refine ⟨.ref x, rfl, x, C, dx, _, .ref pt, rfl, h1, TC.cl, TC.nt, rfl, pt, _, rfl, .inr (SqT.of h2.tabs), ?_⟩
    rw [List.length_map, show (tabsOf Ls).length = Ls.length from List.length_map ..]
    exact q
theorem ok_it {f C : Addr} {fd : FuncData} (F : Fun K "__iter__" "Scene.__iter__" s_it f fd) (hit : mg "iter" = none) (TC : ClsS K mg C) : FnOk P w K mg base CX0 1 f fd ["self"] (spIt C) := by
  have nd := sc_it.nd
  refine F.ok sc_it (fun vs H Q E h => ?_) (fun cdv A outer s H vs Q E hr h => ?_)
  · obtain ⟨x, Ls, rfl, _⟩ := h
    rfl
  · obtain ⟨x, Ls, rfl, hx, q⟩ := h
    refine ⟨_, pss_one (ps_ret (pe_callB K1.call_iterT (by rfl) hit (by decide +kernel) (pa_cons (pe_fld (pv 0) rfl) pa_nil))), ?_⟩
    obtain ⟨dx, pl, pt, pc, pg, pf, dc, dk, h1, h2⟩ := hx
    exact ⟨.ref x, rfl, x, C, dx, _, .ref pt, rfl, h1, TC.cl, TC.nt, rfl, pt, _, rfl, SqT.of h2.tabs, fun it n => q pt it h2.tabs n⟩
theorem ok_str {f C : Addr} {fd : FuncData} (F : Fun K "__str__" "Scene.__str__" s_str f fd) (T : NamesS mg) (TC : ClsS K mg C) : FnOk P w K mg base CX0 1 f fd ["self"] (spStr C) := by
  have nd := sc_str.nd
  refine F.ok sc_str (fun vs H Q E h => ?_) (fun cdv A outer s H vs Q E hr h => ?_)
  · obtain ⟨x, Ls, rfl, _⟩ := h
    rfl
  · obtain ⟨x, Ls, rfl, hx, n1, n2, q⟩ := h
    refine ⟨_, pss_one (ps_ret (pe_joined (PJ.cons pe_str (PJ.cons (pe_fmt (pe_callB call_len_seq (by rfl) T.len (by decide +kernel) (pa_cons (pe_fld (pv 0) rfl) pa_nil))) (PJ.cons pe_str (PJ.cons (pe_fmt (pe_callB call_len_seq (by rfl) T.len (by decide +kernel) (pa_cons (pe_fld (pv 0) rfl) pa_nil))) (PJ.cons pe_str PJ.nil))))))), ?_⟩
    obtain ⟨dx, pl, pt, pc, pg, pf, dc, dk, h1, h2⟩ := hx
    have few : 1000 ≤ sizeLine := by rw [sizeLine_eq]; decide
    obtain ⟨l1, l2, l3, l4, l5⟩ := txt_len ⟨Ls.length, by omega⟩ ⟨(colsOf Ls).length, by omega⟩
    refine ⟨_, rfl, Nat.le_trans l1 few, ⟨.ref x, rfl, x, C, dx, _, .ref pt, rfl, h1, TC.cl, TC.nt, rfl, pt, _, rfl, .inr (SqT.of h2.tabs), ?_⟩⟩
    rw [List.length_map, show (tabsOf Ls).length = Ls.length from List.length_map ..]
    refine .inr ⟨_, rfl, log_small ⟨Ls.length, by omega⟩, _, rfl, Nat.le_trans l2 few, _, rfl, Nat.le_trans l3 few, ⟨.ref x, rfl, x, C, dx, _, .ref pc, rfl, h1, TC.cl, TC.nc, rfl, pc, _, rfl, .inr (SqT.of h2.cols), ?_⟩⟩
    rw [List.length_map]
    exact .inr ⟨_, rfl, log_small ⟨(colsOf Ls).length, by omega⟩, _, rfl, Nat.le_trans l4 few, _, rfl, Nat.le_trans l5 few, q⟩
end
end B2_

/-! ## B2_18 -/
set_option Elab.async false
set_option linter.all false
set_option maxRecDepth 100000
set_option maxHeartbeats 8000000
namespace B2_
open PySem PySem.Spec PyProof.Rows L2
/-! ### plain scenes, as the law tells them: a dict from tables to (columns, kind) -/
def PlAt (H : Hp) (v : V) (l : Ln) : Prop := ∃ p c kv, v = .ref p ∧ H p = some (.tup [.ref c, kv]) ∧ H c = some (.tup (l.cs.map V.str)) ∧ KdAt H kv l.k
def PlainAt (H : Hp) (d : Addr) (Ls : List Ln) : Prop := ∃ kvs, H d = some (.dK kvs) ∧ Paired (fun kv l => kv.1 = Sum.inr l.t ∧ PlAt H kv.2 l) kvs Ls
/-- a drawn one: lines in order, whose columns and keys are in order -/
structure PlOk (Ls : List Ln) : Prop extends LnsOk Ls where
  inord : ordL Ls = Ls
  each : ∀ l ∈ Ls, l.srt = l
theorem PlAt.same {H H' : Hp} {v : V} {l : Ln} (h : PlAt H v l) (s : Same H H') : PlAt H' v l := by
  obtain ⟨p, c, kv, rfl, e1, e2, e3⟩ := h
  exact ⟨p, c, kv, rfl, s _ _ e1, s _ _ e2, e3.same s⟩
theorem tup_but {d p : Addr} {H H' : Hp} {xs : List V} (h : H p = some (.tup xs)) (hd : Dice H d) (s : But d H H') : H' p = some (.tup xs) := by
  obtain ⟨a, b, c, e⟩ := hd
  have n : p ≠ d := fun z => by rw [z, e] at h; cases h
  exact s _ _ n h
theorem dK_but {d p : Addr} {H H' : Hp} {xs : List (Key × V)} (h : H p = some (.dK xs)) (hd : Dice H d) (s : But d H H') : H' p = some (.dK xs) := by
  obtain ⟨a, b, c, e⟩ := hd
  have n : p ≠ d := fun z => by rw [z, e] at h; cases h
  exact s _ _ n h
theorem KdAt.but {d : Addr} {H H' : Hp} {v : V} {k : Kd} (h : KdAt H v k) (hd : Dice H d) (s : But d H H') : KdAt H' v k := by
  cases k with
  | chg => exact h
  | fix => exact h
  | key ks => exact h.imp fun q g => ⟨g.1, tup_but g.2 hd s⟩
theorem tup_ne {d p : Addr} {H : Hp} {xs : List V} (h : H p = some (.tup xs)) (hd : Dice H d) : p ≠ d := by
  obtain ⟨a, b, c, e⟩ := hd
  intro z
  rw [z, e] at h
  cases h
theorem PlAt.but {d : Addr} {H H' : Hp} {v : V} {l : Ln} (h : PlAt H v l) (hd : Dice H d) (s : But d H H') : PlAt H' v l := by
  obtain ⟨p, c, kv, rfl, e1, e2, e3⟩ := h
  exact ⟨p, c, kv, rfl, tup_but e1 hd s, tup_but e2 hd s, e3.but hd s⟩
theorem PlainAt.same {H H' : Hp} {d : Addr} {Ls : List Ln} (h : PlainAt H d Ls) (s : Same H H') : PlainAt H' d Ls := h.imp fun kvs q => ⟨s _ _ q.1, Paired.mapP q.2 fun kv l r => ⟨r.1, r.2.same s⟩⟩
theorem PlainAt.but {e : Addr} {H H' : Hp} {d : Addr} {Ls : List Ln} (h : PlainAt H d Ls) (hd : Dice H e) (s : But e H H') : PlainAt H' d Ls := h.imp fun kvs q => ⟨dK_but q.1 hd s, Paired.mapP q.2 fun kv l r => ⟨r.1, r.2.but hd s⟩⟩
/-! ### _law_kind -/
abbrev s_kind : Stmt := topS 31
abbrev N_kind : List Str := ["dice", "columns", "still"]
theorem sc_kind : FnScope N_kind ["dice", "columns", "still"] (defScope s_kind) := ⟨rfl, rfl, rfl, by decide +kernel, rfl, by decide +kernel, by decide +kernel⟩
def spKind : Sp := fun vs H Q _ => ∃ (d c : Addr) (cs : List Str) (n : Int), vs = [.ref d, .ref c, .int n] ∧ Dice H d ∧ H c = some (.tup (cs.map V.str)) ∧ (∀ z ∈ cs, nameB z = true) ∧ cs.Nodup ∧ cs.length ≤ 4 ∧ 0 < n ∧ n < 1073741824 ∧
  ∀ (k : Kd) v H', k.Ok cs → k.srt = k → But d H H' → Dice H' d → KdAt H' v k → Q v H'
section
variable {P : Program} {w : World} {K : PySem.W.Frag} {mg : Str → Option Value} {base : Heap}
theorem ok_kind {f : Addr} {fd : FuncData} (F : Fun K "_law_kind" "_law_kind" s_kind f fd) (T : NamesS mg) (C1 : Callee P w K mg base CX0 1 "_law_roll" ["dice", "upto"] spRoll) (C3 : Callee P w K mg base CX0 3 "_law_some" ["dice", "items", "least", "most"] spSome) : FnOk P w K mg base CX0 4 f fd ["dice", "columns", "still"] spKind := by
  have nd := sc_kind.nd
  refine F.ok sc_kind (fun vs H Q E h => ?_) (fun cdv A outer s H vs Q E hr h => ?_)
  · obtain ⟨d, c, cs, n, rfl, _⟩ := h
    rfl
  · obtain ⟨d, c, cs, n, rfl, hd, hc, nm, cn, few, n0, n1, k⟩ := h
    have hr1 : Room 1 _ := hr.mono (by decide)
    refine ⟨_, (pss_cons
    (ps_if (pt_cmpR op_gt (pe_use C1 hr1 rfl pass0 (pa_cons (pv 0) (pa_cons (pv 2) pa_nil))) pe_int (nomark _)) (pss_one
      (ps_ret pe_str)) pss_nil)
    (pss_one
    (ps_ret (pe_ifExp (pt_cmpR op_eq (pe_use C1 hr1 rfl pass0 (pa_cons (pv 0) (pa_cons pe_int pa_nil))) pe_int (nomark _)) pe_non (pe_callTy call_tuple_of (by rfl) T.tuple (by decide +kernel) (pa_cons (pe_callB cr_sortedS (by rfl) T.sorted (by decide +kernel) (pa_cons (pe_use C3 hr rfl pass0 (pa_cons (pv 0) (pa_cons (pv 1) (pa_cons pe_int (pa_cons pe_int pa_nil))))) pa_nil)) pa_nil)))))), ?_⟩
    refine ⟨_, rfl, _, rfl, d, n, rfl, hd, n0, n1, fun r H1 r0 r1 s1 hd1 => ?_⟩
    refine ⟨r, 0, rfl, rfl, decide (0 < r), rfl, ?_⟩
    by_cases q : (0 : Int) < r
    · rw [decide_eq_true q]
      exact iteT (k .chg _ H1 trivial rfl s1 hd1 rfl)
    · rw [decide_eq_false q]
      refine iteF ?_
      refine ⟨_, rfl, d, 2, rfl, hd1, by decide, by decide, fun t H2 t0 t1 s2 hd2 => ?_⟩
      have s12 := s1.trans s2
      have hc2 := tup_but hc hd s12
      refine ⟨rfl, decide (V.int t = V.int 0), rfl, ?_⟩
      by_cases q : V.int t = V.int 0
      · rw [decide_eq_true q]
        exact iteT (k .fix _ H2 trivial rfl s12 hd2 rfl)
      · rw [decide_eq_false q]
        refine iteF ?_
        refine ⟨_, rfl, _, rfl, d, c, cs, 0, 3, rfl, by decide, by decide, hd2, .inr hc2, tup_ne hc2 hd2, by omega, fun x hx => name_strOk (nm x hx), fun ys m p H3 pm m1 m2 np s3 hd3 h3 => ?_⟩
        have ndp : p ≠ d := (hd2.ne_none np).symm
        refine ⟨p, _, rfl, SqL.of h3, by rw [List.length_take, pm.length_eq]; omega, fun zs q0 zp zo nq => ?_⟩
        obtain rfl := srtd_of zp zo
        refine ⟨q0, _, rfl, .inl ⟨SqL.of upd_same, fun l nl => ?_⟩⟩
        have sN : But d H3 (upd (upd H3 q0 (.lst ((srtd (ys.take m)).map V.str))) l (.tup ((srtd (ys.take m)).map V.str))) := ((But.refl d H3).new nq).new nl
        have ys_nd : (ys.take m).Nodup := (pm.nodup_iff.mpr cn).sublist (List.take_sublist _ _)
        have ys_in : ∀ z ∈ ys.take m, z ∈ cs := fun z hz => pm.mem_iff.mp (List.mem_of_mem_take hz)
        refine k (.key (srtd (ys.take m))) _ _ ⟨fun z hz => nm z (ys_in z (mem_srtd.mp hz)), (srtd_perm _).nodup_iff.mpr ys_nd, fun z hz => ys_in z (mem_srtd.mp hz)⟩ (by show Kd.key (srtd (srtd _)) = _; rw [srtd_idem]) (s12.trans (s3.trans sN)) ((hd3.new nq).new nl) ⟨l, rfl, upd_same⟩
end
end B2_

/-! ## C17 -/
set_option Elab.async false
set_option linter.all false
set_option maxRecDepth 100000
set_option maxHeartbeats 4000000
namespace K1
open PySem PySem.Spec PyProof.Rows L2
open PySem.Froz (SD sObj TxOk addTx tailTx)
/-! ### set(l) of a list of texts -/
section
variable {P : Program} {w : World} {A : Around} {E : Value → Shared → Prop} {s : Shared}
set_option maxHeartbeats 6400000 in
theorem call_set_textsL {l : Addr} {items : Array Value} {zs : List Str} {Q : Value → Shared → Prop} (hh : A.handled = none) (tup : s.heap.IsList l items) (txts : StrsAre items.toList zs) (room : zs.length + 1 < scanBound) (k : ∀ s2, SetDone P w s zs s2 → Q (.ref s.heap.objs.size) s2) :
    wpAny (model P w) A (call (.type "set") [.ref l]) Q E s := by
  have isz : zs.length = items.size := by rw [← StrsAre.len_eq txts, Array.length_toList]
  obtain ⟨c, tl, hmro⟩ := PySem.F.called_set.mro
  have hmade := PySem.F.called_set.made
  have hsub := PySem.F.called_set.sub
  refine wpAny_call (codeAny_of_tree ?_); show wpAny _ _ (callAny (.type "set") _) _ _ _
  refine wpAny_pure ⟨Code.quiet_builtin _ (by decide +kernel), codeAny_builtin PySem.F.entry_type_call ?_⟩
  rw [Around.under_plain (weight_type_call_type "set" [.ref l] []) rfl]
  have h1 := PySem.F.called_set.notType
  have h2 := PySem.F.called_set.canCreate
  have hct := PySem.F.typeCall_set_1 (.ref l)
  repeat (any_goals (first | assumption | wp_step))
  refine codeAny_mono (code_set_led1 (.ref l) (E := E) (Q₁ := fun obj s₁ => obj = .ref s.heap.objs.size ∧ s₁ = { s with heap := s.heap.push (newSetObj w) }) ⟨rfl, rfl⟩) fun r s₁ hr => ?_
  cases r with
  | error e => exact hr
  | ok fl =>
    cases fl with
    | ret obj =>
      obtain ⟨rfl, rfl⟩ := hr
      have new : (s.heap.push (newSetObj w)).get? s.heap.objs.size = some (newSetObj w) := Heap.get?_push_size _ rfl
      have ty : Shared.TypeIs { s with heap := s.heap.push (newSetObj w) } (.ref s.heap.objs.size) "set" := ⟨_, new, rfl⟩
      have hli := PySem.F.called_set.init.lookup
      have hbi := PySem.F.called_set.init.bind (.ref s.heap.objs.size)
      repeat (any_goals (first | assumption | wp_step))
      refine codeAny_mono (codeAny_call_builtin (R := wants (fun r s₂ => r = .none ∧ SetDone P w s zs s₂) E) PySem.F.called_set.init.plain PySem.F.entry_set_init (check_set_init_1 ty ?_)) fun r₂ s₂ hr₂ => ?_
      · obtain ⟨⟨ocls, odict, odata, oslots⟩, hol, hcl, nl, hdl⟩ := tup
        simp only at hcl hdl
        subst hcl; subst hdl
        have hol' : (s.heap.push (newSetObj w)).get? l = some { cls := .type "list", dict := odict, data := .seq items nl, slots := oslots } := Heap.get?_push_of_some _ hol
        have hsls := PySem.F.sub_list_set
        have hslf := PySem.F.sub_list_frozenset
        have hne : (Value.type "list" == Value.type "dict") = false := by decide
        have tup1 : (s.heap.push (newSetObj w)).IsList l items := ⟨_, hol', rfl, nl, rfl⟩
        unfold Builtin.«set.__init__» noKeywords Builtin.Frozenset.updateFrom
        generalize hPI : pyIter = PI
        wp_walk
        subst hPI
        refine wpAny_pyIter_list tup1 (wpAny_bind (wpAny_runValue ?_))
        have below : l < s.heap.objs.size := Heap.lt_size hol
        have hh3 : A.in1.in1.in1.handled = none := by simp [hh]
        have len1 : (s.heap.push (newSetObj w)).objs.size = s.heap.objs.size + 1 := Heap.size_push ..
        have ne1 : l ≠ (s.heap.push (newSetObj w)).objs.size := by rw [len1]; exact Nat.ne_of_lt (Nat.lt_succ_of_lt below)
        have out : s.heap.objs.size ∉ [(s.heap.push (newSetObj w)).objs.size, l] := by
          rw [len1]; simp only [List.mem_cons, List.mem_singleton, List.not_mem_nil, or_false, not_or]
          exact ⟨Nat.ne_of_lt (Nat.lt_succ_self _), Nat.ne_of_gt below⟩
        refine tx_loop ((Walks.list hh3 _ l ne1 items).toS) out zs isz.symm room (fun i v hv => ?_) (items.size - 0) 0 _ (by omega) (Nat.zero_le _) ⟨⟨_, Heap.get?_push_size _ rfl, rfl, rfl⟩, tup1.push _⟩ ⟨[], tx_new (Heap.get?_push_of_some _ new), fun z => by simp, Nat.le_refl _⟩ fun s' l' mv T mem few => ?_
        · have hi : i < zs.length := by rw [isz]; exact (Array.getElem?_eq_some_iff.mp hv).1
          obtain ⟨t, e⟩ := SS.strs_at txts i v (by rw [Array.getElem?_toList]; exact hv)
          exact ⟨zs[i], t, List.getElem?_eq_getElem hi, by rw [e, List.getD_eq_getElem?_getD, List.getElem?_eq_getElem hi] <;> rfl⟩
        · obtain ⟨h', g2, d', tk', os'⟩ := s'
          obtain rfl : g2 = s.gens := mv.gens
          obtain rfl : d' = s.drawn := mv.drawn
          obtain rfl : os' = s.os := mv.os
          show wpAny _ _ _ _ _ _
          refine wpAny_pure ?_
          show wpAny _ _ (ret Value.none) _ _ _
          refine wpAny_pure ⟨rfl, h', tk', l', rfl, T, mem, by rw [isz]; exact few, fun b o q => mv.heap b o (fun m => ?_) (Heap.get?_push_of_some _ (Heap.get?_push_of_some _ q))⟩
          have lt := Heap.lt_size q
          rcases List.mem_cons.mp m with z | m
          · rw [z] at lt; exact Nat.lt_irrefl _ lt
          · rw [List.mem_singleton.mp m, len1] at lt; exact Nat.lt_irrefl _ (Nat.lt_of_succ_lt lt)
      · cases r₂ with
        | error e => exact hr₂
        | ok fl₂ =>
          cases fl₂ with
          | ret r =>
            obtain ⟨rfl, done⟩ := hr₂
            repeat (any_goals (first | assumption | wp_step))
            exact k _ done
          | _ => exact hr₂.elim
    | _ => exact hr.elim
end
section
variable {X : Cx}
theorem cr_setLS (hc : X.calm = true) : CallR X (.type "set") (fun xs H Q => ∃ (a : Addr) (zs : List Str), xs = [.ref a] ∧ SqL X.K H a (zs.map V.str) ∧ zs.length < 64 ∧ ∀ p, H p = none → Q (.ref p) (upd H p (SetS X.prog X.w p zs))) := by
  intro pins s σ H xs us Q I r h
  obtain ⟨a, zs, rfl, t, few, q⟩ := h
  obtain ⟨u, rfl, ru⟩ := vals1 r
  cases ru
  obtain ⟨its, rv, tup, _⟩ := I.list t
  refine call_set_textsL (zs := zs) (I.ok.hd hc) tup.isList (by simpa using rv.strs) (by unfold scanBound; omega) fun s2 done => ?_
  obtain ⟨h', tk, l, rfl, T, mem, short, kept⟩ := done
  have ok : ObjOk X.prog X.w (upd H s.heap.objs.size (SetS X.prog X.w s.heap.objs.size zs)) h' s.heap.objs.size (SetS X.prog X.w s.heap.objs.size zs) := by
    obtain ⟨D, g, _⟩ := id T
    exact ⟨⟨l, T, mem, short⟩, ⟨_, g⟩, fun h1 h2 p k => by
      obtain ⟨l', T', m, f⟩ := p
      exact ⟨l', T'.at k, m, f⟩⟩
  exact ⟨.ref _, _, I.laid (t' := tk) kept (Nat.le_refl _) ok, rfl, q _ (I.hok.fresh (Nat.le_refl _))⟩
end
end K1

/-! ## B2_19 -/
set_option Elab.async false
set_option linter.all false
set_option maxRecDepth 100000
set_option maxHeartbeats 8000000
namespace B2_
open PySem PySem.Spec PyProof.Rows L2
/-- all but the dice and the dict -/
def But2 (d f : Addr) (H H' : Hp) : Prop := ∀ b o, b ≠ d → b ≠ f → H b = some o → H' b = some o
theorem But2.refl (d f : Addr) (H : Hp) : But2 d f H H := fun _ _ _ _ h => h
theorem But2.trans {d f : Addr} {H H1 H2 : Hp} (a : But2 d f H H1) (b : But2 d f H1 H2) : But2 d f H H2 := fun c o n m h => b c o n m (a c o n m h)
theorem But2.but {d f : Addr} {H H1 : Hp} (a : But d H H1) : But2 d f H H1 := fun c o n _ h => a c o n h
theorem But2.new {d f p : Addr} {H H1 : Hp} {o : HO} (a : But2 d f H H1) (h : H1 p = none) : But2 d f H (upd H1 p o) := fun c u n m e => by
  have q := a c u n m e
  rw [upd_ne (ne_of_none q h)]
  exact q
theorem But2.put {d f : Addr} {H H1 : Hp} {o : HO} (a : But2 d f H H1) : But2 d f H (upd H1 f o) := fun c u n m e => by
  rw [upd_ne m]
  exact a c u n m e
theorem tup_putF {F p : Addr} {H : Hp} {kvs : List (Key × V)} {o : HO} {xs : List V} (h : H p = some (.tup xs)) (hF : H F = some (.dK kvs)) : (upd H F o) p = some (.tup xs) := by
  have n : p ≠ F := fun z => by rw [z, hF] at h; cases h
  rw [upd_ne n]
  exact h
theorem KdAt.putF {F : Addr} {H : Hp} {kvs : List (Key × V)} {o : HO} {v : V} {k : Kd} (h : KdAt H v k) (hF : H F = some (.dK kvs)) : KdAt (upd H F o) v k := by
  cases k with
  | chg => exact h
  | fix => exact h
  | key ks => exact h.imp fun q g => ⟨g.1, tup_putF g.2 hF⟩
theorem PlAt.putF {F : Addr} {H : Hp} {kvs : List (Key × V)} {o : HO} {v : V} {l : Ln} (h : PlAt H v l) (hF : H F = some (.dK kvs)) : PlAt (upd H F o) v l := by
  obtain ⟨p, c, kv, rfl, e1, e2, e3⟩ := h
  exact ⟨p, c, kv, rfl, tup_putF e1 hF, tup_putF e2 hF, e3.putF hF⟩
theorem Dice.putF {F d : Addr} {H : Hp} {kvs : List (Key × V)} {o : HO} (h : Dice H d) (hF : H F = some (.dK kvs)) : Dice (upd H F o) d := by
  obtain ⟨a, b, c, e⟩ := h
  have n : d ≠ F := fun z => by rw [z, hF] at e; cases e
  exact ⟨a, b, c, by rw [upd_ne n]; exact e⟩
/-! ### seq_split, as for k01 -/
theorem seq_split {a b : TS} {D : Ends} {σ : L2.St} {H : Hp} (I : L2.St → Hp → Prop) (h2 : ∀ σ' H', I σ' H' → b D σ' H') (h1 : ∀ nx : L2.St → Hp → Prop, (∀ σ' H', I σ' H' → nx σ' H') → a { D with nx := nx } σ H) : tSeq a b D σ H := h1 _ h2
/-! ### _law_scene -/
abbrev s_lsc : Stmt := topS 32
abbrev N_lsc : List Str := ["dice", "tables", "columns", "still", "names", "pool", "way", "found", "at", "name", "some", "here"]
theorem sc_lsc : FnScope N_lsc ["dice", "tables", "columns", "still"] (defScope s_lsc) := ⟨rfl, rfl, rfl, by decide +kernel, rfl, by decide +kernel, by decide +kernel⟩
def spLsc : Sp := fun vs H Q _ => ∃ (d : Addr) (nt nc : Nat) (n : Int), vs = [.ref d, .int nt, .int nc, .int n] ∧ Dice H d ∧ 1 ≤ nt ∧ nt ≤ 6 ∧ 1 ≤ nc ∧ nc ≤ 6 ∧ 0 < n ∧ n < 1073741824 ∧
  ∀ (q : Addr) (Ls : List Ln) H', PlOk Ls → (∀ l ∈ Ls, l.t ∈ words14) → H q = none → But d H H' → Dice H' d → PlainAt H' q Ls → Q (.ref q) H'
theorem names_words {z : Str} (h : z ∈ words14) : nameB z = true := by
  have : ∀ z ∈ words14, nameB z = true := by decide +kernel
  exact this z h
theorem merge_nodup_aux {kvs acc : List (Key × V)} (h : ((acc ++ kvs).map (·.1)).Nodup) : mergeK acc kvs = acc ++ kvs := by
  induction kvs generalizing acc with
  | nil => simp [mergeK]
  | cons p r ih =>
    show mergeK (putK acc p.1 p.2) r = acc ++ p :: r
    have hn : valV acc p.1 = none := by
      cases q : valV acc p.1 with
      | none => rfl
      | some v =>
        have m := valV_in q
        rw [List.map_append, List.nodup_append] at h
        exact absurd rfl (h.2.2 _ m _ (by simp))
    rw [putK_new p.2 hn, ih (by simpa using h)]
    simp
theorem merge_nodup {kvs : List (Key × V)} (h : (kvs.map (·.1)).Nodup) : mergeK [] kvs = kvs := by
  have := merge_nodup_aux (acc := []) (kvs := kvs) (by simpa using h)
  simpa using this
/-- a pair (table, what it is) -/
def PairAt (H : Hp) (v : V) (l : Ln) : Prop := ∃ p x, v = .ref p ∧ H p = some (.tup [.str l.t, x]) ∧ PlAt H x l
theorem PlAt.off {d : Addr} {H H' : Hp} {v : V} {l : Ln} (h : PlAt H v l) (s : K1.Off d H H') (hd : ∀ xs, H d ≠ some (.tup xs)) : PlAt H' v l := by
  obtain ⟨p, c, kv, e, h1, h2, h3⟩ := h
  exact ⟨p, c, kv, e, s _ _ (fun z => hd _ (z ▸ h1)) h1, s _ _ (fun z => hd _ (z ▸ h2)) h2, h3.off s hd⟩
theorem PairAt.off {d : Addr} {H H' : Hp} {v : V} {l : Ln} (h : PairAt H v l) (s : K1.Off d H H') (hd : ∀ xs, H d ≠ some (.tup xs)) : PairAt H' v l := by
  obtain ⟨p, x, e, h1, h2⟩ := h
  exact ⟨p, x, e, s _ _ (fun z => hd _ (z ▸ h1)) h1, h2.off s hd⟩
theorem pairs_of {K : PySem.W.Frag} {H : Hp} : ∀ {acc : List V} {Ls : List Ln}, Paired (PairAt H) acc Ls → ∃ (ps : List Addr) (kvs : List (Key × V)), acc = ps.map V.ref ∧ Paired (fun p kv => SqT K H p [kV kv.1, kv.2]) ps kvs ∧ Paired (fun kv l => kv.1 = Sum.inr l.t ∧ PlAt H kv.2 l) kvs Ls ∧ kvs.map (·.1) = Ls.map fun l => (Sum.inr l.t : Key)
  | _, _, .nil => ⟨[], [], rfl, .nil, .nil, rfl⟩
  | _, _, .cons a b => by
    obtain ⟨p, x, rfl, h1, h2⟩ := a
    obtain ⟨ps, kvs, rfl, q1, q2, q3⟩ := pairs_of (K := K) b
    exact ⟨p :: ps, (Sum.inr _, x) :: kvs, rfl, .cons (SqT.of h1) q1, .cons ⟨rfl, h2⟩ q2, by rw [List.map_cons, List.map_cons, q3]⟩
/-- a cut of texts -/
def cutL (xs : List Str) (lo hi : Option Int) : List Str := (xs.drop (HT.sIx xs.length 0 lo)).take (HT.sIx xs.length xs.length hi - HT.sIx xs.length 0 lo)
theorem cutV_map (xs : List Str) (lo hi : Option Int) : cutV (xs.map V.str) lo hi = (cutL xs lo hi).map V.str := by
  unfold cutV cutL
  rw [List.length_map, List.map_take, List.map_drop]
theorem cutL_in {xs : List Str} {lo hi : Option Int} {z : Str} (h : z ∈ cutL xs lo hi) : z ∈ xs := List.mem_of_mem_drop (List.mem_of_mem_take h)
theorem cutL_two (xs : List Str) (i : Nat) : (cutL xs (some (i : Int)) (some ((i : Int) + 2))).length ≤ 2 := by
  unfold cutL
  rw [show ((i : Int) + 2) = ((i + 2 : Nat) : Int) from rfl, HT.sIx_nat, HT.sIx_nat, List.length_take]
  omega
theorem cutL_up (xs : List Str) (k : Nat) : (cutL xs none (some (k : Int))).length ≤ k := by
  unfold cutL
  rw [HT.sIx_nat, HT.sIx_none, List.length_take]
  omega
section
variable {P : Program} {w : World} {K : PySem.W.Frag} {mg : Str → Option Value} {base : Heap}
theorem ok_lsc {f : Addr} {fd : FuncData} (F : Fun K "_law_scene" "_law_scene" s_lsc f fd) (T : NamesS mg) (hen : mg "enumerate" = none) (C1 : Callee P w K mg base CX0 1 "_law_roll" ["dice", "upto"] spRoll) (C2 : Callee P w K mg base CX0 2 "_law_mixed" ["dice", "items"] spMixed) (C3 : Callee P w K mg base CX0 3 "_law_some" ["dice", "items", "least", "most"] spSome)
    (CW : Callee P w K mg base CX0 3 "_law_words" ["dice", "upto"] spWords) (CK : Callee P w K mg base CX0 4 "_law_kind" ["dice", "columns", "still"] spKind) : FnOk P w K mg base CX0 5 f fd ["dice", "tables", "columns", "still"] spLsc := by
  have nd := sc_lsc.nd
  refine F.ok sc_lsc (fun vs H Q E h => ?_) (fun cdv A outer s H vs Q E hr h => ?_)
  · obtain ⟨d, nt, nc, n, rfl, _⟩ := h
    rfl
  · obtain ⟨d, nt, nc, n, rfl, hd, t1, t2, c1, c2, n0, n1, k⟩ := h
    have hr1 : Room 1 _ := hr.mono (by decide)
    have hr2 : Room 2 _ := hr.mono (by decide)
    have hr3 : Room 3 _ := hr.mono (by decide)
    have hu : (A.deeper (envOfC "_law_scene" (defScope s_lsc) s.heap.objs.size f cdv)).units + 1 < cLine := by have := hr.un; omega
    refine ⟨_, (pss_cons
    (ps_set (i := 4) nd rfl (Or.inl rfl) (pe_callB cr_sortedS (by rfl) T.sorted (by decide +kernel) (pa_cons (pe_use CW hr3 rfl pass0 (pa_cons (pv 0) (pa_cons (pe_op op_add pe_int (pe_use C1 hr1 rfl pass0 (pa_cons (pv 0) (pa_cons (pv 1) pa_nil)))) pa_nil))) pa_nil)))
    (pss_cons
    (ps_set (i := 5) nd rfl (Or.inl rfl) (pe_use CW hr3 rfl pass0 (pa_cons (pv 0) (pa_cons (pe_op op_add pe_int (pe_use C1 hr1 rfl pass0 (pa_cons (pv 0) (pa_cons (pv 2) pa_nil)))) pa_nil))))
    (pss_cons
    (ps_asg (pe_tup (pa_cons (pe_use C1 hr1 rfl pass0 (pa_cons (pv 0) (pa_cons pe_int pa_nil))) (pa_cons pe_dnewK pa_nil))) (pg_tup rfl (pgs_cons (pg_name (i := 6) nd rfl (Or.inl rfl)) (pgs_cons (pg_name (i := 7) nd rfl (Or.inr rfl)) pgs_nil))))
    (pss_cons
    (ps_for PassesOwn.never rfl (pi_enum (by rfl) hen (pa_cons (pe_use C2 hr2 rfl pass0 (pa_cons (pv 0) (pa_cons (pv 4) pa_nil))) pa_nil)) (pg_tup rfl (pgs_cons (pg_name (i := 8) nd rfl (Or.inl rfl)) (pgs_cons (pg_name (i := 9) nd rfl (Or.inl rfl)) pgs_nil))) (pss_cons
      (ps_set (i := 10) nd rfl (Or.inl rfl) (pe_use C3 hr3 rfl pass0 (pa_cons (pv 0) (pa_cons (pv 5) (pa_cons pe_int (pa_cons pe_int pa_nil))))))
      (pss_cons
      (ps_if (pt_cmpR op_eq (pv 6) pe_int (nomark _)) (pss_one
        (ps_set (i := 10) nd rfl (Or.inl rfl) (pe_op op_cat (pe_slice sl_list (pv 5) (po_some (pv 8)) (po_some (pe_op op_add (pv 8) pe_int))) (pe_slice sl_list (pv 10) po_none (po_some (pe_use C1 hr1 rfl pass0 (pa_cons (pv 0) (pa_cons pe_int pa_nil)))))))) pss_nil)
      (pss_cons
      (ps_if (pt_cmpR op_eq (pv 6) pe_int (nomark _)) (pss_one
        (ps_set (i := 10) nd rfl (Or.inl rfl) (pe_op op_cat (pe_slice sl_list (pv 5) po_none (po_some pe_int)) (pe_slice sl_list (pv 10) po_none (po_some pe_int))))) pss_nil)
      (pss_cons
      (ps_set (i := 11) nd rfl (Or.inl rfl) (pe_callTy call_tuple_of (by rfl) T.tuple (by decide +kernel) (pa_cons (pe_callB (K1.cr_sortedSS rfl) (by rfl) T.sorted (by decide +kernel) (pa_cons (pe_callTy (K1.cr_setLS rfl) (by rfl) T.set (by decide +kernel) (pa_cons (pv 10) pa_nil)) pa_nil)) pa_nil)))
      (pss_one
      (ps_dput hu (pv 7) (pv 9) (pe_tup (pa_cons (pv 11) (pa_cons (pe_use CK hr rfl pass0 (pa_cons (pv 0) (pa_cons (pv 11) (pa_cons (pv 3) pa_nil)))) pa_nil))) rfl)))))))
    (pss_one
    (ps_ret (pe_callTy (call_dictP rfl) (by rfl) T.dict (by decide +kernel) (pa_cons (pe_lc (own := [("name", 9)]) (g := (gName 9)) rfl nd (pi_list (pv 4)) (blkOk_by (N := N_lsc) (sc := defScope s_lsc) (by decide +kernel)) (fun _ _ _ _ _ => (pg_name (i := 9) nd rfl (Or.inl rfl))) (fun _ _ _ _ _ => pts_nil) (fun _ _ _ _ _ => (pe_tup (pa_cons (pv 9) (pa_cons (pe_dget hu (pv 7) (pv 9) (fun _ _ => rfl)) pa_nil))))) pa_nil)))))))), ?_⟩
    -- names, in order
    refine ⟨_, rfl, _, rfl, _, rfl, d, (nt : Int), rfl, hd, by omega, by omega, fun r H1 r0 r1 s1 hd1 => ?_⟩
    obtain ⟨r, rfl⟩ := Int.eq_ofNat_of_zero_le r0
    refine ⟨1, r, rfl, rfl, d, 1 + r, rfl, by omega, hd1, fun ws pw H2 pm hpw s2 hd2 h2 => ?_⟩
    have wl : (ws.take (1 + r)).length ≤ 6 := by rw [List.length_take]; omega
    refine ⟨pw, ws.take (1 + r), rfl, SqL.of h2, by omega, fun ys pn yp yo npn => ?_⟩
    obtain rfl := srtd_of yp yo
    have ynd : (srtd (ws.take (1 + r))).Nodup := (srtd_perm _).nodup_iff.mpr ((pm.nodup_iff.mpr (by decide +kernel)).sublist (List.take_sublist _ _))
    have yin : ∀ z ∈ srtd (ws.take (1 + r)), nameB z = true := fun z hz => names_words (pm.mem_iff.mp (List.mem_of_mem_take (mem_srtd.mp hz)))
    have yw : ∀ z ∈ srtd (ws.take (1 + r)), z ∈ words14 := fun z hz => pm.mem_iff.mp (List.mem_of_mem_take (mem_srtd.mp hz))
    have yone : 1 ≤ (srtd (ws.take (1 + r))).length := by rw [srtd_len, List.length_take, pm.length_eq]; simp [words14]; omega
    have ysix : (srtd (ws.take (1 + r))).length ≤ 6 := by rw [srtd_len]; exact wl
    have yord : srtd (srtd (ws.take (1 + r))) = srtd (ws.take (1 + r)) := srtd_idem _
    have nd3 := hd2.new (o := .lst ((srtd (ws.take (1 + r))).map V.str)) npn
    have s3 : But d H (upd H2 pn (.lst ((srtd (ws.take (1 + r))).map V.str))) := (s1.trans s2).new npn
    have hn3 : (upd H2 pn (.lst ((srtd (ws.take (1 + r))).map V.str))) pn = some (.lst ((srtd (ws.take (1 + r))).map V.str)) := upd_same
    have pnd : pn ≠ d := (hd2.ne_none npn).symm
    generalize upd H2 pn (.lst ((srtd (ws.take (1 + r))).map V.str)) = H3 at *
    generalize srtd (ws.take (1 + r)) = ys at *
    clear yp yo npn h2 hpw s2 s1 hd1 hd2 wl
    -- the pool
    refine ⟨_, rfl, _, rfl, _, rfl, d, (nc : Int), rfl, nd3, by omega, by omega, fun r4 H4 r0 r41 s4 hd4 => ?_⟩
    obtain ⟨r4, rfl⟩ := Int.eq_ofNat_of_zero_le r0
    refine ⟨1, r4, rfl, rfl, d, 1 + r4, rfl, by omega, hd4, fun ws2 p5 H5 pm2 hp5 s5 hd5 h5 => ?_⟩
    have p5d : p5 ≠ d := (hd4.ne_none hp5).symm
    have hn5 := (s4.trans s5) _ _ pnd hn3
    have s35 := s3.trans (s4.trans s5)
    have poolN : ∀ z ∈ ws2.take (1 + r4), nameB z = true := fun z hz => names_words (pm2.mem_iff.mp (List.mem_of_mem_take hz))
    have poolL : (ws2.take (1 + r4)).length ≤ 6 := by rw [List.length_take]; omega
    have poolD : (ws2.take (1 + r4)).Nodup := (pm2.nodup_iff.mpr (by decide +kernel)).sublist (List.take_sublist _ _)
    generalize ws2.take (1 + r4) = pool at *
    clear s4 hd4 hp5 s5 hn3 nd3 s3
    -- way, found
    refine ⟨_, rfl, d, 4, rfl, hd5, by decide, by decide, fun way H6 w0 w1 s6 hd6 => ?_⟩
    refine fun F nF => ⟨by show 2 ≤ sizeLine; decide, fun pt npt => ?_⟩
    have hn6 := s6 _ _ pnd hn5
    have h56 := s6 _ _ p5d h5
    have Fd : F ≠ d := (hd6.ne_none nF).symm
    have s7 : But d H (upd (upd H6 F (.dK [])) pt (.tup [.int way, .ref F])) := ((s35.trans s6).new nF).new npt
    have hd7 : Dice (upd (upd H6 F (.dK [])) pt (.tup [.int way, .ref F])) d := (hd6.new nF).new npt
    have hn7 : (upd (upd H6 F (.dK [])) pt (.tup [.int way, .ref F])) pn = some (.lst (ys.map V.str)) := (((But.refl d H6).new nF).new npt) _ _ pnd hn6
    have h57 : (upd (upd H6 F (.dK [])) pt (.tup [.int way, .ref F])) p5 = some (.lst (pool.map V.str)) := (((But.refl d H6).new nF).new npt) _ _ p5d h56
    have hF7 : (upd (upd H6 F (.dK [])) pt (.tup [.int way, .ref F])) F = some (.dK []) := (upd_ne (ne_of_none upd_same npt)).trans upd_same
    refine ⟨pt, _, rfl, SqT.of upd_same, rfl, _, _, rfl, _, _, rfl, rfl, ?_⟩
    generalize upd (upd H6 F (.dK [])) pt (.tup [.int way, .ref F]) = H7 at *
    have FH : H F = none := (s35.trans s6).free Fd nF
    clear hn6 h56 hd6 nF npt s6 hn5 h5 hd5 s35
    -- for at, name in enumerate(..)
    refine ⟨_, rfl, _, rfl, d, pn, ys, rfl, hd7, .inl hn7, pnd, by omega, fun x hx => name_strOk (yin x hx), fun zs pz H8 zp npz s8 hd8 hz8 => ?_⟩
    have F8 : H8 F = some (.dK []) := dK_but hF7 hd7 s8
    have hn8 := s8 _ _ pnd hn7
    have h58 := s8 _ _ p5d h57
    have s88 : But d H H8 := s7.trans s8
    have zin : ∀ z ∈ zs, nameB z = true := fun z hz => yin z (zp.mem_iff.mp hz)
    have znd : zs.Nodup := zp.nodup_iff.mpr ynd
    have zlen : zs.length ≤ 6 := by rw [zp.length_eq]; exact ysix
    have pzd : pz ≠ d := (hd7.ne_none npz).symm
    clear hd7 s8 hn7 h57 hF7 s7
    refine ⟨pz, _, rfl, SqL.of hz8, ?_⟩
    have pzF : pz ≠ F := fun z => by rw [z, F8] at hz8; cases hz8
    have pnF : pn ≠ F := fun z => by rw [z, F8] at hn8; cases hn8
    have p5F : p5 ≠ F := fun z => by rw [z, F8] at h58; cases h58
    refine for_it (walk_enum (xs := zs.map V.str)) (fun i σ H' => ∃ (v8 v9 v10 v11 : Option V) (kvs : List (Key × V)) (ls : List Ln), σ = [some (.ref d), some (.int nt), some (.int nc), some (.int n), some (.ref pn), some (.ref p5), some (.int way), some (.ref F), v8, v9, v10, v11] ∧ But2 d F H8 H' ∧ Dice H' d ∧ H' F = some (.dK kvs) ∧
      Paired (fun kv l => kv.1 = Sum.inr l.t ∧ PlAt H' kv.2 l) kvs ls ∧ ls.map (·.t) = zs.take i ∧ ∀ l ∈ ls, l.Ok ∧ l.srt = l ∧ ∀ z ∈ l.cs, z ∈ pool) ⟨none, none, none, none, [], [], rfl, But2.refl d F H8, hd8, F8, .nil, rfl, fun l h => nomatch h⟩ (fun i σ H1 _ p => ?_) (fun i x σ HA H1 hi p y => ?_) (fun σ H1 p => ?_)
    · obtain ⟨_, _, _, _, _, _, _, off, _⟩ := p
      exact SqL.of (off _ _ pzd pzF hz8)
    · obtain ⟨v8, v9, v10, v11, kvs, ls, rfl, off, hd, hF, pr, tk, each⟩ := p
      obtain ⟨T0, x0, z0, rfl, nT, rfl, ex, ez⟩ := y
      cases ex
      replace ez : (zs.map V.str)[i]? = some z0 := ez
      rw [List.getElem?_map] at ez
      obtain ⟨z, hz, rfl⟩ := Option.map_eq_some_iff.mp ez
      have sT : But d HA (upd HA T0 (.tup [.int (i : Nat), .str z])) := (But.refl d HA).new nT
      refine ⟨T0, _, rfl, SqT.of upd_same, rfl, _, _, rfl, _, _, rfl, rfl, ?_⟩
      have hdT := hd.new (o := .tup [.int (i : Nat), .str z]) nT
      have hFT := dK_but hF hd sT
      have h5T := sT _ _ p5d (off _ _ p5d p5F h58)
      have offT := off.trans (But2.but (f := F) sT)
      have prT : Paired (fun kv l => kv.1 = Sum.inr l.t ∧ PlAt (upd HA T0 (.tup [.int (i : Nat), .str z])) kv.2 l) kvs ls := Paired.mapP pr fun kv l r => ⟨r.1, r.2.but hd sT⟩
      generalize upd HA T0 (.tup [.int (i : Nat), .str z]) = HB at *
      clear sT nT hd hF off pr
      -- some
      refine ⟨_, rfl, _, rfl, d, p5, pool, 0, 3, rfl, by decide, by decide, hdT, .inl h5T, p5d, by omega, fun x hx => name_strOk (poolN x hx), fun qs m ps HC qp m1 m2 nps sC hdC hC => ?_⟩
      have psd : ps ≠ d := (hdT.ne_none nps).symm
      dsimp only [gName]
      have len3 : (qs.take m).length ≤ 3 := by rw [List.length_take]; omega
      have in3 : ∀ z ∈ qs.take m, z ∈ pool := fun z hz => qp.mem_iff.mp (List.mem_of_mem_take hz)
      generalize qs.take m = us at *
      clear m1 m2 qp nps
      refine seq_split (fun σ' H' => ∃ (q10 : Addr) (us : List Str), σ' = [some (.ref d), some (.int nt), some (.int nc), some (.int n), some (.ref pn), some (.ref p5), some (.int way), some (.ref F), some (.int (i : Nat)), some (.str z), some (.ref q10), v11] ∧ But d HB H' ∧ Dice H' d ∧ q10 ≠ d ∧ H' q10 = some (.lst (us.map V.str)) ∧ us.length ≤ 3 ∧ ∀ z ∈ us, z ∈ pool) (fun σ' H' h' => ?_) (fun nx hn => ?_)
      · obtain ⟨q10, us, rfl, sC, hdC, q10d, hC, len3, in3⟩ := h'
        refine seq_split (fun σ' H' => ∃ (q10 : Addr) (us : List Str), σ' = [some (.ref d), some (.int nt), some (.int nc), some (.int n), some (.ref pn), some (.ref p5), some (.int way), some (.ref F), some (.int (i : Nat)), some (.str z), some (.ref q10), v11] ∧ But d HB H' ∧ Dice H' d ∧ q10 ≠ d ∧ H' q10 = some (.lst (us.map V.str)) ∧ us.length ≤ 3 ∧ ∀ z ∈ us, z ∈ pool) (fun σ' H' h' => ?_) (fun nx hn => ?_)
        · obtain ⟨q10, us, rfl, sC, hdC, q10d, hC, len3, in3⟩ := h'
          refine ⟨_, rfl, q10, us, rfl, SqL.of hC, by omega, fun D nD => ⟨D, us, rfl, upd_same, by omega, fun cs q1 ndy memy sty nq1 => ⟨q1, _, rfl, .inl ⟨SqL.of upd_same, fun hc nhc => ?_⟩⟩⟩⟩
          have sE : But d HB (upd (upd (upd H' D (K1.SetS P w D us)) q1 (.lst (cs.map V.str))) hc (.tup (cs.map V.str))) := ((sC.new nD).new nq1).new nhc
          have hdE : Dice (upd (upd (upd H' D (K1.SetS P w D us)) q1 (.lst (cs.map V.str))) hc (.tup (cs.map V.str))) d := ((hdC.new nD).new nq1).new nhc
          have hcE : (upd (upd (upd H' D (K1.SetS P w D us)) q1 (.lst (cs.map V.str))) hc (.tup (cs.map V.str))) hc = some (.tup (cs.map V.str)) := upd_same
          have csl : cs.length ≤ 3 := Nat.le_trans (ndy.length_le_of_subset fun z hz => (memy z).mp hz) len3
          have csN : ∀ z ∈ cs, nameB z = true := fun z hz => poolN z (in3 z ((memy z).mp hz))
          have csS : srtd cs = cs := (srtd_of (List.Perm.refl cs) sty).symm
          have csP : ∀ z ∈ cs, z ∈ pool := fun z hz => in3 z ((memy z).mp hz)
          clear nq1 nD hC in3 len3 memy sty
          refine ⟨_, rfl, _, rfl, _, rfl, _, rfl, d, hc, cs, n, rfl, hdE, hcE, csN, ndy, by omega, n0, n1, fun kd kv HK kok ksrt sK hdK hkv => ⟨by show 2 ≤ sizeLine; decide, fun tp ntp => ?_⟩⟩
          have hcK := tup_but hcE hdE sK
          clear nhc hcE
          have sL : But d HB (upd HK tp (.tup [.ref hc, kv])) := (sE.trans sK).new ntp
          have hdL := hdK.new (o := .tup [.ref hc, kv]) ntp
          have sN : Same HK (upd HK tp (.tup [.ref hc, kv])) := Same.new (Same.refl HK) ntp
          have plL : PlAt (upd HK tp (.tup [.ref hc, kv])) (.ref tp) ⟨z, cs, kd⟩ := ⟨tp, hc, kv, rfl, upd_same, sN _ _ hcK, hkv.same sN⟩
          have hFL := dK_but hFT hdT sL
          generalize upd HK tp (.tup [.ref hc, kv]) = HL at *
          have prL : Paired (fun kv l => kv.1 = Sum.inr l.t ∧ PlAt HL kv.2 l) kvs ls := Paired.mapP prT fun kv l r => ⟨r.1, r.2.but hdT sL⟩
          have nt : valV kvs (Sum.inr z) = none := by
            refine val_no prL ?_
            rw [tk]
            intro m
            rw [← List.take_append_drop i zs] at znd
            have h2 := (List.nodup_append.mp znd).2.2 z m z
            have lt : i < zs.length := (List.getElem?_eq_some_iff.mp hz).1
            rw [List.drop_eq_getElem_cons lt] at h2
            have e := (List.getElem?_eq_some_iff.mp hz).2
            exact h2 (by rw [e]; exact List.mem_cons_self) rfl
          have short : kvs.length ≤ 6 := by
            have h1 := prL.length
            have h2 := congrArg List.length tk
            rw [List.length_map, List.length_take] at h2
            omega
          refine ⟨_, rfl, _, rfl, F, _, rfl, DPut.k (k := Sum.inr z) hFL (Nat.lt_of_le_of_lt short (by decide)), ?_⟩
          rw [putK_new _ nt]
          refine ⟨_, _, _, _, _, ls ++ [⟨z, cs, kd⟩], rfl, (offT.trans (But2.but sL)).put, hdL.putF hFL, upd_same, Paired.snoc (Paired.mapP prL fun kv l r => ⟨r.1, r.2.putF hFL⟩) ⟨rfl, plL.putF hFL⟩, ?_, fun l hl => ?_⟩
          · rw [List.map_append, tk, List.take_add_one, hz]
            rfl
          · rcases List.mem_append.mp hl with hl | hl
            · exact each l hl
            · obtain rfl := List.mem_singleton.mp hl
              refine ⟨⟨zin z (List.mem_of_getElem? hz), csN, ndy, by show cs.length ≤ 4; omega, kok⟩, ?_, csP⟩
              show Ln.mk z (srtd cs) kd.srt = _
              rw [csS, ksrt]
        · refine ⟨_, rfl, rfl, decide (V.int way = V.int 2), rfl, ?_⟩
          by_cases w1 : V.int way = V.int 2
          · rw [decide_eq_true w1]
            refine iteT ?_
            have h5C := sC _ _ p5d h5T
            refine ⟨_, rfl, _, rfl, p5, _, rfl, SqL.of h5C, fun q1 nq1 => ?_⟩
            rw [cutV_map]
            have l2 := cutL_up pool 1
            have i2 : ∀ z ∈ cutL pool none (some ((1 : Nat) : Int)), z ∈ pool := fun z h => cutL_in h
            replace l2 : (cutL pool none (some 1)).length ≤ 1 := l2
            replace i2 : ∀ z ∈ cutL pool none (some 1), z ∈ pool := i2
            generalize cutL pool none (some 1) = ua at *
            have hd1 := hdC.new (o := .lst (ua.map V.str)) nq1
            have s1 : But d HB (upd H' q1 (.lst (ua.map V.str))) := sC.new nq1
            have q1d : q1 ≠ d := (hdC.ne_none nq1).symm
            have hps := ((But.refl d H').new (o := .lst (ua.map V.str)) nq1) _ _ q10d hC
            have hq1 : (upd H' q1 (.lst (ua.map V.str))) q1 = some (.lst (ua.map V.str)) := upd_same
            generalize upd H' q1 (.lst (ua.map V.str)) = HC1 at *
            refine ⟨_, rfl, _, rfl, q10, _, rfl, SqL.of hps, fun q2 nq2 => ?_⟩
            rw [cutV_map]
            have l1 := cutL_up us 2
            have i1 : ∀ z ∈ cutL us none (some ((2 : Nat) : Int)), z ∈ pool := fun z h => in3 z (cutL_in h)
            replace l1 : (cutL us none (some 2)).length ≤ 2 := l1
            replace i1 : ∀ z ∈ cutL us none (some 2), z ∈ pool := i1
            generalize cutL us none (some 2) = ub at *
            have sE := (But.refl d HC1).new (o := .lst (ub.map V.str)) nq2
            refine ⟨q1, q2, _, _, rfl, rfl, sE _ _ q1d hq1, upd_same, by rw [List.length_map, List.length_map, sizeLine_eq]; omega, fun q3 nq3 => ?_⟩
            have hdE := hd1.new (o := .lst (ub.map V.str)) nq2
            refine hn _ _ ⟨q3, ua ++ ub, rfl, (s1.trans sE).new nq3, hdE.new nq3, (hdE.ne_none nq3).symm, by rw [List.map_append]; exact upd_same, by rw [List.length_append]; omega, fun z hz => ?_⟩
            rcases List.mem_append.mp hz with hz | hz
            · exact i2 z hz
            · exact i1 z hz
          · rw [decide_eq_false w1]
            exact iteF (hn _ _ ⟨q10, us, rfl, sC, hdC, q10d, hC, len3, in3⟩)
      · refine ⟨_, rfl, rfl, decide (V.int way = V.int 1), rfl, ?_⟩
        by_cases w1 : V.int way = V.int 1
        · rw [decide_eq_true w1]
          refine iteT ?_
          have h5C := sC _ _ p5d h5T
          refine ⟨_, rfl, _, rfl, _, rfl, _, rfl, _, _, rfl, rfl, _, rfl, p5, _, rfl, SqL.of h5C, fun q1 nq1 => ?_⟩
          rw [cutV_map]
          have l2 := cutL_two pool i
          have i2 : ∀ z ∈ cutL pool (some (i : Int)) (some ((i : Int) + 2)), z ∈ pool := fun z h => cutL_in h
          generalize cutL pool (some (i : Int)) (some ((i : Int) + 2)) = ua at *
          have hd1 := hdC.new (o := .lst (ua.map V.str)) nq1
          have s1 : But d HB (upd HC q1 (.lst (ua.map V.str))) := sC.new nq1
          have q1d : q1 ≠ d := (hdC.ne_none nq1).symm
          have hps := ((But.refl d HC).new (o := .lst (ua.map V.str)) nq1) _ _ psd hC
          have hq1 : (upd HC q1 (.lst (ua.map V.str))) q1 = some (.lst (ua.map V.str)) := upd_same
          generalize upd HC q1 (.lst (ua.map V.str)) = HC1 at *
          refine ⟨_, rfl, _, rfl, d, 2, rfl, hd1, by decide, by decide, fun r HD r0 r1 sD hdD => ?_⟩
          obtain ⟨r, rfl⟩ := Int.eq_ofNat_of_zero_le r0
          refine ⟨_, rfl, ps, _, rfl, SqL.of (sD _ _ psd hps), fun q2 nq2 => ?_⟩
          rw [cutV_map]
          have l1 := cutL_up us r
          have i1 : ∀ z ∈ cutL us none (some (r : Int)), z ∈ pool := fun z h => in3 z (cutL_in h)
          generalize cutL us none (some (r : Int)) = ub at *
          have sE := (But.refl d HD).new (o := .lst (ub.map V.str)) nq2
          refine ⟨q1, q2, _, _, rfl, rfl, sE _ _ q1d (sD _ _ q1d hq1), upd_same, by rw [List.length_map, List.length_map, sizeLine_eq]; omega, fun q3 nq3 => ?_⟩
          have hdE := hdD.new (o := .lst (ub.map V.str)) nq2
          refine hn _ _ ⟨q3, ua ++ ub, rfl, (s1.trans (sD.trans sE)).new nq3, hdE.new nq3, (hdE.ne_none nq3).symm, by rw [List.map_append]; exact upd_same, by rw [List.length_append]; omega, fun z hz => ?_⟩
          rcases List.mem_append.mp hz with hz | hz
          · exact i2 z hz
          · exact i1 z hz
        · rw [decide_eq_false w1]
          exact iteF (hn _ _ ⟨ps, us, rfl, sC, hdC, psd, hC, len3, in3⟩)
    · obtain ⟨v8, v9, v10, v11, kvs, ls, rfl, off, hd, hF, pr, tk, each⟩ := p
      rw [List.length_map, List.take_length] at tk
      have lsrt : ls.map Ln.srt = ls := by
        refine (List.map_congr_left fun l hl => (each l hl).2.1).trans (List.map_id _)
      have lnd : (ls.map (·.t)).Nodup := by rw [tk]; exact znd
      have Lts : (ordL ls).map (·.t) = ys := by rw [ordL_ts, tk, srtd_congr zp, yord]
      have Lin : ∀ l ∈ ordL ls, l ∈ ls := fun l hl => by
        have h := (ordL_perm ls).mem_iff.mp hl
        rw [lsrt] at h
        exact h
      have Llen : (ordL ls).length = ys.length := by rw [← Lts, List.length_map]
      have Lsrt : ∀ l ∈ ordL ls, l.srt = l := fun l hl => (each l (Lin l hl)).2.1
      have LOk : PlOk (ordL ls) := by
        refine ⟨⟨fun l hl => (each l (Lin l hl)).1, by rw [Lts]; exact ynd, by rw [Llen]; exact yone, by rw [Llen]; exact ysix, pool, poolL, fun l hl => (each l (Lin l hl)).2.2⟩, ?_, Lsrt⟩
        refine (ordL_of (by rw [Lts]; exact ynd) ?_ (ordL_pair ls)).symm
        rw [(List.map_congr_left Lsrt).trans (List.map_id _)]
      have hn1 := off _ _ pnd pnF hn8
      refine ⟨_, rfl, pn, rfl, ⟨_, SqL.of hn1⟩, fun D hD => ?_⟩
      refine K1.lc_rel (walk_list (xs := ys.map V.str)) PairAt (fun i => (ordL ls)[i]?) hD (by rw [List.length_map, sizeLine_eq]; omega) (fun H H' v l r e o => r.off o fun xs z => by obtain ⟨a, e⟩ := e; rw [e] at z; cases z) (fun H2 s2 => SqL.of (s2 _ _ hn1)) (fun i x H2 H3 N hi s2 lD y keep skip => ?_) (fun H2 acc s2 hL pL => ?_)
      · obtain ⟨rfl, hx⟩ := y
        rw [List.getElem?_map] at hx
        obtain ⟨z, hz, rfl⟩ := Option.map_eq_some_iff.mp hx
        have hz2 : ((ordL ls).map (·.t))[i]? = some z := by rw [Lts]; exact hz
        rw [List.getElem?_map] at hz2
        obtain ⟨l, hl, rfl⟩ := Option.map_eq_some_iff.mp hz2
        have mz : l.t ∈ ls.map (·.t) := List.mem_map.mpr ⟨l, Lin l (List.mem_of_getElem? hl), rfl⟩
        obtain ⟨v, m, e1, e2, e3, pl⟩ := val_at pr mz
        obtain rfl := same_line lnd (Lin l (List.mem_of_getElem? hl)) e2 e3
        refine ⟨rfl, _, rfl, _, rfl, _, rfl, F, v, rfl, e1 ▸ DGet.k (k := Sum.inr _) (s2 _ _ hF), by show 2 ≤ sizeLine; decide, fun q hq => ?_⟩
        have sN : Same H3 (upd H3 q (.tup [.str m.t, v])) := Same.new (Same.refl _) hq
        exact keep _ (.ref q) m sN hl ⟨q, v, rfl, upd_same, (pl.same s2).same sN⟩
      · rw [List.length_map, ← Llen, K1.pickT_all] at pL
        obtain ⟨ps, kvs2, rfl, q1, q2, q3⟩ := pairs_of (K := K) pL
        have knd : (kvs2.map (·.1)).Nodup := by
          have e : ((ordL ls).map fun l => (Sum.inr l.t : Key)) = (((ordL ls).map (·.t)).map fun z => (Sum.inr z : Key)) := by rw [List.map_map]; rfl
          rw [q3, e, Lts]
          exact (List.pairwise_map.mpr (ynd.imp fun n z => n (Sum.inr.inj z)))
        refine ⟨D, ps, kvs2, rfl, SqL.of hL, q1, fun q nq => ?_⟩
        rw [merge_nodup knd]
        have nq1 : H1 q = none := s2.free nq
        have qd : q ≠ d := (hd.ne_none nq1).symm
        have qF : q ≠ F := fun z => by rw [z, hF] at nq1; cases nq1
        have nq8 : H8 q = none := by
          cases e : H8 q with
          | none => rfl
          | some o => rw [off _ _ qd qF e] at nq1; cases nq1
        have sQ : Same H2 (upd H2 q (.dK kvs2)) := Same.new (Same.refl _) nq
        refine k q (ordL ls) _ LOk (fun l hl => yw _ (by rw [← Lts]; exact List.mem_map.mpr ⟨l, hl, rfl⟩)) (s88.free qd nq8) (fun b o n e => ?_) ((hd.same s2).new nq) ⟨kvs2, upd_same, Paired.mapP q2 fun kv l r => ⟨r.1, r.2.same sQ⟩⟩
        exact sQ _ _ (s2 _ _ (off _ _ n (fun z => by rw [z, FH] at e; cases e) (s88 _ _ n e)))
end
end B2_

/-! ## B2_20 -/
set_option Elab.async false
set_option linter.all false
set_option maxRecDepth 100000
set_option maxHeartbeats 8000000
namespace B2_
open PySem PySem.Spec PyProof.Rows L2
/-! ### _law_columns -/
abbrev s_lco : Stmt := topS 33
abbrev N_lco : List Str := ["scene", "found", "name", "column"]
theorem sc_lco : FnScope N_lco ["scene"] (defScope s_lco) := ⟨rfl, rfl, rfl, by decide +kernel, rfl, by decide +kernel, by decide +kernel⟩
def spLco : Sp := fun vs H Q _ => ∃ (q : Addr) (Ls : List Ln), vs = [.ref q] ∧ PlainAt H q Ls ∧ PlOk Ls ∧ ∀ p H', Same H H' → H p = none → H' p = some (.lst ((colsOf Ls).map V.str)) → Q (.ref p) H'
theorem unlockO {H H1 : Hp} {F d : Addr} {u : HO} {o : Obj} (hd : H d = some u) (n : F ≠ d) (s : K1.Off F (upd H d (.frz o u)) H1) : K1.Off F H (upd H1 d u) := fun b z m e => by
  by_cases q : b = d
  · subst q; rw [upd_same]; rw [hd] at e; exact e
  · rw [upd_ne q]; exact s _ _ m (by rw [upd_ne q]; exact e)
section
variable {P : Program} {w : World} {K : PySem.W.Frag} {mg : Str → Option Value} {base : Heap}
theorem ok_lco {f : Addr} {fd : FuncData} (F : Fun K "_law_columns" "_law_columns" s_lco f fd) (T : NamesS mg) : FnOk P w K mg base CX0 1 f fd ["scene"] spLco := by
  have nd := sc_lco.nd
  refine F.ok sc_lco (fun vs H Q E h => ?_) (fun cdv A outer s H vs Q E hr h => ?_)
  · obtain ⟨q, Ls, rfl, _⟩ := h
    rfl
  · obtain ⟨q, Ls, rfl, ⟨kvs, hq, pr⟩, ok, k⟩ := h
    have hu : (A.deeper (envOfC "_law_columns" (defScope s_lco) s.heap.objs.size f cdv)).units + 1 < cLine := by have := hr.un; omega
    refine ⟨_, (pss_cons
    (ps_set (i := 1) nd rfl (Or.inr rfl) (pe_lst pa_nil))
    (pss_cons
    (ps_lock (ps_for PassesOwn.never rfl (pi_keys (pv 0)) (pg_name (i := 2) nd rfl (Or.inl rfl)) (pss_one
      (ps_expr (pe_bm PySem.F.plainAttrs_list PySem.F.slot_list_extend PySem.F.type_list_extend mt_extend (pv 1) (pa_cons (pe_lc (own := [("column", 3)]) (g := (gName 3)) (te := tVar 3) (tt := tTest (tOp (rIn K true) (tVar 3) (tVar 1))) rfl nd (pi_tup (pe_ix ix_tup (pe_dget hu (pv 0) (pv 2) (fun _ _ => rfl)) pe_int (fun _ _ => rfl))) (blkOk_by (N := N_lco) (sc := defScope s_lco) (by decide +kernel)) (fun _ _ _ _ _ => (pg_name (i := 3) nd rfl (Or.inl rfl))) (fun _ _ _ _ _ => (pts_one (pt_cmpR (r := rIn K true) op_notIn_seq (pv 3) (pv 1) rfl))) (fun _ _ _ _ _ => (pv 3))) pa_nil))))))
    (pss_one
    (ps_ret (pe_callB cr_sortedS (by rfl) T.sorted (by decide +kernel) (pa_cons (pv 1) pa_nil)))))), ?_⟩
    refine ⟨Nat.zero_le _, fun F0 nF => ?_⟩
    have Fq : F0 ≠ q := (ne_of_none hq nF).symm
    have hq1 : (upd H F0 (.lst [])) q = some (.dK kvs) := by rw [upd_ne (Ne.symm Fq)]; exact hq
    refine ⟨q, .dK kvs, hq1, trivial, fun od => ⟨_, rfl, q, od, rfl, .inl ⟨kvs, upd_same, ?_⟩⟩⟩
    have pr2 : ∀ {i : Nat} {kv : Key × V}, kvs[i]? = some kv → ∃ l, Ls[i]? = some l ∧ kv.1 = Sum.inr l.t ∧ PlAt H kv.2 l := fun e => paired_get pr e
    have s12 : K1.Off F0 H (upd H F0 (.lst [])) := (K1.Off.refl F0 H).put
    have ntup : ∀ xs, H F0 ≠ some (.tup xs) := fun xs z => by rw [nF] at z; cases z
    refine for_it walk_keys (fun i σ H' => ∃ (v2 : Option V) (fs : List Str), σ = [some (.ref q), some (.ref F0), v2, none] ∧ K1.Off F0 (upd (upd H F0 (.lst [])) q (.frz od (.dK kvs))) H' ∧ H' F0 = some (.lst (fs.map V.str)) ∧ fs.Nodup ∧ fs.length ≤ 6 ∧ ∀ z, z ∈ fs ↔ ∃ l ∈ Ls.take i, z ∈ l.cs)
      ⟨none, [], rfl, K1.Off.refl _ _, by rw [upd_ne Fq]; exact upd_same, List.nodup_nil, Nat.zero_le _, fun z => by simp⟩ (fun i σ H1 _ p => ?_) (fun i x σ HA H1 hi p y => ?_) (fun σ H1 p => ?_)
    · obtain ⟨v2, fs, rfl, off, _⟩ := p
      exact off _ _ (Ne.symm Fq) upd_same
    · obtain ⟨v2, fs, rfl, off, hF, fnd, flen, mem⟩ := p
      obtain ⟨rfl, kk, vv, hkv, rfl⟩ := y
      obtain ⟨l, hl, e1, _⟩ := pr2 hkv
      replace e1 : kk = Sum.inr l.t := e1
      subst e1
      obtain ⟨v, m, x1, x2, x3, pl⟩ := val_at pr (List.mem_map.mpr ⟨l, List.mem_of_getElem? hl, rfl⟩)
      obtain rfl := same_line ok.nd (List.mem_of_getElem? hl) x2 x3
      obtain ⟨pp, c, kv, rfl, t1, t2, t3⟩ := pl
      have up : ∀ {p : Addr} {xs : List V}, H p = some (.tup xs) → H1 p = some (.tup xs) := fun {p xs} e => by
        have n1 : p ≠ F0 := fun z => by rw [z, nF] at e; cases e
        have n2 : p ≠ q := fun z => by rw [z, hq] at e; cases e
        refine off _ _ n1 ?_
        rw [upd_ne n2, upd_ne n1]
        exact e
      have t1' := up t1
      have t2' := up t2
      have hq3 : H1 q = some (.frz od (.dK kvs)) := off _ _ (Ne.symm Fq) upd_same
      refine ⟨_, rfl, .inl ⟨rfl, _, SqL.of hF⟩, ?_⟩
      refine ⟨_, rfl, _, rfl, q, .ref pp, rfl, x1 ▸ .inl ⟨kvs, Sum.inr m.t, .inr ⟨od, hq3⟩, rfl, rfl⟩, pp, _, _, _, rfl, rfl, SqT.of t1', at_of (j := 0) rfl rfl, c, rfl, ⟨_, SqT.of t2'⟩, fun D hD => ?_⟩
      have csnd := (ok.good _ x2).nd
      have csfew := (ok.good _ x2).few
      refine lc_acc walk_tup (fun j => ((m.cs.take j).filter fun z => !decide (z ∈ fs)).map V.str) rfl hD (fun j hj => ?_) (fun H2 s2 => SqT.of (s2 _ _ t2')) (fun j x H2 H3 N hj s2 y keep skip => ?_) (fun H2 s2 hL => ?_)
      · have h1 : (1000 : Nat) < sizeLine := by decide
        have h2 := List.length_filter_le (fun z => !decide (z ∈ fs)) (m.cs.take j)
        rw [List.length_take] at h2
        rw [List.length_map]
        omega
      · obtain ⟨rfl, hx⟩ := y
        rw [List.getElem?_map] at hx
        obtain ⟨z, hz, rfl⟩ := Option.map_eq_some_iff.mp hx
        refine ⟨rfl, _, rfl, _, rfl, F0, _, rfl, .inl (SqL.of (s2 _ _ hF)), rfl, by simp [flatV], _, rfl, ?_⟩
        rw [in_texts]
        by_cases q1 : z ∈ fs
        · rw [decide_eq_true q1]
          refine iteF (skip _ (Same.refl _) ?_)
          rw [take_snoc hz, List.filter_append]
          simp [q1]
        · rw [decide_eq_false q1]
          refine iteT ⟨_, rfl, keep _ _ (Same.refl _) ?_⟩
          rw [take_snoc hz, List.filter_append]
          simp [q1]
      · have hF2 := s2 _ _ hF
        rw [List.length_map, List.take_length] at hL
        obtain ⟨C, few, inC⟩ := ok.cols
        have nd2 : (fs ++ m.cs.filter fun z => !decide (z ∈ fs)).Nodup := by
          refine List.nodup_append.mpr ⟨fnd, csnd.filter _, fun a ha b hb z => ?_⟩
          have h2 := (List.mem_filter.mp hb).2
          rw [← z, decide_eq_true ha] at h2
          cases h2
        have mem2 : ∀ z, z ∈ fs ++ (m.cs.filter fun z => !decide (z ∈ fs)) ↔ ∃ l ∈ Ls.take (i + 1), z ∈ l.cs := fun z => by
          rw [take_snoc hl, List.mem_append, mem, List.mem_filter]
          constructor
          · rintro (⟨l, h1, h2⟩ | ⟨h1, _⟩)
            · exact ⟨l, List.mem_append_left _ h1, h2⟩
            · exact ⟨m, List.mem_append_right _ (List.mem_singleton.mpr rfl), h1⟩
          · rintro ⟨l, h1, h2⟩
            rcases List.mem_append.mp h1 with h1 | h1
            · exact .inl ⟨l, h1, h2⟩
            · rw [List.mem_singleton.mp h1] at h2
              by_cases q1 : z ∈ fs
              · exact .inl ((mem z).mp q1)
              · exact .inr ⟨h2, by simp [q1]⟩
        have len2 : (fs ++ m.cs.filter fun z => !decide (z ∈ fs)).length ≤ 6 := by
          refine Nat.le_trans (nd2.length_le_of_subset fun z hz => ?_) few
          obtain ⟨l, h1, h2⟩ := (mem2 z).mp hz
          exact inC l (List.mem_of_mem_take h1) z h2
        refine ⟨F0, D, _, _, rfl, rfl, hF2, hL, by rw [List.length_map, List.length_map, ← List.length_append, sizeLine_eq]; omega, _, _, rfl, (off.trans (K1.Off.same s2)).put, ?_, nd2, len2, mem2⟩
        rw [List.map_append]
        exact upd_same
    · obtain ⟨v2, fs, rfl, off, hF, fnd, flen, mem⟩ := p
      have offU := unlockO hq1 Fq off
      have hF2 : (upd H1 q (.dK kvs)) F0 = some (.lst (fs.map V.str)) := by rw [upd_ne Fq]; exact hF
      have hq3 : H1 q = some (.frz od (.dK kvs)) := off _ _ (Ne.symm Fq) upd_same
      refine ⟨hq3, _, rfl, F0, fs, rfl, SqL.of hF2, by omega, fun ys p yp yo np => ?_⟩
      obtain rfl := srtd_of yp yo
      have e : srtd fs = colsOf Ls := uniqS_of ((srtd_perm _).nodup_iff.mpr fnd) (fun z => by
        rw [mem_srtd, mem, pr.length, List.take_length, List.mem_flatMap]) yo
      rw [e]
      refine k p _ (fun b o g => ?_) ?_ upd_same
      · have n1 : b ≠ F0 := ne_of_none g nF
        have h2 := offU b o n1 (s12 b o n1 g)
        rw [upd_ne (ne_of_none h2 np)]
        exact h2
      · cases g : H p with
        | none => rfl
        | some o =>
          have n1 : p ≠ F0 := ne_of_none g nF
          rw [offU p o n1 (s12 p o n1 g)] at np
          cases np
end
end B2_

/-! ## B2_21 -/
set_option Elab.async false
set_option linter.all false
set_option maxRecDepth 100000
set_option maxHeartbeats 8000000
namespace B2_
open PySem PySem.Spec PyProof.Rows L2
theorem PlOk.tabs {Ls : List Ln} (ok : PlOk Ls) : srtd (tabsOf Ls) = tabsOf Ls := by
  have h := ordL_ts Ls
  rw [ok.inord] at h
  exact h.symm
/-- the keys of a plain scene -/
theorem plain_keys {R : V → Ln → Prop} {kvs : List (Key × V)} {Ls : List Ln} (pr : Paired (fun kv l => kv.1 = Sum.inr l.t ∧ R kv.2 l) kvs Ls) : kvs.map (·.1) = (tabsOf Ls).map fun z => (Sum.inr z : Key) := by
  unfold tabsOf
  rw [List.map_map]
  induction pr with
  | nil => rfl
  | cons a b ih => rw [List.map_cons, List.map_cons, a.1, ih]; rfl
/-! ### _law_lines -/
abbrev s_lls : Stmt := topS 34
abbrev N_lls : List Str := ["scene", "name"]
theorem sc_lls : FnScope N_lls ["scene"] (defScope s_lls) := ⟨rfl, rfl, rfl, by decide +kernel, rfl, by decide +kernel, by decide +kernel⟩
def spLls : Sp := fun vs H Q _ => ∃ (q : Addr) (Ls : List Ln), vs = [.ref q] ∧ PlainAt H q Ls ∧ PlOk Ls ∧ ∀ p rs H', Same H H' → H p = none → H' p = some (.tup rs) → Paired (LnAt H') rs Ls → Q (.ref p) H'
section
variable {P : Program} {w : World} {K : PySem.W.Frag} {mg : Str → Option Value} {base : Heap}
theorem ok_lls {f : Addr} {fd : FuncData} (F : Fun K "_law_lines" "_law_lines" s_lls f fd) (T : NamesS mg) : FnOk P w K mg base CX0 1 f fd ["scene"] spLls := by
  have nd := sc_lls.nd
  refine F.ok sc_lls (fun vs H Q E h => ?_) (fun cdv A outer s H vs Q E hr h => ?_)
  · obtain ⟨q, Ls, rfl, _⟩ := h
    rfl
  · obtain ⟨q, Ls, rfl, ⟨kvs, hq, pr⟩, ok, k⟩ := h
    have hu : (A.deeper (envOfC "_law_lines" (defScope s_lls) s.heap.objs.size f cdv)).units + 1 < cLine := by have := hr.un; omega
    refine ⟨_, (pss_one
    (ps_ret (pe_callTy call_tuple_of (by rfl) T.tuple (by decide +kernel) (pa_cons (pe_lc (own := [("name", 1)]) (g := (gName 1)) rfl nd (pi_list (pe_callB (call_sortedD rfl) (by rfl) T.sorted (by decide +kernel) (pa_cons (pv 0) pa_nil))) (blkOk_by (N := N_lls) (sc := defScope s_lls) (by decide +kernel)) (fun _ _ _ _ _ => (pg_name (i := 1) nd rfl (Or.inl rfl))) (fun _ _ _ _ _ => pts_nil) (te := tTup (tCons (tVar 1) (tCons (tOp (rIxT K) (tDGet (tVar 0) (tVar 1)) (tC (.int 0))) (tCons (tOp (rIxT K) (tDGet (tVar 0) (tVar 1)) (tC (.int 1))) tNil)))) (fun _ _ _ _ _ => (pe_tup (pa_cons (pv 1) (pa_cons (pe_ix ix_tup (pe_dget hu (pv 0) (pv 1) (fun _ _ => rfl)) pe_int (fun _ _ => rfl)) (pa_cons (pe_ix ix_tup (pe_dget hu (pv 0) (pv 1) (fun _ _ => rfl)) pe_int (fun _ _ => rfl)) pa_nil)))))) pa_nil)))), ?_⟩
    have six : (tabsOf Ls).length ≤ 6 := by unfold tabsOf; rw [List.length_map]; exact ok.six
    refine cb_one ⟨_, rfl, q, kvs, tabsOf Ls, rfl, Rd.of hq, plain_keys pr, by omega, fun ys p pm st np => ?_⟩
    obtain rfl := srtd_of pm st
    rw [ok.tabs]
    have s1 : Same H (upd H p (.lst ((tabsOf Ls).map V.str))) := Same.new (Same.refl _) np
    have hp : (upd H p (.lst ((tabsOf Ls).map V.str))) p = some (.lst ((tabsOf Ls).map V.str)) := upd_same
    have hq1 := s1 _ _ hq
    have pr1 : Paired (fun kv l => kv.1 = Sum.inr l.t ∧ PlAt (upd H p (.lst ((tabsOf Ls).map V.str))) kv.2 l) kvs Ls := Paired.mapP pr fun kv l r => ⟨r.1, r.2.same s1⟩
    generalize upd H p (.lst ((tabsOf Ls).map V.str)) = H1 at *
    refine ⟨p, rfl, ⟨_, SqL.of hp⟩, fun D hD => ?_⟩
    refine K1.lc_rel (walk_list (xs := (tabsOf Ls).map V.str)) LnAt (fun i => Ls[i]?) hD (by rw [List.length_map, sizeLine_eq]; omega) (fun H H' v l r e o => r.off o fun xs z => by obtain ⟨a, e⟩ := e; rw [e] at z; cases z) (fun H2 s2 => SqL.of (s2 _ _ hp)) (fun i x H2 H3 N hi s2 lD y keep skip => ?_) (fun H2 acc s2 hL pL => ?_)
    · obtain ⟨rfl, hx⟩ := y
      rw [List.getElem?_map] at hx
      obtain ⟨z, hz, rfl⟩ := Option.map_eq_some_iff.mp hx
      unfold tabsOf at hz
      rw [List.getElem?_map] at hz
      obtain ⟨l, hl, rfl⟩ := Option.map_eq_some_iff.mp hz
      obtain ⟨v, m, e1, e2, e3, pp, c, kv, rfl, t1, t2, t3⟩ := val_at pr1 (List.mem_map.mpr ⟨l, List.mem_of_getElem? hl, rfl⟩)
      obtain rfl := same_line ok.nd (List.mem_of_getElem? hl) e2 e3
      have hg : DGet H3 q (.str m.t) (some (.ref pp)) := e1 ▸ DGet.k (k := Sum.inr _) (s2 _ _ hq1)
      refine ⟨rfl, _, rfl, _, rfl, _, rfl, q, .ref pp, rfl, hg, pp, _, _, _, rfl, rfl, SqT.of (s2 _ _ t1), at_of (j := 0) rfl rfl, _, rfl, _, rfl, q, .ref pp, rfl, hg, pp, _, _, _, rfl, rfl, SqT.of (s2 _ _ t1), at_of (j := 1) rfl rfl, by show 3 ≤ sizeLine; decide, fun t nt => ?_⟩
      have sN : Same H3 (upd H3 t (.tup [.str m.t, .ref c, kv])) := Same.new (Same.refl _) nt
      exact keep _ (.ref t) m sN hl ⟨t, c, kv, rfl, upd_same, sN _ _ (s2 _ _ t2), (t3.same s2).same sN⟩
    · rw [List.length_map, show (tabsOf Ls).length = Ls.length from List.length_map .., K1.pickT_all] at pL
      refine ⟨D, _, rfl, .inl ⟨SqL.of hL, fun t nt => ?_⟩⟩
      have sN : Same H2 (upd H2 t (.tup acc)) := Same.new (Same.refl _) nt
      refine k t acc _ (s1.trans (s2.trans sN)) (s1.free (s2.free nt)) upd_same (Paired.mapP pL fun v l r => r.same sN)
end
end B2_

/-! ## B2_22 -/
set_option Elab.async false
set_option linter.all false
set_option maxRecDepth 100000
set_option maxHeartbeats 8000000
namespace B2_
open PySem PySem.Spec PyProof.Rows L2
/-! ### a plain scene in a drawn order -/
def KdShuf : Kd → Kd → Prop
  | .chg, .chg => True
  | .fix, .fix => True
  | .key a, .key b => a.Perm b
  | _, _ => False
structure Shuf (m l : Ln) : Prop where
  t : m.t = l.t
  cs : m.cs.Perm l.cs
  k : KdShuf m.k l.k
structure ShufL (Ms Ls : List Ln) : Prop where
  ts : (Ms.map (·.t)).Perm (tabsOf Ls)
  each : ∀ m ∈ Ms, ∃ l ∈ Ls, Shuf m l
theorem Shuf.srt {m l : Ln} (h : Shuf m l) : m.srt = l.srt := by
  obtain ⟨t, cs, k⟩ := m
  obtain ⟨t2, cs2, k2⟩ := l
  have h1 : t = t2 := h.t
  have h2 : srtd cs = srtd cs2 := srtd_congr h.cs
  have h3 : Kd.srt k = Kd.srt k2 := by
    have h3 : KdShuf k k2 := h.k
    cases k <;> cases k2 <;> first | rfl | exact h3.elim | (show Kd.key _ = Kd.key _; rw [srtd_congr h3])
  show Ln.mk t (srtd cs) k.srt = Ln.mk t2 (srtd cs2) k2.srt
  rw [h1, h2, h3]
theorem Shuf.ok {m l : Ln} (h : Shuf m l) (o : l.Ok) : m.Ok := by
  refine ⟨by rw [h.t]; exact o.name, fun z hz => o.cols z (h.cs.mem_iff.mp hz), h.cs.nodup_iff.mpr o.nd, by rw [h.cs.length_eq]; exact o.few, ?_⟩
  have h3 := h.k
  have h4 := o.key
  cases e : m.k with
  | chg => trivial
  | fix => trivial
  | key ks =>
    rw [e] at h3
    cases e2 : l.k with
    | chg => rw [e2] at h3; exact h3.elim
    | fix => rw [e2] at h3; exact h3.elim
    | key ks2 =>
      rw [e2] at h3 h4
      exact ⟨fun z hz => h4.1 z (h3.mem_iff.mp hz), h3.nodup_iff.mpr h4.2.1, fun z hz => h.cs.mem_iff.mpr (h4.2.2 z (h3.mem_iff.mp hz))⟩
theorem perm_ln : ∀ {l ks : List Ln}, l.Nodup → (∀ z ∈ l, z ∈ ks) → ks.length ≤ l.length → l.Perm ks
  | [], ks, _, _, h => by
    have : ks = [] := List.length_eq_zero_iff.mp (Nat.le_zero.mp h)
    rw [this]
  | x :: l, ks, n, s, h => by
    obtain ⟨n1, n2⟩ := List.nodup_cons.mp n
    obtain ⟨a, b, rfl⟩ := List.append_of_mem (s x List.mem_cons_self)
    refine (List.Perm.cons x (perm_ln (ks := a ++ b) n2 (fun z hz => ?_) ?_)).trans List.perm_middle.symm
    · have h2 := s z (List.mem_cons_of_mem _ hz)
      rcases List.mem_append.mp h2 with h2 | h2
      · exact List.mem_append_left _ h2
      · rcases List.mem_cons.mp h2 with h2 | h2
        · exact absurd (h2 ▸ hz) n1
        · exact List.mem_append_right _ h2
    · simp only [List.length_append, List.length_cons] at h ⊢
      omega
theorem nodup_of_t {Ls : List Ln} (n : (Ls.map (·.t)).Nodup) : Ls.Nodup := (List.pairwise_map.mp n).imp fun h e => h (by rw [e])
theorem shuf_all {Ms Ls : List Ln} (ok : PlOk Ls) (h : ShufL Ms Ls) : LnsOk Ms ∧ ordL Ms = Ls := by
  have nM : (Ms.map (·.t)).Nodup := h.ts.nodup_iff.mpr ok.nd
  have len : Ms.length = Ls.length := by
    have e := h.ts.length_eq
    unfold tabsOf at e
    rwa [List.length_map, List.length_map] at e
  have mem : ∀ x ∈ Ms.map Ln.srt, x ∈ Ls := fun x hx => by
    obtain ⟨m, hm, rfl⟩ := List.mem_map.mp hx
    obtain ⟨l, hl, s⟩ := h.each m hm
    rw [s.srt, ok.each l hl]
    exact hl
  have pm : (Ms.map Ln.srt).Perm Ls := perm_ln (nodup_of_t (by rw [srt_t]; exact nM)) mem (by rw [List.length_map, len]; exact Nat.le_refl _)
  refine ⟨⟨fun m hm => ?_, nM, by rw [len]; exact ok.one, by rw [len]; exact ok.six, ?_⟩, ?_⟩
  · obtain ⟨l, hl, s⟩ := h.each m hm
    exact s.ok (ok.good l hl)
  · obtain ⟨C, few, inC⟩ := ok.cols
    refine ⟨C, few, fun m hm z hz => ?_⟩
    obtain ⟨l, hl, s⟩ := h.each m hm
    exact inC l hl z (s.cs.mem_iff.mp hz)
  · have e := ordL_pair Ls
    rw [ok.inord] at e
    exact (ordL_of nM pm.symm e).symm
theorem told_any {Ms : List Ln} (o : LnsOk Ms) : ToldOk (mvOf Ms) (stOf Ms) (gvOf Ms) ∧ ordL (lnsOf (mvOf Ms) (stOf Ms) (gvOf Ms)) = ordL Ms := by
  have pm : (Ms.filter isChg ++ Ms.filter fun l => !isChg l).Perm Ms := List.filter_append_perm isChg Ms
  refine ⟨⟨?_, fun e he => ?_⟩, ?_⟩
  · rw [lns_back o.nd]
    refine ⟨fun l hl => o.good l (pm.mem_iff.mp hl), (pm.map (·.t)).nodup_iff.mpr o.nd, by rw [pm.length_eq]; exact o.one, by rw [pm.length_eq]; exact o.six, ?_⟩
    obtain ⟨C, few, inC⟩ := o.cols
    exact ⟨C, few, fun l hl => inC l (pm.mem_iff.mp hl)⟩
  · obtain ⟨l, hl, e1⟩ := List.mem_filterMap.mp he
    obtain ⟨ks, q, rfl⟩ := Option.map_eq_some_iff.mp e1
    refine List.mem_map.mpr ⟨(l.t, l.cs), List.mem_map.mpr ⟨l, List.mem_filter.mpr ⟨hl, ?_⟩, rfl⟩, rfl⟩
    unfold isChg
    unfold keyO at q
    cases e : l.k with
    | chg => rw [e] at q; cases q
    | fix => rfl
    | key ks => rfl
  · rw [lns_back o.nd]
    exact ordL_congr ((pm.map (·.t)).nodup_iff.mpr o.nd) (pm.map _)
theorem mvOf_snoc (Ms : List Ln) (m : Ln) : mvOf (Ms ++ [m]) = mvOf Ms ++ if isChg m then [(m.t, m.cs)] else [] := by
  unfold mvOf
  rw [List.filter_append, List.map_append]
  cases e : isChg m <;> simp [e]
theorem stOf_snoc (Ms : List Ln) (m : Ln) : stOf (Ms ++ [m]) = stOf Ms ++ if isChg m then [] else [(m.t, m.cs)] := by
  unfold stOf
  rw [List.filter_append, List.map_append]
  cases e : isChg m <;> simp [e]
theorem gvOf_snoc (Ms : List Ln) (m : Ln) : gvOf (Ms ++ [m]) = gvOf Ms ++ match m.k with | .key ks => [(m.t, ks)] | _ => [] := by
  unfold gvOf
  rw [List.filterMap_append]
  unfold keyO
  cases e : m.k <;> simp [e]
end B2_

/-! ## CG -/
set_option Elab.async false
set_option linter.all false
set_option maxRecDepth 100000
set_option maxHeartbeats 4000000
namespace K1
open PySem PySem.Spec PyProof.Rows L2
/-! ### defs that are called where nothing is being written out: A.guards = some [] -/
structure FnOkG (P : Program) (w : World) (K : PySem.W.Frag) (mg : Str → Option Value) (base : Heap) (k : Nat) (f : Addr) (fd : FuncData) (ps : List Str) (sp : Sp) : Prop where
  len : ∀ vs H Q E, sp vs H Q E → vs.length = ps.length
  run : ∀ (A : Around) (outer : List Env) (s : Shared) (H : Hp) (args : Args) (us : List Value) (vs : List V) (Q : VK), Room k A → A.guards = some [] → Env0 P w K mg base A outer s H → BindsTo s fd args (ps.zip us) → Vals vs us → sp vs H Q E0 →
    codeAny (model P w) A (.call (.ref f) args) (CR CX0 outer P w H s Q E0) s
theorem FnOkG.of {P : Program} {w : World} {K : PySem.W.Frag} {mg : Str → Option Value} {base : Heap} {k : Nat} {f : Addr} {fd : FuncData} {ps : List Str} {sp : Sp} (F : FnOk P w K mg base CX0 k f fd ps sp) : FnOkG P w K mg base k f fd ps sp :=
  ⟨F.len, fun A outer s H args us vs Q hr _ => F.run A outer s H args us vs Q E0 hr⟩
section
variable {P : Program} {w : World} {K : PySem.W.Frag} {mg : Str → Option Value} {base : Heap}
/-- a def's promise by its body, where nothing is being written out -/
theorem fn_ofG {k : Nat} {x qual : Str} {st : Stmt} {f : Addr} {fd : FuncData} {N ps : List Str} {sp : Sp} (F : Fun K x qual st f fd) (S : FnScope N ps (defScope st)) (len : ∀ vs H Q E, sp vs H Q E → vs.length = ps.length)
    (body : ∀ (cdv : Value) (A : Around) (outer : List Env) (s : Shared) (H : Hp) (vs : List V) (Q : VK), Room k (A.deeper (envOfC qual (defScope st) s.heap.objs.size f cdv)) → (A.deeper (envOfC qual (defScope st) s.heap.objs.size f cdv)).guards = some [] → sp vs H Q E0 →
      ∃ t, PSs (cxOf CX0 P w K mg base N qual (defScope st) f cdv A outer s H E0).nox (defBody st) t ∧ t { nx := fun _ H' => Q .non H', rt := Q } (L2.start N vs) H) : FnOkG P w K mg base (k + 1) f fd ps sp := by
  obtain ⟨oc, od, kV, doc, pm, an, cdv, ct, osl, rfl, lk, hcd⟩ := F.ex
  refine ⟨len, fun A outer s H args us vs Q hr hg e0 hb r hsp => LamX.run_ofS lk hcd S hr e0 hb r (len _ _ _ _ hsp) fun hr' => ?_⟩
  obtain ⟨t, h1, h2⟩ := body cdv A outer s H vs Q hr' hg hsp
  exact ⟨t, h1.nox, h2⟩
end
structure CalleeG (P : Program) (w : World) (K : PySem.W.Frag) (mg : Str → Option Value) (base : Heap) (k : Nat) (x : Str) (ps : List Str) (sp : Sp) : Prop where
  ex : ∃ f fd, mg x = some (.ref f) ∧ PySem.W.keepIn K (.ref f) = true ∧ FnOkG P w K mg base k f fd ps sp ∧ Binds K fd ps []
section
variable {X : Cx}
/-- its call -/
theorem pe_useG {k : Nat} {x : Str} {ps : List Str} {sp : Sp} {e : Expr} {es : List Expr} {t : TA} {p pos : Pos} (C : CalleeG X.prog X.w X.K X.mg X.base k x ps sp) (room : Room k X.A) (quiet : X.A.guards = some []) (hg : Gl X x) (ha : PA X (e :: es) t)
    (hd : (x == ("__debug__" : Str)) = false := by decide) (hst : starEach (e :: es) X.env = (false, eval e X.env) :: starEach es X.env := by rfl) (hpl : (backTo pos (starEach es X.env)).any (·.1) = false := by rfl) :
    PE X (.Call (.Name x p) (e :: es) [] pos) (tCall sp [] E0 t) := by
  obtain ⟨f, fd, gl, kept, F, bind⟩ := C.ex
  constructor
  intro pins s σ H Q I h
  have step : ∀ us s1, AP X pins σ (fun vs H1 => sp (vs ++ []) H1 Q E0) us s1 → X.K.In s1.heap ∧ wpAny (model X.prog X.w) X.A (call (.ref f) us) (EP X pins σ Q) X.xe s1 := by
    rintro us s1 ⟨vs, H1, J, r, q⟩
    rw [List.append_nil] at q
    have n : us.length = ps.length := r.length ▸ F.len _ _ _ _ q
    have b := bind s1 us J.kIn (by rw [List.append_nil]; exact n)
    rw [List.append_nil] at b
    refine ⟨J.kIn, wpAny_call (codeAny_mono (F.run X.A X.stack s1 H1 ⟨us, []⟩ us vs Q room quiet J.env0 b r q) fun z s2 done => ?_)⟩
    match z, done with
    | .ok (.ret u), d => exact J.after d
  exact wpAny_Call_Name_kw (ld_glob I hg gl (PySem.W.callWith_K (h₀ := X.base) I.ok.mod.kin kept (thn (ha.run pos pins s σ H _ I h) step) hst hpl) hd)
/-- repr of data -/
theorem call_reprD (quiet : X.A.guards = some []) (hu : X.A.units + 100 < cLine) : CallR X (.builtin "repr") (fun xs H Q => ∃ (x : V) (d : PyData), xs = [x] ∧ Dp X.K H x d ∧ d.showable = true ∧ d.hasDict = false ∧ d.depth ≤ 64 ∧ d.shown.length ≤ sizeLine ∧
    ((∃ a, x = .ref a) ∨ (∃ b, x = .bl b) ∨ x = .non) ∧ Q (.str d.shown) H) := by
  intro pins s σ H xs us Q I r h
  obtain ⟨x, d, rfl, dp, hs, hnd, hdep, hsz, hk, q⟩ := h
  obtain ⟨u, rfl, ru⟩ := vals1 r
  rcases hk with ⟨a, rfl⟩ | ⟨b, rfl⟩ | rfl
  · obtain ⟨as, rd⟩ := Dp.reads I d _ u dp ru
    cases ru
    refine repr_of_reads' rd hs (PyData.noDict_hsm hnd) quiet (by omega) (fun _ _ e => e) (fun h' v tk hk => ?_) hsz
    exact ⟨.str d.shown, H, I.kept (t' := tk) hk, ⟨v, rfl⟩, q⟩
  · cases dp
    cases ru
    exact PySem.P.repr_of_bool ⟨.str _, H, I.tok _, ⟨_, rfl⟩, q⟩
  · cases dp
    cases ru
    exact PySem.P.repr_of_none ⟨.str _, H, I.tok _, ⟨_, rfl⟩, q⟩
end
end K1

/-! ## C16 -/
set_option Elab.async false
set_option linter.all false
set_option maxRecDepth 100000
set_option maxHeartbeats 4000000
namespace K1
open PySem PySem.Spec PyProof.Rows L2
/-! ### repr of a written list of dicts whose values are tuples of texts -/
/-- what a dict has, told by texts -/
def DTx (K : PySem.W.Frag) (H : Hp) (kvs : List (Key × V)) (rows : List (Str × List Str)) : Prop := Paired (fun (kv : Key × V) (r : Str × List Str) => kv.1 = .inr r.1 ∧ ∃ t, kv.2 = .ref t ∧ SqT K H t (r.2.map V.str)) kvs rows
def dRow (r : Str × List Str) : PyData × PyData := (.str r.1, .tuple (r.2.map .str))
def dDict (rows : List (Str × List Str)) : PyData := .dict (rows.map dRow)
theorem strs_read {h : Heap} : ∀ {ys : List Str} {its : List Value}, Vals (ys.map V.str) its → ReadsAll h its (ys.map .str) []
  | [], _, r => by cases r; exact .nil
  | y :: ys, _, r => by
    cases r with
    | cons a b =>
      obtain ⟨t, rfl⟩ := a
      exact ReadsAll.cons (Reads.str y t) (strs_read b)
section
variable {X : Cx} {pins : List (Addr × Obj)} {σ : L2.St} {H : Hp} {s : Shared}
theorem rows_read (I : Inv X pins σ H s) : ∀ {es : List DictEntry} {vs : List (Key × Value)} {kvs : List (Key × V)} {rows : List (Str × List Str)}, Pairs (mixKind X.prog X.w) es vs → KV kvs vs → DTx X.K H kvs rows →
    ReadsAll s.heap (es.map (·.key)) ((rows.map dRow).map (·.1)) [] ∧ ReadsAll s.heap (es.map (·.val)) ((rows.map dRow).map (·.2)) []
  | _, _, _, _, .nil, kv, d => by
    cases kv
    cases d
    exact ⟨.nil, .nil⟩
  | e0 :: _, w0 :: _, _, _, .cons k1 v1 ps, kv, d => by
    cases kv with
    | cons a b =>
      cases d with
      | @cons _ r0 _ _ d1 d2 =>
        obtain ⟨e1, t, e2, sq⟩ := d1
        obtain ⟨i1, i2⟩ := rows_read I ps b d2
        obtain ⟨a1, a2⟩ := a
        rw [e2] at a2
        rw [← a1, e1] at k1
        obtain ⟨its, rv, ⟨o, ho, hc, n, hd⟩, _⟩ := I.tuple sq
        refine ⟨ReadsAll.cons (as := []) ?_ i1, ReadsAll.cons (as := []) ?_ i2⟩
        · show Reads s.heap e0.key (.str _) []
          have k2 : keyIs (Sum.inr r0.1) e0.key = true := by first | exact k1 | simpa [mixKind] using k1
          rcases keyIs_shape k2 with ⟨_, _, z, _⟩ | ⟨x, t, z, e⟩
          · cases z
          · injection z with z
            rw [e, ← z]
            exact Reads.str _ t
        · show Reads s.heap e0.val (.tuple _) []
          have v2 : w0.2 = Value.ref t := a2
          rw [v1, v2]
          exact Reads.tuple ho hc hd (by simpa using strs_read rv)
theorem dict_reads {a : Addr} {kvs : List (Key × V)} {rows : List (Str × List Str)} (I : Inv X pins σ H s) (e : H a = some (.dK kvs)) (d : DTx X.K H kvs rows) : (a == sysModules) = false ∧ Reads s.heap (.ref a) (dDict rows) [a] := by
  obtain ⟨_, hm, vs, kv, o, es, ep, ho, hx, hd, ks, ps, nd⟩ := I.hok a _ e
  obtain ⟨r1, r2⟩ := rows_read I ps kv d
  exact ⟨hm, Reads.dict (as := []) (bs := []) ho hx.1 hd r1 r2⟩
/-- dicts in a row -/
def DsAt (K : PySem.W.Frag) (H : Hp) (vs : List V) (rss : List (List (Str × List Str))) : Prop := Paired (fun (v : V) (rows : List (Str × List Str)) => ∃ a kvs, v = .ref a ∧ H a = some (.dK kvs) ∧ DTx K H kvs rows) vs rss
theorem dicts_reads (I : Inv X pins σ H s) : ∀ {vs : List V} {us : List Value} {rss : List (List (Str × List Str))}, Vals vs us → DsAt X.K H vs rss → ∃ as, ReadsAll s.heap us (rss.map dDict) as ∧ sysModules ∉ as
  | _, _, _, .nil, d => by
    cases d
    exact ⟨[], .nil, fun z => nomatch z⟩
  | _, _, _, .cons a b, d => by
    cases d with
    | cons d1 d2 =>
      obtain ⟨x, kvs, rfl, e, dt⟩ := d1
      cases a
      obtain ⟨as, r, n⟩ := dicts_reads I b d2
      obtain ⟨m, r1⟩ := dict_reads I e dt
      refine ⟨_, ReadsAll.cons r1 r, fun z => ?_⟩
      rcases List.mem_append.mp z with z | z
      · rw [List.mem_singleton.mp z] at m
        simp at m
      · exact n z
theorem depth_strs : ∀ ys : List Str, PyData.depthAll (ys.map .str) = 0
  | [] => by simp only [List.map_nil, PyData.depthAll]
  | y :: ys => by simp only [List.map_cons, PyData.depthAll, PyData.depth, depth_strs ys]; rfl
theorem depth_rows : ∀ rows : List (Str × List Str), PyData.depthKv (rows.map dRow) ≤ 1
  | [] => by simp only [List.map_nil, PyData.depthKv]; omega
  | r :: rs => by
    have := depth_rows rs
    simp only [List.map_cons, dRow, PyData.depthKv, PyData.depth, depth_strs]
    omega
theorem depth_dicts : ∀ rss : List (List (Str × List Str)), PyData.depthAll (rss.map dDict) ≤ 2
  | [] => by simp only [List.map_nil, PyData.depthAll]; omega
  | r :: rs => by
    have := depth_dicts rs
    have := depth_rows r
    show max (PyData.depth (dDict r)) (PyData.depthAll (rs.map dDict)) ≤ 2
    have : PyData.depth (dDict r) ≤ 2 := by simp only [dDict, PyData.depth]; omega
    omega
theorem show_strs : ∀ ys : List Str, PyData.showableAll (ys.map .str) = true
  | [] => by simp only [List.map_nil, PyData.showableAll]
  | y :: ys => by simp only [List.map_cons, PyData.showableAll, PyData.showable, show_strs ys]; rfl
theorem show_rows : ∀ rows : List (Str × List Str), PyData.showableKv (rows.map dRow) = true
  | [] => by simp only [List.map_nil, PyData.showableKv]
  | r :: rs => by simp only [List.map_cons, dRow, PyData.showableKv, PyData.showable, show_strs, show_rows rs]; rfl
theorem show_dicts : ∀ rss : List (List (Str × List Str)), PyData.showableAll (rss.map dDict) = true
  | [] => by simp only [List.map_nil, PyData.showableAll]
  | r :: rs => by
    have h := show_dicts rs
    show (PyData.showable (dDict r) && PyData.showableAll (rs.map dDict)) = true
    rw [h, show PyData.showable (dDict r) = true from by simp only [dDict, PyData.showable, show_rows]]
    rfl
end
/-- repr([d, ..]) -/
def tReprDs (K : PySem.W.Frag) (ta : TA) : TE := fun σ H Q => ta σ H fun vs H1 => ∃ rss, DsAt K H1 vs rss ∧ vs.length ≤ sizeLine ∧ (PyData.list (rss.map dDict)).shown.length ≤ sizeLine ∧ Q (.str (PyData.list (rss.map dDict)).shown) H1
section
variable {X : Cx}
theorem pe_reprDs {es : List Expr} {ta : TA} {p pos pos1 : Pos} (quiet : X.A.guards = some []) (hu : X.A.units + 100 < cLine) (hg : Gl X "repr") (hm : X.mg "repr" = none) (hv : bootBuiltins "repr" = some (.builtin "repr")) (ha : PA X es ta)
    (he : starEach [.List es pos1] X.env = (false, eval (.List es pos1) X.env) :: starEach [] X.env := by rfl) (hpl : (backTo pos (starEach [] X.env)).any (·.1) = false := by rfl) : PE X (.Call (.Name "repr" p) [.List es pos1] [] pos) (tReprDs X.K ta) := by
  refine ⟨fun pins s σ H Q I h => ?_⟩
  refine wpAny_Call_Name_kw (ld_blt I hg hm hv ?_)
  refine PyProof.Rows.callWith_builtin1 (PyProof.Rows.args_cons (wpAny_List_spliced (thn (ha.run pos1 pins s σ H _ I h) fun us s1 ⟨vs, H1, J, r, rss, d, z, sz, q⟩ => ⟨by rw [← r.length]; exact z, ?_⟩)) rfl) he hpl
  refine PyProof.Rows.args_nil ?_
  obtain ⟨as, rd, n⟩ := dicts_reads J r d
  obtain ⟨h', eh⟩ : ∃ h', h' = s1.heap.push { cls := .type "list", data := .seq us.toArray } := ⟨_, rfl⟩
  have up : ∀ b o, s1.heap.get? b = some o → h'.get? b = some o := fun b o e => by rw [eh]; exact Heap.get?_push_of_some _ e
  have new : h'.get? s1.heap.objs.size = some { cls := .type "list", data := .seq us.toArray } := by rw [eh]; exact Heap.get?_push_size _ rfl
  rw [← eh]
  have rl : Reads h' (.ref s1.heap.objs.size) (.list (rss.map dDict)) (s1.heap.objs.size :: as) := Reads.list new rfl rfl (PyProof.Rows.ReadsAll.keeps up rd)
  have nsys : sysModules ∉ s1.heap.objs.size :: as := fun z => by
    rcases List.mem_cons.mp z with z | z
    · exact Nat.ne_of_lt J.big z
    · exact n z
  refine repr_of_reads' (s := { s1 with heap := h' }) rl (by simpa only [PyData.showable] using show_dicts rss) (fun _ => nsys) quiet (by have := depth_dicts rss; simp only [PyData.depth]; omega) (fun _ _ e => e) (fun h3 v tk k => ?_) sz
  exact ⟨.str _, H1, J.kept (t' := tk) fun b o e => k b o (up b o e), ⟨v, rfl⟩, q⟩
end
end K1

/-! ## B2_23 -/
set_option Elab.async false
set_option linter.all false
set_option maxRecDepth 100000
set_option maxHeartbeats 8000000
namespace B2_
open PySem PySem.Spec PyProof.Rows L2
/-- all but some -/
def Keep (D : List Addr) (H H' : Hp) : Prop := ∀ b o, b ∉ D → H b = some o → H' b = some o
theorem Keep.refl (D : List Addr) (H : Hp) : Keep D H H := fun _ _ _ h => h
theorem Keep.trans {D : List Addr} {H H1 H2 : Hp} (a : Keep D H H1) (b : Keep D H1 H2) : Keep D H H2 := fun c o n h => b c o n (a c o n h)
theorem Keep.but {D : List Addr} {d : Addr} {H H1 : Hp} (a : But d H H1) (m : d ∈ D) : Keep D H H1 := fun c o n h => a c o (fun z => n (by rw [z]; exact m)) h
theorem Keep.same {D : List Addr} {H H1 : Hp} (a : Same H H1) : Keep D H H1 := fun c o _ h => a c o h
theorem Keep.put {D : List Addr} {F : Addr} {H H1 : Hp} {o : HO} (a : Keep D H H1) (m : F ∈ D) : Keep D H (upd H1 F o) := fun c u n h => by
  have ne : c ≠ F := fun z => n (by rw [z]; exact m)
  rw [upd_ne ne]
  exact a c u n h
theorem dict_off {F : Addr} {H : Hp} {kvs : List (Key × V)} (hF : H F = some (.dK kvs)) : ∀ xs, H F ≠ some (.tup xs) := fun xs z => by rw [hF] at z; cases z
theorem dice_off {d : Addr} {H : Hp} (h : Dice H d) : ∀ xs, H d ≠ some (.tup xs) := fun xs z => by
  obtain ⟨a, b, c, e⟩ := h
  rw [e] at z
  cases z
theorem TupD.but {d e : Addr} {H H' : Hp} {m : Told} (h : TupD H e m) (hd : Dice H d) (s : But d H H') : TupD H' e m := by
  obtain ⟨kvs, h1, _⟩ := id h
  have n : e ≠ d := fun z => by obtain ⟨a, b, c, g⟩ := hd; rw [z, g] at h1; cases h1
  exact h.off s n (dice_off hd)
/-- a dict gets one more name -/
theorem TupD.add {F c : Addr} {H : Hp} {m : Told} {z : Str} {xs : List Str} (h : TupD H F m) (nz : z ∉ m.map (·.1)) (few : m.length ≤ 1000) (hc : H c = some (.tup (xs.map V.str))) : ∃ H', DPut H F (.str z) (.ref c) H' ∧ (∃ o, H' = upd H F o) ∧ TupD H' F (m ++ [(z, xs)]) := by
  obtain ⟨kvs, h1, h2⟩ := h
  have nt : valV kvs (Sum.inr z) = none := by
    have g := valOf h2 z
    have e : m.lookup z = none := by
      rw [List.lookup_eq_none_iff]
      intro p hp
      simpa using fun q => nz (List.mem_map.mpr ⟨p, hp, q.symm⟩)
    rw [e] at g
    exact g
  have len : kvs.length < sizeLine := by rw [h2.length, sizeLine_eq]; omega
  have p := DPut.k (k := Sum.inr z) (v := .ref c) h1 len
  rw [putK_new _ nt] at p
  refine ⟨_, p, ⟨_, rfl⟩, kvs ++ [(Sum.inr z, .ref c)], upd_same, ?_⟩
  have s : K1.Off F H (upd H F (.dK (kvs ++ [(Sum.inr z, .ref c)]))) := (K1.Off.refl F H).put
  refine Paired.snoc (Paired.mapP h2 fun kv e q => ⟨q.1, q.2.off s (dict_off h1)⟩) ⟨rfl, c, rfl, ?_⟩
  exact s _ _ (fun w => by rw [w, h1] at hc; cases hc) hc
theorem PlainAt.off {D q : Addr} {H H' : Hp} {Ls : List Ln} (h : PlainAt H q Ls) (s : K1.Off D H H') (n : q ≠ D) (hd : ∀ xs, H D ≠ some (.tup xs)) : PlainAt H' q Ls := by
  obtain ⟨kvs, h1, h2⟩ := h
  exact ⟨kvs, s _ _ n h1, Paired.mapP h2 fun kv l r => ⟨r.1, r.2.off s hd⟩⟩
theorem names_mv (Ms : List Ln) : ∀ z ∈ (mvOf Ms).map (·.1), z ∈ Ms.map (·.t) := fun z h => by
  obtain ⟨e, he, rfl⟩ := List.mem_map.mp h
  obtain ⟨l, hl, rfl⟩ := List.mem_map.mp he
  exact List.mem_map.mpr ⟨l, (List.mem_filter.mp hl).1, rfl⟩
theorem names_st (Ms : List Ln) : ∀ z ∈ (stOf Ms).map (·.1), z ∈ Ms.map (·.t) := fun z h => by
  obtain ⟨e, he, rfl⟩ := List.mem_map.mp h
  obtain ⟨l, hl, rfl⟩ := List.mem_map.mp he
  exact List.mem_map.mpr ⟨l, (List.mem_filter.mp hl).1, rfl⟩
theorem names_gv (Ms : List Ln) : ∀ z ∈ (gvOf Ms).map (·.1), z ∈ Ms.map (·.t) := fun z h => by
  obtain ⟨e, he, rfl⟩ := List.mem_map.mp h
  obtain ⟨l, hl, e1⟩ := List.mem_filterMap.mp he
  obtain ⟨ks, q, rfl⟩ := Option.map_eq_some_iff.mp e1
  exact List.mem_map.mpr ⟨l, hl, rfl⟩
theorem len_mv (Ms : List Ln) : (mvOf Ms).length ≤ Ms.length := by unfold mvOf; rw [List.length_map]; exact List.length_filter_le _ _
theorem len_st (Ms : List Ln) : (stOf Ms).length ≤ Ms.length := by unfold stOf; rw [List.length_map]; exact List.length_filter_le _ _
theorem len_gv (Ms : List Ln) : (gvOf Ms).length ≤ Ms.length := List.length_filterMap_le _ _
/-! ### _law_told -/
abbrev s_lto : Stmt := topS 35
abbrev N_lto : List Str := ["dice", "scene", "moving", "still", "given", "name", "columns", "kind", "some"]
theorem sc_lto : FnScope N_lto ["dice", "scene"] (defScope s_lto) := ⟨rfl, rfl, rfl, by decide +kernel, rfl, by decide +kernel, by decide +kernel⟩
def spLto : Sp := fun vs H Q _ => ∃ (d q : Addr) (Ls : List Ln), vs = [.ref d, .ref q] ∧ Dice H d ∧ PlainAt H q Ls ∧ PlOk Ls ∧
  ∀ p m s g Ms H', ShufL Ms Ls → But d H H' → Dice H' d → H m = none → H s = none → H g = none → H p = none → m ≠ s → m ≠ g → s ≠ g → H' p = some (.lst [.ref m, .ref s, .ref g]) → TupD H' m (mvOf Ms) → TupD H' s (stOf Ms) → TupD H' g (gvOf Ms) → Q (.ref p) H'
section
variable {P : Program} {w : World} {K : PySem.W.Frag} {mg : Str → Option Value} {base : Heap}
theorem ok_lto {f : Addr} {fd : FuncData} (F : Fun K "_law_told" "_law_told" s_lto f fd) (T : NamesS mg) (C2 : Callee P w K mg base CX0 2 "_law_mixed" ["dice", "items"] spMixed) : FnOk P w K mg base CX0 3 f fd ["dice", "scene"] spLto := by
  have nd := sc_lto.nd
  refine F.ok sc_lto (fun vs H Q E h => ?_) (fun cdv A outer s H vs Q E hr h => ?_)
  · obtain ⟨d, q, Ls, rfl, _⟩ := h
    rfl
  · obtain ⟨d, q, Ls, rfl, hd, hq, ok, k⟩ := h
    have hu : (A.deeper (envOfC "_law_told" (defScope s_lto) s.heap.objs.size f cdv)).units + 1 < cLine := by have := hr.un; omega
    have hu64 : (A.deeper (envOfC "_law_told" (defScope s_lto) s.heap.objs.size f cdv)).units + 64 < cLine := by have := hr.un; omega
    refine ⟨_, (pss_cons
    (ps_par3 (i := 2) (j := 3) (l := 4) (by rfl) nd rfl rfl rfl (by decide) (by decide) (by decide) rfl rfl rfl (pa_cons pe_dnewK (pa_cons pe_dnewK (pa_cons pe_dnewK pa_nil))) rfl)
    (pss_cons
    (ps_for PassesOwn.never rfl (pi_list (pe_use C2 hr rfl pass0 (pa_cons (pv 0) (pa_cons (pe_callB (call_sortedD rfl) (by rfl) T.sorted (by decide +kernel) (pa_cons (pv 1) pa_nil)) pa_nil)))) (pg_name (i := 5) nd rfl (Or.inl rfl)) (pss_cons
      (ps_asg (pe_dget hu (pv 1) (pv 5) (fun _ _ => rfl)) (pg_tup rfl (pgs_cons (pg_name (i := 6) nd rfl (Or.inl rfl)) (pgs_cons (pg_name (i := 7) nd rfl (Or.inl rfl)) pgs_nil))))
      (pss_cons
      (ps_set (i := 8) nd rfl (Or.inl rfl) (pe_callTy call_tuple_of (by rfl) T.tuple (by decide +kernel) (pa_cons (pe_use C2 hr rfl pass0 (pa_cons (pv 0) (pa_cons (pv 6) pa_nil))) pa_nil)))
      (pss_cons
      (ps_if (pt_cmpR (op_eqD hu64) (pv 7) pe_str (nomark _)) (pss_one
        (ps_dput hu (pv 2) (pv 5) (pv 8) rfl)) (pss_one
        (ps_dput hu (pv 3) (pv 5) (pv 8) rfl)))
      (pss_one
      (ps_if (pt_val (pe_callB call_isi (by rfl) T.isinstance (by decide +kernel) (pa_cons (pv 7) (pa_cons (pe_bltn (v := .ty "tuple") (by rfl) T.tuple (by decide +kernel) rfl) pa_nil)))) (pss_one
        (ps_dput hu (pv 4) (pv 5) (pe_callTy call_tuple_of (by rfl) T.tuple (by decide +kernel) (pa_cons (pe_use C2 hr rfl pass0 (pa_cons (pv 0) (pa_cons (pv 7) pa_nil))) pa_nil)) rfl)) pss_nil))))))
    (pss_one
    (ps_ret (pe_lst (pa_cons (pv 2) (pa_cons (pv 3) (pa_cons (pv 4) pa_nil)))))))), ?_⟩
    refine fun m nm s0 ns g ng => ⟨_, _, _, rfl, ?_⟩
    have qdict : ∀ {F : Addr}, H F = none → q ≠ F := fun e z => by obtain ⟨kvs, h1, _⟩ := hq; rw [z, e] at h1; cases h1
    have n1 : m ≠ s0 := fun z => by rw [← z, upd_same] at ns; cases ns
    have n2 : m ≠ g := fun z => by rw [← z, upd_ne n1, upd_same] at ng; cases ng
    have n3 : s0 ≠ g := fun z => by rw [← z, upd_same] at ng; cases ng
    have ns' : H s0 = none := by rw [upd_ne (Ne.symm n1)] at ns; exact ns
    have ng' : H g = none := by rw [upd_ne (Ne.symm n3), upd_ne (Ne.symm n2)] at ng; exact ng
    have s1 : Same H (upd (upd (upd H m (.dK [])) s0 (.dK [])) g (.dK [])) := Same.new (Same.new (Same.new (Same.refl _) nm) ns) ng
    have tm : TupD (upd (upd (upd H m (.dK [])) s0 (.dK [])) g (.dK [])) m [] := ⟨[], by rw [upd_ne n2, upd_ne n1]; exact upd_same, .nil⟩
    have ts : TupD (upd (upd (upd H m (.dK [])) s0 (.dK [])) g (.dK [])) s0 [] := ⟨[], by rw [upd_ne n3]; exact upd_same, .nil⟩
    have tg : TupD (upd (upd (upd H m (.dK [])) s0 (.dK [])) g (.dK [])) g [] := ⟨[], upd_same, .nil⟩
    have hq1 := hq.same s1
    have hd1 := hd.same s1
    generalize upd (upd (upd H m (.dK [])) s0 (.dK [])) g (.dK []) = H1 at *
    clear ns ng
    have qm := qdict nm
    have qs := qdict ns'
    have qg := qdict ng'
    have dm := hd.ne_none nm
    have ds := hd.ne_none ns'
    have dg := hd.ne_none ng'
    have six : (tabsOf Ls).length ≤ 6 := by unfold tabsOf; rw [List.length_map]; exact ok.six
    obtain ⟨kvs, hqk, pr⟩ := hq1
    have tN : ∀ z ∈ tabsOf Ls, nameB z = true := fun z hz => by
      obtain ⟨l, hl, rfl⟩ := List.mem_map.mp hz
      exact (ok.good l hl).name
    refine ⟨_, rfl, _, rfl, q, kvs, tabsOf Ls, rfl, Rd.of hqk, plain_keys pr, by omega, fun ys p yp yo np => ?_⟩
    have s2 : Same H1 (upd H1 p (.lst (ys.map V.str))) := Same.new (Same.refl _) np
    refine ⟨d, p, ys, rfl, hd1.same s2, .inl upd_same, (hd1.ne_none np).symm, by rw [yp.length_eq]; omega, fun x hx => name_strOk (tN x (yp.mem_iff.mp hx)), fun zs pz H5 zp npz s5 hd5 hz5 => ?_⟩
    have d2 := hd1.same s2
    have tm5 := (tm.same s2).but d2 s5
    have ts5 := (ts.same s2).but d2 s5
    have tg5 := (tg.same s2).but d2 s5
    have pl5 : PlainAt H5 q Ls := PlainAt.but (PlainAt.same ⟨kvs, hqk, pr⟩ s2) d2 s5
    have zN : zs.Perm (tabsOf Ls) := zp.trans yp
    have k5 : But d H H5 := (But.same (s1.trans s2)).trans s5
    clear yo yp zp tm ts tg hqk pr d2
    have pzd : pz ≠ d := (hd1.ne_none (s2.free npz)).symm
    refine ⟨pz, rfl, ⟨_, SqL.of hz5⟩, ?_⟩
    have nodict : ∀ {F : Addr} {m : Told}, TupD H5 F m → pz ≠ F := fun h z => by obtain ⟨kvs, h1, _⟩ := h; rw [← z, hz5] at h1; cases h1
    have pzm := nodict tm5
    have pzs := nodict ts5
    have pzg := nodict tg5
    refine for_it (walk_list (xs := zs.map V.str)) (fun i σ H' => ∃ (v5 v6 v7 v8 : Option V) (Ms : List Ln), σ = [some (.ref d), some (.ref q), some (.ref m), some (.ref s0), some (.ref g), v5, v6, v7, v8] ∧ Keep [d, m, s0, g] H5 H' ∧ Dice H' d ∧ PlainAt H' q Ls ∧ TupD H' m (mvOf Ms) ∧ TupD H' s0 (stOf Ms) ∧ TupD H' g (gvOf Ms) ∧ Ms.map (·.t) = zs.take i ∧ ∀ x ∈ Ms, ∃ l ∈ Ls, Shuf x l)
      ⟨none, none, none, none, [], rfl, Keep.refl _ _, hd5, pl5, tm5, ts5, tg5, rfl, fun x h => nomatch h⟩ (fun i σ H6 _ p => ?_) (fun i x σ H6 H7 hi p y => ?_) (fun σ H6 p => ?_)
    · obtain ⟨_, _, _, _, Ms, _, kp, _⟩ := p
      exact SqL.of (kp _ _ (by simp [pzd, pzm, pzs, pzg]) hz5)
    · obtain ⟨v5, v6, v7, v8, Ms, rfl, kp, hd6, pl6, tm6, ts6, tg6, tk, each⟩ := p
      obtain ⟨rfl, hx⟩ := y
      rw [List.getElem?_map] at hx
      obtain ⟨z, hz, rfl⟩ := Option.map_eq_some_iff.mp hx
      obtain ⟨kvs, hqk, pr⟩ := id pl6
      obtain ⟨v, l, e1, e2, e3, pp, c, kv, rfl, t1, t2, t3⟩ := val_at pr (zN.mem_iff.mp (List.mem_of_getElem? hz))
      obtain rfl := e3
      refine ⟨_, rfl, _, rfl, q, .ref pp, rfl, e1 ▸ DGet.k (k := Sum.inr _) hqk, pp, _, rfl, SqT.of t1, rfl, _, _, rfl, _, _, rfl, rfl, ?_⟩
      have lok := ok.good _ e2
      have lz : l.t ∉ Ms.map (·.t) := by
        rw [tk]
        intro mm
        have znd : zs.Nodup := zN.nodup_iff.mpr ok.nd
        rw [← List.take_append_drop i zs] at znd
        have h2 := (List.nodup_append.mp znd).2.2 _ mm l.t
        have lt : i < zs.length := (List.getElem?_eq_some_iff.mp hz).1
        rw [List.drop_eq_getElem_cons lt] at h2
        exact h2 (by rw [(List.getElem?_eq_some_iff.mp hz).2]; exact List.mem_cons_self) rfl
      have short : Ms.length ≤ 6 := by
        have h2 := congrArg List.length tk
        rw [List.length_map, List.length_take, zN.length_eq] at h2
        omega
      refine ⟨_, rfl, _, rfl, d, c, l.cs, rfl, hd6, .inr t2, tup_ne t2 hd6, by have := lok.few; omega, fun x hx => name_strOk (lok.cols x hx), fun cs pc H8 cp npc s8 hd8 hpc => ⟨pc, _, rfl, .inl ⟨SqL.of hpc, fun tc ntc => ?_⟩⟩⟩
      have sN : Same H8 (upd H8 tc (.tup (cs.map V.str))) := Same.new (Same.refl _) ntc
      have s9 : But d H7 (upd H8 tc (.tup (cs.map V.str))) := s8.new ntc
      have hc9 : (upd H8 tc (.tup (cs.map V.str))) tc = some (.tup (cs.map V.str)) := upd_same
      have hd9 := hd8.same sN
      generalize upd H8 tc (.tup (cs.map V.str)) = H9 at *
      have kp9 := kp.trans (Keep.but s9 (by simp))
      have tm9 := tm6.but hd6 s9
      have ts9 := ts6.but hd6 s9
      have tg9 := tg6.but hd6 s9
      have pl9 := pl6.but hd6 s9
      have k9 := t3.but hd6 s9
      clear sN s9 hpc hd8 s8 npc ntc tm6 ts6 tg6 hd6 kp hqk pr t1 t2 t3
      dsimp only [gName]
      obtain ⟨dd, d1, d2, d3⟩ := kd_dp (K := K) k9 lok.key
      refine seq_split (fun σ' H' => σ' = [some (.ref d), some (.ref q), some (.ref m), some (.ref s0), some (.ref g), some (.str l.t), some (.ref c), some kv, some (.ref tc)] ∧ Keep [d, m, s0, g] H5 H' ∧ Dice H' d ∧ PlainAt H' q Ls ∧ TupD H' m (mvOf Ms ++ if isChg l then [(l.t, cs)] else []) ∧ TupD H' s0 (stOf Ms ++ if isChg l then [] else [(l.t, cs)]) ∧ TupD H' g (gvOf Ms) ∧ KdAt H' kv l.k) (fun σ' H' h' => ?_) (fun nx hn => ?_)
      · obtain ⟨rfl, kp, hd, pl, tm, ts, tg, hk⟩ := h'
        have fin : ∀ (kd : Kd) (H' : Hp), KdShuf kd l.k → Keep [d, m, s0, g] H5 H' → Dice H' d → PlainAt H' q Ls → TupD H' m (mvOf Ms ++ if isChg l then [(l.t, cs)] else []) → TupD H' s0 (stOf Ms ++ if isChg l then [] else [(l.t, cs)]) → TupD H' g (gvOf Ms ++ match kd with | .key ks => [(l.t, ks)] | _ => []) →
            ∃ v5 v6 v7 v8 Ms', [some (V.ref d), some (.ref q), some (.ref m), some (.ref s0), some (.ref g), some (.str l.t), some (.ref c), some kv, some (.ref tc)] = [some (V.ref d), some (.ref q), some (.ref m), some (.ref s0), some (.ref g), v5, v6, v7, v8] ∧ Keep [d, m, s0, g] H5 H' ∧ Dice H' d ∧ PlainAt H' q Ls ∧ TupD H' m (mvOf Ms') ∧ TupD H' s0 (stOf Ms') ∧ TupD H' g (gvOf Ms') ∧ Ms'.map (·.t) = zs.take (i + 1) ∧ ∀ x ∈ Ms', ∃ l ∈ Ls, Shuf x l := fun kd H' sh a1 a2 a3 a4 a5 a6 => by
          have ic : isChg ⟨l.t, cs, kd⟩ = isChg l := by
            show isC kd = isC l.k
            cases kd <;> cases e : l.k <;> rw [e] at sh <;> first | rfl | exact sh.elim
          refine ⟨_, _, _, _, Ms ++ [⟨l.t, cs, kd⟩], rfl, a1, a2, a3, ?_, ?_, ?_, ?_, fun x hx => ?_⟩
          · rw [mvOf_snoc, ic]; exact a4
          · rw [stOf_snoc, ic]; exact a5
          · rw [gvOf_snoc]; exact a6
          · rw [List.map_append, tk, List.take_add_one, hz]; rfl
          · rcases List.mem_append.mp hx with hx | hx
            · exact each x hx
            · rw [List.mem_singleton.mp hx]
              exact ⟨l, e2, rfl, cp, sh⟩
        have hk2 := hk
        have lkey := lok.key
        cases e : l.k with
        | chg =>
          rw [e] at hk
          obtain rfl : kv = .str "changing" := hk
          refine ⟨_, rfl, _, _, _, _, false, rfl, .ty _, .base (.str _), kit_ty (by decide +kernel), _, rfl, iteF (fin .chg H' (by rw [e]; trivial) kp hd pl tm ts (by simpa using tg))⟩
        | fix =>
          rw [e] at hk
          obtain rfl : kv = .non := hk
          refine ⟨_, rfl, _, _, _, _, false, rfl, .ty _, .base .non, kit_ty (by decide +kernel), _, rfl, iteF (fin .fix H' (by rw [e]; trivial) kp hd pl tm ts (by simpa using tg))⟩
        | key ks =>
          rw [e] at hk lkey
          obtain ⟨kp0, rfl, hkp⟩ := hk
          refine ⟨_, rfl, _, _, _, _, true, rfl, .ty _, .base (.tup hkp), kit_ty (by decide +kernel), _, rfl, iteT ?_⟩
          refine ⟨_, rfl, _, rfl, d, kp0, ks, rfl, hd, .inr hkp, tup_ne hkp hd, ?_, fun x hx => name_strOk (lkey.1 x hx), fun ks2 pk HA kp2 npk sA hdA hpk => ⟨pk, _, rfl, .inl ⟨SqL.of hpk, fun tc2 ntc2 => ?_⟩⟩⟩
          · have := lkey.2.1.length_le_of_subset lkey.2.2
            have := lok.few
            omega
          · have sN : Same HA (upd HA tc2 (.tup (ks2.map V.str))) := Same.new (Same.refl _) ntc2
            have sB : But d H' (upd HA tc2 (.tup (ks2.map V.str))) := sA.new ntc2
            have hcB : (upd HA tc2 (.tup (ks2.map V.str))) tc2 = some (.tup (ks2.map V.str)) := upd_same
            have hdB := hdA.same sN
            generalize upd HA tc2 (.tup (ks2.map V.str)) = HB at *
            have tgB := tg.but hd sB
            obtain ⟨HC, p1, ⟨ob, rfl⟩, p2⟩ := tgB.add (z := l.t) (fun w => lz (names_gv Ms _ w)) (Nat.le_trans (len_gv Ms) (by omega)) hcB
            obtain ⟨kvm, hm, _⟩ := id tgB
            have off : K1.Off g HB (upd HB g ob) := (K1.Off.refl g HB).put
            refine ⟨_, rfl, _, rfl, g, _, rfl, p1, fin (.key ks2) _ (by rw [e]; exact kp2) ((kp.trans (Keep.but sB (by simp))).put (by simp)) ?_ ((pl.but hd sB).off off qg (dict_off hm)) ((tm.but hd sB).off off n2 (dict_off hm)) ((ts.but hd sB).off off n3 (dict_off hm)) p2⟩
            obtain ⟨a, b, cc, ee⟩ := hdB
            exact ⟨a, b, cc, off _ _ dg ee⟩
      · refine ⟨_, rfl, dd, .str "changing", d1, .str _, d2, by decide +kernel, _, rfl, ?_⟩
        rw [d3]
        by_cases q1 : isC l.k = true
        · rw [q1]
          obtain ⟨HB, p1, ⟨ob, rfl⟩, p2⟩ := tm9.add (z := l.t) (fun w => lz (names_mv Ms _ w)) (Nat.le_trans (len_mv Ms) (by omega)) hc9
          obtain ⟨kvm, hm, _⟩ := id tm9
          have off : K1.Off m H9 (upd H9 m ob) := (K1.Off.refl m H9).put
          refine iteT ⟨_, rfl, _, rfl, _, rfl, m, _, rfl, p1, hn _ _ ⟨rfl, kp9.put (by simp), ?_, pl9.off off qm (dict_off hm), ?_, ?_, tg9.off off (Ne.symm n2) (dict_off hm), k9.off off (dict_off hm)⟩⟩
          · obtain ⟨a, b, cc, e⟩ := hd9
            exact ⟨a, b, cc, off _ _ dm e⟩
          · rw [show isChg l = true from q1]; exact p2
          · rw [show isChg l = true from q1]
            simpa using ts9.off off (Ne.symm n1) (dict_off hm)
        · have q2 : isC l.k = false := by simpa using q1
          rw [q2]
          obtain ⟨HB, p1, ⟨ob, rfl⟩, p2⟩ := ts9.add (z := l.t) (fun w => lz (names_st Ms _ w)) (Nat.le_trans (len_st Ms) (by omega)) hc9
          obtain ⟨kvm, hm, _⟩ := id ts9
          have off : K1.Off s0 H9 (upd H9 s0 ob) := (K1.Off.refl s0 H9).put
          refine iteF ⟨_, rfl, _, rfl, _, rfl, s0, _, rfl, p1, hn _ _ ⟨rfl, kp9.put (by simp), ?_, pl9.off off qs (dict_off hm), ?_, ?_, tg9.off off (Ne.symm n3) (dict_off hm), k9.off off (dict_off hm)⟩⟩
          · obtain ⟨a, b, cc, e⟩ := hd9
            exact ⟨a, b, cc, off _ _ ds e⟩
          · rw [show isChg l = false from q2]
            simpa using tm9.off off n1 (dict_off hm)
          · rw [show isChg l = false from q2]
            simpa using p2
    · obtain ⟨v5, v6, v7, v8, Ms, rfl, kp, hd6, pl6, tm6, ts6, tg6, tk, each⟩ := p
      rw [List.length_map, List.take_length] at tk
      have sh : ShufL Ms Ls := ⟨by rw [tk]; exact zN, each⟩
      refine ⟨_, rfl, _, rfl, _, rfl, by show 3 ≤ sizeLine; decide, fun t nt => ?_⟩
      have sN : Same H6 (upd H6 t (.lst [.ref m, .ref s0, .ref g])) := Same.new (Same.refl _) nt
      have all : ∀ b o, b ≠ d → H b = some o → H6 b = some o := fun b o n e => by
        refine kp b o ?_ (k5 b o n e)
        simp only [List.mem_cons, List.not_mem_nil, or_false, not_or]
        exact ⟨n, ne_of_none e nm, ne_of_none e ns', ne_of_none e ng'⟩
      have tH : H t = none := by
        cases e : H t with
        | none => rfl
        | some o =>
          have n : t ≠ d := (hd6.ne_none nt).symm
          rw [all t o n e] at nt
          cases nt
      exact k t m s0 g Ms _ sh (fun b o n e => sN _ _ (all b o n e)) (hd6.same sN) nm ns' ng' tH n1 n2 n3 upd_same (tm6.same sN) (ts6.same sN) (tg6.same sN)
end
end B2_

/-! ## B2_24 -/
set_option Elab.async false
set_option linter.all false
set_option maxRecDepth 100000
set_option maxHeartbeats 8000000
namespace B2_
open PySem PySem.Spec PyProof.Rows L2
theorem dice_at {d D : Addr} {H H' : Hp} (h : Dice H d) (s : K1.Off D H H') (n : d ≠ D) : Dice H' d := by
  obtain ⟨a, b, c, e⟩ := h
  exact ⟨a, b, c, s _ _ n e⟩
theorem list_off {F : Addr} {H : Hp} {xs : List V} (hF : H F = some (.lst xs)) : ∀ ys, H F ≠ some (.tup ys) := fun ys z => by rw [hF] at z; cases z
/-! ### _law_lined -/
abbrev s_lli : Stmt := topS 36
abbrev N_lli : List Str := ["dice", "scene", "found", "name", "columns", "kind", "key"]
theorem sc_lli : FnScope N_lli ["dice", "scene"] (defScope s_lli) := ⟨rfl, rfl, rfl, by decide +kernel, rfl, by decide +kernel, by decide +kernel⟩
def spLli : Sp := fun vs H Q _ => ∃ (d q : Addr) (Ls : List Ln), vs = [.ref d, .ref q] ∧ Dice H d ∧ PlainAt H q Ls ∧ PlOk Ls ∧
  ∀ p rs Ms H', ShufL Ms Ls → But d H H' → Dice H' d → H p = none → H' p = some (.tup rs) → Paired (LnAt H') rs Ms → Q (.ref p) H'
section
variable {P : Program} {w : World} {K : PySem.W.Frag} {mg : Str → Option Value} {base : Heap}
theorem ok_lli {f : Addr} {fd : FuncData} (F : Fun K "_law_lined" "_law_lined" s_lli f fd) (T : NamesS mg) (C2 : Callee P w K mg base CX0 2 "_law_mixed" ["dice", "items"] spMixed) : FnOk P w K mg base CX0 3 f fd ["dice", "scene"] spLli := by
  have nd := sc_lli.nd
  refine F.ok sc_lli (fun vs H Q E h => ?_) (fun cdv A outer s H vs Q E hr h => ?_)
  · obtain ⟨d, q, Ls, rfl, _⟩ := h
    rfl
  · obtain ⟨d, q, Ls, rfl, hd, hq, ok, k⟩ := h
    have hu : (A.deeper (envOfC "_law_lined" (defScope s_lli) s.heap.objs.size f cdv)).units + 1 < cLine := by have := hr.un; omega
    refine ⟨_, (pss_cons
    (ps_set (i := 2) nd rfl (Or.inl rfl) (pe_lst pa_nil))
    (pss_cons
    (ps_for PassesOwn.never rfl (pi_list (pe_use C2 hr rfl pass0 (pa_cons (pv 0) (pa_cons (pe_callB (call_sortedD rfl) (by rfl) T.sorted (by decide +kernel) (pa_cons (pv 1) pa_nil)) pa_nil)))) (pg_name (i := 3) nd rfl (Or.inl rfl)) (pss_cons
      (ps_asg (pe_dget hu (pv 1) (pv 3) (fun _ _ => rfl)) (pg_tup rfl (pgs_cons (pg_name (i := 4) nd rfl (Or.inl rfl)) (pgs_cons (pg_name (i := 5) nd rfl (Or.inl rfl)) pgs_nil))))
      (pss_cons
      (ps_set (i := 6) nd rfl (Or.inl rfl) (pe_ifExp (pt_val (pe_callB call_isi (by rfl) T.isinstance (by decide +kernel) (pa_cons (pv 5) (pa_cons (pe_bltn (v := .ty "tuple") (by rfl) T.tuple (by decide +kernel) rfl) pa_nil)))) (pe_callTy call_tuple_of (by rfl) T.tuple (by decide +kernel) (pa_cons (pe_use C2 hr rfl pass0 (pa_cons (pv 0) (pa_cons (pv 5) pa_nil))) pa_nil)) (pv 5)))
      (pss_one
      (ps_expr (pe_bm PySem.F.plainAttrs_list PySem.F.slot_list_append PySem.F.type_list_append mt_append (pv 2) (pa_cons (pe_tup (pa_cons (pv 3) (pa_cons (pe_callTy call_tuple_of (by rfl) T.tuple (by decide +kernel) (pa_cons (pe_use C2 hr rfl pass0 (pa_cons (pv 0) (pa_cons (pv 4) pa_nil))) pa_nil)) (pa_cons (pv 6) pa_nil)))) pa_nil)))))))
    (pss_one
    (ps_ret (pe_callTy call_tuple_of (by rfl) T.tuple (by decide +kernel) (pa_cons (pv 2) pa_nil)))))), ?_⟩
    refine ⟨Nat.zero_le _, fun F0 nF => ?_⟩
    have qF : q ≠ F0 := fun z => by obtain ⟨kvs, h1, _⟩ := hq; rw [z, nF] at h1; cases h1
    have dF := hd.ne_none nF
    have s1 : Same H (upd H F0 (.lst [])) := Same.new (Same.refl _) nF
    have hF1 : (upd H F0 (.lst [])) F0 = some (.lst []) := upd_same
    have hq1 := hq.same s1
    have hd1 := hd.same s1
    generalize upd H F0 (.lst []) = H1 at *
    have six : (tabsOf Ls).length ≤ 6 := by unfold tabsOf; rw [List.length_map]; exact ok.six
    obtain ⟨kvs, hqk, pr⟩ := hq1
    have tN : ∀ z ∈ tabsOf Ls, nameB z = true := fun z hz => by
      obtain ⟨l, hl, rfl⟩ := List.mem_map.mp hz
      exact (ok.good l hl).name
    refine ⟨_, rfl, _, rfl, q, kvs, tabsOf Ls, rfl, Rd.of hqk, plain_keys pr, by omega, fun ys p yp yo np => ?_⟩
    have s2 : Same H1 (upd H1 p (.lst (ys.map V.str))) := Same.new (Same.refl _) np
    refine ⟨d, p, ys, rfl, hd1.same s2, .inl upd_same, (hd1.ne_none np).symm, by rw [yp.length_eq]; omega, fun x hx => name_strOk (tN x (yp.mem_iff.mp hx)), fun zs pz H5 zp npz s5 hd5 hz5 => ?_⟩
    have d2 := hd1.same s2
    have hF5 : H5 F0 = some (.lst []) := s5 _ _ (Ne.symm dF) (s2 _ _ hF1)
    have pl5 : PlainAt H5 q Ls := PlainAt.but (PlainAt.same ⟨kvs, hqk, pr⟩ s2) d2 s5
    have zN : zs.Perm (tabsOf Ls) := zp.trans yp
    have k5 : But d H H5 := (But.same (s1.trans s2)).trans s5
    have pzd : pz ≠ d := (hd1.ne_none (s2.free npz)).symm
    have pzF : pz ≠ F0 := fun z => by rw [z] at npz; rw [s2 _ _ hF1] at npz; cases npz
    clear yo yp zp hqk pr d2
    refine ⟨pz, rfl, ⟨_, SqL.of hz5⟩, ?_⟩
    refine for_it (walk_list (xs := zs.map V.str)) (fun i σ H' => ∃ (v3 v4 v5 v6 : Option V) (Ms : List Ln) (rs : List V), σ = [some (.ref d), some (.ref q), some (.ref F0), v3, v4, v5, v6] ∧ Keep [d, F0] H5 H' ∧ Dice H' d ∧ PlainAt H' q Ls ∧ H' F0 = some (.lst rs) ∧ Paired (LnAt H') rs Ms ∧ Ms.map (·.t) = zs.take i ∧ ∀ x ∈ Ms, ∃ l ∈ Ls, Shuf x l)
      ⟨none, none, none, none, [], [], rfl, Keep.refl _ _, hd5, pl5, hF5, .nil, rfl, fun x h => nomatch h⟩ (fun i σ H6 _ p => ?_) (fun i x σ H6 H7 hi p y => ?_) (fun σ H6 p => ?_)
    · obtain ⟨_, _, _, _, Ms, rs, _, kp, _⟩ := p
      exact SqL.of (kp _ _ (by simp [pzd, pzF]) hz5)
    · obtain ⟨v3, v4, v5, v6, Ms, rs, rfl, kp, hd6, pl6, hF6, pR, tk, each⟩ := p
      obtain ⟨rfl, hx⟩ := y
      rw [List.getElem?_map] at hx
      obtain ⟨z, hz, rfl⟩ := Option.map_eq_some_iff.mp hx
      obtain ⟨kvs, hqk, pr⟩ := id pl6
      obtain ⟨v, l, e1, e2, e3, pp, c, kv, rfl, t1, t2, t3⟩ := val_at pr (zN.mem_iff.mp (List.mem_of_getElem? hz))
      obtain rfl := e3
      have lok := ok.good _ e2
      refine ⟨_, rfl, _, rfl, q, .ref pp, rfl, e1 ▸ DGet.k (k := Sum.inr _) hqk, pp, _, rfl, SqT.of t1, rfl, _, _, rfl, _, _, rfl, rfl, ?_⟩
      have short : Ms.length ≤ 6 := by
        have h2 := congrArg List.length tk
        rw [List.length_map, List.length_take, zN.length_eq] at h2
        omega
      dsimp only [gName]
      refine seq_split (fun σ' H' => ∃ (kv' : V) (kd : Kd), σ' = [some (.ref d), some (.ref q), some (.ref F0), some (.str l.t), some (.ref c), some kv, some kv'] ∧ But d H7 H' ∧ Dice H' d ∧ KdShuf kd l.k ∧ KdAt H' kv' kd) (fun σ' H' h' => ?_) (fun nx hn => ?_)
      · obtain ⟨kv', kd, rfl, s8, hd8, sh, hk8⟩ := h'
        have t28 := tup_but t2 hd6 s8
        have hF8 : H' F0 = some (.lst rs) := s8 _ _ (Ne.symm dF) hF6
        have pR8 := Paired.mapP pR fun v x r => (LnAt.off r s8 (dice_off hd6) : LnAt H' v x)
        refine ⟨_, rfl, .inl ⟨rfl, _, SqL.of hF8⟩, ?_⟩
        refine ⟨_, rfl, _, rfl, _, rfl, d, c, l.cs, rfl, hd8, .inr t28, tup_ne t28 hd8, by have := lok.few; omega, fun x hx => name_strOk (lok.cols x hx), fun cs pc HA cp npc sA hdA hpc => ⟨pc, _, rfl, .inl ⟨SqL.of hpc, fun tc ntc => ?_⟩⟩⟩
        refine ⟨_, rfl, by show 3 ≤ sizeLine; decide, fun tp ntp => ?_⟩
        have sN : Same HA (upd HA tc (.tup (cs.map V.str))) := Same.new (Same.refl _) ntc
        have sM : Same (upd HA tc (.tup (cs.map V.str))) (upd (upd HA tc (.tup (cs.map V.str))) tp (.tup [.str l.t, .ref tc, kv'])) := Same.new (Same.refl _) ntp
        have hcB : (upd HA tc (.tup (cs.map V.str))) tc = some (.tup (cs.map V.str)) := upd_same
        have hcC := sM _ _ hcB
        have hpC : (upd (upd HA tc (.tup (cs.map V.str))) tp (.tup [.str l.t, .ref tc, kv'])) tp = some (.tup [.str l.t, .ref tc, kv']) := upd_same
        have sC : Same HA (upd (upd HA tc (.tup (cs.map V.str))) tp (.tup [.str l.t, .ref tc, kv'])) := fun b o e => sM _ _ (sN _ _ e)
        have s9 : But d H7 (upd (upd HA tc (.tup (cs.map V.str))) tp (.tup [.str l.t, .ref tc, kv'])) := s8.trans (sA.trans (But.same sC))
        have hdC := hdA.same sC
        have hk9 := (hk8.but hd8 sA).same sC
        generalize upd (upd HA tc (.tup (cs.map V.str))) tp (.tup [.str l.t, .ref tc, kv']) = HC at *
        have hF9 : HC F0 = some (.lst rs) := s9 _ _ (Ne.symm dF) hF6
        have pR9 := Paired.mapP pR fun v x r => (LnAt.off r s9 (dice_off hd6) : LnAt HC v x)
        have off : K1.Off F0 HC (upd HC F0 (.lst (rs ++ [.ref tp]))) := (K1.Off.refl F0 HC).put
        have la : LnAt HC (.ref tp) ⟨l.t, cs, kd⟩ := ⟨tp, tc, kv', rfl, hpC, hcC, hk9⟩
        refine ⟨F0, rs, .ref tp, rfl, rfl, hF9, by rw [pR.length, sizeLine_eq]; omega, _, _, _, _, Ms ++ [⟨l.t, cs, kd⟩], _, rfl, (kp.trans (Keep.but s9 (by simp))).put (by simp), dice_at hdC off dF, (pl6.but hd6 s9).off off qF (list_off hF9), upd_same, Paired.snoc (Paired.mapP pR9 fun v x r => LnAt.off r off (list_off hF9)) (LnAt.off la off (list_off hF9)), ?_, fun x hx => ?_⟩
        · rw [List.map_append, tk, List.take_add_one, hz]; rfl
        · rcases List.mem_append.mp hx with hx | hx
          · exact each x hx
          · rw [List.mem_singleton.mp hx]
            exact ⟨l, e2, rfl, cp, sh⟩
      · have hn2 : ∀ (kd : Kd) kv' H', KdShuf kd l.k → But d H7 H' → Dice H' d → KdAt H' kv' kd → nx [some (.ref d), some (.ref q), some (.ref F0), some (.str l.t), some (.ref c), some kv, some kv'] H' := fun kd kv' H' a b c d => hn _ _ ⟨kv', kd, rfl, b, c, a, d⟩
        have lkey := lok.key
        cases e : l.k with
        | chg =>
          rw [e] at t3
          obtain rfl : kv = .str "changing" := t3
          refine ⟨_, rfl, _, _, _, _, false, rfl, .ty _, .base (.str _), kit_ty (by decide +kernel), _, rfl, iteF ⟨_, rfl, hn2 .chg _ _ (by rw [e]; trivial) (But.refl _ _) hd6 rfl⟩⟩
        | fix =>
          rw [e] at t3
          obtain rfl : kv = .non := t3
          refine ⟨_, rfl, _, _, _, _, false, rfl, .ty _, .base .non, kit_ty (by decide +kernel), _, rfl, iteF ⟨_, rfl, hn2 .fix _ _ (by rw [e]; trivial) (But.refl _ _) hd6 rfl⟩⟩
        | key ks =>
          rw [e] at t3 lkey
          obtain ⟨kp0, rfl, hkp⟩ := t3
          refine ⟨_, rfl, _, _, _, _, true, rfl, .ty _, .base (.tup hkp), kit_ty (by decide +kernel), _, rfl, iteT ?_⟩
          refine ⟨_, rfl, _, rfl, d, kp0, ks, rfl, hd6, .inr hkp, tup_ne hkp hd6, ?_, fun x hx => name_strOk (lkey.1 x hx), fun ks2 pk HA kp2 npk sA hdA hpk => ⟨pk, _, rfl, .inl ⟨SqL.of hpk, fun tc2 ntc2 => ?_⟩⟩⟩
          · have := lkey.2.1.length_le_of_subset lkey.2.2
            have := lok.few
            omega
          · have sN : Same HA (upd HA tc2 (.tup (ks2.map V.str))) := Same.new (Same.refl _) ntc2
            exact hn2 (.key ks2) _ _ (by rw [e]; exact kp2) (sA.new ntc2) (hdA.same sN) ⟨tc2, rfl, upd_same⟩
    · obtain ⟨v3, v4, v5, v6, Ms, rs, rfl, kp, hd6, pl6, hF6, pR, tk, each⟩ := p
      rw [List.length_map, List.take_length] at tk
      have sh : ShufL Ms Ls := ⟨by rw [tk]; exact zN, each⟩
      refine ⟨_, rfl, F0, _, rfl, .inl ⟨SqL.of hF6, fun t nt => ?_⟩⟩
      have sN : Same H6 (upd H6 t (.tup rs)) := Same.new (Same.refl _) nt
      have all : ∀ b o, b ≠ d → H b = some o → H6 b = some o := fun b o n e => by
        refine kp b o ?_ (k5 b o n e)
        simp only [List.mem_cons, List.not_mem_nil, or_false, not_or]
        exact ⟨n, ne_of_none e nF⟩
      have tH : H t = none := by
        cases e : H t with
        | none => rfl
        | some o =>
          have n : t ≠ d := (hd6.ne_none nt).symm
          rw [all t o n e] at nt
          cases nt
      exact k t rs Ms _ sh (fun b o n e => sN _ _ (all b o n e)) (hd6.same sN) tH upd_same (Paired.mapP pR fun v l r => r.same sN)
end
end B2_

/-! ## C18 -/
set_option Elab.async false
set_option linter.all false
set_option maxRecDepth 100000
set_option maxHeartbeats 4000000
namespace K1
open PySem PySem.Spec PyProof.Rows L2
/-! ### d == {}, d != {} -/
section
variable {X : Cx}
/-- d == an empty dict -/
def rEqE (neg : Bool) : R2 := fun x y H Q => ∃ a b kvs, x = .ref a ∧ y = .ref b ∧ H a = some (.dK kvs) ∧ H b = some (.dK []) ∧ ∀ r : Bool, (r = true ↔ kvs = []) → Q (.bl (if neg then !r else r)) H
theorem empty_hits {P : Program} {w : World} {A : Around} {s : Shared} {ka : List (Key × Value)} (e : ka.length = ([] : List (Key × Value)).length) : PySem.W.KeqHitsP P w A s [] ka true := by
  have : ka = [] := List.length_eq_zero_iff.mp e
  rw [this]
  exact .nil
theorem op_eqE (hu : X.A.units + 1 < cLine) : OpR X (compareOp .Eq) (rEqE false) := by
  intro pins s σ H x y v u Q I rx ry h
  obtain ⟨a, b, kvs, rfl, rfl, ha, hb, q⟩ := h
  cases rx
  cases ry
  obtain ⟨_, sa, va, ka, da⟩ := I.hok a _ ha
  obtain ⟨_, sb, vb, kb, db⟩ := I.hok b _ hb
  cases kb
  refine PySem.W.rcP_dicts (knd := mixKind X.prog X.w) sa sb da db (Nat.lt_of_succ_lt hu) (fun e => empty_hits e) X.xe _ ⟨.bl _, H, I, rfl, q _ ?_⟩
  show ((va.length == ([] : List (Key × Value)).length) && true) = true ↔ kvs = []
  rw [Bool.and_true, beq_iff_eq, ← Paired.length ka]
  exact List.length_eq_zero_iff
theorem op_neE (hu : X.A.units + 1 < cLine) : OpR X (compareOp .NotEq) (rEqE true) := by
  intro pins s σ H x y v u Q I rx ry h
  obtain ⟨a, b, kvs, rfl, rfl, ha, hb, q⟩ := h
  cases rx
  cases ry
  obtain ⟨_, sa, va, ka, da⟩ := I.hok a _ ha
  obtain ⟨_, sb, vb, kb, db⟩ := I.hok b _ hb
  cases kb
  have q2 := q ((va.length == ([] : List (Key × Value)).length) && true) (by rw [Bool.and_true, beq_iff_eq, ← Paired.length ka]; exact List.length_eq_zero_iff)
  show wpAny _ X.A (richCompare .NotEq (.ref a) (.ref b)) _ _ s
  refine wpAny_richCompare_same_room (op := .NotEq) da.typeIs db.typeIs PySem.F.slot_dict_ne (wpAny_call_entry PySem.F.slot_dict_ne da.typeIs PySem.F.entry_dict_ne ?_ (PySem.F.args_dict_ne_2 _ _)) (Nat.lt_of_succ_lt hu)
  show wpAny _ _ (Builtin.Dict.dictSlotArgs "__ne__" ⟨[.ref a, .ref b], []⟩ >>= _) _ _ s
  refine wpAny_bind ?_
  unfold Builtin.Dict.dictSlotArgs
  refine wpAny_bind (wpAny_notOrdered_dict da.typeIs ?_)
  show wpAny _ _ (pure (Value.ref a, Value.ref b)) _ _ s
  refine wpAny_pure (wpAny_bind (wpAny_isInstance (T := "dict") db.typeIs PySem.F.sub_dict_dict ?_))
  simp only [Bool.not_true, Bool.false_eq_true, if_false]
  refine wpAny_bind (wpAny_pure (wpAny_bind (wpAny_pure (wpAny_bind (PySem.W.samePairsP (knd := mixKind X.prog X.w) sa sb da db (fun e => empty_hits e) (wpAny_pure ⟨_, rfl, ?_, ?_⟩))))))
  · exact fun x => nomatch x
  · refine ⟨.bl _, H, I, rfl, ?_⟩
    revert q2
    cases ((va.length == ([] : List (Key × Value)).length) && true) <;> exact fun z => z
end
end K1

/-! ## B2_25 -/
set_option Elab.async false
set_option linter.all false
set_option maxRecDepth 100000
set_option maxHeartbeats 8000000
namespace B2_
open PySem PySem.Spec PyProof.Rows L2
/-! ### _law_made -/
abbrev s_lma : Stmt := topS 37
abbrev N_lma : List Str := ["dice", "scene", "moving", "still", "given"]
theorem sc_lma : FnScope N_lma ["dice", "scene"] (defScope s_lma) := ⟨rfl, rfl, rfl, by decide +kernel, rfl, by decide +kernel, by decide +kernel⟩
def spLma (C : Addr) : Sp := fun vs H Q _ => ∃ (d q : Addr) (Ls : List Ln), vs = [.ref d, .ref q] ∧ Dice H d ∧ PlainAt H q Ls ∧ PlOk Ls ∧ ∀ x H', But d H H' → Dice H' d → H x = none → SceneAtN C H H' x Ls → Q (.ref x) H'
theorem SceneAtN.backD {C d : Addr} {H0 H1 H : Hp} {x : Addr} {Ls : List Ln} (h : SceneAtN C H1 H x Ls) (hd : Dice H1 d) (s : But d H0 H1) : SceneAtN C H0 H x Ls := by
  obtain ⟨dx, pl, pt, pc, pg, pf, dc, dk, h1, h2, h3, h4⟩ := h
  have f : ∀ {e : Addr}, H1 e = none → H0 e = none := fun {e} z => by
    cases q : H0 e with
    | none => rfl
    | some o => rw [s _ _ (hd.ne_none z).symm q] at z; cases z
  exact ⟨dx, pl, pt, pc, pg, pf, dc, dk, h1, h2, f h3, f h4⟩
theorem tupD_nil {H : Hp} {F : Addr} {m : Told} {kvs : List (Key × V)} (h : TupD H F m) (e : H F = some (.dK kvs)) : kvs = [] ↔ m = [] := by
  obtain ⟨kvs', h1, h2⟩ := h
  rw [e] at h1
  cases h1
  have := h2.length
  constructor
  · intro z; subst z; exact List.length_eq_zero_iff.mp this.symm
  · intro z; subst z; exact List.length_eq_zero_iff.mp this
section
variable {P : Program} {w : World} {K : PySem.W.Frag} {mg : Str → Option Value} {base : Heap}
theorem ok_lma {f C : Addr} {fd : FuncData} (F : Fun K "_law_made" "_law_made" s_lma f fd) (T : NamesS mg) (TC : ClsS K mg C) (M : MakeS P w K mg base C) (CT : Callee P w K mg base CX0 3 "_law_told" ["dice", "scene"] spLto) : FnOk P w K mg base CX0 10 f fd ["dice", "scene"] (spLma C) := by
  have nd := sc_lma.nd
  obtain ⟨fI, fdI, MI, GI, ⟨g3, B3⟩, ⟨g1, B1⟩, ⟨gr, Br⟩, _⟩ := M.ex
  refine F.ok sc_lma (fun vs H Q E h => ?_) (fun cdv A outer s H vs Q E hr h => ?_)
  · obtain ⟨d, q, Ls, rfl, _⟩ := h
    rfl
  · obtain ⟨d, q, Ls, rfl, hd, hq, ok, k⟩ := h
    have hr3 : Room 3 _ := hr.mono (by decide)
    have hu : (A.deeper (envOfC "_law_made" (defScope s_lma) s.heap.objs.size f cdv)).units + 1 < cLine := by have := hr.un; omega
    refine ⟨_, (pss_cons
    (ps_asg (pe_use CT hr3 rfl pass0 (pa_cons (pv 0) (pa_cons (pv 1) pa_nil))) (pg_unl rfl (pgs_cons (pg_name (i := 2) nd rfl (Or.inl rfl)) (pgs_cons (pg_name (i := 3) nd rfl (Or.inl rfl)) (pgs_cons (pg_name (i := 4) nd rfl (Or.inl rfl)) pgs_nil)))))
    (pss_cons
    (ps_if (PW.pt (pw_and (pt_cmpR (K1.op_eqE hu) (pv 4) pe_dnewK (nomark _)) (pw_and1 (pt_cmpR (K1.op_eqE hu) (pv 3) pe_dnewK (nomark _))))) (pss_one
      (ps_ret (pe_makeK0 MI GI hr rfl TC.mgC B1 pass0 (pk_cons (pv 2) pk_nil)))) pss_nil)
    (pss_cons
    (ps_if (pt_cmpR (K1.op_eqE hu) (pv 2) pe_dnewK (nomark _)) (pss_one
      (ps_ret (pe_makeK0 MI GI hr rfl TC.mgC Br pass0 (pk_cons (pv 4) (pk_cons (pv 3) (pk_cons pe_non pk_nil)))))) pss_nil)
    (pss_one
    (ps_ret (pe_makeK0 MI GI hr rfl TC.mgC B3 pass0 (pk_cons (pv 2) (pk_cons (pv 3) (pk_cons (pe_ifExp (pt_cmpR (K1.op_neE hu) (pv 4) pe_dnewK (nomark _)) (pv 4) pe_non) pk_nil))))))))), ?_⟩
    refine ⟨_, rfl, _, rfl, d, q, Ls, rfl, hd, hq, ok, fun p m s0 g Ms H1 sh s1 hd1 nm ns ng np n1 n2 n3 hp tm ts tg => ?_⟩
    refine ⟨p, _, rfl, SqL.of hp, rfl, _, _, rfl, _, _, rfl, _, _, rfl, rfl, ?_⟩
    obtain ⟨ms, mo⟩ := shuf_all ok sh
    obtain ⟨to, tord⟩ := told_any ms
    rw [mo] at tord
    have gl : (gvOf Ms).length ≤ 1000 := Nat.le_trans (len_gv Ms) (by have := ms.six; omega)
    generalize mvOf Ms = mv at *
    generalize stOf Ms = st at *
    generalize gvOf Ms = gv at *
    clear sh ms mo
    -- any way to make it
    have made : ∀ (H' : Hp) (a b c : V) (mv' st' gv' : Told), Same H1 H' → OptD H' a mv' → OptD H' b st' → OptD H' c gv' → mv' = mv → st' = st → gv' = gv → (∀ e, b = .ref e → c ≠ .ref e) → ∀ x dx, H' x = none → H' dx = none → dx ≠ x →
        spIni C [.ref x, a, b, c] (upd (upd H' dx (.own x)) x (.ins C dx [])) (fun v H2 => v = .non ∧ Q (.ref x) H2) E0 := fun H' a b c mv' st' gv' s2 ha hb hc e1 e2 e3 ne x dx nx ndx nex => by
      subst e1 e2 e3
      have s3 : Same H' (upd (upd H' dx (.own x)) x (.ins C dx [])) := fun b o e => by rw [upd_ne (ne_of_none e nx), upd_ne (ne_of_none e ndx)]; exact e
      refine ⟨x, dx, a, b, c, mv', st', gv', rfl, upd_same, ha.same s3, hb.same s3, hc.same s3, gl, ne, to, fun H2 off sc => ⟨rfl, ?_⟩⟩
      rw [tord] at sc
      have sF : Same H' H2 := off_make nx ndx off
      have xd : x ≠ d := ((hd1.same s2).ne_none nx).symm
      exact k x H2 (s1.trans (But.same (fun b o e => sF _ _ (s2 _ _ e)))) ((hd1.same s2).same sF) (s1.free xd (s2.free nx)) ((sc.back (H0 := H1) fun b o e => s3 _ _ (s2 _ _ e)).backD hd1 s1)
    obtain ⟨km, hm, _⟩ := id tm
    obtain ⟨ks, hs, _⟩ := id ts
    obtain ⟨kg, hg, _⟩ := id tg
    have mN : ∀ {m1 : Told} {H' : Hp} {F : Addr}, Same H1 H' → TupD H1 F m1 → OptD H' (.ref F) m1 := fun s2 h => .inr ⟨_, rfl, h.same s2⟩
    have rest : ∀ (H2 : Hp), Same H1 H2 → (tSeq (tIfS (tTest (tOp (K1.rEqE false) (tVar 2) tDNewK))
        (tRet (tMakeK C 0 ["keyed", "fixed", "changing"].length (spIni C) (fun vs zs => vs ++ zs.reverse) E0 tNil (tCons (tVar 4) (tCons (tVar 3) (tCons (tC V.non) tNil))))) tNext)
        (tRet (tMakeK C 0 ["changing", "fixed", "keyed"].length (spIni C) (fun vs zs => vs ++ zs) E0 tNil (tCons (tVar 2) (tCons (tVar 3) (tCons (tIf (tTest (tOp (K1.rEqE true) (tVar 4) tDNewK)) (tVar 4) (tC V.non)) tNil))))))
        { nx := fun _ H' => Q V.non H', rt := Q } [some (.ref d), some (.ref q), some (.ref m), some (.ref s0), some (.ref g)] H2 := fun H2 s2 => by
      have s3 : ∀ {pe}, H2 pe = none → Same H1 (upd H2 pe (.dK [])) := fun npe b o e => Same.new (Same.refl _) npe _ _ (s2 _ _ e)
      refine ⟨_, rfl, fun pe npe => ⟨m, pe, km, rfl, rfl, s3 npe _ _ hm, upd_same, fun r hr => ⟨_, rfl, ?_⟩⟩⟩
      cases r with
      | true =>
        have mv0 : mv = [] := (tupD_nil tm hm).mp (hr.mp rfl)
        refine iteT ⟨_, rfl, _, rfl, rfl, rfl, fun x dx nx ndx nex => ?_⟩
        exact made _ .non (.ref s0) (.ref g) [] st gv (s3 npe) (.inl ⟨rfl, rfl⟩) (mN (s3 npe) ts) (mN (s3 npe) tg) mv0.symm rfl rfl (fun e h => by cases h; exact fun z => n3 (by cases z; rfl)) x dx nx ndx nex
      | false =>
        have s4 : ∀ {pe2}, (upd H2 pe (.dK [])) pe2 = none → Same H1 (upd (upd H2 pe (.dK [])) pe2 (.dK [])) := fun npe2 b o e => Same.new (Same.refl _) npe2 _ _ (s3 npe _ _ e)
        refine iteF ⟨_, rfl, _, rfl, _, rfl, fun pe2 npe2 => ⟨g, pe2, kg, rfl, rfl, s4 npe2 _ _ hg, upd_same, fun r2 hr2 => ⟨_, rfl, ?_⟩⟩⟩
        cases r2 with
        | true =>
          have gv0 : gv = [] := (tupD_nil tg hg).mp (hr2.mp rfl)
          refine iteF ⟨rfl, rfl, fun x dx nx ndx nex => ?_⟩
          exact made _ (.ref m) (.ref s0) .non mv st [] (s4 npe2) (mN (s4 npe2) tm) (mN (s4 npe2) ts) (.inl ⟨rfl, rfl⟩) rfl rfl gv0.symm (fun e _ z => nomatch z) x dx nx ndx nex
        | false =>
          refine iteT ⟨_, rfl, rfl, rfl, fun x dx nx ndx nex => ?_⟩
          exact made _ (.ref m) (.ref s0) (.ref g) mv st gv (s4 npe2) (mN (s4 npe2) tm) (mN (s4 npe2) ts) (mN (s4 npe2) tg) rfl rfl rfl (fun e h => by cases h; exact fun z => n3 (by cases z; rfl)) x dx nx ndx nex
    have s3 : ∀ {pe}, H1 pe = none → Same H1 (upd H1 pe (.dK [])) := fun npe => Same.new (Same.refl _) npe
    refine ⟨_, rfl, fun pe npe => ⟨g, pe, kg, rfl, rfl, s3 npe _ _ hg, upd_same, fun r hr => ⟨_, rfl, ?_⟩⟩⟩
    cases r with
    | false => exact iteF (iteF (rest _ (s3 npe)))
    | true =>
      have gv0 : gv = [] := (tupD_nil tg hg).mp (hr.mp rfl)
      have s4 : ∀ {pe2}, (upd H1 pe (.dK [])) pe2 = none → Same H1 (upd (upd H1 pe (.dK [])) pe2 (.dK [])) := fun npe2 b o e => Same.new (Same.refl _) npe2 _ _ (s3 npe _ _ e)
      refine iteT ⟨_, rfl, fun pe2 npe2 => ⟨s0, pe2, ks, rfl, rfl, s4 npe2 _ _ hs, upd_same, fun r2 hr2 => ⟨_, rfl, ?_⟩⟩⟩
      cases r2 with
      | false => exact iteF (rest _ (s4 npe2))
      | true =>
        have st0 : st = [] := (tupD_nil ts hs).mp (hr2.mp rfl)
        refine iteT ⟨_, rfl, rfl, rfl, fun x dx nx ndx nex => ?_⟩
        exact made _ (.ref m) .non .non mv [] [] (s4 npe2) (mN (s4 npe2) tm) (.inl ⟨rfl, rfl⟩) (.inl ⟨rfl, rfl⟩) rfl st0.symm gv0.symm (fun e h => nomatch h) x dx nx ndx nex
end
end B2_

/-! ## B2_26 -/
set_option Elab.async false
set_option linter.all false
set_option maxRecDepth 100000
set_option maxHeartbeats 8000000
namespace B2_
open PySem PySem.Spec PyProof.Rows L2
/-! ### _law_other -/
def Kd.nxt : Kd → Kd
  | .chg => .fix
  | .fix => .key []
  | .key _ => .chg
def Ln.nxt (l : Ln) : Ln := ⟨l.t, l.cs, l.k.nxt⟩
def swap (z : Str) (Ls : List Ln) : List Ln := Ls.map fun l => if l.t = z then l.nxt else l
theorem nxt_ne (k : Kd) : k.nxt ≠ k := by cases k <;> intro h <;> cases h
theorem swap_t (z : Str) (Ls : List Ln) : (swap z Ls).map (·.t) = Ls.map (·.t) := by
  unfold swap
  rw [List.map_map]
  refine List.map_congr_left fun l _ => ?_
  show (if l.t = z then l.nxt else l).t = l.t
  split <;> rfl
theorem swap_ne {z : Str} {Ls : List Ln} (h : z ∈ Ls.map (·.t)) : swap z Ls ≠ Ls := by
  intro e
  obtain ⟨l, hl, rfl⟩ := List.mem_map.mp h
  unfold swap at e
  have e2 : Ls.map (fun m => if m.t = l.t then m.nxt else m) = Ls.map id := by rw [List.map_id]; exact e
  have := List.map_inj_left.mp e2 l hl
  rw [if_pos rfl] at this
  exact nxt_ne l.k (congrArg Ln.k this)
theorem swap_ok {z : Str} {Ls : List Ln} (ok : PlOk Ls) : PlOk (swap z Ls) := by
  have each : ∀ m ∈ swap z Ls, ∃ l ∈ Ls, m.t = l.t ∧ m.cs = l.cs ∧ (m.k = l.k ∨ m.k = l.k.nxt) := fun m hm => by
    obtain ⟨l, hl, rfl⟩ := List.mem_map.mp hm
    refine ⟨l, hl, ?_⟩
    split
    · exact ⟨rfl, rfl, .inr rfl⟩
    · exact ⟨rfl, rfl, .inl rfl⟩
  have lsrt : ∀ m ∈ swap z Ls, m.srt = m := fun m hm => by
    obtain ⟨l, hl, e1, e2, e3⟩ := each m hm
    have h := ok.each l hl
    have h1 : srtd l.cs = l.cs := congrArg Ln.cs h
    have h2 : l.k.srt = l.k := congrArg Ln.k h
    obtain ⟨t, cs, k⟩ := m
    simp only at e1 e2 e3
    subst e1 e2
    show Ln.mk l.t (srtd l.cs) k.srt = Ln.mk l.t l.cs k
    rw [h1]
    rcases e3 with e3 | e3
    · rw [e3, h2]
    · rw [e3]
      cases l.k <;> simp [Kd.nxt, Kd.srt, srtd]
  have nt : ((swap z Ls).map (·.t)).Nodup := by rw [swap_t]; exact ok.nd
  have len : (swap z Ls).length = Ls.length := by unfold swap; rw [List.length_map]
  refine ⟨⟨fun m hm => ?_, nt, by rw [len]; exact ok.one, by rw [len]; exact ok.six, ?_⟩, ?_, lsrt⟩
  · obtain ⟨l, hl, e1, e2, e3⟩ := each m hm
    have o := ok.good l hl
    refine ⟨by rw [e1]; exact o.name, by rw [e2]; exact o.cols, by rw [e2]; exact o.nd, by rw [e2]; exact o.few, ?_⟩
    rw [e2]
    rcases e3 with e3 | e3
    · rw [e3]; exact o.key
    · rw [e3]
      cases l.k with
      | chg => trivial
      | fix => exact ⟨fun z h => (nomatch h), List.nodup_nil, fun z h => (nomatch h)⟩
      | key ks => trivial
  · obtain ⟨C, few, inC⟩ := ok.cols
    refine ⟨C, few, fun m hm z hz => ?_⟩
    obtain ⟨l, hl, e1, e2, e3⟩ := each m hm
    exact inC l hl z (by rw [← e2]; exact hz)
  · refine (ordL_of nt ?_ ?_).symm
    · rw [(List.map_congr_left lsrt).trans (List.map_id _)]
    · have h := ordL_pair Ls
      rw [ok.inord] at h
      have h2 : ((Ls.map (·.t)).Pairwise fun a b => leT a b = true) := List.pairwise_map.mpr h
      rw [← swap_t z] at h2
      exact List.pairwise_map.mp h2
theorem put_swap {H : Hp} {z : Str} {v : V} {kvs : List (Key × V)} {Ls : List Ln} (pr : Paired (fun kv l => kv.1 = Sum.inr l.t ∧ PlAt H kv.2 l) kvs Ls) (hv : ∀ l ∈ Ls, l.t = z → PlAt H v l.nxt) (mz : z ∈ Ls.map (·.t)) : Paired (fun kv l => kv.1 = Sum.inr l.t ∧ PlAt H kv.2 l) (putK kvs (Sum.inr z) v) (swap z Ls) := by
  have any : (kvs.any fun kv => decide (kv.1 = (Sum.inr z : Key))) = true := by
    obtain ⟨w, l, e, _⟩ := val_at pr mz
    have h := valV_in e
    obtain ⟨kv, h1, h2⟩ := List.mem_map.mp h
    exact List.any_eq_true.mpr ⟨kv, h1, decide_eq_true h2⟩
  unfold putK swap
  rw [if_pos any]
  clear any mz
  induction pr with
  | nil => exact .nil
  | @cons kv l kvs Ls a b ih =>
    rw [List.map_cons, List.map_cons]
    refine .cons ?_ (ih fun m hm e => hv m (List.mem_cons_of_mem _ hm) e)
    by_cases e : l.t = z
    · rw [if_pos e, if_pos (by rw [a.1, e])]
      exact ⟨a.1, hv l List.mem_cons_self e⟩
    · rw [if_neg e, if_neg (by rw [a.1]; intro w; exact e (Sum.inr.inj w))]
      exact a
abbrev s_lot : Stmt := topS 38
abbrev N_lot : List Str := ["dice", "scene", "name", "columns", "kind", "found"]
theorem sc_lot : FnScope N_lot ["dice", "scene"] (defScope s_lot) := ⟨rfl, rfl, rfl, by decide +kernel, rfl, by decide +kernel, by decide +kernel⟩
def spLot : Sp := fun vs H Q _ => ∃ (d q : Addr) (Ls : List Ln), vs = [.ref d, .ref q] ∧ Dice H d ∧ PlainAt H q Ls ∧ PlOk Ls ∧ ∀ p Ms H', PlOk Ms → Ms ≠ Ls → But d H H' → Dice H' d → H p = none → PlainAt H' p Ms → Q (.ref p) H'
section
variable {P : Program} {w : World} {K : PySem.W.Frag} {mg : Str → Option Value} {base : Heap}
theorem ok_lot {f : Addr} {fd : FuncData} (F : Fun K "_law_other" "_law_other" s_lot f fd) (T : NamesS mg) (hli : mg "list" = none) (CP : Callee P w K mg base CX0 2 "_law_pick" ["dice", "items"] spPick) : FnOk P w K mg base CX0 3 f fd ["dice", "scene"] spLot := by
  have nd := sc_lot.nd
  refine F.ok sc_lot (fun vs H Q E h => ?_) (fun cdv A outer s H vs Q E hr h => ?_)
  · obtain ⟨d, q, Ls, rfl, _⟩ := h
    rfl
  · obtain ⟨d, q, Ls, rfl, hd, hq, ok, k⟩ := h
    have hu : (A.deeper (envOfC "_law_other" (defScope s_lot) s.heap.objs.size f cdv)).units + 1 < cLine := by have := hr.un; omega
    have hu64 : (A.deeper (envOfC "_law_other" (defScope s_lot) s.heap.objs.size f cdv)).units + 64 < cLine := by have := hr.un; omega
    refine ⟨_, (pss_cons
    (ps_set (i := 2) nd rfl (Or.inl rfl) (pe_use CP hr rfl pass0 (pa_cons (pv 0) (pa_cons (pe_callB (call_sortedD rfl) (by rfl) T.sorted (by decide +kernel) (pa_cons (pv 1) pa_nil)) pa_nil))))
    (pss_cons
    (ps_asg (pe_dget hu (pv 1) (pv 2) (fun _ _ => rfl)) (pg_tup rfl (pgs_cons (pg_name (i := 3) nd rfl (Or.inl rfl)) (pgs_cons (pg_name (i := 4) nd rfl (Or.inl rfl)) pgs_nil))))
    (pss_cons
    (ps_set (i := 5) nd rfl (Or.inl rfl) (pe_callTy (call_dictP rfl) (by rfl) T.dict (by decide +kernel) (pa_cons (LiI.pe_listItems rfl (pv 1) (by rfl) hli (by decide +kernel)) pa_nil)))
    (pss_cons
    (ps_if (pt_cmpR (op_eqD hu64) (pv 4) pe_str (nomark _)) (pss_one
      (ps_dput hu (pv 5) (pv 2) (pe_tup (pa_cons (pv 3) (pa_cons pe_non pa_nil))) rfl)) (pss_one
      (ps_if (pt_cmpR op_isN (pv 4) pe_non (nomark _)) (pss_one
        (ps_dput hu (pv 5) (pv 2) (pe_tup (pa_cons (pv 3) (pa_cons (pe_tup pa_nil) pa_nil))) rfl)) (pss_one
        (ps_dput hu (pv 5) (pv 2) (pe_tup (pa_cons (pv 3) (pa_cons pe_str pa_nil))) rfl)))))
    (pss_one
    (ps_ret (pv 5))))))), ?_⟩
    obtain ⟨kvs, hqk, pr⟩ := id hq
    have six : (tabsOf Ls).length ≤ 6 := by unfold tabsOf; rw [List.length_map]; exact ok.six
    have one : 1 ≤ (tabsOf Ls).length := by unfold tabsOf; rw [List.length_map]; exact ok.one
    refine ⟨_, rfl, _, rfl, q, kvs, tabsOf Ls, rfl, Rd.of hqk, plain_keys pr, by omega, fun ys p yp yo np => ?_⟩
    have s2 : Same H (upd H p (.lst (ys.map V.str))) := Same.new (Same.refl _) np
    refine ⟨d, p, ys.map V.str, rfl, hd.same s2, .inl upd_same, (hd.ne_none np).symm, fun e => ?_, by rw [List.length_map, yp.length_eq]; omega, fun x H2 hx s3 hd2 => ?_⟩
    · have e2 := congrArg List.length e
      rw [List.length_map, yp.length_eq, List.length_nil] at e2
      omega
    · obtain ⟨z, hz, rfl⟩ := List.mem_map.mp hx
      have mz : z ∈ tabsOf Ls := yp.mem_iff.mp hz
      have pl2 : PlainAt H2 q Ls := (hq.same s2).but (hd.same s2) s3
      have s12 : But d H H2 := (But.same s2).trans s3
      obtain ⟨kv2, hq2, pr2⟩ := id pl2
      obtain ⟨v, l, e1, e2, e3, pp, c, kv, rfl, t1, t2, t3⟩ := val_at pr2 mz
      obtain rfl := e3
      have lok := ok.good _ e2
      refine ⟨_, rfl, _, rfl, q, .ref pp, rfl, e1 ▸ DGet.k (k := Sum.inr _) hq2, pp, _, rfl, SqT.of t1, rfl, _, _, rfl, _, _, rfl, rfl, ?_⟩
      refine ⟨_, rfl, q, kv2, rfl, hq2, fun H3 pl ts kp npl nts nin hpl hts => ⟨pl, ts, kv2, rfl, SqL.of hpl, ?_, fun F0 nF => ?_⟩⟩
      · exact Paired.mapP hts fun t kv e => SqT.of e
      · have knd : (kv2.map (·.1)).Nodup := by
          rw [plain_keys pr2]
          exact List.pairwise_map.mpr (ok.nd.imp fun n z => n (Sum.inr.inj z))
        rw [merge_nodup knd]
        have s3' : Same H2 H3 := fun b o e => kp b o e
        have sF : Same H2 (upd H3 F0 (.dK kv2)) := Same.new s3' nF
        have F2 : H2 F0 = none := s3'.free nF
        have hF : (upd H3 F0 (.dK kv2)) F0 = some (.dK kv2) := upd_same
        have dF := (hd2.same s3').ne_none nF
        have plF : PlainAt (upd H3 F0 (.dK kv2)) F0 Ls := ⟨kv2, upd_same, Paired.mapP pr2 fun kv l r => ⟨r.1, r.2.same sF⟩⟩
        have hdF := hd2.same sF
        have t2F := sF _ _ t2
        have t3F := t3.same sF
        generalize upd H3 F0 (.dK kv2) = H4 at *
        clear nF s3' kp npl nts nin hpl hts
        have fin : ∀ (H5 : Hp) (kv' : V) (tp : Addr), Same H4 H5 → KdAt H5 kv' l.k.nxt → H5 tp = none → ∃ HX, DPut (upd H5 tp (.tup [.ref c, kv'])) F0 (.str l.t) (.ref tp) HX ∧ Q (.ref F0) HX := fun H5 kv' tp s5 hk ntp => by
          have s6 : Same H5 (upd H5 tp (.tup [.ref c, kv'])) := Same.new (Same.refl _) ntp
          have s46 : Same H4 (upd H5 tp (.tup [.ref c, kv'])) := fun b o e => s6 _ _ (s5 _ _ e)
          have hF6 := s46 _ _ hF
          have hp6 : (upd H5 tp (.tup [.ref c, kv'])) tp = some (.tup [.ref c, kv']) := upd_same
          have hk6 := hk.same s6
          generalize upd H5 tp (.tup [.ref c, kv']) = H6 at *
          have pl6 : Paired (fun kv l => kv.1 = Sum.inr l.t ∧ PlAt H6 kv.2 l) kv2 Ls := by
            obtain ⟨kv3, h1, h2⟩ := plF.same s46
            rw [hF6] at h1
            cases h1
            exact h2
          have put := put_swap (z := l.t) (v := .ref tp) pl6 (fun m hm e => by
            obtain rfl := same_line ok.nd e2 hm e
            exact ⟨tp, c, kv', rfl, hp6, s46 _ _ t2F, hk6⟩) mz
          have len : kv2.length < sizeLine := by rw [pl6.length, sizeLine_eq]; have := ok.six; omega
          refine ⟨_, DPut.k (k := Sum.inr l.t) (v := .ref tp) hF6 len, ?_⟩
          have off : K1.Off F0 H6 (upd H6 F0 (.dK (putK kv2 (Sum.inr l.t) (.ref tp)))) := (K1.Off.refl F0 H6).put
          have Fd : F0 ≠ d := Ne.symm dF
          refine k F0 (swap l.t Ls) _ (swap_ok ok) (swap_ne mz) (fun b o n e => ?_) (dice_at (hdF.same s46) off dF) ?_ ⟨_, upd_same, Paired.mapP put fun kv l r => ⟨r.1, r.2.putF hF6⟩⟩
          · have b2 := s12 b o n e
            have nbF : b ≠ F0 := ne_of_none b2 F2
            exact off _ _ nbF (s46 _ _ (sF _ _ b2))
          · exact s12.free Fd F2
        dsimp only [gName]
        have lkey := lok.key
        cases e : l.k with
        | chg =>
          rw [e] at t3F fin
          obtain rfl : kv = .str "changing" := t3F
          refine ⟨_, rfl, .str "changing", .str "changing", .str _, .str _, by decide +kernel, by decide +kernel, _, rfl, ?_⟩
          rw [show PyData.eqv (.str "changing") (.str "changing") = true from by decide +kernel]
          refine iteT ⟨_, rfl, by show 2 ≤ sizeLine; decide, fun tp ntp => ?_⟩
          obtain ⟨HX, h1, h2⟩ := fin H4 .non tp (Same.refl _) rfl ntp
          exact ⟨_, rfl, _, rfl, F0, HX, rfl, h1, _, rfl, h2⟩
        | fix =>
          rw [e] at t3F fin
          obtain rfl : kv = .non := t3F
          refine ⟨_, rfl, .none, .str "changing", .non, .str _, by decide +kernel, by decide +kernel, _, rfl, ?_⟩
          refine iteF ⟨_, rfl, rfl, _, rfl, ?_⟩
          rw [decide_eq_true rfl]
          refine iteT ⟨_, rfl, Nat.zero_le _, fun t0 nt0 => ⟨by show 2 ≤ sizeLine; decide, fun tp ntp => ?_⟩⟩
          obtain ⟨HX, h1, h2⟩ := fin _ (.ref t0) tp (Same.new (Same.refl _) nt0) ⟨t0, rfl, upd_same⟩ ntp
          exact ⟨_, rfl, _, rfl, F0, HX, rfl, h1, _, rfl, h2⟩
        | key ks =>
          rw [e] at t3F fin lkey
          obtain ⟨kp0, rfl, hkp⟩ := t3F
          refine ⟨_, rfl, .tuple (ks.map .str), .str "changing", .tup (SqT.of hkp) (dp_strs ks), .str _, shaped_tup ks (fun z hz => name_strOk (lkey.1 z hz)), by decide +kernel, _, rfl, ?_⟩
          refine iteF ⟨_, rfl, rfl, _, rfl, ?_⟩
          rw [decide_eq_false (by intro z; cases z)]
          refine iteF ⟨_, rfl, by show 2 ≤ sizeLine; decide, fun tp ntp => ?_⟩
          obtain ⟨HX, h1, h2⟩ := fin H4 (.str "changing") tp (Same.refl _) rfl ntp
          exact ⟨_, rfl, _, rfl, F0, HX, rfl, h1, _, rfl, h2⟩
end
end B2_

/-! ## B2_27 -/
set_option Elab.async false
set_option linter.all false
set_option maxRecDepth 100000
set_option maxHeartbeats 8000000
namespace B2_
open PySem PySem.Spec PyProof.Rows L2
/-! ### data whose text is short -/
structure Sm (b n : Nat) (d : PyData) : Prop where
  sh : d.showable = true
  lf : d.leavesShort 13 = true
  nd : d.hasDict = false
  bk : d.bulk ≤ b
  dp : d.depth ≤ n
structure SmA (b n : Nat) (ds : List PyData) : Prop where
  sh : PyData.showableAll ds = true
  lf : PyData.leavesShortAll 13 ds = true
  nd : PyData.hasDictAll ds = false
  bk : PyData.bulkAll ds ≤ b
  dp : PyData.depthAll ds ≤ n
theorem SmA.nil : SmA 0 0 [] := ⟨by simp [PyData.showableAll], by simp [PyData.leavesShortAll], by simp [PyData.hasDictAll], by simp [PyData.bulkAll], by simp [PyData.depthAll]⟩
theorem SmA.cons {b n b' n' : Nat} {d : PyData} {ds : List PyData} (h : Sm b n d) (t : SmA b' n' ds) : SmA (b + 1 + b') (max n n') (d :: ds) :=
  ⟨by simp [PyData.showableAll, h.sh, t.sh], by simp [PyData.leavesShortAll, h.lf, t.lf], by simp [PyData.hasDictAll, h.nd, t.nd], by simp only [PyData.bulkAll]; have := h.bk; have := t.bk; omega, by simp only [PyData.depthAll]; have := h.dp; have := t.dp; omega⟩
theorem SmA.tup {b n : Nat} {ds : List PyData} (h : SmA b n ds) : Sm b (n + 1) (.tuple ds) :=
  ⟨by simp only [PyData.showable, h.sh], by simp only [PyData.leavesShort, h.lf], by simp only [PyData.hasDict, h.nd], by simp only [PyData.bulk]; exact h.bk, by simp only [PyData.depth]; have := h.dp; omega⟩
theorem SmA.lst {b n : Nat} {ds : List PyData} (h : SmA b n ds) : Sm b (n + 1) (.list ds) :=
  ⟨by simp only [PyData.showable, h.sh], by simp only [PyData.leavesShort, h.lf], by simp only [PyData.hasDict, h.nd], by simp only [PyData.bulk]; exact h.bk, by simp only [PyData.depth]; have := h.dp; omega⟩
theorem Sm.mono {b n b' n' : Nat} {d : PyData} (h : Sm b n d) (hb : b ≤ b') (hn : n ≤ n') : Sm b' n' d := ⟨h.sh, h.lf, h.nd, Nat.le_trans h.bk hb, Nat.le_trans h.dp hn⟩
theorem SmA.mono {b n b' n' : Nat} {d : List PyData} (h : SmA b n d) (hb : b ≤ b') (hn : n ≤ n') : SmA b' n' d := ⟨h.sh, h.lf, h.nd, Nat.le_trans h.bk hb, Nat.le_trans h.dp hn⟩
theorem Sm.str {z : Str} (h : nameB z = true) : Sm 8 0 (.str z) := by
  have len := name_len h
  refine ⟨by simp [PyData.showable], ?_, by simp [PyData.hasDict], ?_, by simp [PyData.depth]⟩
  · simp only [PyData.leavesShort, List.all_eq_true, decide_eq_true_eq]
    intro c hc
    unfold nameB at h
    simp only [Bool.and_eq_true, List.all_eq_true, decide_eq_true_eq] at h
    have := (h.2 c hc).2
    omega
  · simp only [PyData.bulk]
    exact len
theorem Sm.non : Sm 0 0 .none := ⟨by simp [PyData.showable], by simp [PyData.leavesShort], by simp [PyData.hasDict], by simp [PyData.bulk], by simp [PyData.depth]⟩
theorem Sm.bl (b : Bool) : Sm 0 0 (.bool b) := ⟨by simp [PyData.showable], by simp [PyData.leavesShort], by simp [PyData.hasDict], by simp [PyData.bulk], by simp [PyData.depth]⟩
theorem Sm.int6 : ∀ n : Fin 7, Sm 0 0 (.int (n.val : Nat)) := fun n => by
  have h : ∀ n : Fin 7, PyData.showable (.int (n.val : Nat)) = true ∧ PyData.leavesShort 13 (.int (n.val : Nat)) = true := by decide +kernel
  exact ⟨(h n).1, (h n).2, by simp [PyData.hasDict], by simp [PyData.bulk], by simp [PyData.depth]⟩
theorem SmA.strs : ∀ {zs : List Str} {k : Nat}, (∀ z ∈ zs, nameB z = true) → zs.length ≤ k → SmA (9 * k) 0 (zs.map .str)
  | [], k, _, _ => SmA.nil.mono (Nat.zero_le _) (Nat.le_refl _)
  | z :: zs, 0, _, h => absurd h (by simp)
  | z :: zs, k + 1, h, l => by
    have t := SmA.strs (zs := zs) (k := k) (fun y hy => h y (List.mem_cons_of_mem _ hy)) (by simpa using l)
    exact (SmA.cons (Sm.str (h z List.mem_cons_self)) t).mono (by omega) (by omega)
theorem Sm.kd {k : Kd} {cs : List Str} (ok : k.Ok cs) (few : cs.length ≤ 4) : Sm 36 1 (dKd k) := by
  cases k with
  | chg => exact (Sm.str (z := "changing") (by decide +kernel)).mono (by omega) (by omega)
  | fix => exact Sm.non.mono (by omega) (by omega)
  | key ks => exact (SmA.strs (k := 4) ok.1 (Nat.le_trans (ok.2.1.length_le_of_subset ok.2.2) few)).tup
theorem Sm.ln {l : Ln} (ok : l.Ok) : Sm 83 2 (dLn l) :=
  ((SmA.cons (Sm.str ok.name) (SmA.cons (SmA.strs (k := 4) ok.cols ok.few).tup (SmA.cons (Sm.kd ok.key ok.few) SmA.nil))).tup).mono (by omega) (by omega)
theorem SmA.lns : ∀ {Ls : List Ln} {k : Nat}, (∀ l ∈ Ls, l.Ok) → Ls.length ≤ k → SmA (84 * k) 2 (Ls.map dLn)
  | [], k, _, _ => SmA.nil.mono (Nat.zero_le _) (Nat.zero_le _)
  | l :: Ls, 0, _, h => absurd h (by simp)
  | l :: Ls, k + 1, h, len => by
    have t := SmA.lns (Ls := Ls) (k := k) (fun y hy => h y (List.mem_cons_of_mem _ hy)) (by simpa using len)
    exact (SmA.cons (Sm.ln (h l List.mem_cons_self)) t).mono (by omega) (by omega)
/-- repr of such data -/
theorem call_reprS {X : Cx} (quiet : X.A.guards = some []) (hu : X.A.units + 100 < cLine) : CallR X (.builtin "repr") (fun xs H Q => ∃ (a : Addr) (d : PyData), xs = [.ref a] ∧ Dp X.K H (.ref a) d ∧ Sm 100000 60 d ∧ Q (.str d.shown) H) := by
  intro pins s σ H xs us Q I r h
  obtain ⟨a, d, rfl, dp, sm, q⟩ := h
  exact K1.call_reprD quiet hu pins s σ H _ us Q I r ⟨.ref a, d, rfl, dp, sm.sh, sm.nd, Nat.le_trans sm.dp (by omega), PyData.shown_fits_bulk (B := 13) (by omega) (by omega) sm.lf (Nat.le_trans sm.bk (by decide)), .inl ⟨a, rfl⟩, q⟩
/-! ### _law_asked_right -/
abbrev s_lar : Stmt := topS 39
end B2_

/-! ## B2_28 -/
set_option Elab.async false
set_option linter.all false
set_option maxRecDepth 100000
set_option maxHeartbeats 16000000
namespace B2_
open PySem PySem.Spec PyProof.Rows L2
/-- a property that reads a field -/
structure Prp (P : Program) (w : World) (K : PySem.W.Frag) (mg : Str → Option Value) (base : Heap) (C : Addr) (f g : Str) : Prop where
  ex : ∃ p gf fd, PropOf K C f p gf ∧ FnOk P w K mg base CX0 1 gf fd ["self"] (getSp C g) ∧ Binds K fd ["self"] []
theorem pe_prp {X : Cx} {C : Addr} {f g : Str} {e : Expr} {ta : TE} {pos : Pos} (M : Prp X.prog X.w X.K X.mg X.base C f g) (c : Cls X.K C) (hr : Room 2 X.A) (he : PE X e ta) (hab : attributeBase e f X.env (eval e X.env) = eval e X.env := by rfl) : PE X (.Attribute e f pos) (tProp C (getSp C g) [] E0 ta) := by
  obtain ⟨p, gf, fd, h1, h2, h3⟩ := M.ex
  exact pe_prop he c h1 h2 hr h3 .nil pass0 hab
/-- all that a scene can be asked for -/
structure Ways (P : Program) (w : World) (K : PySem.W.Frag) (mg : Str → Option Value) (base : Heap) (C : Addr) : Prop where
  cl : ClsS K mg C
  ci : ClsI K C
  neo : K1.NeO K C
  con : Mth P w K mg base C 1 "__contains__" ["self", "value"] (spCon K C)
  len : Mth P w K mg base C 1 "__len__" ["self"] (spLen C)
  iter : Mth P w K mg base C 1 "__iter__" ["self"] (spIt C)
  eq : Mth P w K mg base C 1 "__eq__" ["self", "other"] (spEq K C)
  str : Mth P w K mg base C 1 "__str__" ["self"] (spStr C)
  cof : Mth P w K mg base C 3 "columns_of" ["self", "table"] (spCof C)
  kof : Mth P w K mg base C 3 "key_of" ["self", "table"] (spKof C)
  tables : Prp P w K mg base C "tables" "_tables"
  changing : Prp P w K mg base C "changing" "_changing"
  fixed : Prp P w K mg base C "fixed" "_fixed"
  columns : Prp P w K mg base C "columns" "_columns"
  lines : Prp P w K mg base C "lines" "_lines"
structure NamesR (mg : Str → Option Value) : Prop extends NamesS mg where
  repr : mg "repr" = none
  iter : mg "iter" = none
  enum : mg "enumerate" = none
/-! ### _law_asked_right -/
abbrev N_lar : List Str := ["scene", "made", "names", "columns", "moving", "due", "told", "name", "kind"]
theorem sc_lar : FnScope N_lar ["scene", "made"] (defScope s_lar) := ⟨rfl, rfl, rfl, by decide +kernel, rfl, by decide +kernel, by decide +kernel⟩
def spLar (C : Addr) : Sp := fun vs H Q _ => ∃ (q x : Addr) (Ls : List Ln), vs = [.ref q, .ref x] ∧ PlainAt H q Ls ∧ PlOk Ls ∧ SceneAt C H x Ls ∧ ∀ H', Same H H' → Q (.bl true) H'
theorem txt_same : ∀ (n : Fin 7) (m : Fin 25), ("scene of " : Str) ++ (toString ((n.val : Nat) : Int) : Str) ++ (" tables, " : Str) ++ (toString ((m.val : Nat) : Int) : Str) ++ (" columns" : Str) = txtScene n.val m.val := by decide +kernel
theorem txt_fit : ∀ (n : Fin 7) (m : Fin 25), ("scene of " : Str).length + (toString ((n.val : Nat) : Int) : Str).length ≤ 1000 ∧ (("scene of " : Str) ++ (toString ((n.val : Nat) : Int) : Str)).length + (" tables, " : Str).length ≤ 1000 ∧
    (("scene of " : Str) ++ (toString ((n.val : Nat) : Int) : Str) ++ (" tables, " : Str)).length + (toString ((m.val : Nat) : Int) : Str).length ≤ 1000 ∧ (("scene of " : Str) ++ (toString ((n.val : Nat) : Int) : Str) ++ (" tables, " : Str) ++ (toString ((m.val : Nat) : Int) : Str)).length + (" columns" : Str).length ≤ 1000 := by decide +kernel
def dKey : Kd → PyData
  | .key ks => .tuple (ks.map .str)
  | _ => .none
theorem dp_key {K : PySem.W.Frag} {H : Hp} {v : V} {k : Kd} (h : KeyV H v k) : Dp K H v (dKey k) := by
  cases k with
  | chg => obtain rfl : v = .non := h; exact .non
  | fix => obtain rfl : v = .non := h; exact .non
  | key ks => obtain ⟨p, rfl, e⟩ := h; exact .tup (SqT.of e) (dp_strs ks)
theorem KeyV.same {H H' : Hp} {v : V} {k : Kd} (h : KeyV H v k) (s : Same H H') : KeyV H' v k := by
  cases k with
  | chg => exact h
  | fix => exact h
  | key ks => exact h.imp fun p e => ⟨e.1, s _ _ e.2⟩
theorem Sm.key {k : Kd} {cs : List Str} (ok : k.Ok cs) (few : cs.length ≤ 4) : Sm 36 1 (dKey k) := by
  cases k with
  | chg => exact Sm.non.mono (by omega) (by omega)
  | fix => exact Sm.non.mono (by omega) (by omega)
  | key ks => exact (SmA.strs (k := 4) ok.1 (Nat.le_trans (ok.2.1.length_le_of_subset ok.2.2) few)).tup
section
variable {P : Program} {w : World} {K : PySem.W.Frag} {mg : Str → Option Value} {base : Heap}
theorem ok_lar {f C : Addr} {fd : FuncData} (F : Fun K "_law_asked_right" "_law_asked_right" s_lar f fd) (T : NamesR mg) (W : Ways P w K mg base C) (CC : Callee P w K mg base CX0 1 "_law_columns" ["scene"] spLco) (CL : Callee P w K mg base CX0 1 "_law_lines" ["scene"] spLls) : K1.FnOkG P w K mg base 6 f fd ["scene", "made"] (spLar C) := by
  have nd := sc_lar.nd
  refine K1.fn_ofG F sc_lar (fun vs H Q E h => ?_) (fun cdv A outer s H vs Q hr quiet h => ?_)
  · obtain ⟨q, x, Ls, rfl, _⟩ := h
    rfl
  · obtain ⟨q, x, Ls, rfl, hq, ok, hx, k⟩ := h
    have hr1 : Room 1 _ := hr.mono (by decide)
    have hr2 : Room 2 _ := hr.mono (by decide)
    have hr3 : Room 3 _ := hr.mono (by decide)
    have hu : (A.deeper (envOfC "_law_asked_right" (defScope s_lar) s.heap.objs.size f cdv)).units + 1 < cLine := by have := hr.un; omega
    have hu64 : (A.deeper (envOfC "_law_asked_right" (defScope s_lar) s.heap.objs.size f cdv)).units + 64 < cLine := by have := hr.un; omega
    have hu100 : (A.deeper (envOfC "_law_asked_right" (defScope s_lar) s.heap.objs.size f cdv)).units + 100 < cLine := by have := hr.un; omega
    refine ⟨_, (pss_cons
    (ps_par (i := 2) (j := 3) (by rfl) nd rfl rfl (by decide) rfl rfl (pa_cons (pe_callB (call_sortedD rfl) (by rfl) T.sorted (by decide +kernel) (pa_cons (pv 0) pa_nil)) (pa_cons (pe_use CC hr1 rfl pass0 (pa_cons (pv 0) pa_nil)) pa_nil)) (by rfl))
    (pss_cons
    (ps_set (i := 4) nd rfl (Or.inr rfl) (pe_lc (own := [("name", 7)]) (g := (gName 7)) (te := tVar 7) (tt := tTest (tOp (rEqD K) (tOp (rIxT K) (tDGet (tVar 0) (tVar 7)) (tC (.int 1))) (tC (.str "changing")))) rfl nd (pi_list (pv 2)) (blkOk_by (N := N_lar) (sc := defScope s_lar) (by decide +kernel)) (fun _ _ _ _ _ => (pg_name (i := 7) nd rfl (Or.inl rfl))) (fun _ _ _ _ _ => (pts_one (pt_cmpR (op_eqD hu64) (pe_ix ix_tup (pe_dget hu (pv 0) (pv 7) (fun _ _ => rfl)) pe_int (fun _ _ => rfl)) pe_str (nomark _)))) (fun _ _ _ _ _ => (pv 7))))
    (pss_cons
    (ps_set (i := 5) nd rfl (Or.inl rfl) (pe_lst (pa_cons (pe_callTy call_tuple_of (by rfl) T.tuple (by decide +kernel) (pa_cons (pv 2) pa_nil)) (pa_cons (pe_callTy call_tuple_of (by rfl) T.tuple (by decide +kernel) (pa_cons (pv 4) pa_nil)) (pa_cons (pe_callTy call_tuple_of (by rfl) T.tuple (by decide +kernel) (pa_cons (pe_lc (own := [("name", 7)]) (g := (gName 7)) (te := tVar 7) (tt := tTest (tOp (rIn K true) (tVar 7) (tVar 4))) rfl nd (pi_list (pv 2)) (blkOk_by (N := N_lar) (sc := defScope s_lar) (by decide +kernel)) (fun _ _ _ _ _ => (pg_name (i := 7) nd rfl (Or.inl rfl))) (fun _ _ _ _ _ => (pts_one (pt_cmpR (r := rIn K true) op_notIn_seq (pv 7) (pv 4) rfl))) (fun _ _ _ _ _ => (pv 7))) pa_nil)) (pa_cons (pe_callTy call_tuple_of (by rfl) T.tuple (by decide +kernel) (pa_cons (pv 3) pa_nil)) pa_nil))))))
    (pss_cons
    (ps_set (i := 5) nd rfl (Or.inl rfl) (pe_op op_cat (pv 5) (pe_lst (pa_cons (pe_use CL hr1 rfl pass0 (pa_cons (pv 0) pa_nil)) (pa_cons (pe_callB call_len_seq (by rfl) T.len (by decide +kernel) (pa_cons (pv 2) pa_nil)) (pa_cons (pv 2) pa_nil))))))
    (pss_cons
    (ps_set (i := 6) nd rfl (Or.inl rfl) (pe_lst (pa_cons (pe_prp W.tables W.cl.cl hr2 (pv 1)) (pa_cons (pe_prp W.changing W.cl.cl hr2 (pv 1)) (pa_cons (pe_prp W.fixed W.cl.cl hr2 (pv 1)) (pa_cons (pe_prp W.columns W.cl.cl hr2 (pv 1)) (pa_cons (pe_prp W.lines W.cl.cl hr2 (pv 1)) (pa_cons (pe_callB (K1.call_lenOwn (spc_of W.len) hr2) (by rfl) T.len (by decide +kernel) (pa_cons (pv 1) pa_nil)) (pa_cons (pe_callTy (K1.call_listOwnT rfl (spc_of W.iter) (spc_of W.len) (hr.mono (by decide))) (by rfl) T.list (by decide +kernel) (pa_cons (pv 1) pa_nil)) pa_nil)))))))))
    (pss_cons
    (ps_if (pt_cmpR op_ne (pe_callB (call_reprS quiet hu100) (by rfl) T.repr (by decide +kernel) (pa_cons (pv 6) pa_nil)) (pe_callB (call_reprS quiet hu100) (by rfl) T.repr (by decide +kernel) (pa_cons (pv 5) pa_nil)) (nomark _)) (pss_one ps_never) pss_nil)
    (pss_cons
    (ps_for PassesOwn.never rfl (pi_list (pv 2)) (pg_name (i := 7) nd rfl (Or.inl rfl)) (pss_cons
      (ps_set (i := 8) nd rfl (Or.inl rfl) (pe_ifExp (pt_val (pe_callB call_isi (by rfl) T.isinstance (by decide +kernel) (pa_cons (pe_ix ix_tup (pe_dget hu (pv 0) (pv 7) (fun _ _ => rfl)) pe_int (fun _ _ => rfl)) (pa_cons (pe_bltn (v := .ty "tuple") (by rfl) T.tuple (by decide +kernel) rfl) pa_nil)))) (pe_ix ix_tup (pe_dget hu (pv 0) (pv 7) (fun _ _ => rfl)) pe_int (fun _ _ => rfl)) pe_non))
      (pss_one
      (ps_if (pt_cmpR op_ne (pe_callB (call_reprS quiet hu100) (by rfl) T.repr (by decide +kernel) (pa_cons (pe_lst (pa_cons (pe_mth W.cof W.cl.cl hr3 (pv 1) (pa_cons (pv 7) pa_nil)) (pa_cons (pe_mth W.kof W.cl.cl hr3 (pv 1) (pa_cons (pv 7) pa_nil)) (pa_cons (pe_cmpR (K1.op_inOwn (spc_of W.con) hr1) (pv 7) (pv 1) rfl) pa_nil)))) pa_nil)) (pe_callB (call_reprS quiet hu100) (by rfl) T.repr (by decide +kernel) (pa_cons (pe_lst (pa_cons (pe_ix ix_tup (pe_dget hu (pv 0) (pv 7) (fun _ _ => rfl)) pe_int (fun _ _ => rfl)) (pa_cons (pv 8) (pa_cons pe_bl pa_nil)))) pa_nil)) (nomark _)) (pss_one ps_never) pss_nil))))
    (pss_cons
    (ps_set (i := 6) nd rfl (Or.inl rfl) (pe_op op_add_str (pe_op op_add_str pe_str (pe_callTy call_str_int (by rfl) T.str (by decide +kernel) (pa_cons (pe_callB call_len_seq (by rfl) T.len (by decide +kernel) (pa_cons (pv 2) pa_nil)) pa_nil))) pe_str))
    (pss_one
    (ps_ret (pe_cmpR op_eq (pe_callTy (K1.call_strOwn (spc_of W.str) hr3) (by rfl) T.str (by decide +kernel) (pa_cons (pv 1) pa_nil)) (pe_op op_add_str (pe_op op_add_str (pv 6) (pe_callTy call_str_int (by rfl) T.str (by decide +kernel) (pa_cons (pe_callB call_len_seq (by rfl) T.len (by decide +kernel) (pa_cons (pv 3) pa_nil)) pa_nil))) pe_str) (nomark _)))))))))))), ?_⟩
    have six : (tabsOf Ls).length ≤ 6 := by unfold tabsOf; rw [List.length_map]; exact ok.six
    obtain ⟨kvs, hqk, pr⟩ := id hq
    refine ⟨_, rfl, q, kvs, tabsOf Ls, rfl, Rd.of hqk, plain_keys pr, by omega, fun ys pn yp yo npn => ?_⟩
    obtain rfl := srtd_of yp yo
    rw [ok.tabs]
    have s1 : Same H (upd H pn (.lst ((tabsOf Ls).map V.str))) := Same.new (Same.refl _) npn
    have hn1 : (upd H pn (.lst ((tabsOf Ls).map V.str))) pn = some (.lst ((tabsOf Ls).map V.str)) := upd_same
    generalize upd H pn (.lst ((tabsOf Ls).map V.str)) = H1 at *
    clear npn yp yo
    refine ⟨_, rfl, q, Ls, rfl, hq.same s1, ok, fun pc H2 s2 npc hc2 => ⟨_, _, rfl, ?_⟩⟩
    have s12 : Same H H2 := fun b o e => s2 _ _ (s1 _ _ e)
    have hn2 := s2 _ _ hn1
    clear npc hn1 s2
    -- moving
    have tabAt : ∀ {i : Nat} {z : Str}, (tabsOf Ls)[i]? = some z → ∃ l, Ls[i]? = some l ∧ l.t = z := fun {i z} h => by
      unfold tabsOf at h
      rw [List.getElem?_map] at h
      exact Option.map_eq_some_iff.mp h
    have plain : ∀ {H' : Hp} {l : Ln}, Same H H' → l ∈ Ls → ∃ pp c kv, DGet H' q (.str l.t) (some (.ref pp)) ∧ H' pp = some (.tup [.ref c, kv]) ∧ H' c = some (.tup (l.cs.map V.str)) ∧ KdAt H' kv l.k := fun {H' l} s hl => by
      obtain ⟨kv3, h1, h2⟩ := hq.same s
      obtain ⟨v, m, e1, e2, e3, pp, c, kv, rfl, t1, t2, t3⟩ := val_at h2 (List.mem_map.mpr ⟨l, hl, rfl⟩)
      obtain rfl := same_line ok.nd hl e2 e3
      exact ⟨pp, c, kv, e1 ▸ DGet.k (k := Sum.inr _) h1, t1, t2, t3⟩
    refine ⟨_, rfl, pn, rfl, ⟨_, SqL.of hn2⟩, fun D hD => ?_⟩
    refine lc_acc (walk_list (xs := (tabsOf Ls).map V.str)) (fun i => (((Ls.take i).filter isChg).map (·.t)).map V.str) rfl hD (fun i hi => ?_) (fun H3 s3 => SqL.of (s3 _ _ hn2)) (fun i x H3 H4 N hi s3 y keep skip => ?_) (fun H3 s3 hL => ?_)
    · have h1 : (1000 : Nat) < sizeLine := by decide
      have h2 := List.length_filter_le isChg (Ls.take i)
      rw [List.length_take] at h2
      rw [List.length_map, List.length_map]
      have := ok.six
      omega
    · obtain ⟨rfl, hx⟩ := y
      rw [List.getElem?_map] at hx
      obtain ⟨z, hz, rfl⟩ := Option.map_eq_some_iff.mp hx
      obtain ⟨l, hl, rfl⟩ := tabAt hz
      have ml := List.mem_of_getElem? hl
      have s13 : Same H H4 := fun b o e => s3 _ _ (s12 _ _ e)
      obtain ⟨pp, c, kv, g, t1, t2, t3⟩ := plain s13 ml
      obtain ⟨dd, d1, d2, d3⟩ := kd_dp (K := K) t3 (ok.good l ml).key
      refine ⟨rfl, _, rfl, _, rfl, q, .ref pp, rfl, g, pp, _, _, _, rfl, rfl, SqT.of t1, at_of (j := 1) rfl rfl, dd, .str "changing", d1, .str _, d2, by decide +kernel, _, rfl, ?_⟩
      rw [d3]
      cases e : isC l.k with
      | true =>
        refine iteT ⟨_, rfl, keep _ _ (Same.refl _) ?_⟩
        rw [take_snoc hl, List.filter_append, List.map_append, List.map_append]
        simp [isChg, e]
      | false =>
        refine iteF (skip _ (Same.refl _) ?_)
        rw [take_snoc hl, List.filter_append]
        simp [isChg, e]
    · rw [List.length_map, show (tabsOf Ls).length = Ls.length from List.length_map .., List.take_length] at hL
      have s13 : Same H H3 := fun b o e => s3 _ _ (s12 _ _ e)
      have hn3 := s3 _ _ hn2
      have hc3 := s3 _ _ hc2
      clear s3 s12 hn2 hc2 hD
      -- due
      refine ⟨_, rfl, pn, _, rfl, .inl ⟨SqL.of hn3, fun t1 nt1 => ?_⟩⟩
      have s4 : Same H3 (upd H3 t1 (.tup ((tabsOf Ls).map V.str))) := Same.new (Same.refl _) nt1
      have ht1 : (upd H3 t1 (.tup ((tabsOf Ls).map V.str))) t1 = some (.tup ((tabsOf Ls).map V.str)) := upd_same
      generalize upd H3 t1 (.tup ((tabsOf Ls).map V.str)) = H4 at *
      refine ⟨_, rfl, D, _, rfl, .inl ⟨SqL.of (s4 _ _ hL), fun t2 nt2 => ?_⟩⟩
      have s5 : Same H4 (upd H4 t2 (.tup (((Ls.filter isChg).map (·.t)).map V.str))) := Same.new (Same.refl _) nt2
      have ht2 : (upd H4 t2 (.tup (((Ls.filter isChg).map (·.t)).map V.str))) t2 = some (.tup ((chgOf Ls).map V.str)) := upd_same
      have hL5 := s5 _ _ (s4 _ _ hL)
      have hn5 := s5 _ _ (s4 _ _ hn3)
      have hc5 := s5 _ _ (s4 _ _ hc3)
      have ht15 := s5 _ _ ht1
      have sH5 : Same H (upd H4 t2 (.tup (((Ls.filter isChg).map (·.t)).map V.str))) := fun b o e => s5 _ _ (s4 _ _ (s13 _ _ e))
      generalize upd H4 t2 (.tup (((Ls.filter isChg).map (·.t)).map V.str)) = H5 at *
      clear s4 s5 nt1 nt2 ht1 hL hn3 hc3 s13
      refine ⟨_, rfl, pn, rfl, ⟨_, SqL.of hn5⟩, fun D2 hD2 => ?_⟩
      refine lc_acc (walk_list (xs := (tabsOf Ls).map V.str)) (fun i => (((Ls.take i).filter fun l => !isChg l).map (·.t)).map V.str) rfl hD2 (fun i hi => ?_) (fun H6 s6 => SqL.of (s6 _ _ hn5)) (fun i x H6 H7 N hi s6 y keep skip => ?_) (fun H6 s6 hL6 => ?_)
      · have h1 : (1000 : Nat) < sizeLine := by decide
        have h2 := List.length_filter_le (fun l => !isChg l) (Ls.take i)
        rw [List.length_take] at h2
        rw [List.length_map, List.length_map]
        have := ok.six
        omega
      · obtain ⟨rfl, hx⟩ := y
        rw [List.getElem?_map] at hx
        obtain ⟨z, hz, rfl⟩ := Option.map_eq_some_iff.mp hx
        obtain ⟨l, hl, rfl⟩ := tabAt hz
        have ml := List.mem_of_getElem? hl
        have isin : decide (l.t ∈ (Ls.filter isChg).map (·.t)) = isChg l := by
          cases e : isChg l with
          | true => exact decide_eq_true (List.mem_map.mpr ⟨l, List.mem_filter.mpr ⟨ml, e⟩, rfl⟩)
          | false =>
            refine decide_eq_false fun m => ?_
            obtain ⟨n, h1, h2⟩ := List.mem_map.mp m
            obtain ⟨h3, h4⟩ := List.mem_filter.mp h1
            obtain rfl := same_line ok.nd ml h3 h2
            rw [e] at h4
            cases h4
        refine ⟨rfl, _, rfl, _, rfl, D, _, rfl, .inl (SqL.of (s6 _ _ hL5)), rfl, by simp [flatV], _, rfl, ?_⟩
        rw [in_texts, isin]
        cases e : isChg l with
        | true =>
          refine iteF (skip _ (Same.refl _) ?_)
          rw [take_snoc hl, List.filter_append]
          simp [e]
        | false =>
          refine iteT ⟨_, rfl, keep _ _ (Same.refl _) ?_⟩
          rw [take_snoc hl, List.filter_append, List.map_append, List.map_append]
          simp [e]
      · rw [List.length_map, show (tabsOf Ls).length = Ls.length from List.length_map .., List.take_length] at hL6
        have sH6 : Same H H6 := fun b o e => s6 _ _ (sH5 _ _ e)
        have hn6 := s6 _ _ hn5
        have hc6 := s6 _ _ hc5
        have ht16 := s6 _ _ ht15
        have ht26 := s6 _ _ ht2
        clear s6 hn5 hc5 ht15 ht2 hL5 hD2 sH5
        refine ⟨D2, _, rfl, .inl ⟨SqL.of hL6, fun t3 nt3 => ?_⟩⟩
        have s7 : Same H6 (upd H6 t3 (.tup (((Ls.filter fun l => !isChg l).map (·.t)).map V.str))) := Same.new (Same.refl _) nt3
        have ht3 : (upd H6 t3 (.tup (((Ls.filter fun l => !isChg l).map (·.t)).map V.str))) t3 = some (.tup ((fixOf Ls).map V.str)) := upd_same
        generalize upd H6 t3 (.tup (((Ls.filter fun l => !isChg l).map (·.t)).map V.str)) = H7 at *
        refine ⟨_, rfl, pc, _, rfl, .inl ⟨SqL.of (s7 _ _ hc6), fun t4 nt4 => ⟨by show 4 ≤ sizeLine; decide, fun du ndu => ?_⟩⟩⟩
        have s8 : Same H7 (upd (upd H7 t4 (.tup ((colsOf Ls).map V.str))) du (.lst [.ref t1, .ref t2, .ref t3, .ref t4])) := Same.new (Same.new (Same.refl _) nt4) ndu
        have ht4 : (upd (upd H7 t4 (.tup ((colsOf Ls).map V.str))) du (.lst [.ref t1, .ref t2, .ref t3, .ref t4])) t4 = some (.tup ((colsOf Ls).map V.str)) := by rw [upd_ne (ne_of_none upd_same ndu)]; exact upd_same
        have hdu : (upd (upd H7 t4 (.tup ((colsOf Ls).map V.str))) du (.lst [.ref t1, .ref t2, .ref t3, .ref t4])) du = some (.lst [.ref t1, .ref t2, .ref t3, .ref t4]) := upd_same
        generalize upd (upd H7 t4 (.tup ((colsOf Ls).map V.str))) du (.lst [.ref t1, .ref t2, .ref t3, .ref t4]) = H8 at *
        have sH8 : Same H H8 := fun b o e => s8 _ _ (s7 _ _ (sH6 _ _ e))
        have s68 : Same H6 H8 := fun b o e => s8 _ _ (s7 _ _ e)
        have hn8 := s68 _ _ hn6
        have hc8 := s68 _ _ hc6
        have ht18 := s68 _ _ ht16
        have ht28 := s68 _ _ ht26
        have ht38 := s8 _ _ ht3
        clear s68 s7 s8 nt3 nt4 ndu hn6 hc6 ht16 ht26 ht3 hL6 sH6
        -- more of it
        refine ⟨_, rfl, _, rfl, q, Ls, rfl, hq.same sH8, ok, fun tl rs H9 s9 ntl htl prl => ?_⟩
        refine ⟨_, rfl, pn, _, rfl, .inl (SqL.of (s9 _ _ hn8)), ?_⟩
        refine ⟨_, rfl, by show 3 ≤ sizeLine; decide, fun l3 nl3 => ?_⟩
        have sA : Same H9 (upd H9 l3 (.lst [.ref tl, .int (((tabsOf Ls).map V.str).length : Nat), .ref pn])) := Same.new (Same.refl _) nl3
        refine ⟨du, l3, _, _, rfl, rfl, sA _ _ (s9 _ _ hdu), upd_same, by show 7 ≤ sizeLine; decide, fun du2 ndu2 => ?_⟩
        have sB : Same H9 (upd (upd H9 l3 (.lst [.ref tl, .int (((tabsOf Ls).map V.str).length : Nat), .ref pn])) du2 (.lst ([.ref t1, .ref t2, .ref t3, .ref t4] ++ [.ref tl, .int (((tabsOf Ls).map V.str).length : Nat), .ref pn]))) := Same.new sA ndu2
        have hdu2 : (upd (upd H9 l3 (.lst [.ref tl, .int (((tabsOf Ls).map V.str).length : Nat), .ref pn])) du2 (.lst ([.ref t1, .ref t2, .ref t3, .ref t4] ++ [.ref tl, .int (((tabsOf Ls).map V.str).length : Nat), .ref pn]))) du2 = some (.lst [.ref t1, .ref t2, .ref t3, .ref t4, .ref tl, .int (((tabsOf Ls).map V.str).length : Nat), .ref pn]) := upd_same
        generalize upd (upd H9 l3 (.lst [.ref tl, .int (((tabsOf Ls).map V.str).length : Nat), .ref pn])) du2 (.lst ([.ref t1, .ref t2, .ref t3, .ref t4] ++ [.ref tl, .int (((tabsOf Ls).map V.str).length : Nat), .ref pn])) = HB at *
        have s8B : Same H8 HB := fun b o e => sB _ _ (s9 _ _ e)
        have sHB : Same H HB := fun b o e => s8B _ _ (sH8 _ _ e)
        have hnB := s8B _ _ hn8
        have hcB := s8B _ _ hc8
        have ht1B := s8B _ _ ht18
        have ht2B := s8B _ _ ht28
        have ht3B := s8B _ _ ht38
        have ht4B := s8B _ _ ht4
        have htlB := sB _ _ htl
        have prlB := Paired.mapP prl fun v l r => (LnAt.same r sB : LnAt HB v l)
        clear sA sB s9 s8B nl3 ndu2 hn8 hc8 ht18 ht28 ht38 ht4 htl prl hdu sH8 ntl
        -- told
        have hxB := hx.same sHB
        obtain ⟨dx, pl, pt, pcc, pg, pf, dc, dk, h1, h2⟩ := id hxB
        obtain ⟨rl, hl1, hl2⟩ := id h2.lines
        have len6 : Ls.length ≤ 6 := ok.six
        refine ⟨_, rfl, x, dx, _, rfl, h1, x, dx, _, .ref pt, rfl, h1, rfl, _, rfl, x, dx, _, rfl, h1, x, dx, _, .ref pg, rfl, h1, rfl, _, rfl, x, dx, _, rfl, h1, x, dx, _, .ref pf, rfl, h1, rfl, _, rfl, x, dx, _, rfl, h1, x, dx, _, .ref pcc, rfl, h1, rfl, _, rfl, x, dx, _, rfl, h1, x, dx, _, .ref pl, rfl, h1, rfl, ?_⟩
        refine ⟨_, rfl, x, dx, _, rfl, h1, x, Ls, rfl, hxB, Ls.length, rfl, by omega, fun w hw => ?_⟩
        subst hw
        refine ⟨_, rfl, x, dx, _, rfl, h1, fun ql nql => ?_⟩
        have sQ : Same HB (upd HB ql (.lst [])) := Same.new (Same.refl _) nql
        refine ⟨x, Ls, rfl, hxB.same sQ, fun pt2 it hpt nit => ?_⟩
        have sI : Same HB (upd (upd HB ql (.lst [])) it (K1.TIt pt2 it 0)) := Same.new sQ nit
        have qi : ql ≠ it := fun z => by rw [← z, upd_same] at nit; cases nit
        refine ⟨it, pt2, (tabsOf Ls).map V.str, rfl, upd_same, ⟨dx, _, sI _ _ h1⟩, x, Ls, rfl, hxB.same sI, Ls.length, rfl, by rw [sizeLine_eq]; omega, qi, by rw [upd_ne qi]; exact upd_same, upd_same, SqT.of (by rw [upd_ne (ne_of_none hpt nit)]; exact hpt), by rw [List.length_map, sizeLine_eq]; omega, ?_⟩
        have nqH : HB ql = none := nql
        have niH : HB it = none := by rw [upd_ne (Ne.symm qi)] at nit; exact nit
        have sF : Same HB (upd (upd (upd (upd HB ql (.lst [])) it (K1.TIt pt2 it 0)) it (K1.TEnd it)) ql (.lst ((tabsOf Ls).map V.str))) := fun b o e => by
          rw [upd_ne (ne_of_none e nqH), upd_ne (ne_of_none e niH), upd_ne (ne_of_none e niH), upd_ne (ne_of_none e nqH)]
          exact e
        have hqlF : (upd (upd (upd (upd HB ql (.lst [])) it (K1.TIt pt2 it 0)) it (K1.TEnd it)) ql (.lst ((tabsOf Ls).map V.str))) ql = some (.lst ((tabsOf Ls).map V.str)) := upd_same
        generalize upd (upd (upd (upd HB ql (.lst [])) it (K1.TIt pt2 it 0)) it (K1.TEnd it)) ql (.lst ((tabsOf Ls).map V.str)) = HF at *
        clear sQ sI nql hpt nit
        refine ⟨by show 7 ≤ sizeLine; decide, fun to nto => ?_⟩
        have sG : Same HF (upd HF to (.lst [.ref pt, .ref pg, .ref pf, .ref pcc, .ref pl, .int Ls.length, .ref ql])) := Same.new (Same.refl _) nto
        have htoG : (upd HF to (.lst [.ref pt, .ref pg, .ref pf, .ref pcc, .ref pl, .int Ls.length, .ref ql])) to = some (.lst [.ref pt, .ref pg, .ref pf, .ref pcc, .ref pl, .int Ls.length, .ref ql]) := upd_same
        generalize upd HF to (.lst [.ref pt, .ref pg, .ref pf, .ref pcc, .ref pl, .int Ls.length, .ref ql]) = HG at *
        have sBG : Same HB HG := fun b o e => sG _ _ (sF _ _ e)
        have sHG : Same H HG := fun b o e => sBG _ _ (sHB _ _ e)
        have tabN : ∀ z ∈ tabsOf Ls, nameB z = true := fun z hz => by
          obtain ⟨l, hl, rfl⟩ := List.mem_map.mp hz
          exact (ok.good l hl).name
        have chgN : ∀ z ∈ chgOf Ls, nameB z = true := fun z hz => by
          obtain ⟨l, hl, rfl⟩ := List.mem_map.mp hz
          exact (ok.good l (List.mem_filter.mp hl).1).name
        have fixN : ∀ z ∈ fixOf Ls, nameB z = true := fun z hz => by
          obtain ⟨l, hl, rfl⟩ := List.mem_map.mp hz
          exact (ok.good l (List.mem_filter.mp hl).1).name
        have colIn : ∀ z ∈ colsOf Ls, ∃ l ∈ Ls, z ∈ l.cs := fun z hz => List.mem_flatMap.mp (mem_dedupS.mp (mem_srtd.mp hz))
        have colN : ∀ z ∈ colsOf Ls, nameB z = true := fun z hz => by
          obtain ⟨l, hl, h⟩ := colIn z hz
          exact (ok.good l hl).cols z h
        have colL : (colsOf Ls).length ≤ 6 := by
          obtain ⟨C0, few, inC⟩ := ok.cols
          have n : (colsOf Ls).Nodup := (srtd_perm _).nodup_iff.mpr (nodup_dedupS _)
          refine Nat.le_trans (n.length_le_of_subset fun z hz => ?_) few
          obtain ⟨l, hl, h⟩ := colIn z hz
          exact inC l hl z h
        have chgL : (chgOf Ls).length ≤ 6 := by unfold chgOf; rw [List.length_map]; exact Nat.le_trans (List.length_filter_le _ _) len6
        have fixL : (fixOf Ls).length ≤ 6 := by unfold fixOf; rw [List.length_map]; exact Nat.le_trans (List.length_filter_le _ _) len6
        have small : Sm 100000 60 (.list [.tuple ((tabsOf Ls).map .str), .tuple ((chgOf Ls).map .str), .tuple ((fixOf Ls).map .str), .tuple ((colsOf Ls).map .str), dLines Ls, .int Ls.length, .list ((tabsOf Ls).map .str)]) :=
          ((SmA.cons (SmA.strs (k := 6) tabN six).tup (SmA.cons (SmA.strs (k := 6) chgN chgL).tup (SmA.cons (SmA.strs (k := 6) fixN fixL).tup (SmA.cons (SmA.strs (k := 6) colN colL).tup (SmA.cons (SmA.lns (k := 6) ok.good len6).tup (SmA.cons (Sm.int6 ⟨Ls.length, by omega⟩) (SmA.cons (SmA.strs (k := 6) tabN six).lst SmA.nil))))))).lst).mono (by omega) (by omega)
        have tupD : ∀ {p : Addr} {zs : List Str}, HG p = some (.tup (zs.map V.str)) → Dp K HG (.ref p) (.tuple (zs.map .str)) := fun h => .tup (SqT.of h) (dp_strs _)
        have lnLen : ((((tabsOf Ls).map V.str).length : Nat) : Int) = Ls.length := by rw [List.length_map, show (tabsOf Ls).length = Ls.length from List.length_map ..]
        have dTold : Dp K HG (.ref to) (.list [.tuple ((tabsOf Ls).map .str), .tuple ((chgOf Ls).map .str), .tuple ((fixOf Ls).map .str), .tuple ((colsOf Ls).map .str), dLines Ls, .int Ls.length, .list ((tabsOf Ls).map .str)]) :=
          .lst (SqL.of htoG) (.cons (tupD (sBG _ _ h2.tabs)) (.cons (tupD (sBG _ _ h2.chg)) (.cons (tupD (sBG _ _ h2.fix)) (.cons (tupD (sBG _ _ h2.cols)) (.cons (dp_lines (sBG _ _ hl1) (Paired.mapP hl2 fun v l r => (LnAt.same r sBG : LnAt HG v l))) (.cons (.int _) (.cons (.lst (SqL.of (sG _ _ hqlF)) (dp_strs _)) .nil)))))))
        have dDue : Dp K HG (.ref du2) (.list [.tuple ((tabsOf Ls).map .str), .tuple ((chgOf Ls).map .str), .tuple ((fixOf Ls).map .str), .tuple ((colsOf Ls).map .str), dLines Ls, .int Ls.length, .list ((tabsOf Ls).map .str)]) :=
          .lst (SqL.of (sBG _ _ hdu2)) (.cons (tupD (sBG _ _ ht1B)) (.cons (tupD (sBG _ _ ht2B)) (.cons (tupD (sBG _ _ ht3B)) (.cons (tupD (sBG _ _ ht4B)) (.cons (dp_lines (sBG _ _ htlB) (Paired.mapP prlB fun v l r => (LnAt.same r sBG : LnAt HG v l))) (.cons (lnLen ▸ .int _) (.cons (.lst (SqL.of (sBG _ _ hnB)) (dp_strs _)) .nil)))))))
        refine ⟨_, rfl, to, _, rfl, dTold, small, _, rfl, du2, _, rfl, dDue, small, rfl, _, rfl, ?_⟩
        rw [decide_eq_true rfl]
        refine iteF ?_
        have hnG := sBG _ _ hnB
        have hcG := sBG _ _ hcB
        clear dTold dDue small htoG hqlF sG sF hdu2 ht1B ht2B ht3B ht4B htlB prlB nto
        refine ⟨_, rfl, pn, rfl, ⟨_, SqL.of hnG⟩, ?_⟩
        refine for_it (walk_list (xs := (tabsOf Ls).map V.str)) (fun i σ H' => ∃ (v7 v8 : Option V), σ = [some (.ref q), some (.ref x), some (.ref pn), some (.ref pc), some (.ref D), some (.ref du2), some (.ref to), v7, v8] ∧ Same HG H') ⟨none, none, rfl, Same.refl _⟩ (fun i σ H' _ p => ?_) (fun i y σ H6 H7 hi p yy => ?_) (fun σ H6 p => ?_)
        · obtain ⟨_, _, _, s0⟩ := p
          exact SqL.of (s0 _ _ hnG)
        · obtain ⟨v7, v8, rfl, s0⟩ := p
          obtain ⟨rfl, hy⟩ := yy
          rw [List.getElem?_map] at hy
          obtain ⟨z, hz, rfl⟩ := Option.map_eq_some_iff.mp hy
          obtain ⟨l, hl, rfl⟩ := tabAt hz
          have ml := List.mem_of_getElem? hl
          have lok := ok.good l ml
          have sI : Same H H7 := fun b o e => s0 _ _ (sHG _ _ e)
          obtain ⟨pp, c, kv, g, t1', t2', t3'⟩ := plain sI ml
          dsimp only [gName]
          refine seq_split (fun σ' H' => ∃ kv', σ' = [some (.ref q), some (.ref x), some (.ref pn), some (.ref pc), some (.ref D), some (.ref du2), some (.ref to), some (.str l.t), some kv'] ∧ Same HG H' ∧ KeyV H' kv' l.k) (fun σ' H' h' => ?_) (fun nx hn => ?_)
          · obtain ⟨kv', rfl, s1, hkv⟩ := h'
            have sJ : Same H H' := fun b o e => s1 _ _ (sHG _ _ e)
            have hxJ := hx.same sJ
            obtain ⟨dx2, q1, q2, q3, q4, q5, q6, q7, g1, g2⟩ := id hxJ
            refine ⟨_, rfl, x, dx2, _, rfl, g1, rfl, _, rfl, x, l, Ls, rfl, hxJ, ml, ok.nd, fun c1 hc1 => ?_⟩
            refine ⟨_, rfl, x, dx2, _, rfl, g1, rfl, _, rfl, x, l, Ls, rfl, hxJ, ml, ok.nd, fun w1 hw1 => ?_⟩
            refine ⟨_, rfl, _, rfl, x, dx2, _, rfl, g1, x, .str l.t, Ls, rfl, hxJ, .inl ⟨l.t, rfl, _, rfl, ?_⟩⟩
            have mt : l.t ∈ tabsOf Ls := List.mem_map.mpr ⟨l, ml, rfl⟩
            rw [decide_eq_true mt]
            refine ⟨by show 3 ≤ sizeLine; decide, fun a1 na1 => ?_⟩
            have sK : Same H' (upd H' a1 (.lst [.ref c1, w1, .bl true])) := Same.new (Same.refl _) na1
            have ha1 : (upd H' a1 (.lst [.ref c1, w1, .bl true])) a1 = some (.lst [.ref c1, w1, .bl true]) := upd_same
            generalize upd H' a1 (.lst [.ref c1, w1, .bl true]) = HK at *
            have smL : Sm 100000 60 (.list [.tuple (l.cs.map .str), dKey l.k, .bool true]) := ((SmA.cons (SmA.strs (k := 4) lok.cols lok.few).tup (SmA.cons (Sm.key lok.key lok.few) (SmA.cons (Sm.bl true) SmA.nil))).lst).mono (by omega) (by omega)
            refine ⟨a1, .list [.tuple (l.cs.map .str), dKey l.k, .bool true], rfl, .lst (SqL.of ha1) (.cons (.tup (SqT.of (sK _ _ hc1)) (dp_strs _)) (.cons (dp_key (hw1.same sK)) (.cons (.bl true) .nil))), smL, ?_⟩
            have sHK : Same H HK := fun b o e => sK _ _ (sJ _ _ e)
            obtain ⟨pp3, c3, kv3, g3, t13, t23, t33⟩ := plain sHK ml
            refine ⟨_, rfl, _, rfl, q, .ref pp3, rfl, g3, pp3, _, _, _, rfl, rfl, SqT.of t13, at_of (j := 0) rfl rfl, _, rfl, by show 3 ≤ sizeLine; decide, fun a2 na2 => ?_⟩
            have sL : Same HK (upd HK a2 (.lst [.ref c3, kv', .bl true])) := Same.new (Same.refl _) na2
            refine ⟨a2, .list [.tuple (l.cs.map .str), dKey l.k, .bool true], rfl, .lst (SqL.of upd_same) (.cons (.tup (SqT.of (sL _ _ t23)) (dp_strs _)) (.cons (dp_key ((hkv.same sK).same sL)) (.cons (.bl true) .nil))), smL, rfl, _, rfl, ?_⟩
            rw [decide_eq_true rfl]
            exact iteF ⟨_, _, rfl, fun b o e => sL _ _ (sK _ _ (s1 _ _ e))⟩
          · have lkey := lok.key
            have rd : ∀ {Q' : VK}, Q' kv H7 → (tOp (rIxT K) (tDGet (tVar 0) (tVar 7)) (tC (.int 1))) [some (.ref q), some (.ref x), some (.ref pn), some (.ref pc), some (.ref D), some (.ref du2), some (.ref to), some (.str l.t), v8] H7 Q' := fun {Q'} h =>
              ⟨_, rfl, _, rfl, q, .ref pp, rfl, g, pp, _, _, _, rfl, rfl, SqT.of t1', at_of (j := 1) rfl rfl, h⟩
            have hn2 : ∀ kv', KeyV H7 kv' l.k → nx [some (.ref q), some (.ref x), some (.ref pn), some (.ref pc), some (.ref D), some (.ref du2), some (.ref to), some (.str l.t), some kv'] H7 := fun kv' h => hn _ _ ⟨kv', rfl, s0, h⟩
            refine rd ?_
            cases e : l.k with
            | chg =>
              rw [e] at t3' hn2
              obtain rfl : kv = .str "changing" := t3'
              exact ⟨_, _, _, _, false, rfl, .ty _, .base (.str _), kit_ty (by decide +kernel), _, rfl, iteF (hn2 .non rfl)⟩
            | fix =>
              rw [e] at t3' hn2
              obtain rfl : kv = .non := t3'
              exact ⟨_, _, _, _, false, rfl, .ty _, .base .non, kit_ty (by decide +kernel), _, rfl, iteF (hn2 .non rfl)⟩
            | key ks =>
              rw [e] at t3' hn2
              obtain ⟨kp0, rfl, hkp⟩ := t3'
              exact ⟨_, _, _, _, true, rfl, .ty _, .base (.tup hkp), kit_ty (by decide +kernel), _, rfl, iteT (rd (hn2 (.ref kp0) ⟨kp0, rfl, hkp⟩))⟩
        · obtain ⟨v7, v8, rfl, s0⟩ := p
          have sI : Same H H6 := fun b o e => s0 _ _ (sHG _ _ e)
          have hx6 := hx.same sI
          have few : 1000 ≤ sizeLine := by rw [sizeLine_eq]; decide
          obtain ⟨f1, f2, f3, f4⟩ := txt_fit ⟨Ls.length, by omega⟩ ⟨(colsOf Ls).length, by omega⟩
          have same := txt_same ⟨Ls.length, by omega⟩ ⟨(colsOf Ls).length, by omega⟩
          have e1 : ((((tabsOf Ls).map V.str).length : Nat) : Int) = Ls.length := lnLen
          have e2 : ((((colsOf Ls).map V.str).length : Nat) : Int) = (colsOf Ls).length := by rw [List.length_map]
          obtain ⟨dx2, q1, q2, q3, q4, q5, q6, q7, g1, g2⟩ := id hx6
          refine ⟨_, rfl, pn, _, rfl, .inl (SqL.of (s0 _ _ hnG)), ?_⟩
          rw [e1]
          refine ⟨_, rfl, log_small ⟨Ls.length, by omega⟩, _, _, rfl, rfl, Nat.le_trans f1 few, _, _, rfl, rfl, Nat.le_trans f2 few, ?_⟩
          refine ⟨_, rfl, x, dx2, _, rfl, g1, x, Ls, rfl, hx6, len6, by omega, _, rfl, ?_⟩
          refine ⟨_, rfl, _, rfl, pc, _, rfl, .inl (SqL.of (s0 _ _ hcG)), ?_⟩
          rw [e2]
          refine ⟨_, rfl, log_small ⟨(colsOf Ls).length, by omega⟩, _, _, rfl, rfl, Nat.le_trans f3 few, _, _, rfl, rfl, Nat.le_trans f4 few, rfl, ?_⟩
          rw [show decide (V.str (txtScene Ls.length (colsOf Ls).length) = V.str (("scene of " : Str) ++ (toString ((Ls.length : Nat) : Int) : Str) ++ (" tables, " : Str) ++ (toString (((colsOf Ls).length : Nat) : Int) : Str) ++ (" columns" : Str))) = true from decide_eq_true (by rw [same])]
          exact k H6 sI
end
end B2_

/-! ## B2_29a -/
set_option Elab.async false
set_option linter.all false
set_option maxRecDepth 100000
set_option maxHeartbeats 16000000
namespace B2_
open PySem PySem.Spec PyProof.Rows L2
/-! ### scenes under writes elsewhere -/
theorem SceneIs.off {D : Addr} {H H' : Hp} {Ls : List Ln} {pl pt pc pg pf dc dk : Addr} (h : SceneIs H Ls pl pt pc pg pf dc dk) (s : K1.Off D H H') (hd : ∀ xs, H D ≠ some (.tup xs)) (n1 : dc ≠ D) (n2 : dk ≠ D) : SceneIs H' Ls pl pt pc pg pf dc dk where
  lines := h.lines.imp fun rs q => ⟨s _ _ (fun z => hd _ (z ▸ q.1)) q.1, Paired.mapP q.2 fun v l r => r.off s hd⟩
  tabs := s _ _ (fun z => hd _ (z ▸ h.tabs)) h.tabs
  cols := s _ _ (fun z => hd _ (z ▸ h.cols)) h.cols
  chg := s _ _ (fun z => hd _ (z ▸ h.chg)) h.chg
  fix := s _ _ (fun z => hd _ (z ▸ h.fix)) h.fix
  cby := h.cby.imp fun kvs q => ⟨s _ _ n1 q.1, Paired.mapP q.2 fun kv l r => ⟨r.1, r.2.off s hd⟩⟩
  kby := h.kby.imp fun kvs q => ⟨s _ _ n2 q.1, Paired.mapP q.2 fun kv l r => ⟨r.1, KdAt.off r.2 s hd⟩⟩
theorem SceneAtN.off {C D x : Addr} {H0 H H' : Hp} {Ls : List Ln} (h : SceneAtN C H0 H x Ls) (s : K1.Off D H H') (hd : ∀ xs, H D ≠ some (.tup xs)) (hi : ∀ C' dx fs, H D ≠ some (.ins C' dx fs)) (hD : H0 D ≠ none ∨ ∀ kvs, H D ≠ some (.dK kvs)) : SceneAtN C H0 H' x Ls := by
  obtain ⟨dx, pl, pt, pc, pg, pf, dc, dk, h1, h2, h3, h4⟩ := h
  obtain ⟨k1, e1, _⟩ := id h2.cby
  obtain ⟨k2, e2, _⟩ := id h2.kby
  have nx : x ≠ D := fun z => hi _ _ _ (z ▸ h1)
  have n1 : dc ≠ D := fun z => by
    rcases hD with q | q
    · exact q (z ▸ h3)
    · exact q _ (z ▸ e1)
  have n2 : dk ≠ D := fun z => by
    rcases hD with q | q
    · exact q (z ▸ h4)
    · exact q _ (z ▸ e2)
  exact ⟨dx, pl, pt, pc, pg, pf, dc, dk, s _ _ nx h1, h2.off s hd n1 n2, h3, h4⟩
theorem SceneAtN.same {C x : Addr} {H0 H H' : Hp} {Ls : List Ln} (h : SceneAtN C H0 H x Ls) (s : Same H H') : SceneAtN C H0 H' x Ls := by
  obtain ⟨dx, pl, pt, pc, pg, pf, dc, dk, h1, h2, h3, h4⟩ := h
  exact ⟨dx, pl, pt, pc, pg, pf, dc, dk, s _ _ h1, h2.same s, h3, h4⟩
theorem SceneAtN.but {C x d : Addr} {H0 H H' : Hp} {Ls : List Ln} (h : SceneAtN C H0 H x Ls) (hd : Dice H d) (s : But d H H') : SceneAtN C H0 H' x Ls :=
  h.off s (dice_off hd) (fun C' dx fs z => by obtain ⟨a, b, c, e⟩ := hd; rw [e] at z; cases z) (.inr fun kvs z => by obtain ⟨a, b, c, e⟩ := hd; rw [e] at z; cases z)
theorem SceneAtN.clear {C x F : Addr} {H0 H : Hp} {Ls : List Ln} {kvs : List (Key × V)} {o : HO} (h : SceneAtN C H0 H x Ls) (hF : H F = some (.dK kvs)) (h0 : H0 F ≠ none) : SceneAtN C H0 (upd H F o) x Ls :=
  h.off (K1.Off.refl F H).put (dict_off hF) (fun C' dx fs z => by rw [hF] at z; cases z) (.inl h0)
theorem PlainAt.ne_none {p q : Addr} {H : Hp} {Ls : List Ln} (h : PlainAt H q Ls) (z : H p = none) : q ≠ p := fun e => by
  obtain ⟨kvs, h1, _⟩ := h
  rw [e, z] at h1; cases h1
theorem Dice.put {p d : Addr} {H : Hp} {o : HO} (h : Dice H d) (n : d ≠ p) : Dice (upd H p o) d := by
  obtain ⟨a, b, c, e⟩ := h
  exact ⟨a, b, c, by rw [upd_ne n]; exact e⟩
theorem PlainAt.clear {F q : Addr} {H : Hp} {Ls : List Ln} {kvs : List (Key × V)} {o : HO} (h : PlainAt H q Ls) (hF : H F = some (.dK kvs)) (n : q ≠ F) : PlainAt (upd H F o) q Ls :=
  h.off (K1.Off.refl F H).put n (dict_off hF)
/-! ### the text of the told dicts -/
theorem TupD.dtx {K : PySem.W.Frag} {H : Hp} {F : Addr} {m : Told} (h : TupD H F m) : ∃ kvs, H F = some (.dK kvs) ∧ K1.DTx K H kvs m := by
  obtain ⟨kvs, h1, h2⟩ := h
  exact ⟨kvs, h1, Paired.mapP h2 fun kv e r => ⟨r.1, r.2.imp fun c q => ⟨q.1, SqT.of q.2⟩⟩⟩
def FewT (m : Told) : Prop := m.length ≤ 6 ∧ ∀ e ∈ m, nameB e.1 = true ∧ (∀ z ∈ e.2, nameB z = true) ∧ e.2.length ≤ 4
theorem rows_fit : ∀ {m : Told}, (∀ e ∈ m, nameB e.1 = true ∧ (∀ z ∈ e.2, nameB z = true) ∧ e.2.length ≤ 4) → PyData.leavesShortKv 13 (m.map K1.dRow) = true ∧ PyData.bulkKv (m.map K1.dRow) ≤ 46 * m.length
  | [], _ => ⟨by simp [PyData.leavesShortKv], by simp [PyData.bulkKv]⟩
  | e :: m, h => by
    obtain ⟨a, b⟩ := rows_fit (m := m) fun x hx => h x (List.mem_cons_of_mem _ hx)
    obtain ⟨h1, h2, h3⟩ := h e List.mem_cons_self
    have s1 := Sm.str h1
    have s2 := (SmA.strs (k := 4) h2 h3).tup
    refine ⟨by simp only [List.map_cons, K1.dRow, PyData.leavesShortKv, s1.lf, s2.lf, a, Bool.and_true], ?_⟩
    have b1 := s1.bk
    have b2 := s2.bk
    simp only [List.map_cons, K1.dRow, PyData.bulkKv, List.length_cons]
    omega
theorem dicts_fit : ∀ {rss : List Told}, (∀ m ∈ rss, FewT m) → PyData.leavesShortAll 13 (rss.map K1.dDict) = true ∧ PyData.bulkAll (rss.map K1.dDict) ≤ 300 * rss.length
  | [], _ => ⟨by simp [PyData.leavesShortAll], by simp [PyData.bulkAll]⟩
  | m :: rss, h => by
    obtain ⟨a, b⟩ := dicts_fit (rss := rss) fun x hx => h x (List.mem_cons_of_mem _ hx)
    obtain ⟨h1, h2⟩ := h m List.mem_cons_self
    obtain ⟨c, d⟩ := rows_fit h2
    refine ⟨by simp only [List.map_cons, K1.dDict, PyData.leavesShortAll, PyData.leavesShort, c, Bool.true_and]; simpa [K1.dDict] using a, ?_⟩
    have e : PyData.bulk (K1.dDict m) ≤ 276 := by simp only [K1.dDict, PyData.bulk]; omega
    show PyData.bulk (K1.dDict m) + 1 + PyData.bulkAll (rss.map K1.dDict) ≤ _
    rw [List.length_cons]
    omega
theorem told_fit {rss : List Told} (h : ∀ m ∈ rss, FewT m) (few : rss.length ≤ 10) : (PyData.list (rss.map K1.dDict)).shown.length ≤ sizeLine := by
  obtain ⟨a, b⟩ := dicts_fit h
  refine PyData.shown_fits_bulk (B := 13) (by omega) (by omega) (by simp only [PyData.leavesShort, a]) ?_
  simp only [PyData.bulk]
  have : (2 : Nat) ^ 20 = 1048576 := by decide
  omega
theorem few_mv {Ms : List Ln} (o : LnsOk Ms) : FewT (mvOf Ms) ∧ FewT (stOf Ms) ∧ FewT (gvOf Ms) := by
  refine ⟨⟨Nat.le_trans (len_mv Ms) o.six, fun e he => ?_⟩, ⟨Nat.le_trans (len_st Ms) o.six, fun e he => ?_⟩, ⟨Nat.le_trans (len_gv Ms) o.six, fun e he => ?_⟩⟩
  · obtain ⟨l, hl, rfl⟩ := List.mem_map.mp he
    have g := o.good l (List.mem_filter.mp hl).1
    exact ⟨g.name, g.cols, g.few⟩
  · obtain ⟨l, hl, rfl⟩ := List.mem_map.mp he
    have g := o.good l (List.mem_filter.mp hl).1
    exact ⟨g.name, g.cols, g.few⟩
  · obtain ⟨l, hl, e1⟩ := List.mem_filterMap.mp he
    obtain ⟨ks, q, rfl⟩ := Option.map_eq_some_iff.mp e1
    have g := o.good l hl
    have gk := g.key
    unfold keyO at q
    cases ek : l.k with
    | chg => rw [ek] at q; cases q
    | fix => rw [ek] at q; cases q
    | key k2 =>
      rw [ek] at q gk
      cases q
      exact ⟨g.name, gk.1, Nat.le_trans (gk.2.1.length_le_of_subset gk.2.2) g.few⟩
end B2_

/-! ## B2_29b -/
set_option Elab.async false
set_option linter.all false
set_option maxRecDepth 100000
set_option maxHeartbeats 4000000
namespace B2_
open PySem PySem.Spec PyProof.Rows L2
/-- list(scene) -/
theorem list_own {K : PySem.W.Frag} {C x : Addr} {H : Hp} {Ls : List Ln} {Q : VK} (hx : SceneAt C H x Ls) (six : Ls.length ≤ 6) (q : ∀ p H', Same H H' → H p = none → H' p = some (.lst ((tabsOf Ls).map V.str)) → Q (.ref p) H') : K1.rListOwn C (spIt C) (spLen C) K [.ref x] H Q := by
  obtain ⟨dx, fs, h1⟩ : ∃ dx fs, H x = some (.ins C dx fs) := by
    obtain ⟨dx, _, _, _, _, _, _, _, e, _⟩ := hx
    exact ⟨dx, _, e⟩
  refine ⟨x, dx, _, rfl, h1, fun ql nql => ?_⟩
  have sQ : Same H (upd H ql (.lst [])) := Same.new (Same.refl _) nql
  refine ⟨x, Ls, rfl, hx.same sQ, fun pt2 it hpt nit => ?_⟩
  have len6 : (tabsOf Ls).length ≤ 6 := by unfold tabsOf; rw [List.length_map]; exact six
  have sI : Same H (upd (upd H ql (.lst [])) it (K1.TIt pt2 it 0)) := Same.new sQ nit
  have qi : ql ≠ it := fun z => by rw [← z, upd_same] at nit; cases nit
  refine ⟨it, pt2, (tabsOf Ls).map V.str, rfl, upd_same, ⟨dx, _, sI _ _ h1⟩, x, Ls, rfl, hx.same sI, Ls.length, rfl, by rw [sizeLine_eq]; omega, qi, by rw [upd_ne qi]; exact upd_same, upd_same, SqT.of (by rw [upd_ne (ne_of_none hpt nit)]; exact hpt), by rw [List.length_map, sizeLine_eq]; omega, ?_⟩
  have niH : H it = none := by rw [upd_ne (Ne.symm qi)] at nit; exact nit
  refine q _ _ (fun b o e => ?_) nql upd_same
  rw [upd_ne (ne_of_none e nql), upd_ne (ne_of_none e niH), upd_ne (ne_of_none e niH), upd_ne (ne_of_none e nql)]
  exact e
/-- list(zip(scene, scene)) -/
theorem zip_own {X : Cx} {σ : L2.St} {C x : Addr} {H : Hp} {Ls : List Ln} {Q : VK} (hx : SceneAt C H x Ls) (fr : ∀ i, H i = none → Fr0 X.H_0 i) (q : ∀ S, (∀ b o, H b = some o → LT.lt (α := Nat) b S) → Q (.ref S) (K1.hpPairs H S (((tabsOf Ls).map V.str).zip ((tabsOf Ls).map V.str)))) : K1.tZipOwn X C (spIt C) (fun _ H Q => Q [.ref x, .ref x] H) σ H Q := by
  obtain ⟨dx, fs, h1⟩ : ∃ dx fs, H x = some (.ins C dx fs) := by
    obtain ⟨dx, _, _, _, _, _, _, _, e, _⟩ := hx
    exact ⟨dx, _, e⟩
  refine ⟨x, dx, fs, x, dx, fs, rfl, h1, h1, x, Ls, rfl, hx, fun p1 i1 hp1 n1 => ?_⟩
  have s1 : Same H (upd H i1 (K1.TIt p1 i1 0)) := Same.new (Same.refl _) n1
  refine ⟨i1, p1, _, rfl, rfl, n1, fr _ n1, SqT.of hp1, x, Ls, rfl, hx.same s1, fun p2 i2 hp2 n2 => ?_⟩
  have ne : i2 ≠ i1 := fun z => by rw [z, upd_same] at n2; cases n2
  have n2' : H i2 = none := by rw [upd_ne ne] at n2; exact n2
  have pe : p2 ≠ i1 := fun z => by rw [z, upd_same] at hp2; cases hp2
  exact ⟨i2, p2, _, rfl, rfl, ne, n2', fr _ n2', SqT.of (by rw [upd_ne pe] at hp2; exact hp2), q⟩
theorem dp_ix {K : PySem.W.Frag} {H : Hp} : ∀ (xs : List V) (ds : List PyData), xs.length = ds.length → (∀ (i : Nat) v d, xs[i]? = some v → ds[i]? = some d → Dp K H v d) → DpAll K H xs ds
  | [], [], _, _ => .nil
  | [], _ :: _, h, _ => by simp at h
  | _ :: _, [], h, _ => by simp at h
  | x :: xs, d :: ds, h, q => .cons (q 0 x d rfl rfl) (dp_ix xs ds (by simpa using h) fun i v e a b => q (i + 1) v e (by simpa using a) (by simpa using b))
def dPair (z : Str) : PyData := .tuple [.str z, .str z]
theorem dp_pairs {K : PySem.W.Frag} {H H' : Hp} {S : Addr} {zs : List Str} (s : Same (K1.hpPairs H S ((zs.map V.str).zip (zs.map V.str))) H') : Dp K H' (.ref S) (.list (zs.map dPair)) := by
  refine .lst (SqL.of (s _ _ K1.hpPairs_at)) (dp_ix _ _ (by simp) fun i v d hv hd => ?_)
  rw [List.getElem?_map] at hd
  obtain ⟨z, hz, rfl⟩ := Option.map_eq_some_iff.mp hd
  rw [List.getElem?_map] at hv
  obtain ⟨j, hj, rfl⟩ := Option.map_eq_some_iff.mp hv
  have lt := (List.getElem?_eq_some_iff.mp hj).1
  rw [List.length_range] at lt
  rw [List.getElem?_range lt] at hj
  cases hj
  have e : ((zs.map V.str).zip (zs.map V.str))[i]? = some (.str z, .str z) := by
    rw [List.getElem?_zip_eq_some]
    simp [hz]
  exact .tup (SqT.of (s _ _ (K1.hpPairs_in e))) (.cons (.str z) (.cons (.str z) .nil))
theorem eqv_pairs : ∀ zs : List Str, PyData.eqv (.list (zs.map dPair)) (.list (zs.map dPair)) = true := by
  intro zs
  simp only [PyData.eqv]
  induction zs with
  | nil => simp [PyData.eqvAll]
  | cons z zs ih => simp [dPair, PyData.eqvAll, PyData.eqv] at ih ⊢; exact ih
theorem lay_pairs : ∀ zs : List Str, (∀ z ∈ zs, PyData.strOk z = true) → PyData.canLayAll0 (zs.map dPair) = true ∧ PyData.depthAll (zs.map dPair) ≤ 2
  | [], _ => by simp [PyData.canLayAll0, PyData.depthAll]
  | z :: zs, h => by
    obtain ⟨g1, g2⟩ := lay_pairs zs fun y hy => h y (List.mem_cons_of_mem _ hy)
    have e1 : PyData.canLay0 (dPair z) = true := canLay_strs [z, z] fun y hy => by
      simp at hy; subst hy; exact h _ List.mem_cons_self
    have e2 : PyData.depth (dPair z) = 1 := by
      show PyData.depthAll ([z, z].map PyData.str) + 1 = 1
      rw [depth_strs]
    simp only [List.map_cons, PyData.canLayAll0, PyData.depthAll, g1, e1, e2]
    exact ⟨rfl, by omega⟩
theorem shaped_pairs (zs : List Str) (h : ∀ z ∈ zs, PyData.strOk z = true) : SeqAt.shaped (.list (zs.map dPair)) = true := by
  obtain ⟨g1, g2⟩ := lay_pairs zs h
  unfold SeqAt.shaped
  rw [Bool.and_eq_true]
  refine ⟨by simp only [PyData.canLay0, g1], decide_eq_true ?_⟩
  simp only [PyData.depth]
  omega
theorem pairs_same {H : Hp} {S : Addr} {ps : List (V × V)} (low : ∀ b o, H b = some o → LT.lt (α := Nat) b S) : Same H (K1.hpPairs H S ps) := fun b o e => by
  rw [K1.hpPairs_low (low b o e)]; exact e
end B2_

/-! ## B2_29 -/
set_option Elab.async false
set_option linter.all false
set_option maxRecDepth 100000
set_option maxHeartbeats 16000000
namespace B2_
open PySem PySem.Spec PyProof.Rows L2
/-! ### Scene.of(..) -/
structure OfM (P : Program) (w : World) (K : PySem.W.Frag) (mg : Str → Option Value) (base : Heap) (C : Addr) : Prop where
  ex : ∃ mc p g fd, ClX.CRead K C mc ∧ ClX.CMet K C mc "of" p g ∧ FnOk P w K mg base CX0 10 g fd ["cls", "lines"] (spOf C) ∧ Binds K fd ["cls", "lines"] []
theorem pe_of {X : Cx} {C : Addr} {e : Expr} {es : List Expr} {t : TA} {p apos pos : Pos} {pl : Sem Bool} (M : OfM X.prog X.w X.K X.mg X.base C) (hm : X.mg "Scene" = some (.ref C)) (hg : Gl X "Scene") (hr : Room 10 X.A) (ha : PA X (e :: es) t)
    (hst : starEach (e :: es) X.env = (false, eval e X.env) :: starEach es X.env := by rfl) (hpl : (backTo pos (starEach es X.env)).any (·.1) = false := by rfl)
    (ht : eval (.Call (.Attribute (.Name "Scene" p) "of" apos) (e :: es) [] pos) X.env = (do
      let ov ← eval (.Name "Scene" p) X.env
      standAt apos.atName
      let (f, first) ← holding [ov] (getMethod ov "of" pl)
      callWith pos f first (backTo pos (starEach (e :: es) X.env)) (backToKw pos (keywordEach [] X.env))) := by rfl) :
    PE X (.Call (.Attribute (.Name "Scene" p) "of" apos) (e :: es) [] pos) (ClX.tCMeth C (fun vs H Q E => spOf C (vs ++ []) H Q E) E0 (tC (.ref C)) t) := by
  obtain ⟨mc, q, g, fd, h1, h2, h3, h4⟩ := M.ex
  exact ClX.pe_cmeth (pe_glob hg hm rfl) h1 h2 (h3.raw h4 .nil) hr pass0 ha hst hpl ht
/-! ### _law_right -/
abbrev s_lri : Stmt := topS 40
abbrev N_lri : List Str := ["dice", "scene", "moving", "still", "given", "kept", "one", "two", "due", "three", "other", "odd"]
theorem sc_lri : FnScope N_lri ["dice"] (defScope s_lri) := ⟨rfl, rfl, rfl, by decide +kernel, rfl, by decide +kernel, by decide +kernel⟩
def spLri : Sp := fun vs H Q _ => ∃ d, vs = [.ref d] ∧ Dice H d ∧ ∀ H', But d H H' → Dice H' d → Q (.bl true) H'
section
variable {P : Program} {w : World} {K : PySem.W.Frag} {mg : Str → Option Value} {base : Heap}
theorem ok_lri {f C : Addr} {fd : FuncData} (F : Fun K "_law_right" "_law_right" s_lri f fd) (T : NamesR mg) (W : Ways P w K mg base C) (M : MakeS P w K mg base C) (O : OfM P w K mg base C) (nfT : PySem.W.notFirst K C (.type "tuple") = true) (nfI : PySem.W.notFirst K C (.type "int") = true) (nsT : PySem.W.kitOne K (.type "tuple") (.ref C) = some false) (nsI : PySem.W.kitOne K (.type "int") (.ref C) = some false)
    (CP : Callee P w K mg base CX0 2 "_law_pick" ["dice", "items"] spPick) (CS : Callee P w K mg base CX0 5 "_law_scene" ["dice", "tables", "columns", "still"] spLsc) (CT : Callee P w K mg base CX0 3 "_law_told" ["dice", "scene"] spLto) (CM : Callee P w K mg base CX0 10 "_law_made" ["dice", "scene"] (spLma C)) (CI : Callee P w K mg base CX0 3 "_law_lined" ["dice", "scene"] spLli)
    (CL : Callee P w K mg base CX0 1 "_law_lines" ["scene"] spLls) (CO : Callee P w K mg base CX0 3 "_law_other" ["dice", "scene"] spLot) (CA : K1.CalleeG P w K mg base 6 "_law_asked_right" ["scene", "made"] (spLar C)) : K1.FnOkG P w K mg base 12 f fd ["dice"] spLri := by
  have nd := sc_lri.nd
  obtain ⟨fI, fdI, MI, GI, ⟨g3, B3⟩, _⟩ := M.ex
  refine K1.fn_ofG F sc_lri (fun vs H Q E h => ?_) (fun cdv A outer s H vs Q hr quiet h => ?_)
  · obtain ⟨d, rfl, _⟩ := h
    rfl
  · obtain ⟨d, rfl, hd, k⟩ := h
    have hr1 : Room 1 _ := hr.mono (by decide)
    have hr2 : Room 2 _ := hr.mono (by decide)
    have hr3 : Room 3 _ := hr.mono (by decide)
    have hr4 : Room 4 _ := hr.mono (by decide)
    have hr5 : Room 5 _ := hr.mono (by decide)
    have hr6 : Room 6 _ := hr.mono (by decide)
    have hr9 : Room 9 _ := hr.mono (by decide)
    have hr10 : Room 10 _ := hr.mono (by decide)
    have hu64 : (A.deeper (envOfC "_law_right" (defScope s_lri) s.heap.objs.size f cdv)).units + 64 < cLine := by have := hr.un; omega
    have hu100 : (A.deeper (envOfC "_law_right" (defScope s_lri) s.heap.objs.size f cdv)).units + 100 < cLine := by have := hr.un; omega
    refine ⟨_, (pss_cons
    (ps_set (i := 1) nd rfl (Or.inl rfl) (pe_use CS hr5 rfl pass0 (pa_cons (pv 0) (pa_cons pe_int (pa_cons pe_int (pa_cons (pe_use CP hr2 rfl pass0 (pa_cons (pv 0) (pa_cons (pe_lst (pa_cons pe_int (pa_cons pe_int (pa_cons pe_int pa_nil)))) pa_nil))) pa_nil))))))
    (pss_cons
    (ps_asg (pe_use CT hr3 rfl pass0 (pa_cons (pv 0) (pa_cons (pv 1) pa_nil))) (pg_unl rfl (pgs_cons (pg_name (i := 2) nd rfl (Or.inl rfl)) (pgs_cons (pg_name (i := 3) nd rfl (Or.inl rfl)) (pgs_cons (pg_name (i := 4) nd rfl (Or.inl rfl)) pgs_nil)))))
    (pss_cons
    (ps_set (i := 5) nd rfl (Or.inl rfl) (K1.pe_reprDs quiet hu100 (by rfl) T.repr (by decide +kernel) (pa_cons (pv 2) (pa_cons (pv 3) (pa_cons (pv 4) pa_nil)))))
    (pss_cons
    (ps_par (i := 6) (j := 7) (by rfl) nd rfl rfl (by decide) rfl rfl (pa_cons (pe_use CM hr10 rfl pass0 (pa_cons (pv 0) (pa_cons (pv 1) pa_nil))) (pa_cons (pe_of O W.cl.mgC (by rfl) hr10 (pa_cons (pe_use CI hr3 rfl pass0 (pa_cons (pv 0) (pa_cons (pv 1) pa_nil))) pa_nil)) pa_nil)) (by rfl))
    (pss_cons
    (ps_set (i := 8) nd rfl (Or.inl rfl) (pe_use CL hr1 rfl pass0 (pa_cons (pv 1) pa_nil)))
    (pss_cons
    (ps_set (i := 9) nd rfl (Or.inl rfl) (pe_makeK0 MI GI hr9 rfl W.cl.mgC B3 pass0 (pk_cons (pv 2) (pk_cons (pv 3) (pk_cons (pv 4) pk_nil)))))
    (pss_cons
    (ps_if (PW.pt (pw_or (pt_cmpR op_ne (K1.pe_reprDs quiet hu100 (by rfl) T.repr (by decide +kernel) (pa_cons (pv 2) (pa_cons (pv 3) (pa_cons (pv 4) pa_nil)))) (pv 5) (nomark _)) (pw_or (pt_not (pt_val (K1.pe_useG CA hr6 quiet rfl (pa_cons (pv 1) (pa_cons (pv 6) pa_nil))))) (pw_or1 (pt_not (pt_val (K1.pe_useG CA hr6 quiet rfl (pa_cons (pv 1) (pa_cons (pv 7) pa_nil))))))))) (pss_one ps_never) pss_nil)
    (pss_cons
    (ps_if (PW.pt (pw_or (pt_not (PW.pt (pw_and (pt_cmpR (K1.op_eqOwn (spc_of W.eq) hr1) (pv 6) (pv 7) (nomark _)) (pw_and1 (pt_cmpR (K1.op_eqOwn (spc_of W.eq) hr1) (pv 7) (pv 9) (nomark _)))))) (pw_or (pt_cmpR (K1.op_neOwn (spc_of W.eq) W.neo hr2) (pv 6) (pv 9) (nomark _)) (pw_or1 (pt_cmpR (K1.op_neOwn (spc_of W.eq) W.neo hr2) (pe_of O W.cl.mgC (by rfl) hr10 (pa_cons (pe_prp W.lines W.cl.cl hr2 (pv 6)) pa_nil)) (pv 6) (nomark _)))))) (pss_one ps_never) pss_nil)
    (pss_cons
    (ps_set (i := 10) nd rfl (Or.inl rfl) (pe_of O W.cl.mgC (by rfl) hr10 (pa_cons (pe_use CL hr1 rfl pass0 (pa_cons (pe_use CO hr3 rfl pass0 (pa_cons (pv 0) (pa_cons (pv 1) pa_nil))) pa_nil)) pa_nil)))
    (pss_cons
    (ps_expr (pe_dclear (pv 2)))
    (pss_cons
    (ps_expr (pe_dclear (pv 3)))
    (pss_cons
    (ps_expr (pe_dclear (pv 4)))
    (pss_cons
    (ps_if (PW.pt (pw_or (pt_cmpR (K1.op_eqOwn (spc_of W.eq) hr1) (pv 10) (pv 6) (nomark _)) (pw_or (pt_not (pt_cmpR (K1.op_neOwn (spc_of W.eq) W.neo hr2) (pv 10) (pv 6) (nomark _))) (pw_or (pt_cmpR (K1.op_eqOwn (spc_of W.eq) hr1) (pv 6) (pv 8) (nomark _)) (pw_or (pt_cmpR (K1.op_eqOwn (spc_of W.eq) hr1) (pv 6) pe_int (nomark _)) (pw_or1 (pt_not (pt_val (K1.pe_useG CA hr6 quiet rfl (pa_cons (pv 1) (pa_cons (pv 9) pa_nil))))))))))) (pss_one ps_never) pss_nil)
    (pss_cons
    (ps_if (PW.pt (pw_or (pt_cmpR (op_neD hu64) (pe_op op_cat (pe_callTy (K1.call_listOwnT rfl (spc_of W.iter) (spc_of W.len) hr4) (by rfl) T.list (by decide +kernel) (pa_cons (pv 6) pa_nil)) (pe_callTy (K1.call_listOwnT rfl (spc_of W.iter) (spc_of W.len) hr4) (by rfl) T.list (by decide +kernel) (pa_cons (pv 6) pa_nil))) (pe_op op_rep (pe_callB (call_sortedD rfl) (by rfl) T.sorted (by decide +kernel) (pa_cons (pv 1) pa_nil)) pe_int) (nomark _)) (pw_or1 (pt_cmpR (op_neD hu64) (K1.pe_listZipOwn rfl rfl (spc_of W.iter) hr3 (by rfl) T.list (by rfl) T.zip (pa_cons (pv 6) (pa_cons (pv 6) pa_nil))) (K1.pe_listZip rfl (by rfl) T.list (by rfl) T.zip (pa_cons (pe_callB (call_sortedD rfl) (by rfl) T.sorted (by decide +kernel) (pa_cons (pv 1) pa_nil)) (pa_cons (pe_callB (call_sortedD rfl) (by rfl) T.sorted (by decide +kernel) (pa_cons (pv 1) pa_nil)) pa_nil))) (nomark _))))) (pss_one ps_never) pss_nil)
    (pss_cons
    (ps_set (i := 11) nd rfl (Or.inl rfl) (pe_use CP hr2 rfl pass0 (pa_cons (pv 0) (pa_cons (pe_lst (pa_cons pe_non (pa_cons pe_int (pa_cons (pe_tup pa_nil) (pa_cons (pe_lst pa_nil) (pa_cons pe_dnewK (pa_cons pe_str (pa_cons (pv 6) (pa_cons (pv 8) (pa_cons pe_bl (pa_cons (pe_tup (pa_cons pe_str pa_nil)) pa_nil))))))))))) pa_nil))))
    (pss_one
    (ps_ret (pe_cmpR op_isBl (pe_cmpR (K1.op_inOwn (spc_of W.con) hr1) (pv 11) (pv 6) rfl) pe_bl (nomark _))))))))))))))))))), ?_⟩
    -- a plain scene
    refine ⟨_, rfl, _, rfl, by show 3 ≤ sizeLine; decide, fun a0 na0 => ?_⟩
    refine ⟨d, a0, [.int 1, .int 2, .int 3], rfl, hd.new na0, .inl upd_same, (hd.ne_none na0).symm, by simp, by decide, fun v H2 hv s2 hd2 => ?_⟩
    have k2 : But d H H2 := ((But.refl d H).new na0).trans s2
    obtain ⟨n, rfl, n0, n1⟩ : ∃ n : Int, v = .int n ∧ 0 < n ∧ n < 1073741824 := by
      simp only [List.mem_cons, List.not_mem_nil, or_false] at hv
      rcases hv with rfl | rfl | rfl
      · exact ⟨1, rfl, by decide, by decide⟩
      · exact ⟨2, rfl, by decide, by decide⟩
      · exact ⟨3, rfl, by decide, by decide⟩
    refine ⟨d, 6, 6, n, rfl, hd2, by decide, by decide, by decide, by decide, n0, n1, fun q Ls H3 ok w14 nq s3 hd3 hq => ?_⟩
    have k3 : But d H H3 := k2.trans s3
    clear s2 hd2 na0 hv n0 n1 k2 s3 nq
    -- told
    refine ⟨_, rfl, _, rfl, d, q, Ls, rfl, hd3, hq, ok, fun p m s0 g Ms H4 sh s4 hd4 nm ns ng np n1 n2 n3 hp tm ts tg => ?_⟩
    refine ⟨p, _, rfl, SqL.of hp, rfl, _, _, rfl, _, _, rfl, _, _, rfl, rfl, ?_⟩
    have k4 : But d H H4 := k3.trans s4
    have hq4 := hq.but hd3 s4
    obtain ⟨lo, mo⟩ := shuf_all ok sh
    obtain ⟨to, tord⟩ := told_any lo
    rw [mo] at tord
    obtain ⟨fm, fs, fg⟩ := few_mv lo
    have nmd : m ≠ d := (hd3.ne_none nm).symm
    have nsd : s0 ≠ d := (hd3.ne_none ns).symm
    have ngd : g ≠ d := (hd3.ne_none ng).symm
    have gl : (gvOf Ms).length ≤ 1000 := Nat.le_trans fg.1 (by omega)
    generalize mvOf Ms = mv at *
    generalize stOf Ms = st at *
    generalize gvOf Ms = gv at *
    have fit : (PyData.list ([mv, st, gv].map K1.dDict)).shown.length ≤ sizeLine := told_fit (rss := [mv, st, gv]) (by simpa using ⟨fm, fs, fg⟩) (by show 3 ≤ 10; decide)
    have h3m : ∀ b o, H b = some o → b ≠ m := fun b o e z => by
      have := k3 b o (fun y => nmd (z.symm.trans y)) e
      rw [z, nm] at this; cases this
    have h3s : ∀ b o, H b = some o → b ≠ s0 := fun b o e z => by
      have := k3 b o (fun y => nsd (z.symm.trans y)) e
      rw [z, ns] at this; cases this
    have h3g : ∀ b o, H b = some o → b ≠ g := fun b o e z => by
      have := k3 b o (fun y => ngd (z.symm.trans y)) e
      rw [z, ng] at this; cases this
    have nqm := hq.ne_none nm
    have nqs := hq.ne_none ns
    have nqg := hq.ne_none ng
    clear sh lo mo hp np hq hd3 s4 nm ns ng k3 fm fs fg
    have reads : ∀ {H' : Hp}, TupD H' m mv → TupD H' s0 st → TupD H' g gv → K1.DsAt K H' [.ref m, .ref s0, .ref g] [mv, st, gv] := fun {H'} a b c => by
      obtain ⟨k1, a1, a2⟩ := a.dtx (K := K)
      obtain ⟨k2, b1, b2⟩ := b.dtx (K := K)
      obtain ⟨k3, c1, c2⟩ := c.dtx (K := K)
      exact .cons ⟨m, k1, rfl, a1, a2⟩ (.cons ⟨s0, k2, rfl, b1, b2⟩ (.cons ⟨g, k3, rfl, c1, c2⟩ .nil))
    -- kept
    refine ⟨_, rfl, _, rfl, _, rfl, [mv, st, gv], reads tm ts tg, by show 3 ≤ sizeLine; decide, fit, ?_⟩
    -- one, two
    refine ⟨_, rfl, _, rfl, d, q, Ls, rfl, hd4, hq4, ok, fun x1 H5 s5 hd5 nx1 sc1 => ?_⟩
    have hq5 := hq4.but hd4 s5
    refine ⟨rfl, _, rfl, _, rfl, d, q, Ls, rfl, hd5, hq5, ok, fun p2 rs2 Ms2 H6 sh2 s6 hd6 np2 hp2 pr2 => ?_⟩
    obtain ⟨lo2, mo2⟩ := shuf_all ok sh2
    refine ⟨p2, rs2, Ms2, rfl, hp2, pr2, lo2, fun x2 H7 s7 nx2 sc2 => ⟨_, _, rfl, ?_⟩⟩
    rw [mo2] at sc2
    have k57 : But d H5 H7 := s6.trans (But.same s7)
    have k47 : But d H4 H7 := s5.trans k57
    have hd7 := hd6.same s7
    have sc17 := sc1.but hd5 k57
    have sc27 : SceneAtN C H4 H7 x2 Ls := sc2.backD hd6 (s5.trans s6)
    have hq7 := hq4.but hd4 k47
    have tm7 := tm.but hd4 k47
    have ts7 := ts.but hd4 k47
    have tg7 := tg.but hd4 k47
    have k7 := k4.trans k47
    clear sh2 lo2 mo2 pr2 hp2 np2 s5 s6 s7 hd5 hd6 hq5 sc1 sc2 nx1 nx2 k57 k47
    -- due
    refine ⟨_, rfl, q, Ls, rfl, hq7, ok, fun pd rd H8 s8 npd hpd prd => ?_⟩
    -- three
    refine ⟨_, rfl, _, rfl, _, rfl, rfl, rfl, fun x3 dx nx ndx nex => ?_⟩
    have s3' : Same H8 (upd (upd H8 dx (.own x3)) x3 (.ins C dx [])) := fun b o e => by rw [upd_ne (ne_of_none e nx), upd_ne (ne_of_none e ndx)]; exact e
    have s38 : Same H7 (upd (upd H8 dx (.own x3)) x3 (.ins C dx [])) := fun b o e => s3' _ _ (s8 _ _ e)
    refine ⟨x3, dx, .ref m, .ref s0, .ref g, mv, st, gv, rfl, upd_same, .inr ⟨m, rfl, tm7.same s38⟩, .inr ⟨s0, rfl, ts7.same s38⟩, .inr ⟨g, rfl, tg7.same s38⟩, gl, fun e h => by cases h; exact fun z => n3 (by cases z; rfl), to, fun H9 off sc3 => ⟨rfl, ?_⟩⟩
    rw [tord] at sc3
    have s89 : Same H8 H9 := off_make nx ndx off
    have s79 : Same H7 H9 := fun b o e => s89 _ _ (s8 _ _ e)
    have sc39 : SceneAtN C H7 H9 x3 Ls := sc3.back s38
    have sc19 := sc17.same s79
    have sc29 := sc27.same s79
    have hq9 := hq7.same s79
    have tm9 := tm7.same s79
    have ts9 := ts7.same s79
    have tg9 := tg7.same s79
    have hd9 := hd7.same s79
    have hpd9 := s89 _ _ hpd
    have prd9 := Paired.mapP prd fun v l r => (LnAt.same r s89 : LnAt H9 v l)
    have k9 := k7.trans (But.same s79)
    have m7 : H7 m ≠ none := fun z => by obtain ⟨_, h1, _⟩ := tm7; rw [z] at h1; cases h1
    have s07 : H7 s0 ≠ none := fun z => by obtain ⟨_, h1, _⟩ := ts7; rw [z] at h1; cases h1
    have g7 : H7 g ≠ none := fun z => by obtain ⟨_, h1, _⟩ := tg7; rw [z] at h1; cases h1
    have m4 : H4 m ≠ none := fun z => by obtain ⟨_, h1, _⟩ := tm; rw [z] at h1; cases h1
    have s04 : H4 s0 ≠ none := fun z => by obtain ⟨_, h1, _⟩ := ts; rw [z] at h1; cases h1
    have g4 : H4 g ≠ none := fun z => by obtain ⟨_, h1, _⟩ := tg; rw [z] at h1; cases h1
    clear s3' s38 off sc3 s8 npd nx ndx nex s89 s79 sc17 sc27 hq7 tm7 ts7 tg7 hd7 hpd prd k7
    dsimp only [gName]
    -- first if
    refine ⟨_, rfl, _, rfl, _, rfl, [mv, st, gv], reads tm9 ts9 tg9, by show 3 ≤ sizeLine; decide, fit, _, rfl, rfl, _, rfl, ?_⟩
    rw [decide_eq_true rfl]
    refine iteF ?_
    refine ⟨_, rfl, _, rfl, q, x1, Ls, rfl, hq9, ok, sc19.at, fun HA sA => ⟨true, rfl, iteF ?_⟩⟩
    refine ⟨_, rfl, _, rfl, q, x2, Ls, rfl, hq9.same sA, ok, (sc29.same sA).at, fun HB sB => ⟨true, rfl, iteF ?_⟩⟩
    have sAB : Same H9 HB := fun b o e => sB _ _ (sA _ _ e)
    replace sc39 := sc39.same sAB
    replace sc19 := sc19.same sAB
    replace sc29 := sc29.same sAB
    have hqB := hq9.same sAB
    have tmB := tm9.same sAB
    have tsB := ts9.same sAB
    have tgB := tg9.same sAB
    have hdB := hd9.same sAB
    have hpdB := sAB _ _ hpd9
    have prdB := Paired.mapP prd9 fun v l r => (LnAt.same r sAB : LnAt HB v l)
    have kB := k9.trans (But.same sAB)
    clear sA sB sAB hq9 tm9 ts9 tg9 hd9 hpd9 prd9 k9 reads fit
    -- second if
    have eqS : ∀ {H' : Hp} {a b : Addr} {As Bs : List Ln} {Q' : VK}, SceneAt C H' a As → SceneAt C H' b Bs → (∀ l ∈ As, l.Ok) → (∀ l ∈ Bs, l.Ok) → (∀ r : Bool, (r = true ↔ As = Bs) → Q' (.bl r) H') → spEq K C [.ref a, .ref b] H' Q' E0 := fun {H' a b As Bs Q'} ha hb oa ob h => ⟨a, .ref b, As, rfl, ha, oa, .inr ⟨b, Bs, rfl, hb, ob, h⟩⟩
    have eqY : ∀ {H' : Hp} {b : Addr} {Bs : List Ln}, SceneAt C H' b Bs → K1.EqTy K C H' (.ref b) := fun {H' b Bs} hb => by
      obtain ⟨dx, _, _, _, _, _, _, _, h1, _⟩ := hb
      exact .inr ⟨b, dx, _, rfl, h1⟩
    have insS : ∀ {H' : Hp} {b : Addr} {Bs : List Ln}, SceneAt C H' b Bs → ∃ dx fs, H' b = some (.ins C dx fs) := fun {H' b Bs} hb => by
      obtain ⟨dx, _, _, _, _, _, _, _, h1, _⟩ := hb
      exact ⟨dx, _, h1⟩
    obtain ⟨dx1, fs1, i1⟩ := insS sc19.at
    obtain ⟨dx2, fs2, i2⟩ := insS sc29.at
    refine ⟨_, rfl, _, rfl, x1, dx1, fs1, rfl, i1, eqY sc29.at, eqS sc19.at sc29.at ok.good ok.good fun r hr => ⟨r, rfl, r, rfl, ?_⟩⟩
    obtain rfl : r = true := hr.mpr rfl
    refine iteT ⟨_, rfl, _, rfl, x2, dx2, fs2, rfl, i2, eqY sc39.at, eqS sc29.at sc39.at ok.good ok.good fun r hr => ⟨r, rfl, r, rfl, ?_⟩⟩
    obtain rfl : r = true := hr.mpr rfl
    refine iteF ⟨_, rfl, _, rfl, x1, dx1, fs1, rfl, i1, eqY sc39.at, eqS sc19.at sc39.at ok.good ok.good fun r hr => ⟨r, rfl, !r, rfl, ?_⟩⟩
    obtain rfl : r = true := hr.mpr rfl
    refine iteF ?_
    obtain ⟨dxo, pl, pt, pc, pg, pf, dc, dk, e1, e2, en1, en2⟩ := id sc19
    obtain ⟨rsL, eL, pL⟩ := e2.lines
    refine ⟨rfl, _, rfl, x1, dxo, _, rfl, e1, x1, dxo, _, .ref pl, rfl, e1, rfl, pl, rsL, Ls, rfl, eL, pL, ok.toLnsOk, fun x4 HC sC nx4 sc4 => ?_⟩
    rw [ok.inord] at sc4
    have sc1C := sc19.same sC
    obtain ⟨dx4, fs4, i4⟩ := insS sc4.at
    refine ⟨_, rfl, x4, dx4, fs4, rfl, i4, eqY sc1C.at, eqS sc4.at sc1C.at ok.good ok.good fun r hr => ⟨r, rfl, !r, rfl, ?_⟩⟩
    obtain rfl : r = true := hr.mpr rfl
    refine iteF ?_
    have sc2C := sc29.same sC
    have sc3C := sc39.same sC
    have hqC := hqB.same sC
    have tmC := tmB.same sC
    have tsC := tsB.same sC
    have tgC := tgB.same sC
    have hdC := hdB.same sC
    have hpdC := sC _ _ hpdB
    have prdC := Paired.mapP prdB fun v l r => (LnAt.same r sC : LnAt HC v l)
    have kC := kB.trans (But.same sC)
    clear sc4 i4 sc39 sc19 sc29 hqB tmB tsB tgB hdB hpdB prdB kB e1 e2 en1 en2 eL pL i1 i2 sC nx4
    -- other
    refine ⟨rfl, _, rfl, _, rfl, d, q, Ls, rfl, hdC, hqC, ok, fun po Mo HD okM neM sD hdD npo hqo => ?_⟩
    refine ⟨po, Mo, rfl, hqo, okM, fun pq rq HE sE npq hpq prq => ?_⟩
    refine ⟨pq, rq, Mo, rfl, hpq, prq, okM.toLnsOk, fun x5 HF sF nx5 sc5 => ?_⟩
    rw [okM.inord] at sc5
    have sDF : But d HD HF := But.same fun b o e => sF _ _ (sE _ _ e)
    have sCF : But d HC HF := sD.trans sDF
    have sc1F := sc1C.but hdC sCF
    have sc2F := sc2C.but hdC sCF
    have sc3F := sc3C.but hdC sCF
    have hqF := hqC.but hdC sCF
    have tmF := tmC.but hdC sCF
    have tsF := tsC.but hdC sCF
    have tgF := tgC.but hdC sCF
    have hdF := (hdD.same sE).same sF
    have hpdF := tup_but hpdC hdC sCF
    have kF := kC.trans sCF
    dsimp only [gName]
    obtain ⟨km, em, pm⟩ := id tmF
    obtain ⟨ks, es, ps⟩ := id tsF
    obtain ⟨kg, eg, pg⟩ := id tgF
    refine ⟨_, rfl, .inr (.inr (.inl ⟨rfl, .inl ⟨_, em⟩⟩)), m, km, rfl, rfl, em, ?_⟩
    have es' : upd HF m (.dK []) s0 = some (.dK ks) := by rw [upd_ne (Ne.symm n1)]; exact es
    refine ⟨_, rfl, .inr (.inr (.inl ⟨rfl, .inl ⟨_, es'⟩⟩)), s0, ks, rfl, rfl, es', ?_⟩
    have eg' : upd (upd HF m (.dK [])) s0 (.dK []) g = some (.dK kg) := by rw [upd_ne (Ne.symm n3), upd_ne (Ne.symm n2)]; exact eg
    refine ⟨_, rfl, .inr (.inr (.inl ⟨rfl, .inl ⟨_, eg'⟩⟩)), g, kg, rfl, rfl, eg', ?_⟩
    have hEF : ∀ {a : Addr} {o : HO}, HC a = some o → a ≠ d → HE a ≠ none := fun {a o} z n y => by
      have := (sD.trans (But.same sE)) _ _ n z
      rw [y] at this; cases this
    obtain ⟨km', emC, _⟩ := id tmC
    obtain ⟨ks', esC, _⟩ := id tsC
    obtain ⟨kg', egC, _⟩ := id tgC
    have hdG := ((hdF.put (Ne.symm nmd) (o := .dK [])).put (Ne.symm nsd) (o := .dK [])).put (Ne.symm ngd) (o := .dK [])
    have sc1G := ((sc1F.clear em m4 (o := .dK [])).clear es' s04 (o := .dK [])).clear eg' g4 (o := .dK [])
    have sc2G := ((sc2F.clear em m4 (o := .dK [])).clear es' s04 (o := .dK [])).clear eg' g4 (o := .dK [])
    have sc3G := ((sc3F.clear em m7 (o := .dK [])).clear es' s07 (o := .dK [])).clear eg' g7 (o := .dK [])
    have sc5G := ((sc5.clear em (hEF emC nmd) (o := .dK [])).clear es' (hEF esC nsd) (o := .dK [])).clear eg' (hEF egC ngd) (o := .dK [])
    have hqG := ((hqF.clear em nqm (o := .dK [])).clear es' nqs (o := .dK [])).clear eg' nqg (o := .dK [])
    have kG : ∀ b o, H b = some o → b ≠ d → upd (upd (upd HF m (.dK [])) s0 (.dK [])) g (.dK []) b = some o := fun b o e n => by
      rw [upd_ne (h3g b o e), upd_ne (h3s b o e), upd_ne (h3m b o e)]
      exact kF _ _ n e
    have tne : ∀ {a b : Addr} {xs : List V} {kvs : List (Key × V)}, HF a = some (.tup xs) → HF b = some (.dK kvs) → a ≠ b := fun {a b xs kvs} x y z => by
      rw [z, y] at x; cases x
    have hpdG : upd (upd (upd HF m (.dK [])) s0 (.dK [])) g (.dK []) pd = some (.tup rd) := by
      rw [upd_ne (tne hpdF eg), upd_ne (tne hpdF es), upd_ne (tne hpdF em)]; exact hpdF
    generalize upd (upd (upd HF m (.dK [])) s0 (.dK [])) g (.dK []) = HG at *
    dsimp only
    clear sc1F sc2F sc3F sc5 hqF tmF tsF tgF hdF hpdF kF em pm es ps eg pg es' eg' hEF emC esC egC tne sc1C sc2C sc3C hqC tmC tsC tgC hdC hpdC kC sD sE sF sDF sCF hdD npo hqo npq hpq prq nx5
    -- third if
    obtain ⟨dx5, fs5, i5⟩ := insS sc5G.at
    obtain ⟨dx1, fs1, i1⟩ := insS sc1G.at
    refine ⟨_, rfl, _, rfl, x5, dx5, fs5, rfl, i5, eqY sc1G.at, eqS sc5G.at sc1G.at okM.good ok.good fun r hr => ⟨r, rfl, r, rfl, ?_⟩⟩
    have r0 : r = false := by
      cases r with
      | false => rfl
      | true => exact absurd (hr.mp rfl) neM
    subst r0
    clear hr
    refine iteF ⟨_, rfl, _, rfl, x5, dx5, fs5, rfl, i5, eqY sc1G.at, eqS sc5G.at sc1G.at okM.good ok.good fun r hr => ⟨r, rfl, !r, rfl, ?_⟩⟩
    have r0 : r = false := by
      cases r with
      | false => rfl
      | true => exact absurd (hr.mp rfl) neM
    subst r0
    clear hr
    have tyD : TyX K HG (.ref pd) (.type "tuple") := .base (.tup hpdG)
    refine iteF ⟨_, rfl, _, rfl, x1, dx1, fs1, rfl, i1, .inl ⟨_, tyD, nfT⟩, ⟨x1, .ref pd, Ls, rfl, sc1G.at, ok.good, .inl ⟨⟨_, tyD, nsT⟩, false, rfl, false, rfl, iteF ?_⟩⟩⟩
    have ty7 : TyX K HG (.int 7) (.type "int") := .base (.int 7)
    refine ⟨_, rfl, x1, dx1, fs1, rfl, i1, .inl ⟨_, ty7, nfI⟩, ⟨x1, .int 7, Ls, rfl, sc1G.at, ok.good, .inl ⟨⟨_, ty7, nsI⟩, false, rfl, false, rfl, iteF ?_⟩⟩⟩
    refine ⟨_, rfl, _, rfl, q, x3, Ls, rfl, hqG, ok, sc3G.at, fun HJ sJ => ⟨true, rfl, iteF ?_⟩⟩
    have sc1J := sc1G.same sJ
    have hqJ := hqG.same sJ
    have hdJ := hdG.same sJ
    have hpdJ := sJ _ _ hpdG
    have kJ : ∀ b o, H b = some o → b ≠ d → HJ b = some o := fun b o e n => sJ _ _ (kG b o e n)
    clear sc1G sc2G sc3G sc5G hqG hdG hpdG kG i5 i1 tyD ty7 sJ h3m h3s h3g
    -- fourth if
    have okT : ∀ z ∈ tabsOf Ls, PyData.strOk z = true := fun z hz => by
      obtain ⟨l, hl, rfl⟩ := List.mem_map.mp hz
      exact name_strOk (ok.good l hl).name
    have okTT : ∀ z ∈ tabsOf Ls ++ tabsOf Ls, PyData.strOk z = true := fun z hz => by
      rcases List.mem_append.mp hz with h | h
      · exact okT z h
      · exact okT z h
    have len6 : (tabsOf Ls).length ≤ 6 := by unfold tabsOf; rw [List.length_map]; exact ok.six
    refine ⟨_, rfl, ?_⟩
    dsimp only [tNil, List.append_nil]
    refine list_own (K := K) sc1J.at ok.six fun p1 H11 s11 np1 hp1 => ?_
    refine ⟨_, rfl, ?_⟩
    dsimp only [tNil, List.append_nil]
    refine list_own (K := K) (sc1J.same s11).at ok.six fun p2 H12 s12 np2 hp2 => ?_
    refine ⟨p1, p2, _, _, rfl, rfl, s12 _ _ hp1, hp2, by rw [List.length_map, sizeLine_eq]; omega, fun p3 np3 => ?_⟩
    have s3 : Same HJ (upd H12 p3 (.lst ((tabsOf Ls).map V.str ++ (tabsOf Ls).map V.str))) := fun b o e => by
      rw [upd_ne (ne_of_none (s12 _ _ (s11 _ _ e)) np3)]; exact s12 _ _ (s11 _ _ e)
    have hp3 : upd H12 p3 (.lst ((tabsOf Ls).map V.str ++ (tabsOf Ls).map V.str)) p3 = some (.lst ((tabsOf Ls ++ tabsOf Ls).map V.str)) := by rw [upd_same, List.map_append]
    generalize upd H12 p3 (.lst ((tabsOf Ls).map V.str ++ (tabsOf Ls).map V.str)) = H13 at *
    obtain ⟨kq3, hqk3, pr3⟩ := hqJ.same s3
    refine ⟨_, rfl, q, kq3, tabsOf Ls, rfl, Rd.of hqk3, plain_keys pr3, by omega, fun ys p4 yp yo np4 => ?_⟩
    obtain rfl := srtd_of yp yo
    rw [ok.tabs]
    refine ⟨p4, 2, _, rfl, rfl, upd_same, by decide, by decide, by rw [List.length_map, sizeLine_eq]; show _ * 2 ≤ _; omega, fun p5 np5 => ?_⟩
    have np5' : H13 p5 = none := by
      rw [upd_ne (fun z => by rw [z, upd_same] at np5; cases np5)] at np5; exact np5
    have fl : (List.replicate (2 : Int).toNat ((tabsOf Ls).map V.str)).flatten = (tabsOf Ls ++ tabsOf Ls).map V.str := by
      rw [List.map_append]
      show ((tabsOf Ls).map V.str) ++ (((tabsOf Ls).map V.str) ++ []) = _
      rw [List.append_nil]
    rw [fl]
    have s5 : Same H13 (upd (upd H13 p4 (.lst ((tabsOf Ls).map V.str))) p5 (.lst ((tabsOf Ls ++ tabsOf Ls).map V.str))) := Same.new (Same.new (Same.refl _) np4) np5
    have hp5 : upd (upd H13 p4 (.lst ((tabsOf Ls).map V.str))) p5 (.lst ((tabsOf Ls ++ tabsOf Ls).map V.str)) p5 = some (.lst ((tabsOf Ls ++ tabsOf Ls).map V.str)) := upd_same
    generalize upd (upd H13 p4 (.lst ((tabsOf Ls).map V.str))) p5 (.lst ((tabsOf Ls ++ tabsOf Ls).map V.str)) = H15 at *
    refine ⟨.list ((tabsOf Ls ++ tabsOf Ls).map .str), .list ((tabsOf Ls ++ tabsOf Ls).map .str), .lst (SqL.of (s5 _ _ hp3)) (dp_strs _), .lst (SqL.of hp5) (dp_strs _), shaped_strs _ okTT, shaped_strs _ okTT, _, rfl, ?_⟩
    have eq1 : PyData.eqv (.list ((tabsOf Ls ++ tabsOf Ls).map .str)) (.list ((tabsOf Ls ++ tabsOf Ls).map .str)) = true := by
      simp only [PyData.eqv]
      exact (eqv_strs _ _).mpr rfl
    rw [eq1]
    refine iteF ?_
    have s35 : Same HJ H15 := fun b o e => s5 _ _ (s3 _ _ e)
    have fr : ∀ i, H15 i = none → Fr0 H i := fun i z o e => by
      by_cases n : i = d
      · obtain ⟨a, b, c, y⟩ := hdJ
        rw [n, s35 _ _ y] at z; cases z
      · rw [s35 _ _ (kJ i o e n)] at z; cases z
    have sc1N := sc1J.same s35
    have hqN := hqJ.same s35
    clear s3 s5 hp3 hp5 np5 np5' np4 yp yo np3 hp1 hp2 np1 np2 s11 s12 hqk3 pr3 fl
    refine ⟨_, rfl, _, rfl, ?_⟩
    refine zip_own (σ := []) sc1N.at fr fun S low => ?_
    have sP := pairs_same (ps := ((tabsOf Ls).map V.str).zip ((tabsOf Ls).map V.str)) low
    have hqP := hqN.same sP
    obtain ⟨kq5, hqk5, pr5⟩ := id hqP
    refine ⟨_, rfl, q, kq5, tabsOf Ls, rfl, Rd.of hqk5, plain_keys pr5, by omega, fun ys p6 yp yo np6 => ?_⟩
    obtain rfl := srtd_of yp yo
    rw [ok.tabs]
    have s6 : Same (K1.hpPairs H15 S (((tabsOf Ls).map V.str).zip ((tabsOf Ls).map V.str))) (upd (K1.hpPairs H15 S (((tabsOf Ls).map V.str).zip ((tabsOf Ls).map V.str))) p6 (.lst ((tabsOf Ls).map V.str))) := Same.new (Same.refl _) np6
    have hp6 : upd (K1.hpPairs H15 S (((tabsOf Ls).map V.str).zip ((tabsOf Ls).map V.str))) p6 (.lst ((tabsOf Ls).map V.str)) p6 = some (.lst ((tabsOf Ls).map V.str)) := upd_same
    generalize upd (K1.hpPairs H15 S (((tabsOf Ls).map V.str).zip ((tabsOf Ls).map V.str))) p6 (.lst ((tabsOf Ls).map V.str)) = H16 at *
    obtain ⟨kq6, hqk6, pr6⟩ := hqP.same s6
    refine ⟨_, rfl, q, kq6, tabsOf Ls, rfl, Rd.of hqk6, plain_keys pr6, by omega, fun ys p7 yp yo np7 => ?_⟩
    obtain rfl := srtd_of yp yo
    rw [ok.tabs]
    have s7 : Same H16 (upd H16 p7 (.lst ((tabsOf Ls).map V.str))) := Same.new (Same.refl _) np7
    have hp7 : upd H16 p7 (.lst ((tabsOf Ls).map V.str)) p7 = some (.lst ((tabsOf Ls).map V.str)) := upd_same
    generalize upd H16 p7 (.lst ((tabsOf Ls).map V.str)) = H17 at *
    refine ⟨p6, p7, _, _, rfl, SqL.of (s7 _ _ hp6), SqL.of hp7, fun S2 low2 => ?_⟩
    have sP2 := pairs_same (ps := ((tabsOf Ls).map V.str).zip ((tabsOf Ls).map V.str)) low2
    refine ⟨_, _, dp_pairs (fun b o e => sP2 _ _ (s7 _ _ (s6 _ _ e))), dp_pairs (Same.refl _), shaped_pairs _ okT, shaped_pairs _ okT, _, rfl, ?_⟩
    rw [eqv_pairs]
    refine iteF ?_
    have sAll : Same HJ (K1.hpPairs H17 S2 (((tabsOf Ls).map V.str).zip ((tabsOf Ls).map V.str))) := fun b o e => sP2 _ _ (s7 _ _ (s6 _ _ (sP _ _ (s35 _ _ e))))
    generalize K1.hpPairs H17 S2 (((tabsOf Ls).map V.str).zip ((tabsOf Ls).map V.str)) = HQ at *
    have sc1Q := sc1J.same sAll
    have hdQ := hdJ.same sAll
    have hpdQ := sAll _ _ hpdJ
    have kQ : ∀ b o, H b = some o → b ≠ d → HQ b = some o := fun b o e n => sAll _ _ (kJ b o e n)
    clear sAll sP2 s7 s6 sP s35 sc1J hqJ hdJ hpdJ kJ hqN hqP hqk5 pr5 hqk6 pr6 hp6 hp7 sc1N low low2 np6 np7 yp yo fr
    -- odd
    dsimp only [tNext]
    refine ⟨_, rfl, by show 0 ≤ sizeLine; decide, fun a1 n1 => ?_⟩
    refine ⟨by show 0 ≤ sizeLine; decide, fun a2 n2 => ?_⟩
    refine fun a3 n3 => ⟨_, rfl, _, rfl, by show 1 ≤ sizeLine; decide, fun a4 n4 => ⟨by show 10 ≤ sizeLine; decide, fun a5 n5 => ?_⟩⟩
    have t1 : Same HQ (upd HQ a1 (.tup [])) := Same.new (Same.refl _) n1
    have e1 : upd HQ a1 (.tup []) a1 = some (.tup []) := upd_same
    generalize upd HQ a1 (.tup []) = HR1 at *
    have t2 : Same HR1 (upd HR1 a2 (.lst [])) := Same.new (Same.refl _) n2
    have e2 : upd HR1 a2 (.lst []) a2 = some (.lst []) := upd_same
    generalize upd HR1 a2 (.lst []) = HR2 at *
    have t3 : Same HR2 (upd HR2 a3 (.dK [])) := Same.new (Same.refl _) n3
    have e3 : upd HR2 a3 (.dK []) a3 = some (.dK []) := upd_same
    generalize upd HR2 a3 (.dK []) = HR3 at *
    have t4 : Same HR3 (upd HR3 a4 (.tup [.str (Str.ofString "a")])) := Same.new (Same.refl _) n4
    have e4 : upd HR3 a4 (.tup [.str (Str.ofString "a")]) a4 = some (.tup [.str (Str.ofString "a")]) := upd_same
    generalize upd HR3 a4 (.tup [.str (Str.ofString "a")]) = HR4 at *
    have hd4 : Dice HR4 d := (((hdQ.same t1).same t2).same t3).same t4
    have t5 := Same.new (o := .lst [.non, .int 0, .ref a1, .ref a2, .ref a3, .str (Str.ofString "nobody"), .ref x1, .ref pd, .bl true, .ref a4]) (Same.refl HR4) n5
    refine ⟨d, a5, _, rfl, hd4.same t5, .inl upd_same, (hd4.ne_none n5).symm, by simp, by show 10 ≤ 1000; decide, fun v HS hv sS hdS => ?_⟩
    generalize upd HR4 a5 _ = HR5 at *
    have kp : ∀ {b : Addr} {o : HO}, HR4 b = some o → b ≠ d → HS b = some o := fun {b o} e n => sS _ _ n (t5 _ _ e)
    have nd1 : ∀ {b : Addr} {xs : List V}, HR4 b = some (.tup xs) → b ≠ d := fun {b xs} e z => dice_off hd4 xs (z ▸ e)
    have nd3 : ∀ {b : Addr} {xs : List (Key × V)}, HR4 b = some (.dK xs) → b ≠ d := fun {b xs} e z => by
      obtain ⟨_, _, _, y⟩ := hd4
      rw [z, y] at e; cases e
    have nd2 : a2 ≠ d := ((hdQ.same t1).ne_none n2).symm
    have sc1S : SceneAtN C H4 HS x1 Ls := ((((sc1Q.same t1).same t2).same t3).same t4 |>.same t5).but (hd4.same t5) sS
    obtain ⟨dx1, fs1, i1⟩ := insS sc1S.at
    have fin : ∀ r : Bool, r = false → Q (.bl (decide (r = false))) HS := fun r e => by
      rw [e]
      exact k HS (fun b o n e => kp (t4 _ _ (t3 _ _ (t2 _ _ (t1 _ _ (kQ b o e n))))) n) hdS
    have none : NoText K HS v → spCon K C [.ref x1, v] HS (fun v H' => ∃ b, v = V.bl b ∧ ∃ a c : Bool, V.bl b = .bl a ∧ V.bl false = .bl c ∧ Q (.bl (decide (a = c))) H') E0 := fun n =>
      ⟨x1, v, Ls, rfl, sc1S.at, .inr ⟨n, false, rfl, false, false, rfl, rfl, fin false rfl⟩⟩
    refine ⟨_, rfl, _, rfl, x1, dx1, fs1, rfl, i1, ?_⟩
    simp only [List.mem_cons, List.not_mem_nil, or_false] at hv
    rcases hv with rfl | rfl | rfl | rfl | rfl | rfl | rfl | rfl | rfl | rfl
    · exact none ⟨_, .base .non, rfl⟩
    · exact none ⟨_, .base (.int 0), rfl⟩
    · exact none ⟨_, .base (.tup (kp (t4 _ _ (t3 _ _ (t2 _ _ e1))) (nd1 (t4 _ _ (t3 _ _ (t2 _ _ e1)))))), rfl⟩
    · exact none ⟨_, .base (.lst (kp (t4 _ _ (t3 _ _ e2)) nd2)), rfl⟩
    · exact none ⟨_, .base (.dK (kp (t4 _ _ e3) (nd3 (t4 _ _ e3)))), rfl⟩
    · refine ⟨x1, _, Ls, rfl, sc1S.at, .inl ⟨_, rfl, _, rfl, _, false, rfl, rfl, fin _ (decide_eq_false fun z => ?_)⟩⟩
      obtain ⟨l, hl, e⟩ := List.mem_map.mp z
      have := w14 l hl
      rw [e] at this
      revert this
      decide
    · exact none ⟨_, ty_scene W.ci sc1S.at, W.ci.str⟩
    · exact none ⟨_, .base (.tup (kp (t4 _ _ (t3 _ _ (t2 _ _ (t1 _ _ hpdQ)))) (nd1 (t4 _ _ (t3 _ _ (t2 _ _ (t1 _ _ hpdQ))))))), rfl⟩
    · exact none ⟨_, .base (.bl true), rfl⟩
    · exact none ⟨_, .base (.tup (kp e4 (nd1 e4))), rfl⟩
end
end B2_

/-! ## C19 -/
set_option Elab.async false
set_option linter.all false
set_option maxRecDepth 100000
set_option maxHeartbeats 4000000
namespace K1
open PySem PySem.Spec PyProof.Rows L2
/-- the letters of a text, each a text -/
def ltrs (x : Str) : List Str := x.cps.toList.map fun c => ⟨#[c]⟩
/-- list(text) -/
theorem call_listStr {X : Cx} (hc : X.calm = true) : CallR X (.type "list") (fun xs H Q => ∃ x : Str, xs = [.str x] ∧ x.cps.size ≤ sizeLine ∧ ∀ p, H p = none → Q (.ref p) (upd H p (.lst ((ltrs x).map V.str)))) := by
  intro pins s σ H xs us Q I rv h
  obtain ⟨x, rfl, hz, q⟩ := h
  obtain ⟨u, rfl, r⟩ := vals1 rv
  obtain ⟨t, rfl⟩ := r
  refine call_list_str (I.ok.hd hc) x t (hn := hz) fun h' tk acc c' hk e hi => ?_
  refine ⟨.ref s.heap.objs.size, upd H s.heap.objs.size (.lst ((ltrs x).map V.str)), I.laid hk (Nat.le_refl _) ⟨by simpa [ltrs] using hz, acc.toList, c', ?_, by rw [Array.toArray_toList]; exact e⟩, rfl, q _ (I.hok.fresh (Nat.le_refl _))⟩
  refine vals_of_idx _ _ (by simpa [ltrs] using hi.1) fun j u hj => ?_
  obtain ⟨c, t', hc, rfl⟩ := hi.2 j u (by rw [← Array.getElem?_toList]; exact hj)
  exact ⟨.str ⟨#[c]⟩, by simp [ltrs, hc], ⟨_, rfl⟩⟩
end K1

/-! ## C20 -/
set_option Elab.async false
set_option linter.all false
set_option maxRecDepth 100000
set_option maxHeartbeats 4000000
namespace K1
open PySem PySem.Spec PyProof.Rows L2
theorem sql_same {K : PySem.W.Frag} {H H' : Hp} {a : Addr} {xs : List V} (h : SqL K H a xs) (s : Same H H') : SqL K H' a xs := by
  rcases h with (h | ⟨o, h⟩) | h
  · exact .inl (.inl (s _ _ h))
  · exact .inl (.inr ⟨o, s _ _ h⟩)
  · exact .inr h
theorem sqt_same {K : PySem.W.Frag} {H H' : Hp} {a : Addr} {xs : List V} (h : SqT K H a xs) (s : Same H H') : SqT K H' a xs := by
  rcases h with (h | ⟨o, h⟩) | h
  · exact .inl (.inl (s _ _ h))
  · exact .inl (.inr ⟨o, s _ _ h⟩)
  · exact .inr h
mutual
theorem dp_same {K : PySem.W.Frag} {H H' : Hp} (s : Same H H') : ∀ (d : PyData) (v : V), Dp K H v d → Dp K H' v d
  | .list ds, _, h => by
    cases h with
    | lst a b => exact .lst (sql_same a s) (dpa_same s ds _ b)
  | .tuple ds, _, h => by
    cases h with
    | tup a b => exact .tup (sqt_same a s) (dpa_same s ds _ b)
  | .none, _, h => by cases h; exact .non
  | .bool _, _, h => by cases h; exact .bl _
  | .int _, _, h => by cases h; exact .int _
  | .str _, _, h => by cases h; exact .str _
  | .dict _, _, h => by cases h
theorem dpa_same {K : PySem.W.Frag} {H H' : Hp} (s : Same H H') : ∀ (ds : List PyData) (vs : List V), DpAll K H vs ds → DpAll K H' vs ds
  | [], _, h => by cases h; exact .nil
  | d :: r, _, h => by
    cases h with
    | cons a b => exact .cons (dp_same s d _ a) (dpa_same s r _ b)
end
/-! ### a written value: its reading lays it -/
mutual
inductive WR : TE → PyData → Prop
  | str (x : Str) : WR (tC (.str x)) (.str x)
  | int (i : Int) : WR (tC (.int i)) (.int i)
  | bl (b : Bool) : WR (tC (.bl b)) (.bool b)
  | non : WR (tC .non) .none
  | tup {t : TA} {ds : List PyData} : WRs t ds → ds.length ≤ 100 → WR (tTup t) (.tuple ds)
  | lst {t : TA} {ds : List PyData} : WRs t ds → ds.length ≤ 100 → WR (tLst t) (.list ds)
inductive WRs : TA → List PyData → Prop
  | nil : WRs tNil []
  | cons {te : TE} {t : TA} {d : PyData} {ds : List PyData} : WR te d → WRs t ds → WRs (tCons te t) (d :: ds)
end
theorem dpa_len {K : PySem.W.Frag} {H : Hp} : ∀ {xs : List V} {ds : List PyData}, DpAll K H xs ds → xs.length = ds.length
  | _, _, .nil => rfl
  | _, _, .cons _ h => by rw [List.length_cons, List.length_cons, dpa_len h]
mutual
theorem WR.read {K : PySem.W.Frag} {σ : L2.St} : ∀ {te : TE} {d : PyData}, WR te d → ∀ {H : Hp} {Q : VK}, (∀ v H', Same H H' → Dp K H' v d → Q v H') → te σ H Q
  | _, _, .str x, H, Q, h => h _ H (Same.refl H) (.str x)
  | _, _, .int x, H, Q, h => h _ H (Same.refl H) (.int x)
  | _, _, .bl x, H, Q, h => h _ H (Same.refl H) (.bl x)
  | _, _, .non, H, Q, h => h _ H (Same.refl H) .non
  | _, _, .tup (ds := ds) r l, H, Q, h => by
    refine WRs.read (K := K) r fun xs H1 s1 dp => ⟨?_, fun p hp => ?_⟩
    · rw [dpa_len dp, sizeLine_eq]; omega
    · have s2 : Same H1 (upd H1 p (.tup xs)) := fun b u e => by rw [upd_ne (ne_of_none e hp)]; exact e
      exact h _ _ (fun b u e => s2 _ _ (s1 _ _ e)) (.tup (SqT.of upd_same) (dpa_same s2 _ _ dp))
  | _, _, .lst (ds := ds) r l, H, Q, h => by
    refine WRs.read (K := K) r fun xs H1 s1 dp => ⟨?_, fun p hp => ?_⟩
    · rw [dpa_len dp, sizeLine_eq]; omega
    · have s2 : Same H1 (upd H1 p (.lst xs)) := fun b u e => by rw [upd_ne (ne_of_none e hp)]; exact e
      exact h _ _ (fun b u e => s2 _ _ (s1 _ _ e)) (.lst (SqL.of upd_same) (dpa_same s2 _ _ dp))
theorem WRs.read {K : PySem.W.Frag} {σ : L2.St} : ∀ {t : TA} {ds : List PyData}, WRs t ds → ∀ {H : Hp} {Q : List V → Hp → Prop}, (∀ xs H', Same H H' → DpAll K H' xs ds → Q xs H') → t σ H Q
  | _, _, .nil, H, Q, h => h [] H (Same.refl H) .nil
  | _, _, .cons (d := d) a b, H, Q, h => WR.read (K := K) a fun v H1 s1 dv => WRs.read (K := K) b fun xs H2 s2 dx => h (v :: xs) H2 (fun b u e => s2 _ _ (s1 _ _ e)) (.cons (dp_same s2 _ _ dv) dx)
end
end K1

/-! ## B2_30a -/
set_option Elab.async false
set_option linter.all false
set_option maxRecDepth 100000
set_option maxHeartbeats 16000000
namespace B2_
open PySem PySem.Spec PyProof.Rows L2
/-! ### written scenes -/
def insT (l : Str) : List Str → List Str
  | [] => [l]
  | a :: r => if leT l a = true then l :: a :: r else a :: insT l r
def srtI : List Str → List Str
  | [] => []
  | l :: r => insT l (srtI r)
theorem insT_perm (l : Str) : ∀ r : List Str, (insT l r).Perm (l :: r)
  | [] => .refl _
  | a :: r => by
    unfold insT
    split
    · exact .refl _
    · exact ((insT_perm l r).cons a).trans (.swap l a r)
theorem srtI_perm : ∀ r : List Str, (srtI r).Perm r
  | [] => .refl _
  | l :: r => (insT_perm l (srtI r)).trans ((srtI_perm r).cons l)
theorem leT_refl (a : Str) : leT a a = true := by
  have := leT_total a a
  simpa using this
theorem leT_of_not {a b : Str} (h : ¬ leT a b = true) : leT b a = true := by
  have := leT_total a b
  rcases Bool.or_eq_true _ _ |>.mp this with q | q
  · exact absurd q h
  · exact q
theorem insT_pair (l : Str) : ∀ r : List Str, (r.Pairwise fun a b => leT a b = true) → (insT l r).Pairwise fun a b => leT a b = true
  | [], _ => List.pairwise_singleton _ _
  | a :: r, h => by
    unfold insT
    have h' := List.pairwise_cons.mp h
    split
    · rename_i q
      refine List.pairwise_cons.mpr ⟨fun b hb => ?_, h⟩
      rcases List.mem_cons.mp hb with rfl | hb
      · exact q
      · exact leT_trans _ _ _ q (h'.1 b hb)
    · rename_i q
      refine List.pairwise_cons.mpr ⟨fun b hb => ?_, insT_pair l r h'.2⟩
      rcases List.mem_cons.mp ((insT_perm l r).mem_iff.mp hb) with rfl | hb
      · exact leT_of_not q
      · exact h'.1 b hb
theorem srtI_pair : ∀ r : List Str, (srtI r).Pairwise fun a b => leT a b = true
  | [] => .nil
  | l :: r => insT_pair l _ (srtI_pair r)
theorem srtd_I (zs : List Str) : srtd zs = srtI zs :=
  List.Perm.eq_of_pairwise (le := fun a b => leT a b = true) (fun a b _ _ h1 h2 => leT_anti h1 h2) (srtd_pair zs) (srtI_pair zs) ((srtd_perm zs).trans (srtI_perm zs).symm)
def insL (l : Ln) : List Ln → List Ln
  | [] => [l]
  | a :: r => if leT l.t a.t = true then l :: a :: r else a :: insL l r
def ordI : List Ln → List Ln
  | [] => []
  | l :: r => insL l (ordI r)
theorem insL_perm (l : Ln) : ∀ r : List Ln, (insL l r).Perm (l :: r)
  | [] => .refl _
  | a :: r => by
    unfold insL
    split
    · exact .refl _
    · exact ((insL_perm l r).cons a).trans (.swap l a r)
theorem ordI_perm : ∀ r : List Ln, (ordI r).Perm r
  | [] => .refl _
  | l :: r => (insL_perm l (ordI r)).trans ((ordI_perm r).cons l)
theorem insL_pair (l : Ln) : ∀ r : List Ln, (r.Pairwise fun a b => leT a.t b.t = true) → (insL l r).Pairwise fun a b => leT a.t b.t = true
  | [], _ => List.pairwise_singleton _ _
  | a :: r, h => by
    unfold insL
    have h' := List.pairwise_cons.mp h
    split
    · rename_i q
      refine List.pairwise_cons.mpr ⟨fun b hb => ?_, h⟩
      rcases List.mem_cons.mp hb with rfl | hb
      · exact q
      · exact leT_trans _ _ _ q (h'.1 b hb)
    · rename_i q
      refine List.pairwise_cons.mpr ⟨fun b hb => ?_, insL_pair l r h'.2⟩
      rcases List.mem_cons.mp ((insL_perm l r).mem_iff.mp hb) with rfl | hb
      · exact leT_of_not q
      · exact h'.1 b hb
theorem ordI_pair : ∀ r : List Ln, (ordI r).Pairwise fun a b => leT a.t b.t = true
  | [] => .nil
  | l :: r => insL_pair l _ (ordI_pair r)
def Kd.srtI : Kd → Kd
  | .key ks => .key (B2_.srtI ks)
  | k => k
def Ln.srtI (l : Ln) : Ln := ⟨l.t, B2_.srtI l.cs, l.k.srtI⟩
theorem Ln.srt_I (l : Ln) : l.srt = l.srtI := by
  unfold Ln.srt Ln.srtI
  rw [srtd_I]
  congr 1
  cases l.k with
  | chg => rfl
  | fix => rfl
  | key ks => show Kd.key (srtd ks) = Kd.key (B2_.srtI ks); rw [srtd_I]
theorem ordL_I {ls : List Ln} (n : (ls.map (·.t)).Nodup) : ordL ls = ordI (ls.map Ln.srtI) := by
  refine (ordL_of n ?_ (ordI_pair _)).symm
  refine (ordI_perm _).trans ?_
  rw [show ls.map Ln.srtI = ls.map Ln.srt from List.map_congr_left fun l _ => (Ln.srt_I l).symm]
def lnB (l : Ln) : Bool := nameB l.t && l.cs.all nameB && decide l.cs.Nodup && decide (l.cs.length ≤ 4) && match l.k with
  | .key ks => ks.all nameB && decide ks.Nodup && ks.all fun z => decide (z ∈ l.cs)
  | _ => true
theorem lnB_ok {l : Ln} (h : lnB l = true) : l.Ok := by
  unfold lnB at h
  simp only [Bool.and_eq_true, decide_eq_true_eq, List.all_eq_true] at h
  obtain ⟨⟨⟨⟨h1, h2⟩, h3⟩, h4⟩, h5⟩ := h
  refine ⟨h1, h2, h3, h4, ?_⟩
  cases e : l.k with
  | chg => trivial
  | fix => trivial
  | key ks =>
    rw [e] at h5
    simp only [Bool.and_eq_true, decide_eq_true_eq, List.all_eq_true] at h5
    exact ⟨h5.1.1, h5.1.2, h5.2⟩
def lnsB (ls : List Ln) : Bool := ls.all lnB && decide (ls.map (·.t)).Nodup && decide (1 ≤ ls.length) && decide (ls.length ≤ 6) && decide ((dedupS (ls.flatMap (·.cs))).length ≤ 6)
theorem lnsB_ok {ls : List Ln} (h : lnsB ls = true) : LnsOk ls := by
  unfold lnsB at h
  simp only [Bool.and_eq_true, decide_eq_true_eq, List.all_eq_true] at h
  obtain ⟨⟨⟨⟨h1, h2⟩, h3⟩, h4⟩, h5⟩ := h
  exact ⟨fun l hl => lnB_ok (h1 l hl), h2, h3, h4, dedupS (ls.flatMap (·.cs)), h5, fun l hl z hz => mem_dedupS.mpr (List.mem_flatMap.mpr ⟨l, hl, hz⟩)⟩
/-! ### displays of dicts of tables, tuples of texts -/
def tws : List Str → TA
  | [] => tNil
  | x :: r => tCons (tC (.str x)) (tws r)
theorem tws_read {σ : L2.St} {H : Hp} : ∀ {cs : List Str} {Q : List V → Hp → Prop}, Q (cs.map V.str) H → tws cs σ H Q
  | [], _, h => h
  | _ :: r, Q, h => tws_read (cs := r) (Q := fun xs H2 => Q (_ :: xs) H2) h
def dprs (m : Told) : List (TE × TE) := m.map fun e => (tC (.str e.1), tTup (tws e.2))
theorem pairs_read {σ : L2.St} : ∀ {m : Told} {H : Hp} {Q : List (V × V) → Hp → Prop}, (∀ e ∈ m, e.2.length ≤ sizeLine) →
    (∀ (kvs : List (Key × V)) H', Same H H' → Paired (fun kv e => kv.1 = Sum.inr e.1 ∧ ColsOf H' kv.2 e) kvs m → Q (kvs.map fun kv => (kV kv.1, kv.2)) H') → tPairs (dprs m) σ H Q
  | [], H, Q, _, h => h [] H (Same.refl H) .nil
  | e :: r, H, Q, few, h => by
    refine tws_read ⟨by rw [List.length_map]; exact few e List.mem_cons_self, fun p hp => ?_⟩
    refine pairs_read (m := r) (fun x hx => few x (List.mem_cons_of_mem _ hx)) fun kvs H' s pr => ?_
    exact h ((Sum.inr e.1, .ref p) :: kvs) H' ((Same.new (Same.refl H) hp).trans s) (.cons ⟨rfl, p, rfl, s _ _ upd_same⟩ pr)
theorem disp_read {m : Told} {σ : L2.St} {H : Hp} {Q : VK} (few : ∀ e ∈ m, e.2.length ≤ sizeLine) (n : (m.map (·.1)).Nodup) (l15 : m.length ≤ 15)
    (h : ∀ p H', H p = none → Same H H' → TupD H' p m → Q (.ref p) H') : tDisp (dprs m) σ H Q := by
  refine fun p hp => pairs_read few fun kvs H' s pr => ?_
  have e := s _ _ upd_same
  have ln := pr.length
  have nk : (kvs.map (·.1)).Nodup := by
    rw [keysOf pr]
    exact List.pairwise_map.mpr (n.imp fun h q => h (Sum.inr.inj q))
  refine ⟨e, kvs, rfl, by omega, ?_⟩
  rw [merge_nodup nk]
  have s2 : Same H (upd H' p (.dK kvs)) := fun b o q => by
    have ne : b ≠ p := ne_of_none q hp
    rw [upd_ne ne]
    exact s _ _ (by rw [upd_ne ne]; exact q)
  refine h p _ hp s2 ⟨kvs, upd_same, Paired.mapP pr fun kv e' q => ⟨q.1, ?_⟩⟩
  obtain ⟨c, ec, hc⟩ := q.2
  exact ⟨c, ec, by rw [upd_ne (fun z => by subst z; rw [e] at hc; cases hc)]; exact hc⟩
def toldB (mv st gv : Told) : Bool := lnsB (lnsOf mv st gv) && gv.all fun e => decide (e.1 ∈ st.map (·.1))
theorem toldB_ok {mv st gv : Told} (h : toldB mv st gv = true) : ToldOk mv st gv := by
  unfold toldB at h
  simp only [Bool.and_eq_true, List.all_eq_true, decide_eq_true_eq] at h
  exact ⟨lnsB_ok h.1, h.2⟩
theorem told_ord {mv st gv : Told} (h : toldB mv st gv = true) : ordL (lnsOf mv st gv) = ordI ((lnsOf mv st gv).map Ln.srtI) := ordL_I (toldB_ok h).ok.nd
theorem colsOf_I (Ls : List Ln) : colsOf Ls = srtI (dedupS (Ls.flatMap (·.cs))) := srtd_I _
theorem iteFk {b : Bool} {p q : Prop} (e : b = false) (h : q) : if b = true then p else q := by subst e; exact h
theorem iteTk {b : Bool} {p q : Prop} (e : b = true) (h : p) : if b = true then p else q := by subst e; exact h
end B2_

/-! ## B2_30 -/
set_option Elab.async false
set_option linter.all false
set_option maxRecDepth 100000
set_option maxHeartbeats 16000000
namespace B2_
open PySem PySem.Spec PyProof.Rows L2
abbrev s_law : Stmt := topS 41
abbrev N_law : List Str := ["script", "spot", "dice", "turn", "least", "told", "wide", "name"]
theorem sc_law : FnScope N_law ["script"] (defScope s_law) := ⟨rfl, rfl, rfl, by decide +kernel, rfl, by decide +kernel, by decide +kernel⟩
def spLaw (K : PySem.W.Frag) : Sp := fun vs H Q _ => ∃ (a : Addr) (ns : List Int), vs = [.ref a] ∧ SqL K H a (ns.map V.int) ∧ ∀ H', Q (.bl true) H'
section
variable {P : Program} {w : World} {K : PySem.W.Frag} {mg : Str → Option Value} {base : Heap}
theorem ok_law {f C : Addr} {fd : FuncData} (F : Fun K "law" "law" s_law f fd) (T : NamesR mg) (hrange : mg "range" = none) (W : Ways P w K mg base C) (M : MakeS P w K mg base C) (O : OfM P w K mg base C)
    (CD : Callee P w K mg base CX0 1 "_law_dice" ["script", "spot"] (spDice K)) (CR : K1.CalleeG P w K mg base 12 "_law_right" ["dice"] spLri) : K1.FnOkG P w K mg base 14 f fd ["script"] (spLaw K) := by
  have nd := sc_law.nd
  obtain ⟨fI, fdI, MI, GI, _, _, _, ⟨g2, B2⟩⟩ := M.ex
  obtain ⟨tt, htt⟩ := T.mtab
  obtain ⟨tc, htc⟩ := T.mcol
  obtain ⟨tm, htm⟩ := T.most
  refine K1.fn_ofG F sc_law (fun vs H Q E h => ?_) (fun cdv A outer s H vs Q hr quiet h => ?_)
  · obtain ⟨a, ns, rfl, _⟩ := h
    rfl
  · obtain ⟨a, ns, rfl, hs, k⟩ := h
    have hr1 : Room 1 _ := hr.mono (by decide)
    have hr2 : Room 2 _ := hr.mono (by decide)
    have hr3 : Room 3 _ := hr.mono (by decide)
    have hr9 : Room 9 _ := hr.mono (by decide)
    have hr10 : Room 10 _ := hr.mono (by decide)
    have hr12 : Room 12 _ := hr.mono (by decide)
    have hu64 : (A.deeper (envOfC "law" (defScope s_law) s.heap.objs.size f cdv)).units + 64 < cLine := by have := hr.un; omega
    refine ⟨_, (pss_cons
    (ps_for PassesOwn.never rfl (pi_range1 (by rfl) hrange (pa_cons (pe_callB (call_max2 rfl) (by rfl) T.max (by decide +kernel) (pa_cons pe_int (pa_cons (pe_callB (call_min2 rfl) (by rfl) T.min (by decide +kernel) (pa_cons pe_int (pa_cons (pe_callB call_len_seq (by rfl) T.len (by decide +kernel) (pa_cons (pv 0) pa_nil)) pa_nil))) pa_nil))) pa_nil)) (pg_name (i := 1) nd rfl (Or.inl rfl)) (pss_cons
      (ps_set (i := 2) nd rfl (Or.inl rfl) (pe_use CD hr1 rfl pass0 (pa_cons (pv 0) (pa_cons (pv 1) pa_nil))))
      (pss_one
      (ps_for PassesOwn.never rfl (pi_range1 (by rfl) hrange (pa_cons pe_int pa_nil)) (pg_name (i := 3) nd rfl (Or.inl rfl)) (pss_one
        (ps_if (pt_not (pt_val (K1.pe_useG CR hr12 quiet rfl (pa_cons (pv 2) pa_nil)))) (pss_one
          (ps_ret pe_bl)) pss_nil))))))
    (pss_cons
    (ps_if (pt_cmpR (op_neD hu64) (pe_lst (pa_cons (pe_glob (v := .int 6) (by rfl) htt ⟨_, rfl⟩) (pa_cons (pe_glob (v := .int 6) (by rfl) htc ⟨_, rfl⟩) (pa_cons (pe_glob (v := .int 4) (by rfl) htm ⟨_, rfl⟩) pa_nil)))) (pe_lst (pa_cons pe_int (pa_cons pe_int (pa_cons pe_int pa_nil)))) (nomark _)) (pss_one (ps_ret pe_bl)) pss_nil)
    (pss_cons
    (ps_set (i := 4) nd rfl (Or.inl rfl) (pe_makeK0 MI GI hr9 rfl W.cl.mgC B2 pass0 (pk_cons (pe_disp (pps_cons pe_str (pe_tup pa_nil) pps_nil) rfl rfl (by simp) (by decide)) (pk_cons (pe_disp (pps_cons pe_str (pe_tup pa_nil) pps_nil) rfl rfl (by simp) (by decide)) pk_nil))))
    (pss_cons
    (ps_set (i := 5) nd rfl (Or.inl rfl) (pe_lst (pa_cons (pe_prp W.tables W.cl.cl hr2 (pv 4)) (pa_cons (pe_prp W.columns W.cl.cl hr2 (pv 4)) (pa_cons (pe_prp W.lines W.cl.cl hr2 (pv 4)) (pa_cons (pe_callTy (K1.call_strOwn (spc_of W.str) hr3) (by rfl) T.str (by decide +kernel) (pa_cons (pv 4) pa_nil)) pa_nil))))))
    (pss_cons
    (ps_if (pt_cmpR (op_neD hu64) (pv 5) (pe_lst (pa_cons (pe_tup (pa_cons pe_str pa_nil)) (pa_cons (pe_tup pa_nil) (pa_cons (pe_tup (pa_cons (pe_tup (pa_cons pe_str (pa_cons (pe_tup pa_nil) (pa_cons (pe_tup pa_nil) pa_nil)))) pa_nil)) (pa_cons pe_str pa_nil))))) (nomark _)) (pss_one (ps_ret pe_bl)) pss_nil)
    (pss_cons
    (ps_if (pt_cmpR (op_neD hu64) (pe_prp W.fixed W.cl.cl hr2 (pe_makeK0 MI GI hr9 rfl W.cl.mgC B2 pass0 (pk_cons (pe_disp (pps_cons pe_str (pe_tup pa_nil) (pps_cons pe_str (pe_tup (pa_cons pe_str pa_nil)) pps_nil)) rfl rfl (by simp) (by decide)) (pk_cons (pe_disp (pps_cons pe_str (pe_tup pa_nil) pps_nil) rfl rfl (by simp) (by decide)) pk_nil)))) (pe_tup (pa_cons pe_str (pa_cons pe_str pa_nil))) (nomark _)) (pss_one (ps_ret pe_bl)) pss_nil)
    (pss_cons
    (ps_set (i := 6) nd rfl (Or.inl rfl) (pe_of O W.cl.mgC (by rfl) hr10 (pa_cons (pe_callTy call_tuple_of (by rfl) T.tuple (by decide +kernel) (pa_cons (pe_lc (own := [("name", 7)]) (g := gName 7) rfl nd (pi_str pe_str) (blkOk_by (N := N_law) (sc := defScope s_law) (by decide +kernel)) (fun _ _ _ _ _ => (pg_name (i := 7) nd rfl (Or.inl rfl))) (fun _ _ _ _ _ => pts_nil) (te := tTup (tCons (tVar 7) (tCons (tTup (tCons (tC (.str "d")) (tCons (tC (.str "b")) (tCons (tC (.str "c")) (tCons (tC (.str "a")) tNil))))) (tCons (tC (.str "changing")) tNil)))) (fun _ _ _ _ _ => (pe_tup (pa_cons (pv 7) (pa_cons (pe_tup (pa_cons pe_str (pa_cons pe_str (pa_cons pe_str (pa_cons pe_str pa_nil))))) (pa_cons pe_str pa_nil)))))) pa_nil)) pa_nil)))
    (pss_one
    (ps_ret (pe_and (pe_cmpR (op_eqD hu64) (pe_callTy (K1.call_listOwnT rfl (spc_of W.iter) (spc_of W.len) (hr.mono (by decide))) (by rfl) T.list (by decide +kernel) (pa_cons (pv 6) pa_nil)) (pe_callTy (K1.call_listStr rfl) (by rfl) T.list (by decide +kernel) (pa_cons pe_str pa_nil)) (nomark _)) (pe_and (pe_cmpR (op_eqD hu64) (pe_prp W.columns W.cl.cl hr2 (pv 6)) (pe_tup (pa_cons pe_str (pa_cons pe_str (pa_cons pe_str (pa_cons pe_str pa_nil))))) (nomark _)) (pe_one (pe_cmpR (op_eqD hu64) (pe_prp W.fixed W.cl.cl hr2 (pv 6)) (pe_tup pa_nil) (nomark _)))))))))))))), ?_⟩
    refine ⟨_, rfl, a, _, rfl, .inl hs, _, _, rfl, _, _, rfl, ?_⟩
    refine ⟨_, rfl, ?_, ?_, for_range (fun i σ H' => ∃ v1 v2 v3 : Option V, σ = [some (.ref a), v1, v2, v3, none, none, none, none] ∧ SqL K H' a (ns.map V.int)) ⟨none, none, none, rfl, hs⟩ (fun i σ H1 hi ⟨v1, v2, v3, hσ, hs1⟩ => ?_) (fun σ H1 ⟨v1, v2, v3, hσ, hs1⟩ => ?_)⟩
    · repeat' split
      all_goals omega
    · repeat' split
      all_goals omega
    · subst hσ
      refine ⟨_, rfl, _, rfl, a, ns, i, by rw [Int.zero_add]; rfl, hs1, fun p H2 hp s2 hd2 => ?_⟩
      refine ⟨4, rfl, by decide, by decide, for_range (n := 4) (fun j σ H' => ∃ v3 : Option V, σ = [some (.ref a), some (.int (0 + (i : Int))), some (.ref p), v3, none, none, none, none] ∧ Same H1 H' ∧ Dice H' p) ⟨v3, rfl, s2, hd2⟩ (fun j σ H3 hj ⟨v4, hσ, b3, hd3⟩ => ?_) (fun σ H3 ⟨v4, hσ, b3, hd3⟩ => ?_)⟩
      · subst hσ
        refine ⟨_, rfl, p, rfl, hd3, fun H4 b4 hd4 => ⟨_, rfl, iteF ?_⟩⟩
        exact ⟨_, rfl, fun b o e => b4 _ _ (ne_of_none e hp) (b3 _ _ e), hd4⟩
      · subst hσ
        exact ⟨_, _, _, rfl, K1.sql_same hs1 b3⟩
    · subst hσ
      clear hs hs1
      refine ⟨by show 3 ≤ sizeLine; decide, fun p1 n1 => ⟨by show 3 ≤ sizeLine; decide, fun p2 n2 => ?_⟩⟩
      refine ⟨_, _, .lst (SqL.of (by rw [upd_ne (fun z => by rw [z, upd_same] at n2; cases n2)]; exact upd_same)) (.cons (.int 6) (.cons (.int 6) (.cons (.int 4) .nil))), .lst (SqL.of upd_same) (.cons (.int 6) (.cons (.int 6) (.cons (.int 4) .nil))), by decide +kernel, by decide +kernel, _, rfl, ?_⟩
      rw [show PyData.eqv (.list [.int 6, .int 6, .int 4]) (.list [.int 6, .int 6, .int 4]) = true from by decide +kernel]
      refine iteF ?_
      generalize upd (upd H1 p1 _) p2 _ = HA
      clear n1 n2
      -- least
      dsimp only [tNext, tSeq, tAsg, tMakeK, tCons, tNil]
      refine disp_read (m := [("t", [])]) (by decide) (by decide) (by decide) ?_
      intro q1 HB n1 s1 t1
      refine disp_read (m := [("t", [])]) (by decide) (by decide) (by decide) ?_
      intro q2 HC n2 s2 t2
      refine ⟨rfl, rfl, fun x dx nx ndx nex => ?_⟩
      have sM : Same HC (upd (upd HC dx (.own x)) x (.ins C dx [])) := fun b o e => by rw [upd_ne (ne_of_none e nx), upd_ne (ne_of_none e ndx)]; exact e
      refine ⟨x, dx, .non, .ref q1, .ref q2, [], [("t", [])], [("t", [])], rfl, upd_same, .inl ⟨rfl, rfl⟩, .inr ⟨q1, rfl, (t1.same s2).same sM⟩, .inr ⟨q2, rfl, t2.same sM⟩, by decide, fun d e1 e2 => ?_, toldB_ok (by decide +kernel), fun HD off sc => ⟨rfl, ?_⟩⟩
      · cases e1; cases e2
        obtain ⟨kv, h, _⟩ := t1
        rw [h] at n2; cases n2
      rw [told_ord (by decide +kernel), show ordI ((lnsOf [] [("t", [])] [("t", [])]).map Ln.srtI) = [⟨"t", [], .key []⟩] from by kernel_rfl] at sc
      have scD := sc.at
      clear sc off sM t1 t2 s1 s2 n1 n2 nx ndx nex
      -- told of it
      obtain ⟨dx1, pl, pt, pc, pg, pf, dc, dk, hx, sci⟩ := id scD
      obtain ⟨rl, hl1, hl2⟩ := id sci.lines
      refine ⟨_, rfl, x, dx1, _, rfl, hx, x, dx1, _, .ref pt, rfl, hx, rfl, _, rfl, x, dx1, _, rfl, hx, x, dx1, _, .ref pc, rfl, hx, rfl, _, rfl, x, dx1, _, rfl, hx, x, dx1, _, .ref pl, rfl, hx, rfl, ?_⟩
      refine ⟨_, rfl, x, dx1, _, rfl, hx, x, _, rfl, scD, by decide, by decide +kernel, _, rfl, by show 4 ≤ sizeLine; decide, fun p3 n3 => ?_⟩
      have sE : Same HD (upd HD p3 (.lst [.ref pt, .ref pc, .ref pl, .str (txtScene [(⟨"t", [], .key []⟩ : Ln)].length (colsOf [(⟨"t", [], .key []⟩ : Ln)]).length)])) := Same.new (Same.refl HD) n3
      have hp3 : (upd HD p3 (.lst [.ref pt, .ref pc, .ref pl, .str (txtScene [(⟨"t", [], .key []⟩ : Ln)].length (colsOf [(⟨"t", [], .key []⟩ : Ln)]).length)])) p3 = _ := upd_same
      generalize upd HD p3 _ = HE at sE hp3 ⊢
      refine ⟨_, rfl, ?_⟩
      refine K1.WR.read (K := K) (by repeat constructor) fun v4 HF s4 d4 => ?_
      have sF : Same HD HF := fun b o e => s4 _ _ (sE _ _ e)
      refine ⟨_, _, .lst (SqL.of (s4 _ _ hp3)) (.cons (.tup (SqT.of (sF _ _ sci.tabs)) (dp_strs _)) (.cons (.tup (SqT.of (sF _ _ sci.cols)) (dp_strs _)) (.cons (dp_lines (sF _ _ hl1) (Paired.mapP hl2 fun v l r => (LnAt.same r sF : LnAt HF v l))) (.cons (.str _) .nil)))), d4, by decide +kernel, by decide +kernel, _, rfl, ?_⟩
      refine iteFk (by decide +kernel) ?_
      clear hp3 sE sF d4 s4 n3 hx sci hl1 hl2 scD
      -- with two
      dsimp only [tNext, tSeq, tIfS, tTest, tOp, tProp, tMakeK, tCons, tNil]
      refine disp_read (m := [("t", []), ("u", ["a"])]) (by decide) (by decide) (by decide) ?_
      intro q3 HB1 n1 s1 t1
      refine disp_read (m := [("t", [])]) (by decide) (by decide) (by decide) ?_
      intro q4 HC1 n2 s2 t2
      refine ⟨rfl, rfl, fun x dx nx ndx nex => ?_⟩
      have sM : Same HC1 (upd (upd HC1 dx (.own x)) x (.ins C dx [])) := fun b o e => by rw [upd_ne (ne_of_none e nx), upd_ne (ne_of_none e ndx)]; exact e
      refine ⟨x, dx, .non, .ref q3, .ref q4, [], [("t", []), ("u", ["a"])], [("t", [])], rfl, upd_same, .inl ⟨rfl, rfl⟩, .inr ⟨q3, rfl, (t1.same s2).same sM⟩, .inr ⟨q4, rfl, t2.same sM⟩, by decide, fun d e1 e2 => ?_, toldB_ok (by decide +kernel), fun HD1 off sc => ⟨rfl, ?_⟩⟩
      · cases e1; cases e2
        obtain ⟨kv, h, _⟩ := t1
        rw [h] at n2; cases n2
      rw [told_ord (by decide +kernel), show ordI ((lnsOf [] [("t", []), ("u", ["a"])] [("t", [])]).map Ln.srtI) = [⟨"t", [], .key []⟩, ⟨"u", ["a"], .fix⟩] from by kernel_rfl] at sc
      have scD := sc.at
      clear sc off sM t1 t2 s1 s2 n1 n2 nx ndx nex
      obtain ⟨dx1, pl, pt, pc, pg, pf, dc, dk, hx, sci⟩ := id scD
      refine ⟨x, dx1, _, rfl, hx, x, dx1, _, .ref pf, rfl, hx, rfl, ?_⟩
      refine K1.WR.read (K := K) (by repeat constructor) fun v4 HF s4 d4 => ?_
      refine ⟨_, _, .tup (SqT.of (s4 _ _ sci.fix)) (dp_strs _), d4, by decide +kernel, by decide +kernel, _, rfl, iteFk (by decide +kernel) ?_⟩
      clear s4 d4 hx sci scD
      -- wide
      refine ⟨rfl, "fedcba", rfl, fun D hD => ?_⟩
      refine K1.lc_rel (walk_str (z := "fedcba")) LnAt (fun i => (("fedcba" : Str).cps[i]?).map fun c => (⟨⟨#[c]⟩, ["d", "b", "c", "a"], .chg⟩ : Ln)) hD (by rw [sizeLine_eq]; decide) (fun H H' v l r e o => r.off o fun xs z => by obtain ⟨a, e⟩ := e; rw [e] at z; cases z) (fun H2 s2 => trivial) (fun i x H2 H3 N hi s2 lD y keep skip => ?_) (fun H2 acc s2 hL pL => ?_)
      · obtain ⟨rfl, c, hc, rfl⟩ := y
        refine ⟨rfl, _, rfl, by show 4 ≤ sizeLine; decide, fun t1 n1 => ⟨by show 3 ≤ sizeLine; decide, fun t2 n2 => ?_⟩⟩
        have s5 : Same H3 (upd (upd H3 t1 (.tup [.str "d", .str "b", .str "c", .str "a"])) t2 (.tup [.str ⟨#[c]⟩, .ref t1, .str "changing"])) := Same.new (Same.new (Same.refl _) n1) n2
        exact keep _ (.ref t2) ⟨⟨#[c]⟩, ["d", "b", "c", "a"], .chg⟩ s5 (by show Option.map _ _ = _; rw [hc]; rfl) ⟨t2, t1, _, rfl, upd_same, by rw [upd_ne (ne_of_none upd_same n2)]; exact upd_same, rfl⟩
      · rw [show K1.pickT (fun i => (("fedcba" : Str).cps[i]?).map fun c => (⟨⟨#[c]⟩, ["d", "b", "c", "a"], .chg⟩ : Ln)) ("fedcba" : Str).cps.size = [⟨"f", ["d", "b", "c", "a"], .chg⟩, ⟨"e", ["d", "b", "c", "a"], .chg⟩, ⟨"d", ["d", "b", "c", "a"], .chg⟩, ⟨"c", ["d", "b", "c", "a"], .chg⟩, ⟨"b", ["d", "b", "c", "a"], .chg⟩, ⟨"a", ["d", "b", "c", "a"], .chg⟩] from by kernel_rfl] at pL
        refine ⟨D, _, rfl, .inl ⟨SqL.of hL, fun t nt => ?_⟩⟩
        have sN : Same H2 (upd H2 t (.tup acc)) := Same.new (Same.refl _) nt
        have ok6 : lnsB [⟨"f", ["d", "b", "c", "a"], .chg⟩, ⟨"e", ["d", "b", "c", "a"], .chg⟩, ⟨"d", ["d", "b", "c", "a"], .chg⟩, ⟨"c", ["d", "b", "c", "a"], .chg⟩, ⟨"b", ["d", "b", "c", "a"], .chg⟩, ⟨"a", ["d", "b", "c", "a"], .chg⟩] = true := by decide +kernel
        refine ⟨t, acc, _, rfl, upd_same, Paired.mapP pL fun v l r => r.same sN, lnsB_ok ok6, fun xw HW sW nxw scW => ?_⟩
        rw [ordL_I (lnsB_ok ok6).nd, show ordI (List.map Ln.srtI [⟨"f", ["d", "b", "c", "a"], .chg⟩, ⟨"e", ["d", "b", "c", "a"], .chg⟩, ⟨"d", ["d", "b", "c", "a"], .chg⟩, ⟨"c", ["d", "b", "c", "a"], .chg⟩, ⟨"b", ["d", "b", "c", "a"], .chg⟩, ⟨"a", ["d", "b", "c", "a"], .chg⟩]) = [⟨"a", ["a", "b", "c", "d"], .chg⟩, ⟨"b", ["a", "b", "c", "d"], .chg⟩, ⟨"c", ["a", "b", "c", "d"], .chg⟩, ⟨"d", ["a", "b", "c", "d"], .chg⟩, ⟨"e", ["a", "b", "c", "d"], .chg⟩, ⟨"f", ["a", "b", "c", "d"], .chg⟩] from by kernel_rfl] at scW
        have sc := scW.at
        clear scW sW nxw sN nt pL hL ok6
        refine ⟨_, rfl, ?_⟩
        dsimp only [tNil, List.append_nil]
        refine list_own (K := K) sc (by show 6 ≤ 6; decide) fun p1 H11 s11 np1 hp1 => ?_
        refine ⟨"abcdef", rfl, by show 6 ≤ sizeLine; decide, fun p2 np2 => ?_⟩
        have s12 : Same HW (upd H11 p2 (.lst ((K1.ltrs "abcdef").map V.str))) := fun b o e => by
          have e2 := s11 _ _ e
          rw [upd_ne (ne_of_none e2 np2)]; exact e2
        have hp12 := (upd_ne (o := .lst ((K1.ltrs "abcdef").map V.str)) (ne_of_none hp1 np2)).trans hp1
        have hp22 : upd H11 p2 (.lst ((K1.ltrs "abcdef").map V.str)) p2 = some (.lst ((K1.ltrs "abcdef").map V.str)) := upd_same
        generalize upd H11 p2 _ = H12 at s12 hp12 hp22 ⊢
        refine ⟨_, _, .lst (SqL.of hp12) (dp_strs _), .lst (SqL.of hp22) (dp_strs _), by decide +kernel, by decide +kernel, _, rfl, iteTk (by decide +kernel) ?_⟩
        obtain ⟨dx1, pl, pt, pc, pg, pf, dc, dk, hx, sci⟩ := sc.same s12
        refine ⟨_, rfl, xw, dx1, _, rfl, hx, xw, dx1, _, .ref pc, rfl, hx, rfl, ?_⟩
        have hcc := sci.cols
        unfold Texts at hcc
        rw [colsOf_I] at hcc
        show tTup _ _ _ _
        refine K1.WR.read (K := K) (by repeat constructor) fun v4 HF s4 d4 => ?_
        refine ⟨_, _, .tup (SqT.of (s4 _ _ hcc)) (dp_strs _), d4, by decide +kernel, by decide +kernel, _, rfl, iteTk (by decide +kernel) ?_⟩
        refine ⟨_, rfl, xw, dx1, _, rfl, s4 _ _ hx, xw, dx1, _, .ref pf, rfl, s4 _ _ hx, rfl, ?_⟩
        show tTup _ _ _ _
        refine K1.WR.read (K := K) (by repeat constructor) fun v5 HG s5 d5 => ?_
        refine ⟨_, _, .tup (SqT.of (s5 _ _ (s4 _ _ sci.fix))) (dp_strs _), d5, by decide +kernel, by decide +kernel, ?_⟩
        exact (congrArg (fun b => Q (.bl b) HG) (show _ = true from by decide +kernel)).mpr (k HG)
end
end B2_

/-! ## B2_31 -/
set_option Elab.async false
set_option linter.all false
set_option maxRecDepth 100000
set_option maxHeartbeats 8000000
namespace B2_
open PySem PySem.Spec PyProof.Rows L2
/-! ### what the top has written -/
structure At (K : PySem.W.Frag) (x : Str) (st : Stmt) (f : Addr) : Prop where
  g : PySem.W.nsIn K mainGlobals x = some (some (.ref f))
  fn : ∃ fd, Fun K x x st f fd
  keep : PySem.W.keepIn K (.ref f) = true
theorem at_mk {K : PySem.W.Frag} {x : Str} {st : Stmt} {f : Addr} {od an : Option Addr} {sl : Array (Option Value)} {oc kV dc pm cd ct : Value} (a : PySem.W.nsIn K mainGlobals x = some (some (.ref f)))
    (l : K.lookup f = some ⟨oc, od, .func (PySem.W.fnOf x x (defArgs st) (defBody st) (defScope st) .none kV dc pm an cd ct), sl⟩) (c : PySem.W.codeIn K cd x = true) (k : PySem.W.keepIn K (.ref f) = true) : At K x st f :=
  ⟨a, ⟨_, fun_mk l c k⟩, k⟩
structure AtM (K : PySem.W.Frag) (C : Addr) (m q : Str) (st : Stmt) (f : Addr) : Prop where
  me : Meth K C m f
  fn : ∃ fd, Fun K m q st f fd
theorem atM_mk {K : PySem.W.Frag} {C : Addr} {m q : Str} {st : Stmt} {f : Addr} {od an : Option Addr} {sl : Array (Option Value)} {oc kV dc pm cd ct : Value} (a : PySem.W.findIn K (.ref C) m = some (some (.ref f))) (i : PySem.W.isFn K (.ref f) = true)
    (l : K.lookup f = some ⟨oc, od, .func (PySem.W.fnOf m q (defArgs st) (defBody st) (defScope st) .none kV dc pm an cd ct), sl⟩) (c : PySem.W.codeIn K cd q = true) (k : PySem.W.keepIn K (.ref f) = true) : AtM K C m q st f :=
  ⟨⟨a, i, k⟩, ⟨_, fun_mk l c k⟩⟩
structure AtP (K : PySem.W.Frag) (C : Addr) (m q : Str) (st : Stmt) : Prop where
  ex : ∃ p g fd, PropOf K C m p g ∧ Fun K m q st g fd
theorem atP_mk {K : PySem.W.Frag} {C : Addr} {m q : Str} {st : Stmt} {p f : Addr} {rest : List Value} {od an : Option Addr} {sl : Array (Option Value)} {oc kV dc pm cd ct : Value} (a : PySem.W.findIn K (.ref C) m = some (some (.ref p)))
    (g : PySem.W.specialIn K (.ref p) "__get__" = some (some (.builtin "property.__get__"))) (t : PySem.W.takesIn K (.ref p) = some true) (r : PySem.W.recIn K p "property" = some (.ref f :: rest))
    (l : K.lookup f = some ⟨oc, od, .func (PySem.W.fnOf m q (defArgs st) (defBody st) (defScope st) .none kV dc pm an cd ct), sl⟩) (c : PySem.W.codeIn K cd q = true) (k : PySem.W.keepIn K (.ref f) = true) : AtP K C m q st :=
  ⟨p, f, _, ⟨a, g, t, ⟨rest, r⟩⟩, fun_mk l c k⟩
section
variable {P : Program} {w : World} {K : PySem.W.Frag} {h : Heap} {mg : Str → Option Value} {base : Heap} {x m q : Str} {st : Stmt} {f C : Addr}
theorem callee {CX : CXT} {k : Nat} {ps : List Str} {sp : Sp} (X : K.In h) (G : h.Ns mainGlobals mg) (A : At K x st f) (B : ∀ fd, Fun K x x st f fd → Binds K fd ps []) (O : ∀ fd, Fun K x x st f fd → FnOk P w K mg base CX k f fd ps sp) : Callee P w K mg base CX k x ps sp := by
  obtain ⟨fd, F⟩ := A.fn
  exact ⟨f, fd, PySem.W.mg_of X G A.g, A.keep, O fd F, B fd F⟩
theorem calleeG {k : Nat} {ps : List Str} {sp : Sp} (X : K.In h) (G : h.Ns mainGlobals mg) (A : At K x st f) (B : ∀ fd, Fun K x x st f fd → Binds K fd ps []) (O : ∀ fd, Fun K x x st f fd → K1.FnOkG P w K mg base k f fd ps sp) : K1.CalleeG P w K mg base k x ps sp := by
  obtain ⟨fd, F⟩ := A.fn
  exact ⟨f, fd, PySem.W.mg_of X G A.g, A.keep, O fd F, B fd F⟩
theorem mth {k : Nat} {ps : List Str} {sp : Sp} (A : AtM K C m q st f) (B : ∀ fd, Fun K m q st f fd → Binds K fd ps []) (O : ∀ fd, Fun K m q st f fd → FnOk P w K mg base CX0 k f fd ps sp) : Mth P w K mg base C k m ps sp := by
  obtain ⟨fd, F⟩ := A.fn
  exact ⟨f, fd, A.me, O fd F, B fd F⟩
theorem prp {N : List Str} {g : Str} {p1 p2 p3 : Pos} (A : AtP K C m q st) (cl : Cls K C) (n : NoAttr K C g) (S : FnScope N ["self"] (defScope st)) (hN : N[0]? = some ("self" : Str)) (hb : defBody st = [.Return (some (.Attribute (.Name "self" p1) g p2)) p3])
    (B : ∀ f fd, Fun K m q st f fd → Binds K fd ["self"] []) : Prp P w K mg base C m g := by
  obtain ⟨p, gf, fd, h1, F⟩ := A.ex
  refine ⟨p, gf, fd, h1, ?_, B _ _ F⟩
  obtain ⟨oc, od, kV, doc, pm, an, cdv, ct, osl, rfl, lk, hcd⟩ := F.ex
  exact fn_getter lk hcd S hN hb cl n
end
abbrev sp_tables : Stmt := inClass (topS 15) 2
theorem scp_tables : FnScope ["self"] ["self"] (defScope sp_tables) := ⟨rfl, rfl, rfl, by decide +kernel, rfl, by decide +kernel, by decide +kernel⟩
abbrev sp_changing : Stmt := inClass (topS 15) 3
theorem scp_changing : FnScope ["self"] ["self"] (defScope sp_changing) := ⟨rfl, rfl, rfl, by decide +kernel, rfl, by decide +kernel, by decide +kernel⟩
abbrev sp_fixed : Stmt := inClass (topS 15) 4
theorem scp_fixed : FnScope ["self"] ["self"] (defScope sp_fixed) := ⟨rfl, rfl, rfl, by decide +kernel, rfl, by decide +kernel, by decide +kernel⟩
abbrev sp_columns : Stmt := inClass (topS 15) 5
theorem scp_columns : FnScope ["self"] ["self"] (defScope sp_columns) := ⟨rfl, rfl, rfl, by decide +kernel, rfl, by decide +kernel, by decide +kernel⟩
abbrev sp_lines : Stmt := inClass (topS 15) 6
theorem scp_lines : FnScope ["self"] ["self"] (defScope sp_lines) := ⟨rfl, rfl, rfl, by decide +kernel, rfl, by decide +kernel, by decide +kernel⟩
structure Tops (K : PySem.W.Frag) (f_roll f_pick f_mixed f_some f_words f_dice f_name f_cols f_choice f_key f_cl f_chk f_dt f_lt f_do f_kind f_lsc f_lco f_lls f_lto f_lli f_lma f_lot f_lar f_lri : Addr) : Prop where
  roll_ : At K "_law_roll" s_roll f_roll
  pick_ : At K "_law_pick" s_pick f_pick
  mixed_ : At K "_law_mixed" s_mixed f_mixed
  some_ : At K "_law_some" s_some f_some
  words_ : At K "_law_words" s_words f_words
  dice_ : At K "_law_dice" s_dice f_dice
  name_ : At K "is_name" s_is_name f_name
  cols_ : At K "is_columns" s_is_columns f_cols
  choice_ : At K "_is_choice" s_choice f_choice
  key_ : At K "_is_key" s_key f_key
  cl_ : At K "_checked_line" s_cl f_cl
  chk_ : At K "_checked" s_chk f_chk
  dt_ : At K "_dict_told" s_dt f_dt
  lt_ : At K "_lines_told" s_lt f_lt
  do_ : At K "_dicts_of" s_do f_do
  kind_ : At K "_law_kind" s_kind f_kind
  lsc_ : At K "_law_scene" s_lsc f_lsc
  lco_ : At K "_law_columns" s_lco f_lco
  lls_ : At K "_law_lines" s_lls f_lls
  lto_ : At K "_law_told" s_lto f_lto
  lli_ : At K "_law_lined" s_lli f_lli
  lma_ : At K "_law_made" s_lma f_lma
  lot_ : At K "_law_other" s_lot f_lot
  lar_ : At K "_law_asked_right" s_lar f_lar
  lri_ : At K "_law_right" s_lri f_lri
structure Mets (K : PySem.W.Frag) (C m_con m_need m_cof m_kof m_eq m_len m_it m_str : Addr) : Prop where
  con_ : AtM K C "__contains__" "Scene.__contains__" s_con m_con
  need_ : AtM K C "_need" "Scene._need" s_need m_need
  cof_ : AtM K C "columns_of" "Scene.columns_of" s_cof m_cof
  kof_ : AtM K C "key_of" "Scene.key_of" s_kof m_kof
  eq_ : AtM K C "__eq__" "Scene.__eq__" s_eq m_eq
  len_ : AtM K C "__len__" "Scene.__len__" s_len m_len
  it_ : AtM K C "__iter__" "Scene.__iter__" s_it m_it
  str_ : AtM K C "__str__" "Scene.__str__" s_str m_str
  p_tables : AtP K C "tables" "Scene.tables" sp_tables
  p_changing : AtP K C "changing" "Scene.changing" sp_changing
  p_fixed : AtP K C "fixed" "Scene.fixed" sp_fixed
  p_columns : AtP K C "columns" "Scene.columns" sp_columns
  p_lines : AtP K C "lines" "Scene.lines" sp_lines
structure Blt (K : PySem.W.Frag) : Prop where
  z_int : PySem.W.nsIn K mainGlobals "int" = some none
  z_len : PySem.W.nsIn K mainGlobals "len" = some none
  z_abs : PySem.W.nsIn K mainGlobals "abs" = some none
  z_max : PySem.W.nsIn K mainGlobals "max" = some none
  z_min : PySem.W.nsIn K mainGlobals "min" = some none
  z_list : PySem.W.nsIn K mainGlobals "list" = some none
  z_isinstance : PySem.W.nsIn K mainGlobals "isinstance" = some none
  z_str : PySem.W.nsIn K mainGlobals "str" = some none
  z_tuple : PySem.W.nsIn K mainGlobals "tuple" = some none
  z_bool : PySem.W.nsIn K mainGlobals "bool" = some none
  z_all : PySem.W.nsIn K mainGlobals "all" = some none
  z_zip : PySem.W.nsIn K mainGlobals "zip" = some none
  z_sorted : PySem.W.nsIn K mainGlobals "sorted" = some none
  z_set : PySem.W.nsIn K mainGlobals "set" = some none
  z_dict : PySem.W.nsIn K mainGlobals "dict" = some none
  z_repr : PySem.W.nsIn K mainGlobals "repr" = some none
  z_iter : PySem.W.nsIn K mainGlobals "iter" = some none
  z_enumerate : PySem.W.nsIn K mainGlobals "enumerate" = some none
  z_range : PySem.W.nsIn K mainGlobals "range" = some none
  c_letters : ∃ t, PySem.W.nsIn K mainGlobals "MOST_LETTERS" = some (some (.int 8 t))
  c_mtab : ∃ t, PySem.W.nsIn K mainGlobals "MAX_TABLES" = some (some (.int 6 t))
  c_mcol : ∃ t, PySem.W.nsIn K mainGlobals "MAX_COLUMNS" = some (some (.int 6 t))
  c_most : ∃ t, PySem.W.nsIn K mainGlobals "MOST_COLUMNS" = some (some (.int 4 t))
  c_chg : ∃ t, PySem.W.nsIn K mainGlobals "CHANGING" = some (some (.str "changing" t))
structure ScK (K : PySem.W.Frag) (C fi pc fo : Addr) : Prop where
  aC : PySem.W.nsIn K mainGlobals "Scene" = some (some (.ref C))
  pg : PySem.W.plainGet K C Str.empty = true
  hd : PySem.W.hasDictIn K C = true
  po : PySem.W.plainOver K C = true
  sa : PySem.W.findIn K (.ref C) "__setattr__" = some (some (.builtin "object.__setattr__"))
  nl : PySem.W.findIn K (.ref C) "_lines" = some none
  nt : PySem.W.findIn K (.ref C) "_tables" = some none
  nc : PySem.W.findIn K (.ref C) "_columns" = some none
  ng : PySem.W.findIn K (.ref C) "_changing" = some none
  nf : PySem.W.findIn K (.ref C) "_fixed" = some none
  ncb : PySem.W.findIn K (.ref C) "_columns_by_table" = some none
  nkb : PySem.W.findIn K (.ref C) "_key_by_table" = some none
  ga : PySem.W.findIn K (.ref C) "__class__" = some (some (.builtin "object.__class__"))
  gn : PySem.W.specialIn K (.builtin "object.__class__") "__get__" = some (some (.builtin "getset_descriptor.__get__"))
  gt : PySem.W.takesIn K (.builtin "object.__class__") = some true
  gm : PySem.W.mroIn K C (.type "object") = some true
  self : PySem.W.kitOne K (.ref C) (.ref C) = some true
  str : PySem.W.kitOne K (.ref C) (.type "str") = some false
  ne : PySem.W.findIn K (.ref C) "__ne__" = some (some (.builtin "object.__ne__"))
  mks : PySem.W.makesIn K C = true
  ini : PySem.W.findIn K (.ref C) "__init__" = some (some (.ref fi))
  fni : PySem.W.isFn K (.ref fi) = true
  kp : PySem.W.keepIn K (.ref C) = true
  fin : ∃ fd, FunD K "__init__" "Scene.__init__" (defArgs s_ini) (defBody s_ini) (defScope s_ini) [] [("changing", .non), ("fixed", .non), ("keyed", .non)] fi fd ∧ Fun K "__init__" "Scene.__init__" s_ini fi fd
  rd : PySem.W.readsIn K C (.type "type") = true
  gat : PySem.W.specialIn K (.ref C) "__getattribute__" = some (some (.builtin "type.__getattribute__"))
  at_ : PySem.W.findCls K (.ref C) (.type "type") "of" = some (.get (.builtin "classmethod.__get__") (.ref pc) .none (.ref C))
  rc : ∃ rest, PySem.W.recIn K pc "classmethod" = some (.ref fo :: rest)
  fno : PySem.W.fnIn K fo = true
  fof : ∃ fd, Fun K "of" "Scene.of" s_of fo fd
theorem fof_mk {K : PySem.W.Frag} {f : Addr} {od an : Option Addr} {sl : Array (Option Value)} {oc kV dc pm cd ct : Value}
    (l : K.lookup f = some ⟨oc, od, .func (PySem.W.fnOf "of" "Scene.of" (defArgs s_of) (defBody s_of) (defScope s_of) .none kV dc pm an cd ct), sl⟩) (c : PySem.W.codeIn K cd "Scene.of" = true) (k : PySem.W.keepIn K (.ref f) = true) : ∃ fd, Fun K "of" "Scene.of" s_of f fd := ⟨_, fun_mk l c k⟩
theorem fin_mk {K : PySem.W.Frag} {f D : Addr} {od an : Option Addr} {sl : Array (Option Value)} {oc dc pm cd ct : Value}
    (l : K.lookup f = some ⟨oc, od, .func (PySem.W.fnOf "__init__" "Scene.__init__" (defArgs s_ini) (defBody s_ini) (defScope s_ini) .none (.ref D) dc pm an cd ct), sl⟩) (c : PySem.W.codeIn K cd "Scene.__init__" = true) (k : PySem.W.keepIn K (.ref f) = true)
    (d1 : PySem.W.nsIn K D "changing" = some (some .none)) (d2 : PySem.W.nsIn K D "fixed" = some (some .none)) (d3 : PySem.W.nsIn K D "keyed" = some (some .none)) :
    ∃ fd, FunD K "__init__" "Scene.__init__" (defArgs s_ini) (defBody s_ini) (defScope s_ini) [] [("changing", .non), ("fixed", .non), ("keyed", .non)] f fd ∧ Fun K "__init__" "Scene.__init__" s_ini f fd := by
  refine ⟨_, ⟨⟨oc, od, _, _, dc, pm, an, cd, ct, sl, rfl, l, c, .inl ⟨rfl, rfl⟩, .inr ⟨D, rfl, fun q hq => ?_⟩⟩, k⟩, fun_mk l c k⟩
  rcases List.mem_cons.mp hq with rfl | hq
  · exact ⟨_, d1, rfl⟩
  rcases List.mem_cons.mp hq with rfl | hq
  · exact ⟨_, d2, rfl⟩
  rcases List.mem_cons.mp hq with rfl | hq
  · exact ⟨_, d3, rfl⟩
  cases hq
structure More (K : PySem.W.Frag) (C : Addr) : Prop where
  nfT : PySem.W.notFirst K C (.type "tuple") = true
  nfI : PySem.W.notFirst K C (.type "int") = true
  nsT : PySem.W.kitOne K (.type "tuple") (.ref C) = some false
  nsI : PySem.W.kitOne K (.type "int") (.ref C) = some false
theorem con_letters {K : PySem.W.Frag} {t : Tok} (a : PySem.W.nsIn K mainGlobals "MOST_LETTERS" = some (some (.int 8 t))) : ∃ t, PySem.W.nsIn K mainGlobals "MOST_LETTERS" = some (some (.int 8 t)) := ⟨t, a⟩
theorem con_mtab {K : PySem.W.Frag} {t : Tok} (a : PySem.W.nsIn K mainGlobals "MAX_TABLES" = some (some (.int 6 t))) : ∃ t, PySem.W.nsIn K mainGlobals "MAX_TABLES" = some (some (.int 6 t)) := ⟨t, a⟩
theorem con_mcol {K : PySem.W.Frag} {t : Tok} (a : PySem.W.nsIn K mainGlobals "MAX_COLUMNS" = some (some (.int 6 t))) : ∃ t, PySem.W.nsIn K mainGlobals "MAX_COLUMNS" = some (some (.int 6 t)) := ⟨t, a⟩
theorem con_most {K : PySem.W.Frag} {t : Tok} (a : PySem.W.nsIn K mainGlobals "MOST_COLUMNS" = some (some (.int 4 t))) : ∃ t, PySem.W.nsIn K mainGlobals "MOST_COLUMNS" = some (some (.int 4 t)) := ⟨t, a⟩
theorem con_chg {K : PySem.W.Frag} {t : Tok} (a : PySem.W.nsIn K mainGlobals "CHANGING" = some (some (.str "changing" t))) : ∃ t, PySem.W.nsIn K mainGlobals "CHANGING" = some (some (.str "changing" t)) := ⟨t, a⟩
theorem rest_mk {K : PySem.W.Frag} {p f : Addr} {rest : List Value} (a : PySem.W.recIn K p "classmethod" = some (.ref f :: rest)) : ∃ rest, PySem.W.recIn K p "classmethod" = some (.ref f :: rest) := ⟨rest, a⟩
theorem kb1 {K : PySem.W.Frag} {f : Addr} {fd : FuncData} (F : FunD K "__init__" "Scene.__init__" (defArgs s_ini) (defBody s_ini) (defScope s_ini) [] [("changing", .non), ("fixed", .non), ("keyed", .non)] f fd) :
    ∃ g, KBn K fd psI 1 ["changing"] g (fun vs zs => vs ++ (zs ++ [.non, .non])) := by
  obtain ⟨mv, h⟩ := F.kbinds0 (ps := psI) 1 ["changing"] [("fixed", .non), ("keyed", .non)] (fun us mv ws => us ++ (ws ++ mv)) (by simp) (by simp) (fun a b c => a.append (c.append b)) (fun D doc pm an cdv ct us mv ws l1 l2 l3 => by
    match us, mv, ws, l1, l2, l3 with
    | [u], [m1, m2], [w], _, _, _ => exact ⟨_, _, _, _, _, _, rfl, rfl, ⟨_, _, _, _, _, _, rfl, rfl, rfl⟩⟩)
  exact ⟨_, h⟩
theorem kb3 {K : PySem.W.Frag} {f : Addr} {fd : FuncData} (F : FunD K "__init__" "Scene.__init__" (defArgs s_ini) (defBody s_ini) (defScope s_ini) [] [("changing", .non), ("fixed", .non), ("keyed", .non)] f fd) :
    ∃ g, KBn K fd psI 1 ["changing", "fixed", "keyed"] g (fun vs zs => vs ++ zs) := by
  obtain ⟨mv, h⟩ := F.kbinds0 (ps := psI) 1 ["changing", "fixed", "keyed"] [] (fun us mv ws => us ++ ws) (by simp) (by simp) (fun a b c => a.append c) (fun D doc pm an cdv ct us mv ws l1 l2 l3 => by
    match us, mv, ws, l1, l2, l3 with
    | [u], [], [w1, w2, w3], _, _, _ => exact rfl)
  exact ⟨_, h⟩
theorem kbr {K : PySem.W.Frag} {f : Addr} {fd : FuncData} (F : FunD K "__init__" "Scene.__init__" (defArgs s_ini) (defBody s_ini) (defScope s_ini) [] [("changing", .non), ("fixed", .non), ("keyed", .non)] f fd) :
    ∃ g, KBn K fd psI 1 ["keyed", "fixed", "changing"] g (fun vs zs => vs ++ zs.reverse) := by
  obtain ⟨mv, h⟩ := F.kbinds0 (ps := psI) 1 ["keyed", "fixed", "changing"] [] (fun us mv ws => us ++ ws.reverse) (by simp) (by simp) (fun a b c => a.append c.reverse) (fun D doc pm an cdv ct us mv ws l1 l2 l3 => by
    match us, mv, ws, l1, l2, l3 with
    | [u], [], [w1, w2, w3], _, _, _ => exact rfl)
  exact ⟨_, h⟩
theorem kb2 {K : PySem.W.Frag} {f : Addr} {fd : FuncData} (F : FunD K "__init__" "Scene.__init__" (defArgs s_ini) (defBody s_ini) (defScope s_ini) [] [("changing", .non), ("fixed", .non), ("keyed", .non)] f fd) :
    ∃ g, KBn K fd psI 1 ["fixed", "keyed"] g (fun vs zs => vs ++ (.non :: zs)) := by
  obtain ⟨mv, h⟩ := F.kbinds0 (ps := psI) 1 ["fixed", "keyed"] [("changing", .non)] (fun us mv ws => us ++ (mv ++ ws)) (by simp) (by simp) (fun a b c => a.append (b.append c)) (fun D doc pm an cdv ct us mv ws l1 l2 l3 => by
    match us, mv, ws, l1, l2, l3 with
    | [u], [m], [w1, w2], _, _, _ => exact ⟨_, _, _, _, _, _, rfl, rfl, rfl⟩)
  exact ⟨_, h⟩
theorem all_mk {P : Program} {w : World} {K : PySem.W.Frag} {h : Heap} {mg : Str → Option Value} {fa f_law C fi pc fo f_roll f_pick f_mixed f_some f_words f_dice f_name f_cols f_choice f_key f_cl f_chk f_dt f_lt f_do f_kind f_lsc f_lco f_lls f_lto f_lli f_lma f_lot f_lar f_lri m_con m_need m_cof m_kof m_eq m_len m_it m_str : Addr} (X : K.In h) (G : h.Ns mainGlobals mg) (hfa : mg "law" = some (.ref fa))
    (L : At K "law" s_law f_law) (U : Tops K f_roll f_pick f_mixed f_some f_words f_dice f_name f_cols f_choice f_key f_cl f_chk f_dt f_lt f_do f_kind f_lsc f_lco f_lls f_lto f_lli f_lma f_lot f_lar f_lri) (S : ScK K C fi pc fo) (MT : Mets K C m_con m_need m_cof m_kof m_eq m_len m_it m_str) (Z : Blt K) (Y : More K C) :
    ∃ fd : FuncData, (∀ (s : Shared) (v : Value), BindsTo s fd ⟨[v], []⟩ [("script", v)]) ∧ ∀ base : Heap, K.In base → base.Ns mainGlobals mg → K1.FnOkG P w K mg base 14 fa fd ["script"] (spLaw K) := by
  have e := hfa.symm.trans (PySem.W.mg_of X G L.g)
  cases e
  obtain ⟨fdL, FL⟩ := L.fn
  have T : NamesR mg :=
    { int := PySem.W.mg_none_of X G Z.z_int, len := PySem.W.mg_none_of X G Z.z_len, abs := PySem.W.mg_none_of X G Z.z_abs, max := PySem.W.mg_none_of X G Z.z_max, min := PySem.W.mg_none_of X G Z.z_min, list := PySem.W.mg_none_of X G Z.z_list, isinstance := PySem.W.mg_none_of X G Z.z_isinstance, str := PySem.W.mg_none_of X G Z.z_str, tuple := PySem.W.mg_none_of X G Z.z_tuple, bool := PySem.W.mg_none_of X G Z.z_bool, all := PySem.W.mg_none_of X G Z.z_all, zip := PySem.W.mg_none_of X G Z.z_zip, sorted := PySem.W.mg_none_of X G Z.z_sorted, set := PySem.W.mg_none_of X G Z.z_set, dict := PySem.W.mg_none_of X G Z.z_dict, repr := PySem.W.mg_none_of X G Z.z_repr, iter := PySem.W.mg_none_of X G Z.z_iter, enum := PySem.W.mg_none_of X G Z.z_enumerate, letters := (by obtain ⟨t, q⟩ := Z.c_letters; exact ⟨t, PySem.W.mg_of X G q⟩), mtab := (by obtain ⟨t, q⟩ := Z.c_mtab; exact ⟨t, PySem.W.mg_of X G q⟩), mcol := (by obtain ⟨t, q⟩ := Z.c_mcol; exact ⟨t, PySem.W.mg_of X G q⟩), most := (by obtain ⟨t, q⟩ := Z.c_most; exact ⟨t, PySem.W.mg_of X G q⟩), chg := (by obtain ⟨t, q⟩ := Z.c_chg; exact ⟨t, PySem.W.mg_of X G q⟩) }
  have bindL := FL.binds (ps := ["script"]) fun _ _ _ _ _ _ us hl => match us, hl with | [_], _ => rfl
  have cl : Cls K C := ⟨S.pg, S.hd, S.po, S.sa⟩
  have TC : ClsS K mg C := ⟨cl, S.nl, S.nt, S.nc, S.ng, S.nf, S.ncb, S.nkb, PySem.W.mg_of X G S.aC⟩
  have IC : ClsI K C := ⟨cl, S.ga, S.gn, S.gt, S.gm, S.self, S.str⟩
  obtain ⟨fdO, FO⟩ := S.fof
  obtain ⟨fdI, FDI, FI⟩ := S.fin
  refine ⟨fdL, fun s v => ?_, fun base K0 G0 => ?_⟩
  · obtain ⟨oc, od, kV, doc, pm, an, cdv, ct, osl, rfl, lk, hcd⟩ := FL.ex
    exact .of_eq rfl
  · have Croll : Callee P w K mg base CX0 1 "_law_roll" ["dice", "upto"] spRoll := callee X G U.roll_ (fun fd F => F.binds (ps := ["dice", "upto"]) fun _ _ _ _ _ _ us hl => match us, hl with | [_, _], _ => rfl) fun fd F => ok_roll F T.toNamesS.toNames2.toNames
    have Cpick : Callee P w K mg base CX0 2 "_law_pick" ["dice", "items"] spPick := callee X G U.pick_ (fun fd F => F.binds (ps := ["dice", "items"]) fun _ _ _ _ _ _ us hl => match us, hl with | [_, _], _ => rfl) fun fd F => ok_pick F T.toNamesS.toNames2.toNames Croll
    have Cmixed : Callee P w K mg base CX0 2 "_law_mixed" ["dice", "items"] spMixed := callee X G U.mixed_ (fun fd F => F.binds (ps := ["dice", "items"]) fun _ _ _ _ _ _ us hl => match us, hl with | [_, _], _ => rfl) fun fd F => ok_mixed F T.toNamesS.toNames2.toNames Croll
    have Csome : Callee P w K mg base CX0 3 "_law_some" ["dice", "items", "least", "most"] spSome := callee X G U.some_ (fun fd F => F.binds (ps := ["dice", "items", "least", "most"]) fun _ _ _ _ _ _ us hl => match us, hl with | [_, _, _, _], _ => rfl) fun fd F => ok_some F T.toNamesS.toNames2.toNames Croll Cmixed
    have Cwords : Callee P w K mg base CX0 3 "_law_words" ["dice", "upto"] spWords := callee X G U.words_ (fun fd F => F.binds (ps := ["dice", "upto"]) fun _ _ _ _ _ _ us hl => match us, hl with | [_, _], _ => rfl) fun fd F => ok_words F T.toNamesS.toNames2.toNames Cmixed
    have Cdice : Callee P w K mg base CX0 1 "_law_dice" ["script", "spot"] (spDice K) := callee X G U.dice_ (fun fd F => F.binds (ps := ["script", "spot"]) fun _ _ _ _ _ _ us hl => match us, hl with | [_, _], _ => rfl) fun fd F => ok_dice F T.toNamesS.toNames2.toNames
    have Cname : Callee P w K mg base CX0 1 "is_name" ["value"] (spName K) := callee X G U.name_ (fun fd F => F.binds (ps := ["value"]) fun _ _ _ _ _ _ us hl => match us, hl with | [_], _ => rfl) fun fd F => ok_name F T.toNamesS.toNames2
    have Ccols : Callee P w K mg base CX0 2 "is_columns" ["value"] (spCols K) := callee X G U.cols_ (fun fd F => F.binds (ps := ["value"]) fun _ _ _ _ _ _ us hl => match us, hl with | [_], _ => rfl) fun fd F => ok_cols F T.toNamesS.toNames2 Cname
    have Cchoice : Callee P w K mg base CX0 3 "_is_choice" ["value"] (spChoice K) := callee X G U.choice_ (fun fd F => F.binds (ps := ["value"]) fun _ _ _ _ _ _ us hl => match us, hl with | [_], _ => rfl) fun fd F => ok_choice F T.toNamesS.toNames2 T.sorted Cname Ccols
    have Ckey : Callee P w K mg base CX0 4 "_is_key" ["value", "columns"] (spKey K) := callee X G U.key_ (fun fd F => F.binds (ps := ["value", "columns"]) fun _ _ _ _ _ _ us hl => match us, hl with | [_, _], _ => rfl) fun fd F => ok_key F T.toNamesS.toNames2 Cchoice
    have Ccl : Callee P w K mg base CX0 5 "_checked_line" ["line"] spCL := callee X G U.cl_ (fun fd F => F.binds (ps := ["line"]) fun _ _ _ _ _ _ us hl => match us, hl with | [_], _ => rfl) fun fd F => ok_cl F T.toNamesS Cname Cchoice Ckey
    have Cchk : Callee P w K mg base CX0 6 "_checked" ["lines"] spChk := callee X G U.chk_ (fun fd F => F.binds (ps := ["lines"]) fun _ _ _ _ _ _ us hl => match us, hl with | [_], _ => rfl) fun fd F => ok_chk F T.toNamesS Ccl
    have Cdt : Callee P w K mg base CX0 2 "_dict_told" ["value"] spDT := callee X G U.dt_ (fun fd F => F.binds (ps := ["value"]) fun _ _ _ _ _ _ us hl => match us, hl with | [_], _ => rfl) fun fd F => ok_dt F T.toNamesS Cname
    have Clt : Callee P w K mg base CX0 7 "_lines_told" ["changing", "fixed", "keyed"] spLT := callee X G U.lt_ (fun fd F => F.binds (ps := ["changing", "fixed", "keyed"]) fun _ _ _ _ _ _ us hl => match us, hl with | [_, _, _], _ => rfl) fun fd F => ok_lt F T.toNamesS Cdt Cchk
    have Cdo : Callee P w K mg base CX0 7 "_dicts_of" ["lines"] spDO := callee X G U.do_ (fun fd F => F.binds (ps := ["lines"]) fun _ _ _ _ _ _ us hl => match us, hl with | [_], _ => rfl) fun fd F => ok_do F T.toNamesS Cchk
    have MS : MakeS P w K mg base C := ⟨fi, fdI, ⟨S.mks, S.ini, S.fni, S.kp⟩, ok_ini FI T.toNamesS TC Clt, kb3 FDI, kb1 FDI, kbr FDI, kb2 FDI⟩
    have OF : OfM P w K mg base C := ⟨.type "type", pc, fo, fdO, ⟨S.rd, S.gat⟩, ⟨S.at_, S.rc, S.fno⟩, ok_of FO T.toNamesS Cdo MS, FO.binds (ps := ["cls", "lines"]) fun _ _ _ _ _ _ us hl => match us, hl with | [_, _], _ => rfl⟩
    have Mcon : Mth P w K mg base C 1 "__contains__" ["self", "value"] (spCon K C) := mth MT.con_ (fun fd F => F.binds (ps := ["self", "value"]) fun _ _ _ _ _ _ us hl => match us, hl with | [_, _], _ => rfl) fun fd F => ok_con F T.toNamesS T.str TC
    have Mneed : Mth P w K mg base C 2 "_need" ["self", "table"] (spNeed C) := mth MT.need_ (fun fd F => F.binds (ps := ["self", "table"]) fun _ _ _ _ _ _ us hl => match us, hl with | [_, _], _ => rfl) fun fd F => ok_need F Mcon
    have Mcof : Mth P w K mg base C 3 "columns_of" ["self", "table"] (spCof C) := mth MT.cof_ (fun fd F => F.binds (ps := ["self", "table"]) fun _ _ _ _ _ _ us hl => match us, hl with | [_, _], _ => rfl) fun fd F => ok_cof F TC Mneed
    have Mkof : Mth P w K mg base C 3 "key_of" ["self", "table"] (spKof C) := mth MT.kof_ (fun fd F => F.binds (ps := ["self", "table"]) fun _ _ _ _ _ _ us hl => match us, hl with | [_, _], _ => rfl) fun fd F => ok_kof F TC Mneed
    have Meq : Mth P w K mg base C 1 "__eq__" ["self", "other"] (spEq K C) := mth MT.eq_ (fun fd F => F.binds (ps := ["self", "other"]) fun _ _ _ _ _ _ us hl => match us, hl with | [_, _], _ => rfl) fun fd F => ok_eq F T.toNamesS TC IC S.kp
    have Mlen : Mth P w K mg base C 1 "__len__" ["self"] (spLen C) := mth MT.len_ (fun fd F => F.binds (ps := ["self"]) fun _ _ _ _ _ _ us hl => match us, hl with | [_], _ => rfl) fun fd F => ok_len F T.toNamesS TC
    have Mit : Mth P w K mg base C 1 "__iter__" ["self"] (spIt C) := mth MT.it_ (fun fd F => F.binds (ps := ["self"]) fun _ _ _ _ _ _ us hl => match us, hl with | [_], _ => rfl) fun fd F => ok_it F T.iter TC
    have Mstr : Mth P w K mg base C 1 "__str__" ["self"] (spStr C) := mth MT.str_ (fun fd F => F.binds (ps := ["self"]) fun _ _ _ _ _ _ us hl => match us, hl with | [_], _ => rfl) fun fd F => ok_str F T.toNamesS TC
    have Ptables : Prp P w K mg base C "tables" "_tables" := prp MT.p_tables cl S.nt scp_tables rfl rfl fun f fd F => F.binds (ps := ["self"]) fun _ _ _ _ _ _ us hl => match us, hl with | [_], _ => rfl
    have Pchanging : Prp P w K mg base C "changing" "_changing" := prp MT.p_changing cl S.ng scp_changing rfl rfl fun f fd F => F.binds (ps := ["self"]) fun _ _ _ _ _ _ us hl => match us, hl with | [_], _ => rfl
    have Pfixed : Prp P w K mg base C "fixed" "_fixed" := prp MT.p_fixed cl S.nf scp_fixed rfl rfl fun f fd F => F.binds (ps := ["self"]) fun _ _ _ _ _ _ us hl => match us, hl with | [_], _ => rfl
    have Pcolumns : Prp P w K mg base C "columns" "_columns" := prp MT.p_columns cl S.nc scp_columns rfl rfl fun f fd F => F.binds (ps := ["self"]) fun _ _ _ _ _ _ us hl => match us, hl with | [_], _ => rfl
    have Plines : Prp P w K mg base C "lines" "_lines" := prp MT.p_lines cl S.nl scp_lines rfl rfl fun f fd F => F.binds (ps := ["self"]) fun _ _ _ _ _ _ us hl => match us, hl with | [_], _ => rfl
    have WY : Ways P w K mg base C := ⟨TC, IC, ⟨S.ne, S.gm⟩, Mcon, Mlen, Mit, Meq, Mstr, Mcof, Mkof, Ptables, Pchanging, Pfixed, Pcolumns, Plines⟩
    have Ckind : Callee P w K mg base CX0 4 "_law_kind" ["dice", "columns", "still"] spKind := callee X G U.kind_ (fun fd F => F.binds (ps := ["dice", "columns", "still"]) fun _ _ _ _ _ _ us hl => match us, hl with | [_, _, _], _ => rfl) fun fd F => ok_kind F T.toNamesS Croll Csome
    have Clsc : Callee P w K mg base CX0 5 "_law_scene" ["dice", "tables", "columns", "still"] spLsc := callee X G U.lsc_ (fun fd F => F.binds (ps := ["dice", "tables", "columns", "still"]) fun _ _ _ _ _ _ us hl => match us, hl with | [_, _, _, _], _ => rfl) fun fd F => ok_lsc F T.toNamesS T.enum Croll Cmixed Csome Cwords Ckind
    have Clco : Callee P w K mg base CX0 1 "_law_columns" ["scene"] spLco := callee X G U.lco_ (fun fd F => F.binds (ps := ["scene"]) fun _ _ _ _ _ _ us hl => match us, hl with | [_], _ => rfl) fun fd F => ok_lco F T.toNamesS
    have Clls : Callee P w K mg base CX0 1 "_law_lines" ["scene"] spLls := callee X G U.lls_ (fun fd F => F.binds (ps := ["scene"]) fun _ _ _ _ _ _ us hl => match us, hl with | [_], _ => rfl) fun fd F => ok_lls F T.toNamesS
    have Clto : Callee P w K mg base CX0 3 "_law_told" ["dice", "scene"] spLto := callee X G U.lto_ (fun fd F => F.binds (ps := ["dice", "scene"]) fun _ _ _ _ _ _ us hl => match us, hl with | [_, _], _ => rfl) fun fd F => ok_lto F T.toNamesS Cmixed
    have Clli : Callee P w K mg base CX0 3 "_law_lined" ["dice", "scene"] spLli := callee X G U.lli_ (fun fd F => F.binds (ps := ["dice", "scene"]) fun _ _ _ _ _ _ us hl => match us, hl with | [_, _], _ => rfl) fun fd F => ok_lli F T.toNamesS Cmixed
    have Clma : Callee P w K mg base CX0 10 "_law_made" ["dice", "scene"] (spLma C) := callee X G U.lma_ (fun fd F => F.binds (ps := ["dice", "scene"]) fun _ _ _ _ _ _ us hl => match us, hl with | [_, _], _ => rfl) fun fd F => ok_lma F T.toNamesS TC MS Clto
    have Clot : Callee P w K mg base CX0 3 "_law_other" ["dice", "scene"] spLot := callee X G U.lot_ (fun fd F => F.binds (ps := ["dice", "scene"]) fun _ _ _ _ _ _ us hl => match us, hl with | [_, _], _ => rfl) fun fd F => ok_lot F T.toNamesS T.list Cpick
    have Clar : K1.CalleeG P w K mg base 6 "_law_asked_right" ["scene", "made"] (spLar C) := calleeG X G U.lar_ (fun fd F => F.binds (ps := ["scene", "made"]) fun _ _ _ _ _ _ us hl => match us, hl with | [_, _], _ => rfl) fun fd F => ok_lar F T WY Clco Clls
    have Clri : K1.CalleeG P w K mg base 12 "_law_right" ["dice"] spLri := calleeG X G U.lri_ (fun fd F => F.binds (ps := ["dice"]) fun _ _ _ _ _ _ us hl => match us, hl with | [_], _ => rfl) fun fd F => ok_lri F T WY MS OF Y.nfT Y.nfI Y.nsT Y.nsI Cpick Clsc Clto Clma Clli Clls Clot Clar
    exact ok_law FL T (PySem.W.mg_none_of X G Z.z_range) WY MS OF Cdice Clri
end B2_

/-! ## C21 -/
set_option Elab.async false
set_option linter.all false
set_option maxRecDepth 100000
set_option maxHeartbeats 8000000
namespace K1
open PySem PySem.Spec PyProof.Rows L2
/-! ### the law's call: no text is being written out when the law is asked; no inner code -/
def Keeps (s s' : Shared) : Prop := OldK s.heap s'.heap ∧ s'.os = s.os ∧ AllBare s'.gens
structure Begin (K : PySem.W.Frag) (mg : Str → Option Value) (s : Shared) (a : Addr) (vs : List Value) (ns : List Int) : Prop where
  kin : K.In s.heap
  glob : s.heap.Ns mainGlobals mg
  built : ∃ mb, s.heap.Ns builtinsNs mb ∧
    ∀ x : Str, x ≠ "__name__" → mb x = bootBuiltins x
  calm : s.heap.NoLimit
  idle : s.gens = #[]
  arg : s.heap.get? a = some { cls := .type "list", data := .seq vs.toArray }
  ints_ : IntsAre vs ns
  few : ns.length ≤ sizeLine
/-- what is tracked when the law begins: the script, unless it lies in the written part -/
def HB (K : PySem.W.Frag) (a : Addr) (vs : List Value) (ns : List Int) : Hp := fun b =>
  if b = a ∧ K.lookup a = none then
    some (.frz { cls := .type "list", data := .seq vs.toArray } (.lst (ns.map V.int)))
  else none
section
variable {P : Program} {w : World} {K : PySem.W.Frag} {mg : Str → Option Value} {s : Shared} {a : Addr} {vs : List Value} {ns : List Int}
theorem hb_cases {b : Addr} {u : HO} (h : HB K a vs ns b = some u) : b = a ∧ K.lookup a = none ∧ u = .frz { cls := .type "list", data := .seq vs.toArray } (.lst (ns.map V.int)) := by
  unfold HB at h
  split at h
  · next e => exact ⟨e.1, e.2, (Option.some.inj h).symm⟩
  · cases h
theorem Begin.seq (S : Begin K mg s a vs ns) : SqL K (HB K a vs ns) a (ns.map V.int) := by
  cases e : K.lookup a with
  | none =>
    refine .inl (.inr ⟨⟨.type "list", none, .seq vs.toArray, #[]⟩, ?_⟩)
    unfold HB
    rw [if_pos ⟨rfl, e⟩]
  | some o =>
    have h := S.kin a o e
    rw [S.arg] at h
    cases h
    refine .inr ⟨_, vs.toArray, _, e, rfl, rfl, rfl, ?_, ?_⟩
    · rw [List.size_toArray, S.ints_.length]; exact S.few
    · simpa using vals_ints S.ints_
theorem Begin.hok (S : Begin K mg s a vs ns) : HOk P w (HB K a vs ns) s.heap := fun b u h => by
  obtain ⟨rfl, _, rfl⟩ := hb_cases h
  exact ⟨S.arg, by rw [List.length_map]; exact S.few, vs, _, vals_ints S.ints_, S.arg⟩
/-- an object that is not the script stays in the ground -/
theorem Begin.rest {b : Addr} (m : b = a → K.lookup a ≠ none) : HB K a vs ns b = none := by
  unfold HB
  rw [if_neg fun z => m z.1 z.2]
theorem Begin.plain (S : Begin K mg s a vs ns) {b : Addr} {o : Obj} (e : s.heap.get? b = some o) (n2 : ∀ xs k, o.data ≠ .seq xs k) : (hidT s.heap (HB K a vs ns)).get? b = some o := by
  refine hidT_get e (Begin.rest fun z => ?_)
  rw [z, S.arg] at e
  cases e
  exact absurd rfl (n2 _ _)
theorem Begin.names (S : Begin K mg s a vs ns) {b : Addr} {m : Str → Option Value} (h : s.heap.Ns b m) : (hidT s.heap (HB K a vs ns)).Ns b m := by
  obtain ⟨o, es, ep, e, d, r⟩ := h
  refine ⟨o, es, ep, S.plain e ?_, d, r⟩
  intro xs k z; rw [d] at z; cases z
theorem Begin.low (S : Begin K mg s a vs ns) : K.In (hidT s.heap (HB K a vs ns)) := fun b o e => by
  refine hidT_get (S.kin b o e) (Begin.rest fun z => ?_)
  rw [← z, e]; exact fun q => by cases q
theorem Begin.env (S : Begin K mg s a vs ns) : Env0 P w K mg (hidT s.heap (HB K a vs ns)) callerA [] s (HB K a vs ns) where
  frames := rfl
  mod := by
    obtain ⟨mb, b1, b2⟩ := S.built
    obtain ⟨mc, c1, c2⟩ := S.calm
    exact ⟨S.low, S.names S.glob, ⟨mb, S.names b1, b2⟩, ⟨mc, S.names c1, c2⟩⟩
  bs := fun _ _ e => of_hidT e
  bsz := Nat.le_of_eq (hidT_size _ _)
  funs := trivial
  frf := fun b hb => by cases hb
  hok := S.hok
  bare := .of_eq S.idle
theorem callB {k : Nat} {fa : Addr} {fd : FuncData} {x : Str} {sp : Sp} (S : Begin K mg s a vs ns) (room : Room k callerA)
    (F : ∀ base : Heap, K.In base → base.Ns mainGlobals mg → FnOkG P w K mg base k fa fd [x] sp) (bind : ∀ (s : Shared) (u : Value), BindsTo s fd ⟨[u], []⟩ [(x, u)])
    (goal : ∀ H : Hp, SqL K H a (ns.map V.int) → sp [.ref a] H (fun v _ => v = .bl true) E0) :
    codeAny (model P w) callerA (.call (.ref fa) ⟨[.ref a], []⟩) (fun r s' => r = .ok (.ret (.bool true)) ∧ Keeps s s') s := by
  have ran := (F _ S.low (S.names S.glob)).run callerA [] s _ ⟨[.ref a], []⟩ [.ref a] [.ref a] _ room rfl S.env (bind s _) (.cons rfl .nil) (goal _ S.seq)
  refine codeAny_mono ran fun r s' h => ?_
  match r, h with
  | .ok (.ret u), h =>
    obtain ⟨v, H', same, bare, un, ok', rel, q⟩ := h
    subst q
    obtain rfl : u = Value.bool true := rel
    refine ⟨rfl, OldK.of_keep fun b o e => ?_, same, bare⟩
    cases q : HB K a vs ns b with
    | none => exact un.keep b o e q (fun z => by cases z) (fun z => by cases z)
    | some u =>
      obtain ⟨rfl, _, rfl⟩ := hb_cases q
      have e1 := (ok' _ _ (un.frzs _ _ _ q)).1
      rw [S.arg] at e
      cases e
      exact e1
/-- the law's walk -/
theorem walkB {l : PySem.W.OpenLaw} {q : Program} {loose : List Str} {XP : (Str → Option Value) → Heap → Prop} {YP : World → Heap → Prop} {d : DefRec} {K : Params → PySem.W.Frag} {k : Nat} {sp : PySem.W.Frag → Sp} (most : l.most = some 63) (plain : d.params.defaults = []) (room : Room k callerA)
    (low : ∀ (w : World) (h : Heap), YP w h → (K w.params).In h)
    (goal : ∀ (K : PySem.W.Frag) (H : Hp) (a : Addr) (ns : List Int), SqL K H a (ns.map V.int) → sp K [.ref a] H (fun v _ => v = .bl true) E0)
    (parts : ∀ (w : World) (mg : Str → Option Value) (fa : Addr) (h : Heap), (K w.params).In h → h.Ns mainGlobals mg → mg d.name = some (.ref fa) →
      ∃ fd : FuncData, (∀ (s : Shared) (v : Value), BindsTo s fd ⟨[v], []⟩ [("script", v)]) ∧
        ∀ base : Heap, (K w.params).In base → base.Ns mainGlobals mg → FnOkG l.prog w (K w.params) mg base k fa fd ["script"] (sp (K w.params))) :
    PySem.W.WalkO q loose XP YP l.row.toRowW d [] (fun f vs => PySem.call f vs) := by
  refine Att.attach_call most plain fun w s₀ s₁ mg mb fa o pm cd doc a vs ns G Y _ _ _ named obj its short idle => ?_
  have X := low w _ Y
  obtain ⟨fd, bind, ok⟩ := parts w mg fa _ X G.T.g named
  have S : Begin (K w.params) mg s₁ a vs ns := ⟨X, G.T.g, ⟨mb, G.T.b, G.T.builtins⟩, G.T.nolimit, idle, obj, its, Nat.le_trans short (by decide)⟩
  exact callB S room ok bind fun H hS => goal _ H a ns hS
end
end K1

/-! ## B2_32 -/
set_option Elab.async false
open PySem PySem.W PyProof.Rows
set_option maxRecDepth 100000 in
set_option maxHeartbeats 0 in
theorem PySem.Challenge.cw_fewtouched_k02_scenes_made_and_asked_holds : PySem.Challenge.rw_fewtouched_k02_scenes_made_and_asked.Holds := by
  w_on; o_law; k_head; (case hw => w_witness2)
  k_fill
  refine K1.walkB (l := PySem.Challenge.rw_fewtouched_k02_scenes_made_and_asked) (k := 14) (sp := fun K => B2_.spLaw K) rfl rfl ⟨rfl, by decide, by decide⟩ (fun w h Y => PySem.W.kIn_of Y) (fun K H a ns hS => ⟨a, ns, rfl, hS, fun _ => rfl⟩) ?parts
  case parts =>
    intro w mg fa h KX G hmg
    refine' B2_.all_mk KX G hmg (B2_.at_mk ?a_law ?l_law ?c_law ?k_law) ⟨(B2_.at_mk ?a_roll ?l_roll ?c_roll ?k_roll), (B2_.at_mk ?a_pick ?l_pick ?c_pick ?k_pick), (B2_.at_mk ?a_mixed ?l_mixed ?c_mixed ?k_mixed), (B2_.at_mk ?a_some ?l_some ?c_some ?k_some), (B2_.at_mk ?a_words ?l_words ?c_words ?k_words), (B2_.at_mk ?a_dice ?l_dice ?c_dice ?k_dice), (B2_.at_mk ?a_name ?l_name ?c_name ?k_name), (B2_.at_mk ?a_cols ?l_cols ?c_cols ?k_cols), (B2_.at_mk ?a_choice ?l_choice ?c_choice ?k_choice), (B2_.at_mk ?a_key ?l_key ?c_key ?k_key), (B2_.at_mk ?a_cl ?l_cl ?c_cl ?k_cl), (B2_.at_mk ?a_chk ?l_chk ?c_chk ?k_chk), (B2_.at_mk ?a_dt ?l_dt ?c_dt ?k_dt), (B2_.at_mk ?a_lt ?l_lt ?c_lt ?k_lt), (B2_.at_mk ?a_do ?l_do ?c_do ?k_do), (B2_.at_mk ?a_kind ?l_kind ?c_kind ?k_kind), (B2_.at_mk ?a_lsc ?l_lsc ?c_lsc ?k_lsc), (B2_.at_mk ?a_lco ?l_lco ?c_lco ?k_lco), (B2_.at_mk ?a_lls ?l_lls ?c_lls ?k_lls), (B2_.at_mk ?a_lto ?l_lto ?c_lto ?k_lto), (B2_.at_mk ?a_lli ?l_lli ?c_lli ?k_lli), (B2_.at_mk ?a_lma ?l_lma ?c_lma ?k_lma), (B2_.at_mk ?a_lot ?l_lot ?c_lot ?k_lot), (B2_.at_mk ?a_lar ?l_lar ?c_lar ?k_lar), (B2_.at_mk ?a_lri ?l_lri ?c_lri ?k_lri)⟩ ⟨?s_aC, ?s_pg, ?s_hd, ?s_po, ?s_sa, ?s_nl, ?s_nt, ?s_nc, ?s_ng, ?s_nf, ?s_ncb, ?s_nkb, ?s_ga, ?s_gn, ?s_gt, ?s_gm, ?s_self, ?s_str, ?s_ne, ?s_mks, ?s_ini, ?s_fni, ?s_kp, B2_.fin_mk ?s_fl ?s_fc ?s_fk ?s_d1 ?s_d2 ?s_d3, ?s_rd, ?s_gat, ?s_at, B2_.rest_mk ?s_rc, ?s_fno, B2_.fof_mk ?s_ol ?s_oc ?s_ok⟩ ⟨(B2_.atM_mk ?ma_con ?mi_con ?ml_con ?mc_con ?mk_con), (B2_.atM_mk ?ma_need ?mi_need ?ml_need ?mc_need ?mk_need), (B2_.atM_mk ?ma_cof ?mi_cof ?ml_cof ?mc_cof ?mk_cof), (B2_.atM_mk ?ma_kof ?mi_kof ?ml_kof ?mc_kof ?mk_kof), (B2_.atM_mk ?ma_eq ?mi_eq ?ml_eq ?mc_eq ?mk_eq), (B2_.atM_mk ?ma_len ?mi_len ?ml_len ?mc_len ?mk_len), (B2_.atM_mk ?ma_it ?mi_it ?ml_it ?mc_it ?mk_it), (B2_.atM_mk ?ma_str ?mi_str ?ml_str ?mc_str ?mk_str), (B2_.atP_mk ?pa_tables ?pg_tables ?pt_tables ?pr_tables ?pl_tables ?pc_tables ?pk_tables), (B2_.atP_mk ?pa_changing ?pg_changing ?pt_changing ?pr_changing ?pl_changing ?pc_changing ?pk_changing), (B2_.atP_mk ?pa_fixed ?pg_fixed ?pt_fixed ?pr_fixed ?pl_fixed ?pc_fixed ?pk_fixed), (B2_.atP_mk ?pa_columns ?pg_columns ?pt_columns ?pr_columns ?pl_columns ?pc_columns ?pk_columns), (B2_.atP_mk ?pa_lines ?pg_lines ?pt_lines ?pr_lines ?pl_lines ?pc_lines ?pk_lines)⟩ ⟨?z_int, ?z_len, ?z_abs, ?z_max, ?z_min, ?z_list, ?z_isinstance, ?z_str, ?z_tuple, ?z_bool, ?z_all, ?z_zip, ?z_sorted, ?z_set, ?z_dict, ?z_repr, ?z_iter, ?z_enumerate, ?z_range, B2_.con_letters ?c_letters, B2_.con_mtab ?c_mtab, B2_.con_mcol ?c_mcol, B2_.con_most ?c_most, B2_.con_chg ?c_chg⟩ ⟨?y_nfT, ?y_nfI, ?y_nsT, ?y_nsI⟩
    (case a_law => k_is)
    (case l_law => k_is)
    (case c_law => k_is)
    (case k_law => k_is)
    (case a_roll => k_is)
    (case l_roll => k_is)
    (case c_roll => k_is)
    (case k_roll => k_is)
    (case a_pick => k_is)
    (case l_pick => k_is)
    (case c_pick => k_is)
    (case k_pick => k_is)
    (case a_mixed => k_is)
    (case l_mixed => k_is)
    (case c_mixed => k_is)
    (case k_mixed => k_is)
    (case a_some => k_is)
    (case l_some => k_is)
    (case c_some => k_is)
    (case k_some => k_is)
    (case a_words => k_is)
    (case l_words => k_is)
    (case c_words => k_is)
    (case k_words => k_is)
    (case a_dice => k_is)
    (case l_dice => k_is)
    (case c_dice => k_is)
    (case k_dice => k_is)
    (case a_name => k_is)
    (case l_name => k_is)
    (case c_name => k_is)
    (case k_name => k_is)
    (case a_cols => k_is)
    (case l_cols => k_is)
    (case c_cols => k_is)
    (case k_cols => k_is)
    (case a_choice => k_is)
    (case l_choice => k_is)
    (case c_choice => k_is)
    (case k_choice => k_is)
    (case a_key => k_is)
    (case l_key => k_is)
    (case c_key => k_is)
    (case k_key => k_is)
    (case a_cl => k_is)
    (case l_cl => k_is)
    (case c_cl => k_is)
    (case k_cl => k_is)
    (case a_chk => k_is)
    (case l_chk => k_is)
    (case c_chk => k_is)
    (case k_chk => k_is)
    (case a_dt => k_is)
    (case l_dt => k_is)
    (case c_dt => k_is)
    (case k_dt => k_is)
    (case a_lt => k_is)
    (case l_lt => k_is)
    (case c_lt => k_is)
    (case k_lt => k_is)
    (case a_do => k_is)
    (case l_do => k_is)
    (case c_do => k_is)
    (case k_do => k_is)
    (case a_kind => k_is)
    (case l_kind => k_is)
    (case c_kind => k_is)
    (case k_kind => k_is)
    (case a_lsc => k_is)
    (case l_lsc => k_is)
    (case c_lsc => k_is)
    (case k_lsc => k_is)
    (case a_lco => k_is)
    (case l_lco => k_is)
    (case c_lco => k_is)
    (case k_lco => k_is)
    (case a_lls => k_is)
    (case l_lls => k_is)
    (case c_lls => k_is)
    (case k_lls => k_is)
    (case a_lto => k_is)
    (case l_lto => k_is)
    (case c_lto => k_is)
    (case k_lto => k_is)
    (case a_lli => k_is)
    (case l_lli => k_is)
    (case c_lli => k_is)
    (case k_lli => k_is)
    (case a_lma => k_is)
    (case l_lma => k_is)
    (case c_lma => k_is)
    (case k_lma => k_is)
    (case a_lot => k_is)
    (case l_lot => k_is)
    (case c_lot => k_is)
    (case k_lot => k_is)
    (case a_lar => k_is)
    (case l_lar => k_is)
    (case c_lar => k_is)
    (case k_lar => k_is)
    (case a_lri => k_is)
    (case l_lri => k_is)
    (case c_lri => k_is)
    (case k_lri => k_is)
    (case s_aC => first | k_is | kernel_rfl | decide +kernel)
    (case s_pg => first | k_is | kernel_rfl | decide +kernel)
    (case s_hd => first | k_is | kernel_rfl | decide +kernel)
    (case s_po => first | k_is | kernel_rfl | decide +kernel)
    (case s_sa => first | k_is | kernel_rfl | decide +kernel)
    (case s_nl => first | k_is | kernel_rfl | decide +kernel)
    (case s_nt => first | k_is | kernel_rfl | decide +kernel)
    (case s_nc => first | k_is | kernel_rfl | decide +kernel)
    (case s_ng => first | k_is | kernel_rfl | decide +kernel)
    (case s_nf => first | k_is | kernel_rfl | decide +kernel)
    (case s_ncb => first | k_is | kernel_rfl | decide +kernel)
    (case s_nkb => first | k_is | kernel_rfl | decide +kernel)
    (case s_ga => first | k_is | kernel_rfl | decide +kernel)
    (case s_gn => first | k_is | kernel_rfl | decide +kernel)
    (case s_gt => first | k_is | kernel_rfl | decide +kernel)
    (case s_gm => first | k_is | kernel_rfl | decide +kernel)
    (case s_self => first | k_is | kernel_rfl | decide +kernel)
    (case s_str => first | k_is | kernel_rfl | decide +kernel)
    (case s_ne => first | k_is | kernel_rfl | decide +kernel)
    (case s_mks => first | k_is | kernel_rfl | decide +kernel)
    (case s_ini => first | k_is | kernel_rfl | decide +kernel)
    (case s_fni => first | k_is | kernel_rfl | decide +kernel)
    (case s_kp => first | k_is | kernel_rfl | decide +kernel)
    (case s_fl => first | k_is | kernel_rfl | decide +kernel)
    (case s_fc => first | k_is | kernel_rfl | decide +kernel)
    (case s_fk => first | k_is | kernel_rfl | decide +kernel)
    (case s_d1 => first | k_is | kernel_rfl | decide +kernel)
    (case s_d2 => first | k_is | kernel_rfl | decide +kernel)
    (case s_d3 => first | k_is | kernel_rfl | decide +kernel)
    (case s_rd => first | k_is | kernel_rfl | decide +kernel)
    (case s_gat => first | k_is | kernel_rfl | decide +kernel)
    (case s_at => first | k_is | kernel_rfl | decide +kernel)
    (case s_rc => first | k_is | kernel_rfl | decide +kernel)
    (case s_fno => first | k_is | kernel_rfl | decide +kernel)
    (case s_ol => first | k_is | kernel_rfl | decide +kernel)
    (case s_oc => first | k_is | kernel_rfl | decide +kernel)
    (case s_ok => first | k_is | kernel_rfl | decide +kernel)
    (case ma_con => k_is)
    (case mi_con => k_is)
    (case ml_con => k_is)
    (case mc_con => k_is)
    (case mk_con => k_is)
    (case ma_need => k_is)
    (case mi_need => k_is)
    (case ml_need => k_is)
    (case mc_need => k_is)
    (case mk_need => k_is)
    (case ma_cof => k_is)
    (case mi_cof => k_is)
    (case ml_cof => k_is)
    (case mc_cof => k_is)
    (case mk_cof => k_is)
    (case ma_kof => k_is)
    (case mi_kof => k_is)
    (case ml_kof => k_is)
    (case mc_kof => k_is)
    (case mk_kof => k_is)
    (case ma_eq => k_is)
    (case mi_eq => k_is)
    (case ml_eq => k_is)
    (case mc_eq => k_is)
    (case mk_eq => k_is)
    (case ma_len => k_is)
    (case mi_len => k_is)
    (case ml_len => k_is)
    (case mc_len => k_is)
    (case mk_len => k_is)
    (case ma_it => k_is)
    (case mi_it => k_is)
    (case ml_it => k_is)
    (case mc_it => k_is)
    (case mk_it => k_is)
    (case ma_str => k_is)
    (case mi_str => k_is)
    (case ml_str => k_is)
    (case mc_str => k_is)
    (case mk_str => k_is)
    (case pa_tables => first | k_is | kernel_rfl)
    (case pg_tables => first | k_is | kernel_rfl)
    (case pt_tables => first | k_is | kernel_rfl)
    (case pr_tables => first | k_is | kernel_rfl)
    (case pl_tables => first | k_is | kernel_rfl)
    (case pc_tables => first | k_is | kernel_rfl)
    (case pk_tables => first | k_is | kernel_rfl)
    (case pa_changing => first | k_is | kernel_rfl)
    (case pg_changing => first | k_is | kernel_rfl)
    (case pt_changing => first | k_is | kernel_rfl)
    (case pr_changing => first | k_is | kernel_rfl)
    (case pl_changing => first | k_is | kernel_rfl)
    (case pc_changing => first | k_is | kernel_rfl)
    (case pk_changing => first | k_is | kernel_rfl)
    (case pa_fixed => first | k_is | kernel_rfl)
    (case pg_fixed => first | k_is | kernel_rfl)
    (case pt_fixed => first | k_is | kernel_rfl)
    (case pr_fixed => first | k_is | kernel_rfl)
    (case pl_fixed => first | k_is | kernel_rfl)
    (case pc_fixed => first | k_is | kernel_rfl)
    (case pk_fixed => first | k_is | kernel_rfl)
    (case pa_columns => first | k_is | kernel_rfl)
    (case pg_columns => first | k_is | kernel_rfl)
    (case pt_columns => first | k_is | kernel_rfl)
    (case pr_columns => first | k_is | kernel_rfl)
    (case pl_columns => first | k_is | kernel_rfl)
    (case pc_columns => first | k_is | kernel_rfl)
    (case pk_columns => first | k_is | kernel_rfl)
    (case pa_lines => first | k_is | kernel_rfl)
    (case pg_lines => first | k_is | kernel_rfl)
    (case pt_lines => first | k_is | kernel_rfl)
    (case pr_lines => first | k_is | kernel_rfl)
    (case pl_lines => first | k_is | kernel_rfl)
    (case pc_lines => first | k_is | kernel_rfl)
    (case pk_lines => first | k_is | kernel_rfl)
    (case z_int => k_is)
    (case z_len => k_is)
    (case z_abs => k_is)
    (case z_max => k_is)
    (case z_min => k_is)
    (case z_list => k_is)
    (case z_isinstance => k_is)
    (case z_str => k_is)
    (case z_tuple => k_is)
    (case z_bool => k_is)
    (case z_all => k_is)
    (case z_zip => k_is)
    (case z_sorted => k_is)
    (case z_set => k_is)
    (case z_dict => k_is)
    (case z_repr => k_is)
    (case z_iter => k_is)
    (case z_enumerate => k_is)
    (case z_range => k_is)
    (case c_letters => first | k_is | rfl | kernel_rfl)
    (case c_mtab => first | k_is | rfl | kernel_rfl)
    (case c_mcol => first | k_is | rfl | kernel_rfl)
    (case c_most => first | k_is | rfl | kernel_rfl)
    (case c_chg => first | k_is | rfl | kernel_rfl)
    (case y_nfT => first | k_is | kernel_rfl | decide +kernel)
    (case y_nfI => first | k_is | kernel_rfl | decide +kernel)
    (case y_nsT => first | k_is | kernel_rfl | decide +kernel)
    (case y_nsI => first | k_is | kernel_rfl | decide +kernel)
