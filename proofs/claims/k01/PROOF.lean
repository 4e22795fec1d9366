import PyProof.Rows.All
import Wide.All
import OpenK.AllK
import Wide.FinOn
import HandS.ForMost
import HandS.IsInst
import HandS.Lambda
import HandS.Style
import HandS.Zip
import HandS.Conv
import HandS.SetKeys
import HandS.Exc
import HandS.TryOnly
import HandS.ExcOwn
import HandS.WordsExc
import HandS.Wide
import PySem.Challenge.RW_fewtouched_k01_names_and_joined_integers
import HandS.Walk
import HandS.TupAny
import KE.KDictZip
import PyProof.ListNew
import PyProof.DictUpdate
import HandS.More
import HandS.SetTxt0
import HandS.SetFor
import HandS.Strs
import PyProof.Rows.SortShellAny
import HandS.EndTab
import KE.KNestM
import HandS.HeadWalk
/-! ## K0 -/
set_option Elab.async false
set_option linter.all false
set_option maxRecDepth 100000
set_option maxHeartbeats 4000000
namespace K1
open PySem PySem.Spec PyProof.Rows L2
def topS (i : Nat) : Stmt := PySem.Challenge.pw_fewtouched_k01_names_and_joined_integers.main.body.getD i (.Pass ⟨0, 0, 0, 0⟩)

/-! ### heaps: all is kept but what stands at d -/
def But (d : Addr) (H H' : Hp) : Prop := ∀ b o, b ≠ d → H b = some o → H' b = some o
theorem But.refl (d : Addr) (H : Hp) : But d H H := fun _ _ _ h => h
theorem But.trans {d : Addr} {H H1 H2 : Hp} (a : But d H H1) (b : But d H1 H2) : But d H H2 := fun c o n h => b c o n (a c o n h)
theorem But.same {d : Addr} {H H1 : Hp} (a : Same H H1) : But d H H1 := fun c o _ h => a c o h
theorem But.new {d p : Addr} {H H1 : Hp} {o : HO} (a : But d H H1) (h : H1 p = none) : But d H (upd H1 p o) := fun c u n e => by
  rw [upd_ne (ne_of_none (a c u n e) h)]
  exact a c u n e
theorem But.put {d : Addr} {H H1 : Hp} {o : HO} (a : But d H H1) : But d H (upd H1 d o) := fun c u n e => by
  rw [upd_ne n]
  exact a c u n e
theorem Same.new {p : Addr} {H H1 : Hp} {o : HO} (a : Same H H1) (h : H1 p = none) : Same H (upd H1 p o) := fun c u e => by
  rw [upd_ne (ne_of_none (a c u e) h)]
  exact a c u e
/-- the dice at d: a list of three ints -/
def Dice (H : Hp) (d : Addr) : Prop := ∃ a b c : Int, H d = some (.lst [.int a, .int b, .int c])
theorem Dice.new {d p : Addr} {H : Hp} {o : HO} (a : Dice H d) (h : H p = none) : Dice (upd H p o) d := by
  obtain ⟨x, y, z, e⟩ := a
  exact ⟨x, y, z, by rw [upd_ne (ne_of_none e h)]; exact e⟩
theorem Dice.same {d : Addr} {H H' : Hp} (a : Dice H d) (s : Same H H') : Dice H' d := by
  obtain ⟨x, y, z, e⟩ := a
  exact ⟨x, y, z, s _ _ e⟩

/-! ### the text of the dice -/
abbrev s_roll : Stmt := topS 14
abbrev N_roll : List Str := ["dice", "upto", "found", "one", "two"]
theorem sc_roll : FnScope N_roll ["dice", "upto"] (defScope s_roll) := ⟨rfl, rfl, rfl, by decide +kernel, rfl, by decide +kernel, by decide +kernel⟩
/-- the roll: an int below upto -/
def spRoll : Sp := fun vs H Q _ => ∃ (d : Addr) (n : Int), vs = [.ref d, .int n] ∧ Dice H d ∧ 0 < n ∧ n < 1073741824 ∧ ∀ r H', 0 ≤ r → r < n → But d H H' → Dice H' d → Q (.int r) H'

/-- a def of the text that may be called: where it stands, what it promises -/
structure Callee (P : Program) (w : World) (K : PySem.W.Frag) (mg : Str → Option Value) (base : Heap) (CX : CXT) (k : Nat) (x : Str) (ps : List Str) (sp : Sp) : Prop where
  ex : ∃ f fd, mg x = some (.ref f) ∧ PySem.W.keepIn K (.ref f) = true ∧ FnOk P w K mg base CX k f fd ps sp ∧ Binds K fd ps []
section
variable {X : Cx}
theorem pe_use {CX : CXT} {k : Nat} {x : Str} {ps : List Str} {sp : Sp} {e : Expr} {es : List Expr} {t : TA} {E : XK} {p pos : Pos} (C : Callee X.prog X.w X.K X.mg X.base CX k x ps sp) (hr : Room k X.A) (hg : Gl X x) (hx : Passes CX X E) (ha : PA X (e :: es) t)
    (hd : (x == ("__debug__" : Str)) = false := by decide) (he : starEach (e :: es) X.env = (false, eval e X.env) :: starEach es X.env := by rfl)
    (hpl : (backTo pos (starEach es X.env)).any (·.1) = false := by rfl) :
    PE X (.Call (.Name x p) (e :: es) [] pos) (tCall sp [] E t) := by
  obtain ⟨f, fd, hm, hk, F, hb⟩ := C.ex
  exact pe_call F hr hg hm hk hb .nil hx ha (by assumption) (by assumption) (by assumption)
end
/-- the built-in names that the text calls -/
structure Names (mg : Str → Option Value) : Prop where
  int : mg "int" = none
  len : mg "len" = none
  abs : mg "abs" = none
  max : mg "max" = none
  min : mg "min" = none
  list : mg "list" = none
section
variable {P : Program} {w : World} {K : PySem.W.Frag} {mg : Str → Option Value} {base : Heap}
theorem ok_roll {f : Addr} {fd : FuncData} (F : Fun K "_law_roll" "_law_roll" s_roll f fd) (T : Names mg) : FnOk P w K mg base CX0 1 f fd ["dice", "upto"] spRoll := by
  have nd := sc_roll.nd
  refine F.ok sc_roll (fun vs H Q E h => ?_) (fun cdv A outer s H vs Q E hr h => ?_)
  · obtain ⟨d, n, rfl, _⟩ := h
    rfl
  · obtain ⟨d, n, rfl, ⟨a, b, c, hd⟩, n0, n1, k⟩ := h
    refine ⟨_, (pss_cons
    (ps_if (pt_cmpR op_gt (pe_ix ix_list (pv 0) pe_int (fun _ _ => rfl)) pe_int (nomark _)) (pss_cons
      (ps_set (i := 2) nd rfl (Or.inl rfl) (pe_op op_mod (pe_callTy call_int1 (by rfl) T.int (by decide +kernel) (pa_cons (pe_ix ix_list (pv 0) pe_int (fun _ _ => rfl)) pa_nil)) (pv 1)))
      (pss_cons
      (ps_asg (pe_op op_fdiv (pe_ix ix_list (pv 0) pe_int (fun _ _ => rfl)) (pv 1)) (pg_sub (pv 0) pe_int set_list))
      (pss_one
      (ps_ret (pv 2))))) pss_nil)
    (pss_cons
    (ps_asg (pe_op op_add (pe_ix ix_list (pv 0) pe_int (fun _ _ => rfl)) pe_int) (pg_sub (pv 0) pe_int set_list))
    (pss_cons
    (ps_set (i := 3) nd rfl (Or.inl rfl) (pe_op op_mod (pe_callTy call_int1 (by rfl) T.int (by decide +kernel) (pa_cons (pe_op op_add (pe_ix ix_list (pv 0) pe_int (fun _ _ => rfl)) (pe_op op_mul pe_int (pe_ix ix_list (pv 0) pe_int (fun _ _ => rfl)))) pa_nil)) pe_int))
    (pss_cons
    (ps_set (i := 4) nd rfl (Or.inl rfl) (pe_op op_add (pe_op op_mul (pe_op op_mod (pe_callTy call_int1 (by rfl) T.int (by decide +kernel) (pa_cons (pe_op op_mul (pv 3) (pv 3)) pa_nil)) pe_int) (pv 3)) (pe_op op_mul pe_int (pe_ix ix_list (pv 0) pe_int (fun _ _ => rfl)))))
    (pss_one
    (ps_ret (pe_op op_mod (pe_callTy call_int1 (by rfl) T.int (by decide +kernel) (pa_cons (pe_op op_fdiv (pe_op op_mod (pe_callTy call_int1 (by rfl) T.int (by decide +kernel) (pa_cons (pe_op op_add (pv 4) (pe_ix ix_list (pv 0) pe_int (fun _ _ => rfl))) pa_nil)) pe_int) pe_int) pa_nil)) (pv 1)))))))), ?_⟩
    refine ⟨_, rfl, d, _, _, _, rfl, rfl, SqL.of hd, at_of (j := 0) rfl rfl, _, _, rfl, rfl, _, rfl, ite2 (fun h0 => ?_) (fun h0 => ?_)⟩
    · refine ⟨_, rfl, d, _, _, _, rfl, rfl, SqL.of hd, at_of (j := 0) rfl rfl, .inl ⟨_, rfl, ?_⟩⟩
      refine ⟨_, rfl, _, _, rfl, rfl, n0, ?_⟩
      refine ⟨_, rfl, d, _, _, _, rfl, rfl, SqL.of hd, at_of (j := 0) rfl rfl, _, rfl, _, _, rfl, rfl, ⟨n0, n1⟩, ?_⟩
      refine ⟨_, rfl, d, _, _, 0, rfl, rfl, hd, rfl, ?_⟩
      exact ⟨_, rfl, k _ _ (Int.emod_nonneg _ (by omega)) (Int.emod_lt_of_pos _ n0) (But.refl d H).put ⟨_, _, _, upd_same⟩⟩
    · refine ⟨_, rfl, d, _, _, _, rfl, rfl, SqL.of hd, at_of (j := 2) rfl rfl, _, _, rfl, rfl, ?_⟩
      refine ⟨_, rfl, d, _, _, 2, rfl, rfl, hd, rfl, ?_⟩
      refine ⟨_, rfl, d, _, _, _, rfl, rfl, SqL.of upd_same, at_of (j := 1) rfl rfl, ?_⟩
      refine ⟨_, rfl, d, _, _, _, rfl, rfl, SqL.of upd_same, at_of (j := 2) rfl rfl, _, _, rfl, rfl, .inl (by decide), _, _, rfl, rfl, .inl ⟨_, rfl, ?_⟩⟩
      refine ⟨_, _, rfl, rfl, (by show (0 : Int) < 67280421310679; decide), ?_⟩
      have o0 := Int.emod_nonneg (b + 961748941 * (c + 1)) (b := 67280421310679) (by decide)
      have o1 := Int.emod_lt_of_pos (b + 961748941 * (c + 1)) (b := 67280421310679) (by decide)
      have rng : -(2 ^ 64) < (b + 961748941 * (c + 1)) % 67280421310679 ∧ (b + 961748941 * (c + 1)) % 67280421310679 < 2 ^ 64 := ⟨by omega, by omega⟩
      refine ⟨_, rfl, _, rfl, _, _, rfl, rfl, .inl rng, .inl ⟨_, rfl, ?_⟩⟩
      refine ⟨_, _, rfl, rfl, (by show (0 : Int) < 576460752303423389; decide), ?_⟩
      refine ⟨_, rfl, _, _, rfl, rfl, .inr rng, ?_⟩
      refine ⟨_, rfl, d, _, _, _, rfl, rfl, SqL.of upd_same, at_of (j := 2) rfl rfl, _, _, rfl, rfl, .inl (by decide), _, _, rfl, rfl, ?_⟩
      refine ⟨_, rfl, _, rfl, d, _, _, _, rfl, rfl, SqL.of upd_same, at_of (j := 1) rfl rfl, _, _, rfl, rfl, .inl ⟨_, rfl, ?_⟩⟩
      refine ⟨_, _, rfl, rfl, (by show (0 : Int) < 2199023255579; decide), ?_⟩
      refine ⟨_, _, rfl, rfl, ⟨by decide, by decide⟩, .inl ⟨_, rfl, ?_⟩⟩
      refine ⟨_, rfl, _, _, rfl, rfl, n0, ?_⟩
      exact k _ _ (Int.emod_nonneg _ (by omega)) (Int.emod_lt_of_pos _ n0) (But.refl d H).put ⟨_, _, _, upd_same⟩
end
end K1

/-! ## K1 -/
set_option Elab.async false
set_option linter.all false
set_option maxRecDepth 100000
set_option maxHeartbeats 4000000
namespace K1
open PySem PySem.Spec PyProof.Rows L2
/-- a list or a tuple that stands in H -/
def Its (H : Hp) (b : Addr) (xs : List V) : Prop := H b = some (.lst xs) ∨ H b = some (.tup xs)
theorem Its.seq {K : PySem.W.Frag} {H : Hp} {b : Addr} {xs : List V} (h : Its H b xs) : SqL K H b xs ∨ SqT K H b xs := h.elim (fun q => .inl (SqL.of q)) (fun q => .inr (SqT.of q))
theorem Its.but {d b : Addr} {H H' : Hp} {xs : List V} (h : Its H b xs) (s : But d H H') (n : b ≠ d) : Its H' b xs := h.elim (fun q => .inl (s _ _ n q)) (fun q => .inr (s _ _ n q))
theorem Its.same {b : Addr} {H H' : Hp} {xs : List V} (h : Its H b xs) (s : Same H H') : Its H' b xs := h.elim (fun q => .inl (s _ _ q)) (fun q => .inr (s _ _ q))
theorem Its.new {b p : Addr} {H : Hp} {o : HO} {xs : List V} (h : Its H b xs) (n : H p = none) : Its (upd H p o) b xs := h.same (Same.new (Same.refl H) n)
theorem Its.ne_none {b p : Addr} {H : Hp} {xs : List V} (h : Its H b xs) (n : H p = none) : b ≠ p := h.elim (fun q => ne_of_none q n) (fun q => ne_of_none q n)
theorem Dice.but {d e : Addr} {H H' : Hp} (a : Dice H d) (s : But e H H') (n : d ≠ e) : Dice H' d := by
  obtain ⟨x, y, z, h⟩ := a
  exact ⟨x, y, z, s _ _ n h⟩
theorem Dice.ne_none {d p : Addr} {H : Hp} (h : Dice H d) (n : H p = none) : d ≠ p := by
  obtain ⟨x, y, z, e⟩ := h
  exact ne_of_none e n
theorem But.free {d p : Addr} {H H' : Hp} (s : But d H H') (n : p ≠ d) (e : H' p = none) : H p = none := by
  cases q : H p with
  | none => rfl
  | some o => rw [s _ _ n q] at e; cases e

/-! ### pick -/
abbrev s_pick : Stmt := topS 15
abbrev N_pick : List Str := ["dice", "items"]
theorem sc_pick : FnScope N_pick ["dice", "items"] (defScope s_pick) := ⟨rfl, rfl, rfl, by decide +kernel, rfl, by decide +kernel, by decide +kernel⟩
def spPick : Sp := fun vs H Q _ => ∃ (d b : Addr) (xs : List V), vs = [.ref d, .ref b] ∧ Dice H d ∧ Its H b xs ∧ b ≠ d ∧ xs ≠ [] ∧ xs.length ≤ 1000 ∧ ∀ x H', x ∈ xs → But d H H' → Dice H' d → Q x H'
section
variable {P : Program} {w : World} {K : PySem.W.Frag} {mg : Str → Option Value} {base : Heap}
theorem ok_pick {f : Addr} {fd : FuncData} (F : Fun K "_law_pick" "_law_pick" s_pick f fd) (T : Names mg) (C1 : Callee P w K mg base CX0 1 "_law_roll" ["dice", "upto"] spRoll) : FnOk P w K mg base CX0 2 f fd ["dice", "items"] spPick := by
  have nd := sc_pick.nd
  refine F.ok sc_pick (fun vs H Q E h => ?_) (fun cdv A outer s H vs Q E hr h => ?_)
  · obtain ⟨d, b, xs, rfl, _⟩ := h
    rfl
  · obtain ⟨d, b, xs, rfl, hd, hb, hne, hx, hl, k⟩ := h
    have h0 : 0 < xs.length := List.length_pos_iff.mpr hx
    refine ⟨_, pss_one (ps_ret (pe_ix ix_seq (pv 1) (pe_use C1 hr rfl pass0 (pa_cons (pv 0) (pa_cons (pe_callB call_len_seq (by rfl) T.len (by decide +kernel) (pa_cons (pv 1) pa_nil)) pa_nil))) (fun _ _ => rfl))), ?_⟩
    refine ⟨_, rfl, _, rfl, _, rfl, b, xs, rfl, hb.seq, ?_⟩
    refine ⟨d, _, rfl, hd, by omega, by omega, fun r H' r0 r1 s' hd' => ?_⟩
    have hj : r.toNat < xs.length := by omega
    have hb' := hb.but s' hne
    have hat : atI xs r = some xs[r.toNat] := at_of (j := r.toNat) (by omega) (List.getElem?_eq_getElem hj)
    rcases hb' with q | q
    · exact .inl ⟨b, _, _, _, rfl, rfl, SqL.of q, hat, k _ _ (List.getElem_mem hj) s' hd'⟩
    · exact .inr (.inl ⟨b, _, _, _, rfl, rfl, SqT.of q, hat, k _ _ (List.getElem_mem hj) s' hd'⟩)
end
/-! ### mixed -/
abbrev s_mixed : Stmt := topS 16
abbrev N_mixed : List Str := ["dice", "items", "left", "found"]
theorem sc_mixed : FnScope N_mixed ["dice", "items"] (defScope s_mixed) := ⟨rfl, rfl, rfl, by decide +kernel, rfl, by decide +kernel, by decide +kernel⟩
def spMixed : Sp := fun vs H Q _ => ∃ (d b : Addr) (xs : List Str), vs = [.ref d, .ref b] ∧ Dice H d ∧ Its H b (xs.map V.str) ∧ b ≠ d ∧ xs.length ≤ 1000 ∧ (∀ x ∈ xs, PyData.strOk x = true) ∧ ∀ (ys : List Str) (p : Addr) (H' : Hp), ys.Perm xs → H p = none → But d H H' → Dice H' d → H' p = some (.lst (ys.map V.str)) → Q (.ref p) H'
theorem dp_strs {K : PySem.W.Frag} {H : Hp} : ∀ xs : List Str, DpAll K H (xs.map V.str) (xs.map PyData.str)
  | [] => .nil
  | x :: r => .cons (.str x) (dp_strs r)
theorem canLay_strs : ∀ xs : List Str, (∀ x ∈ xs, PyData.strOk x = true) → PyData.canLayAll0 (xs.map PyData.str) = true
  | [], _ => rfl
  | x :: r, h => by
    show (PyData.canLay0 (.str x) && PyData.canLayAll0 (r.map PyData.str)) = true
    rw [canLay_strs r fun y hy => h y (List.mem_cons_of_mem _ hy), Bool.and_true]
    exact h x List.mem_cons_self
theorem depth_strs : ∀ xs : List Str, PyData.depthAll (xs.map PyData.str) = 0
  | [] => rfl
  | x :: r => by
    show max (PyData.depth (.str x)) (PyData.depthAll (r.map PyData.str)) = 0
    rw [depth_strs r]; rfl
theorem shaped_strs (xs : List Str) (h : ∀ x ∈ xs, PyData.strOk x = true) : SeqAt.shaped (.list (xs.map PyData.str)) = true := by
  unfold SeqAt.shaped
  have h1 : PyData.canLay0 (.list (xs.map PyData.str)) = true := canLay_strs xs h
  have h2 : PyData.depth (.list (xs.map PyData.str)) = 1 := by
    show PyData.depthAll (xs.map PyData.str) + 1 = 1
    rw [depth_strs]
  rw [h1, h2]
  rfl
theorem eqv_nil : ∀ xs : List Str, PyData.eqv (.list (xs.map PyData.str)) (.list []) = xs.isEmpty
  | [] => rfl
  | _ :: _ => rfl
theorem map_eraseIdx {α β : Type} (f : α → β) : ∀ (l : List α) (i : Nat), (l.map f).eraseIdx i = (l.eraseIdx i).map f
  | [], _ => rfl
  | _ :: _, 0 => rfl
  | a :: r, i + 1 => by
    show f a :: (r.map f).eraseIdx i = f a :: (r.eraseIdx i).map f
    rw [map_eraseIdx f r i]
theorem perm_erase {α : Type} : ∀ (l : List α) (i : Nat) (h : i < l.length), (l[i] :: l.eraseIdx i).Perm l
  | _ :: _, 0, _ => List.Perm.refl _
  | a :: r, i + 1, h => by
    have h' : i < r.length := by simpa using h
    have ih := perm_erase r i h'
    show (r[i] :: a :: r.eraseIdx i).Perm (a :: r)
    exact (List.Perm.swap _ _ _).trans (ih.cons a)
section
variable {P : Program} {w : World} {K : PySem.W.Frag} {mg : Str → Option Value} {base : Heap}
theorem ok_mixed {f : Addr} {fd : FuncData} (F : Fun K "_law_mixed" "_law_mixed" s_mixed f fd) (T : Names mg) (C1 : Callee P w K mg base CX0 1 "_law_roll" ["dice", "upto"] spRoll) : FnOk P w K mg base CX0 2 f fd ["dice", "items"] spMixed := by
  have nd := sc_mixed.nd
  refine F.ok sc_mixed (fun vs H Q E h => ?_) (fun cdv A outer s H vs Q E hr h => ?_)
  · obtain ⟨d, b, xs, rfl, _⟩ := h
    rfl
  · obtain ⟨d, b, xs, rfl, hd, hb, hne, hl, hok, k⟩ := h
    refine ⟨_, (pss_cons
    (ps_par (i := 2) (j := 3) (by rfl) nd rfl rfl (by decide) rfl rfl (pa_cons (pe_callTy call_list_of (by rfl) T.list (by decide +kernel) (pa_cons (pv 1) pa_nil)) (pa_cons (pe_lst pa_nil) pa_nil)) (by rfl))
    (pss_cons
    (ps_while PassesOwn.never (pt_cmpR (op_neD hr.units) (pv 2) (pe_lst pa_nil) (nomark _)) (pss_one
      (ps_expr (pe_bm PySem.F.plainAttrs_list PySem.F.slot_list_append PySem.F.type_list_append mt_append (pv 3) (pa_cons (pe_bm PySem.F.plainAttrs_list PySem.F.slot_list_pop PySem.F.type_list_pop mt_popAt (pv 2) (pa_cons (pe_use C1 hr rfl pass0 (pa_cons (pv 0) (pa_cons (pe_callB call_len_seq (by rfl) T.len (by decide +kernel) (pa_cons (pv 2) pa_nil)) pa_nil))) pa_nil)) pa_nil)))))
    (pss_one
    (ps_ret (pv 3))))), ?_⟩
    refine ⟨_, rfl, b, _, rfl, hb.seq, fun l hl0 => ⟨Nat.zero_le _, fun p hp => ⟨_, _, rfl, ?_⟩⟩⟩
    have npl : p ≠ l := fun e => by subst e; rw [upd_same] at hp; cases hp
    have hp0 : H p = none := by rw [upd_ne npl] at hp; exact hp
    have ndl : l ≠ d := (hd.ne_none hl0).symm
    have ndp : p ≠ d := (hd.ne_none hp0).symm
    refine while_by (fun σ H' => ∃ rest out : List Str, σ = [some (.ref d), some (.ref b), some (.ref l), some (.ref p)] ∧ (∀ c o, c ≠ d → c ≠ l → c ≠ p → H c = some o → H' c = some o) ∧ Dice H' d ∧ H' l = some (.lst (rest.map V.str)) ∧ H' p = some (.lst (out.map V.str)) ∧ (out ++ rest).Perm xs)
      (fun σ H' => match H' l with | some (.lst r) => r.length | _ => 0) ?_ ?_ ?_
    · refine ⟨xs, [], rfl, fun c o h1 h2 h3 e => ?_, (hd.new hl0).new hp, ?_, upd_same, List.Perm.refl _⟩
      · rw [upd_ne h3, upd_ne h2]; exact e
      · rw [upd_ne (Ne.symm npl)]; exact upd_same
    · rintro σ H' ⟨rest, out, rfl, s1, hd1, h1, h2, pm⟩
      have hlr : out.length + rest.length = xs.length := by rw [← pm.length_eq, List.length_append]
      refine ⟨_, rfl, Nat.zero_le _, fun q hq => ?_⟩
      have nql : l ≠ q := ne_of_none h1 hq
      have nqp : p ≠ q := ne_of_none h2 hq
      refine ⟨_, _, .lst (SqL.of (by rw [upd_ne nql]; exact h1)) (dp_strs rest), .lst (SqL.of upd_same) .nil, shaped_strs _ (fun x hx => hok x (pm.mem_iff.mp (List.mem_append_right _ hx))), shaped_strs [] (by simp), ?_⟩
      rw [eqv_nil]
      refine ⟨_, rfl, ?_⟩
      have fin : ∀ c o, c ≠ d → c ≠ l → c ≠ p → H c = some o → upd H' q (.lst []) c = some o := fun c o n1 n2 n3 e => by
        have e1 := s1 c o n1 n2 n3 e
        rw [upd_ne (ne_of_none e1 hq)]
        exact e1
      cases rest with
      | nil =>
        refine iteF ⟨_, rfl, ?_⟩
        refine k out p _ (by simpa using pm) hp0 (fun c o n e => fin c o n ?_ ?_ e) (hd1.new hq) (by rw [upd_ne nqp]; exact h2)
        · exact fun z => by subst z; rw [hl0] at e; cases e
        · exact fun z => by subst z; rw [hp0] at e; cases e
      | cons r0 rest =>
        refine iteT ⟨_, rfl, .inl ⟨rfl, _, SqL.of (by rw [upd_ne nqp]; exact h2)⟩, ?_⟩
        refine ⟨_, rfl, .inl ⟨rfl, _, SqL.of (by rw [upd_ne nql]; exact h1)⟩, ?_⟩
        refine ⟨_, rfl, _, rfl, l, _, rfl, .inl (SqL.of (by rw [upd_ne nql]; exact h1)), ?_⟩
        simp only [List.length_cons] at hlr
        refine ⟨d, _, rfl, hd1.new hq, by simp only [List.length_map, List.length_cons]; omega, by simp only [List.length_map, List.length_cons]; omega, fun z H2 z0 z1 b2 hd2 => ?_⟩
        simp only [List.length_map, List.length_cons] at z1
        have e1 : H2 l = some (.lst ((r0 :: rest).map V.str)) := b2 _ _ ndl (by rw [upd_ne nql]; exact h1)
        have e2 : H2 p = some (.lst (out.map V.str)) := b2 _ _ ndp (by rw [upd_ne nqp]; exact h2)
        have zlt : z.toNat < (r0 :: rest).length := by simp only [List.length_cons]; omega
        have hix : seqIndex? z ((r0 :: rest).map V.str).length = some z.toNat := seqIndex_of z0 (by rw [List.length_map, List.length_cons]; omega)
        refine ⟨l, _, z, z.toNat, V.str (r0 :: rest)[z.toNat], rfl, rfl, e1, by omega, by omega, hix, by rw [List.getElem?_map, List.getElem?_eq_getElem zlt]; rfl, ?_⟩
        refine ⟨p, _, _, rfl, rfl, by rw [upd_ne npl]; exact e2, by rw [List.length_map]; exact small1000 (by omega), ?_⟩
        refine ⟨⟨(r0 :: rest).eraseIdx z.toNat, out ++ [(r0 :: rest)[z.toNat]], rfl, fun c o n1 n2 n3 e => ?_, ?_, ?_, ?_, ?_⟩, ?_⟩
        · rw [upd_ne n3, upd_ne n2]
          exact b2 _ _ n1 (fin c o n1 n2 n3 e)
        · obtain ⟨x, y, t, e⟩ := hd2
          exact ⟨x, y, t, by rw [upd_ne ndp.symm, upd_ne ndl.symm]; exact e⟩
        · rw [upd_ne npl.symm, upd_same, map_eraseIdx]
        · rw [upd_same, List.map_append]
          rfl
        · refine List.Perm.trans ?_ pm
          rw [List.append_assoc]
          exact List.Perm.append_left out (perm_erase _ _ zlt)
        · rw [upd_ne npl.symm, upd_same, h1]
          show (((r0 :: rest).map V.str).eraseIdx z.toNat).length < ((r0 :: rest).map V.str).length
          rw [List.length_eraseIdx, if_pos (by rw [List.length_map]; exact zlt)]
          simp
    · rintro σ H1 Q1 Q2 hQ ⟨v, hv, h2, h3⟩
      refine ⟨v, hv, h2, fun q hq => ?_⟩
      obtain ⟨dd, ee, h4, h5, h6, h7, h8⟩ := h3 q hq
      obtain ⟨kk, h9, h10⟩ := h8
      exact ⟨dd, ee, h4, h5, h6, h7, kk, h9, hQ _ _ h10⟩
end
end K1

/-! ## K2 -/
set_option Elab.async false
set_option linter.all false
set_option maxRecDepth 100000
set_option maxHeartbeats 4000000
namespace K1
open PySem PySem.Spec PyProof.Rows L2
theorem op_powW {X : Cx} : OpR X (binaryOp .Pow) (rI (fun i j => 0 ≤ j ∧ (Builtin.Int.intBits i : Int) * j ≤ 2 ^ 27) fun i j => .int (i ^ j.toNat)) := opI fun _ _ _ _ _ _ _ hc q => pow_int hc.1 hc.2 q
/-! ### some -/
abbrev s_some : Stmt := topS 17
abbrev N_some : List Str := ["dice", "items", "least", "most", "low", "high"]
theorem sc_some : FnScope N_some ["dice", "items", "least", "most"] (defScope s_some) := ⟨rfl, rfl, rfl, by decide +kernel, rfl, by decide +kernel, by decide +kernel⟩
/-- some of the items, in any order: between least and most of them -/
def spSome : Sp := fun vs H Q _ => ∃ (d b : Addr) (xs : List Str) (lo hi : Nat), vs = [.ref d, .ref b, .int lo, .int hi] ∧ lo ≤ hi ∧ hi ≤ 1000 ∧ Dice H d ∧ Its H b (xs.map V.str) ∧ b ≠ d ∧ xs.length ≤ 1000 ∧ (∀ x ∈ xs, PyData.strOk x = true) ∧
  ∀ (ys : List Str) (n : Nat) (p : Addr) (H' : Hp), ys.Perm xs → min lo xs.length ≤ n → n ≤ min hi xs.length → H p = none → But d H H' → Dice H' d → H' p = some (.lst ((ys.take n).map V.str)) → Q (.ref p) H'
/-! ### words -/
abbrev s_words : Stmt := topS 18
abbrev N_words : List Str := ["dice", "upto", "some"]
theorem sc_words : FnScope N_words ["dice", "upto"] (defScope s_words) := ⟨rfl, rfl, rfl, by decide +kernel, rfl, by decide +kernel, by decide +kernel⟩
def words14 : List Str := ["a", "aa", "ab", "b", "ba", "changing", "door", "key", "r", "s", "self", "who", "x", "zzzzzzzz"]
def spWords : Sp := fun vs H Q _ => ∃ (d : Addr) (n : Nat), vs = [.ref d, .int n] ∧ n ≤ 14 ∧ Dice H d ∧ 
  ∀ (ys : List Str) (p : Addr) (H' : Hp), ys.Perm words14 → H p = none → But d H H' → Dice H' d → H' p = some (.lst ((ys.take n).map V.str)) → Q (.ref p) H'
section
variable {P : Program} {w : World} {K : PySem.W.Frag} {mg : Str → Option Value} {base : Heap}
theorem cutV_upto (xs : List V) (n : Nat) : cutV xs none (some (n : Int)) = xs.take n := by
  unfold cutV
  rw [HT.sIx_none, HT.sIx_nat]
  show xs.take (min n xs.length - 0) = xs.take n
  rw [Nat.sub_zero]
  exact (List.take_eq_take_min).symm
theorem min_cast (a b : Nat) : (if (b : Int) < (a : Int) then (b : Int) else (a : Int)) = ((min a b : Nat) : Int) := by
  split <;> omega
theorem ok_some {f : Addr} {fd : FuncData} (F : Fun K "_law_some" "_law_some" s_some f fd) (T : Names mg) (C1 : Callee P w K mg base CX0 1 "_law_roll" ["dice", "upto"] spRoll) (C2 : Callee P w K mg base CX0 2 "_law_mixed" ["dice", "items"] spMixed) : FnOk P w K mg base CX0 3 f fd ["dice", "items", "least", "most"] spSome := by
  have nd := sc_some.nd
  refine F.ok sc_some (fun vs H Q E h => ?_) (fun cdv A outer s H vs Q E hr h => ?_)
  · obtain ⟨d, b, xs, lo, hi, rfl, _⟩ := h
    rfl
  · obtain ⟨d, b, xs, lo, hi, rfl, hlh, hhi, hd, hb, hne, hl, hok, k⟩ := h
    have hr1 : Room 1 _ := hr.mono (by decide)
    refine ⟨_, (pss_cons
    (ps_par (i := 4) (j := 5) (by rfl) nd rfl rfl (by decide) rfl rfl (pa_cons (pe_callB (call_min2 rfl) (by rfl) T.min (by decide +kernel) (pa_cons (pv 2) (pa_cons (pe_callB call_len_seq (by rfl) T.len (by decide +kernel) (pa_cons (pv 1) pa_nil)) pa_nil))) (pa_cons (pe_callB (call_min2 rfl) (by rfl) T.min (by decide +kernel) (pa_cons (pv 3) (pa_cons (pe_callB call_len_seq (by rfl) T.len (by decide +kernel) (pa_cons (pv 1) pa_nil)) pa_nil))) pa_nil)) (by rfl))
    (pss_one
    (ps_ret (pe_slice sl_list (pe_use C2 hr rfl pass0 (pa_cons (pv 0) (pa_cons (pv 1) pa_nil))) po_none (po_some (pe_op op_add (pv 4) (pe_use C1 hr1 rfl pass0 (pa_cons (pv 0) (pa_cons (pe_op op_add (pe_op op_sub (pv 5) (pv 4)) pe_int) pa_nil))))))))), ?_⟩
    refine ⟨_, rfl, _, rfl, b, _, rfl, hb.seq, _, _, rfl, ?_⟩
    refine ⟨_, rfl, _, rfl, b, _, rfl, hb.seq, _, _, rfl, ?_⟩
    refine ⟨_, _, rfl, ?_⟩
    refine ⟨_, rfl, _, rfl, d, b, xs, rfl, hd, hb, hne, hl, hok, fun ys p H1 pm hp s1 hd1 h1 => ?_⟩
    have ndp : p ≠ d := (hd.ne_none hp).symm
    refine ⟨_, rfl, _, rfl, _, rfl, _, rfl, _, _, rfl, rfl, _, _, rfl, rfl, d, _, rfl, hd1, ?_, ?_, fun r H2 r0 r1 s2 hd2 => ?_⟩
    · rw [List.length_map, min_cast, min_cast]; omega
    · rw [List.length_map, min_cast, min_cast]; omega
    · rw [List.length_map, min_cast, min_cast] at r1
      refine ⟨_, _, rfl, rfl, _, rfl, p, _, rfl, SqL.of (s2 _ _ ndp h1), fun q hq => ?_⟩
      have ndq : q ≠ d := (hd2.ne_none hq).symm
      have hq1 : H1 q = none := s2.free ndq hq
      have e : (if ((xs.map V.str).length : Int) < (lo : Int) then ((xs.map V.str).length : Int) else (lo : Int)) + r = ((min lo xs.length + r.toNat : Nat) : Int) := by
        rw [List.length_map, min_cast]; omega
      show Q (V.ref q) (upd H2 q (HO.lst (cutV (List.map V.str ys) none (some ((if ((xs.map V.str).length : Int) < (lo : Int) then ((xs.map V.str).length : Int) else (lo : Int)) + r)))))
      rw [e, cutV_upto, ← List.map_take]
      exact k ys _ q _ pm (by omega) (by omega) (s1.free ndq hq1) ((s1.trans s2).new hq) (hd2.new hq) upd_same
theorem ok_words {f : Addr} {fd : FuncData} (F : Fun K "_law_words" "_law_words" s_words f fd) (T : Names mg) (C2 : Callee P w K mg base CX0 2 "_law_mixed" ["dice", "items"] spMixed) : FnOk P w K mg base CX0 3 f fd ["dice", "upto"] spWords := by
  have nd := sc_words.nd
  refine F.ok sc_words (fun vs H Q E h => ?_) (fun cdv A outer s H vs Q E hr h => ?_)
  · obtain ⟨d, n, rfl, _⟩ := h
    rfl
  · obtain ⟨d, n, rfl, hn, hd, k⟩ := h
    refine ⟨_, (pss_cons
    (ps_set (i := 2) nd rfl (Or.inl rfl) (pe_lst (pa_cons pe_str (pa_cons pe_str (pa_cons pe_str (pa_cons pe_str (pa_cons pe_str (pa_cons pe_str (pa_cons pe_str (pa_cons pe_str (pa_cons pe_str (pa_cons pe_str (pa_cons pe_str (pa_cons pe_str (pa_cons pe_str (pa_cons pe_str pa_nil))))))))))))))))
    (pss_one
    (ps_ret (pe_slice sl_list (pe_use C2 hr rfl pass0 (pa_cons (pv 0) (pa_cons (pv 2) pa_nil))) po_none (po_some (pv 1)))))), ?_⟩
    refine ⟨(by show 14 ≤ sizeLine; decide), fun l hl => ?_⟩
    refine ⟨_, rfl, _, rfl, d, l, words14, rfl, hd.new hl, .inl upd_same, (hd.ne_none hl).symm, by decide, by decide +kernel, fun ys p H1 pm hp s1 hd1 h1 => ?_⟩
    refine ⟨_, rfl, _, rfl, p, _, rfl, SqL.of h1, fun q hq => ?_⟩
    have hl1 : H1 l ≠ none := by
      rw [s1 l _ (hd.ne_none hl).symm upd_same]; simp
    have nlp : p ≠ l := fun e => by subst e; rw [upd_same] at hp; cases hp
    have hp0 : H p = none := by rw [upd_ne nlp] at hp; exact hp
    have nq : q ≠ d := (hd1.ne_none hq).symm
    have fin : But d H H1 := fun c o n e => s1 c o n (by rw [upd_ne (ne_of_none e hl)]; exact e)
    show Q (V.ref q) (upd H1 q (HO.lst (cutV (List.map V.str ys) none (some ↑n))))
    rw [cutV_upto, ← List.map_take]
    exact k ys q _ pm (fin.free nq hq) (fin.new hq) (hd1.new hq) upd_same
end
end K1

/-! ## K3 -/
set_option Elab.async false
set_option linter.all false
set_option maxRecDepth 100000
set_option maxHeartbeats 4000000
namespace K1
open PySem PySem.Spec PyProof.Rows L2
/-! ### dice -/
abbrev s_dice : Stmt := topS 13
abbrev N_dice : List Str := ["script", "spot", "cell", "great", "blend"]
theorem sc_dice : FnScope N_dice ["script", "spot"] (defScope s_dice) := ⟨rfl, rfl, rfl, by decide +kernel, rfl, by decide +kernel, by decide +kernel⟩
def spDice (K : PySem.W.Frag) : Sp := fun vs H Q _ => ∃ (a : Addr) (ns : List Int) (i : Nat), vs = [.ref a, .int i] ∧ SqL K H a (ns.map V.int) ∧ ∀ p H', H p = none → Same H H' → Dice H' p → Q (.ref p) H'
section
variable {P : Program} {w : World} {K : PySem.W.Frag} {mg : Str → Option Value} {base : Heap}
theorem ok_dice {f : Addr} {fd : FuncData} (F : Fun K "_law_dice" "_law_dice" s_dice f fd) (T : Names mg) : FnOk P w K mg base CX0 1 f fd ["script", "spot"] (spDice K) := by
  have nd := sc_dice.nd
  refine F.ok sc_dice (fun vs H Q E h => ?_) (fun cdv A outer s H vs Q E hr h => ?_)
  · obtain ⟨a, ns, i, rfl, _⟩ := h
    rfl
  · obtain ⟨a, ns, i, rfl, hs, k⟩ := h
    refine ⟨_, (pss_cons
    (ps_set (i := 2) nd rfl (Or.inl rfl) (pe_ifExp (pt_cmpR op_lt (pv 1) (pe_callB call_len_seq (by rfl) T.len (by decide +kernel) (pa_cons (pv 0) pa_nil)) (nomark _)) (pe_ix ix_list (pv 0) (pv 1) (fun _ _ => rfl)) (pe_op op_add (pe_op op_mul pe_int (pv 1)) pe_int)))
    (pss_cons
    (ps_set (i := 3) nd rfl (Or.inl rfl) (pe_op op_mod (pe_callTy call_int1 (by rfl) T.int (by decide +kernel) (pa_cons (pe_callB call_abs (by rfl) T.abs (by decide +kernel) (pa_cons (pv 2) pa_nil)) pa_nil)) (pe_op op_powW (pe_op op_pow pe_int pe_int) pe_int)))
    (pss_cons
    (ps_set (i := 4) nd rfl (Or.inl rfl) (pe_op op_add (pe_op op_add (pe_op op_add (pe_op op_mul (pv 3) pe_int) (pe_op op_mul pe_int (pv 1))) (pe_op op_mul pe_int (pe_callTy call_int1 (by rfl) T.int (by decide +kernel) (pa_cons (pe_cmpR op_lt (pv 2) pe_int (nomark _)) pa_nil)))) pe_int))
    (pss_one
    (ps_ret (pe_lst (pa_cons (pe_callB (call_max2 rfl) (by rfl) T.max (by decide +kernel) (pa_cons pe_int (pa_cons (pe_op op_sub (pv 3) (pe_op op_pow pe_int pe_int)) pa_nil))) (pa_cons (pe_op op_mod (pe_callTy call_int1 (by rfl) T.int (by decide +kernel) (pa_cons (pv 4) pa_nil)) pe_int) (pa_cons pe_int pa_nil))))))))), ?_⟩
    have big : (0 : Int) < ((10 : Int) ^ (59 : Int).toNat) ^ (11 : Int).toNat := by decide +kernel
    have bits : (0 : Int) ≤ 11 ∧ (Builtin.Int.intBits ((10 : Int) ^ (59 : Int).toNat) : Int) * 11 ≤ 2 ^ 27 := by decide +kernel
    refine ⟨_, rfl, _, rfl, a, _, rfl, .inl hs, _, _, rfl, rfl, _, rfl, ite2 (fun h0 => ?_) (fun h0 => ?_)⟩
    · have hi : i < ns.length := by
        have := of_decide_eq_true h0
        rw [List.length_map] at this
        omega
      refine ⟨_, rfl, _, rfl, a, _, _, _, rfl, rfl, hs, atI_nat (v := V.int ns[i]) (by rw [List.getElem?_map, List.getElem?_eq_getElem hi]; rfl), ?_⟩
      generalize ns[i] = c
      refine ⟨_, rfl, _, rfl, .inl ⟨_, rfl, ?_⟩⟩
      refine ⟨_, _, rfl, rfl, ⟨by decide, by decide, by decide⟩, _, _, rfl, rfl, bits, _, _, rfl, rfl, big, ?_⟩
      refine ⟨_, rfl, _, _, rfl, rfl, .inr (by decide), _, rfl, _, _, rfl, rfl, .inl (by decide), _, _, rfl, rfl, ?_⟩
      refine ⟨_, rfl, _, _, rfl, rfl, .inr ⟨_, rfl, _, _, rfl, rfl, .inl (by decide), _, _, rfl, rfl, _, _, rfl, rfl, ?_⟩⟩
      refine ⟨_, rfl, _, _, rfl, rfl, ⟨by decide, by decide, by decide⟩, _, _, rfl, rfl, _, _, rfl, ?_⟩
      refine ⟨_, rfl, .inl ⟨_, rfl, _, _, rfl, rfl, (by show (0 : Int) < 2305843009213693921; decide), ?_⟩⟩
      exact ⟨(by show 3 ≤ sizeLine; decide), fun p hp => k p _ hp (Same.new (Same.refl H) hp) ⟨_, _, _, upd_same⟩⟩
    · refine ⟨_, rfl, _, _, rfl, rfl, .inl (by decide), _, _, rfl, rfl, ?_⟩
      generalize 31 * (i : Int) + 14 = c
      refine ⟨_, rfl, _, rfl, .inl ⟨_, rfl, ?_⟩⟩
      refine ⟨_, _, rfl, rfl, ⟨by decide, by decide, by decide⟩, _, _, rfl, rfl, bits, _, _, rfl, rfl, big, ?_⟩
      refine ⟨_, rfl, _, _, rfl, rfl, .inr (by decide), _, rfl, _, _, rfl, rfl, .inl (by decide), _, _, rfl, rfl, ?_⟩
      refine ⟨_, rfl, _, _, rfl, rfl, .inr ⟨_, rfl, _, _, rfl, rfl, .inl (by decide), _, _, rfl, rfl, _, _, rfl, rfl, ?_⟩⟩
      refine ⟨_, rfl, _, _, rfl, rfl, ⟨by decide, by decide, by decide⟩, _, _, rfl, rfl, _, _, rfl, ?_⟩
      refine ⟨_, rfl, .inl ⟨_, rfl, _, _, rfl, rfl, (by show (0 : Int) < 2305843009213693921; decide), ?_⟩⟩
      exact ⟨(by show 3 ≤ sizeLine; decide), fun p hp => k p _ hp (Same.new (Same.refl H) hp) ⟨_, _, _, upd_same⟩⟩
end
end K1

/-! ## K4 -/
set_option Elab.async false
set_option linter.all false
set_option maxRecDepth 100000
set_option maxHeartbeats 4000000
namespace K1
open PySem PySem.Spec PyProof.Rows L2
/-- a comprehension that leaves all that was tracked: acc i is the list behind i turns -/
theorem lc_acc {J : It} {n : Nat} {G : Hp → Prop} {Y : Nat → Hp → V → Hp → Prop} (w : Walk J n G Y) {g : TG} {tt : TT} {te : TE} {vs : List Nat} {σ : L2.St} {H0 : Hp} {D : Addr} {Qd : Hp → Prop} (acc : Nat → List V) (a0 : acc 0 = []) (hD : H0 D = none)
    (hlen : ∀ i, i < n → (acc i).length < sizeLine) (hG : ∀ H, Same H0 H → G H)
    (hs : ∀ i x H H' (N : Hp → Prop), i < n → Same H0 H → Y i H x H' → (∀ H4 y, Same H H4 → acc (i + 1) = acc i ++ [y] → ∃ a, H4 D = some (.lst a) ∧ a.length < sizeLine ∧ N (upd H4 D (.lst (a ++ [y])))) → (∀ H4, Same H H4 → acc (i + 1) = acc i → N H4) →
      g x (wipe σ vs) H' fun σ2 H2 => wipe σ2 vs = wipe σ vs ∧ tt σ2 H2 fun b H3 => if b = true then te σ2 H3 fun y H4 => ∃ a, H4 D = some (.lst a) ∧ a.length < sizeLine ∧ N (upd H4 D (.lst (a ++ [y]))) else N H3)
    (hd : ∀ H, Same H0 H → H D = some (.lst (acc n)) → Qd H) :
    ∃ W : Nat → Nat → Hp → Prop, (∃ m, W 0 m (upd H0 D (.lst []))) ∧ ∀ i m H, W i m H →
      (J.stop i H ∧ Qd H) ∨ (J.go i H ∧ ∃ Nx : Hp → Prop, (∀ H', Nx H' → ∃ m', m' < m ∧ W (i + 1) m' H') ∧ ∀ x H', J.yld i H x H' → g x (wipe σ vs) H' fun σ2 H2 => wipe σ2 vs = wipe σ vs ∧ tt σ2 H2 fun b H3 =>
        if b = true then te σ2 H3 fun y H4 => ∃ a, H4 D = some (.lst a) ∧ a.length < sizeLine ∧ Nx (upd H4 D (.lst (a ++ [y]))) else Nx H3) := by
  refine lc_it w (fun i H => Same H0 H ∧ H D = some (.lst (acc i))) ⟨Same.new (Same.refl H0) hD, by rw [a0]; exact upd_same⟩ (fun i H _ p => hG H p.1) (fun i x H H' hi p y => ?_) (fun H p => hd H p.1 p.2)
  refine hs i x H H' _ hi p.1 y (fun H4 y' s e => ⟨acc i, s _ _ p.2, hlen i hi, fun c o q => ?_, by rw [upd_same, e]⟩) fun H4 s e => ⟨p.1.trans s, by rw [e]; exact s _ _ p.2⟩
  rw [upd_ne (ne_of_none q hD)]
  exact s _ _ (p.1 _ _ q)
theorem walk_zipT {K : PySem.W.Frag} {a b : Addr} {xs ys : List V} {n : Nat} (hn : n = min xs.length ys.length) : Walk (RZ.ItzT K a b) n (fun H => SqT K H a xs ∧ SqT K H b ys) (YPair (fun i => xs[i]?) (fun i => ys[i]?)) := by
  subst hn
  refine ⟨fun i _ hi q => ?_, fun _ q => ⟨xs, ys, q.1, q.2, by omega⟩, fun i H v H' _ q y => ?_⟩
  · have h1 : i < xs.length := by omega
    have h2 : i < ys.length := by omega
    exact ⟨xs, ys, xs[i], ys[i], q.1, q.2, by simp [h1], by simp [h2]⟩
  · obtain ⟨T, x, z, h1, h2, h3, h4, h5⟩ := y
    exact ⟨T, x, z, h1, h2, h3, h4 xs q.1, h5 ys q.2⟩
/-- the built-in names that the text of the names calls -/
structure Names2 (mg : Str → Option Value) : Prop extends Names mg where
  isinstance : mg "isinstance" = none
  str : mg "str" = none
  tuple : mg "tuple" = none
  bool : mg "bool" = none
  all : mg "all" = none
  zip : mg "zip" = none
  letters : ∃ t, mg "MOST_LETTERS" = some (.int 8 t)
/-- the type of a value is the built-in T or not -/
def IsTy (K : PySem.W.Frag) (H : Hp) (x : V) (T : String) (b : Bool) : Prop := ∃ t, TyX K H x t ∧ PySem.W.kitOne K t (.type T) = some b
/-! ### is_name -/
def nameB (z : Str) : Bool := decide (1 ≤ z.length) && decide (z.length ≤ 8) && z.cps.toList.all fun c => decide (97 ≤ c) && decide (c ≤ 122)
abbrev s_is_name : Stmt := topS 5
abbrev N_is_name : List Str := ["value", "letter"]
theorem sc_is_name : FnScope N_is_name ["value"] (defScope s_is_name) := ⟨rfl, rfl, rfl, by decide +kernel, rfl, by decide +kernel, by decide +kernel⟩
def spName (K : PySem.W.Frag) : Sp := fun vs H Q _ => ∃ (x : V) (b : Bool), vs = [x] ∧ ((∃ z, x = .str z ∧ z.length ≤ sizeLine ∧ b = nameB z) ∨ (IsTy K H x "str" false ∧ b = false)) ∧ ∀ H', Same H H' → Q (.bl b) H'
def okC (c : Nat) : Bool := decide (97 ≤ c) && decide (c ≤ 122)
theorem one_lt (a b : Nat) : decide (([a] : List Nat) < [b]) = decide (a < b) := by
  by_cases h : a < b
  · rw [decide_eq_true h, decide_eq_true (List.cons_lt_cons_iff.mpr (.inl h))]
  · rw [decide_eq_false h, decide_eq_false]
    intro q
    rcases List.cons_lt_cons_iff.mp q with z | ⟨_, z⟩
    · exact h z
    · exact absurd z (List.not_lt_nil _)
theorem take_snoc {α : Type} {l : List α} {i : Nat} {x : α} (h : l[i]? = some x) : l.take (i + 1) = l.take i ++ [x] := by
  rw [List.take_add_one, h]; rfl
section
variable {P : Program} {w : World} {K : PySem.W.Frag} {mg : Str → Option Value} {base : Heap}
theorem ok_name {f : Addr} {fd : FuncData} (F : Fun K "is_name" "is_name" s_is_name f fd) (T : Names2 mg) : FnOk P w K mg base CX0 1 f fd ["value"] (spName K) := by
  have nd := sc_is_name.nd
  refine F.ok sc_is_name (fun vs H Q E h => ?_) (fun cdv A outer s H vs Q E hr h => ?_)
  · obtain ⟨x, b, rfl, _⟩ := h
    rfl
  · obtain ⟨x, b, rfl, hx, k⟩ := h
    obtain ⟨tk, hML⟩ := T.letters
    refine ⟨_, (pss_cons
    (ps_if (PW.pt (pw_or (pt_not (pt_val (pe_callB call_isi (by rfl) T.isinstance (by decide +kernel) (pa_cons (pv 0) (pa_cons (pe_bltn (v := .ty "str") (by rfl) T.str (by decide +kernel) rfl) pa_nil))))) (pw_or1 (pt_not (pt_chain op_le op_le pe_int (pe_callB call_len_str (by rfl) T.len (by decide +kernel) (pa_cons (pv 0) pa_nil)) (pe_glob (v := .int 8) rfl hML ⟨_, rfl⟩)))))) (pss_one
      (ps_ret pe_bl)) pss_nil)
    (pss_one
    (ps_ret (pe_callB (cr_all rfl) (by rfl) T.all (by decide +kernel) (pa_cons (pe_lc (own := [("letter", 1)]) (g := (gName 1)) rfl nd (pi_str (pv 0)) (blkOk_by (N := N_is_name) (sc := defScope s_is_name) (by decide +kernel)) (fun _ _ _ _ _ => (pg_name (i := 1) nd rfl (Or.inl rfl))) (fun _ _ _ _ _ => pts_nil) (fun _ _ _ _ _ => (pe_chain op_le_str op_le_str pe_str (pv 1) pe_str))) pa_nil))))), ?_⟩
    rcases hx with ⟨z, rfl, hz, eb⟩ | ⟨⟨t, ty, e⟩, rfl⟩
    · refine ⟨_, rfl, _, _, _, _, true, rfl, .ty _, .base (.str z), kit_ty (by decide +kernel), _, rfl, iteF ?_⟩
      refine ⟨_, rfl, z, rfl, hz, _, _, rfl, rfl, _, rfl, ite2 (fun h1 => ?_) (fun h1 => ?_)⟩
      · refine ⟨_, _, rfl, rfl, _, rfl, ?_⟩
        by_cases h8 : ((z.length : Nat) : Int) ≤ 8
        · rw [decide_eq_true h8]
          refine iteF ⟨_, rfl, z, rfl, fun D hD => ?_⟩
          refine lc_acc walk_str (fun i => ((z.cps.toList.take i).map fun c => V.bl (okC c))) rfl hD (fun i hi => ?_) (fun _ _ => trivial) (fun i x H1 H2 N hi s1 y keep skip => ?_) (fun H1 s1 hL => ?_)
          · have h8' : z.cps.size ≤ 8 := by exact_mod_cast h8
            have : (8 : Nat) < sizeLine := by decide
            rw [List.length_map, List.length_take]; omega
          · obtain ⟨rfl, c, hc, rfl⟩ := y
            have hacc : (z.cps.toList.take (i + 1)).map (fun c => V.bl (okC c)) = (z.cps.toList.take i).map (fun c => V.bl (okC c)) ++ [V.bl (okC c)] := by
              rw [take_snoc (by rw [← hc]; simp), List.map_append]; rfl
            refine ⟨rfl, _, rfl, _, _, rfl, rfl, _, rfl, ite2 (fun g1 => ?_) (fun g1 => ?_)⟩
            · refine ⟨_, _, rfl, rfl, ?_⟩
              refine keep _ _ (Same.refl _) ?_
              rw [hacc]
              have q1 : (!decide (([c] : List Nat) < [97])) = true := g1
              have q2 : (!decide ((Str.ofString "z").cps.toList < (Str.mk #[c]).cps.toList)) = !decide (([122] : List Nat) < [c]) := rfl
              rw [q2, one_lt]
              rw [one_lt] at q1
              unfold okC
              have q3 : ¬ c < 97 := by simpa using q1
              rw [decide_eq_true (by omega : 97 ≤ c), Bool.true_and]
              congr 3
              by_cases q4 : c ≤ 122
              · rw [decide_eq_true q4, decide_eq_false (by omega)]; rfl
              · rw [decide_eq_false q4, decide_eq_true (by omega)]; rfl
            · refine keep _ _ (Same.refl _) ?_
              rw [hacc]
              have q1 : ¬ (!decide (([c] : List Nat) < [97])) = true := g1
              rw [one_lt] at q1
              unfold okC
              have q3 : c < 97 := by simpa using q1
              rw [decide_eq_false (by omega : ¬ 97 ≤ c), Bool.false_and]
          · refine ⟨D, z.cps.toList.map okC, rfl, SqL.of ?_, ?_⟩
            · rw [hL, List.map_map, List.take_of_length_le (by simp)]; rfl
            · have e : (z.cps.toList.map okC).all id = b := by
                rw [eb]
                unfold nameB
                have h1' : 1 ≤ z.length := by have := of_decide_eq_true h1; omega
                rw [decide_eq_true h1', decide_eq_true (by omega : z.length ≤ 8), List.all_map]
                rfl
              rw [e]
              exact k H1 s1
        · rw [decide_eq_false h8]
          have e : b = false := by
            rw [eb]; unfold nameB
            rw [decide_eq_false (by omega : ¬ z.length ≤ 8), Bool.and_false, Bool.false_and]
          subst e
          exact k H (Same.refl H)
      · have e : b = false := by
          rw [eb]; unfold nameB
          have h1' : ¬ 1 ≤ z.length := by intro q; exact h1 (decide_eq_true (by omega))
          rw [decide_eq_false h1', Bool.false_and, Bool.false_and]
        subst e
        exact ⟨_, rfl, k H (Same.refl H)⟩
    · refine ⟨_, rfl, _, _, t, _, false, rfl, .ty _, ty, e, _, rfl, iteT (iteT ?_)⟩
      exact k H (Same.refl H)
end
end K1

/-! ## K5 -/
set_option Elab.async false
set_option linter.all false
set_option maxRecDepth 100000
set_option maxHeartbeats 4000000
namespace K1
open PySem PySem.Spec PyProof.Rows L2
/-- a part of what may be columns: a text, or no text -/
def PartOk (K : PySem.W.Frag) (H : Hp) (p : V) (o : Option Str) : Prop := (∃ z, p = .str z ∧ z.length ≤ sizeLine ∧ o = some z) ∨ (IsTy K H p "str" false ∧ o = none)
def nameO : Option Str → Bool
  | some z => nameB z
  | none => false
def ltB (a b : Str) : Bool := decide (a.cps.toList < b.cps.toList)
def ascB (zs : List Str) : Bool := (zs.zip (zs.drop 1)).all fun p => ltB p.1 p.2
def colsB (os : List (Option Str)) : Bool := os.all nameO && ascB (os.filterMap id)
abbrev s_is_columns : Stmt := topS 6
abbrev N_is_columns : List Str := ["value", "part", "one", "following"]
theorem sc_is_columns : FnScope N_is_columns ["value"] (defScope s_is_columns) := ⟨rfl, rfl, rfl, by decide +kernel, rfl, by decide +kernel, by decide +kernel⟩
def spCols (K : PySem.W.Frag) : Sp := fun vs H Q _ => ∃ (x : V) (b : Bool), vs = [x] ∧ ((IsTy K H x "tuple" false ∧ b = false) ∨ (∃ a xs os, x = .ref a ∧ H a = some (.tup xs) ∧ xs.length ≤ 1000 ∧ Paired (PartOk K H) xs os ∧ b = colsB os)) ∧ ∀ H', Same H H' → Q (.bl b) H'
theorem IsTy.same {K : PySem.W.Frag} {H H' : Hp} {x : V} {T : String} {b : Bool} (h : IsTy K H x T b) (s : Same H H') : IsTy K H' x T b := by
  obtain ⟨t, ty, e⟩ := h
  refine ⟨t, ?_, e⟩
  cases ty with
  | base c =>
    refine .base ?_
    cases c with
    | non => exact .non
    | bl x => exact .bl x
    | int i => exact .int i
    | str x => exact .str x
    | flt x => exact .flt x
    | lst q => exact .lst (s _ _ q)
    | frz q => exact .frz (s _ _ q)
    | tup q => exact .tup (s _ _ q)
    | dK q => exact .dK (s _ _ q)
    | dT q => exact .dT (s _ _ q)
    | ins q cl ha hn htk hm => exact .ins (s _ _ q) cl ha hn htk hm
  | byt b => exact .byt b
  | set q => exact .set (s _ _ q)
  | kList q c => exact .kList q c
  | kTuple q c => exact .kTuple q c
  | kDict q c => exact .kDict q c
  | fTuple q => exact .fTuple (s _ _ q)
  | fDict q => exact .fDict (s _ _ q)
theorem PartOk.same {K : PySem.W.Frag} {H H' : Hp} {p : V} {o : Option Str} (h : PartOk K H p o) (s : Same H H') : PartOk K H' p o := h.imp id fun q => ⟨q.1.same s, q.2⟩
theorem paired_get {α β : Type} {R : α → β → Prop} : ∀ {xs : List α} {ys : List β}, Paired R xs ys → ∀ {i : Nat} {x : α}, xs[i]? = some x → ∃ y, ys[i]? = some y ∧ R x y
  | _, _, .nil, i, x, h => by simp at h
  | _, _, .cons r t, 0, x, h => by simp at h; subst h; exact ⟨_, rfl, r⟩
  | _, _, .cons r t, i + 1, x, h => by
    obtain ⟨y, e, q⟩ := paired_get t (i := i) (x := x) (by simpa using h)
    exact ⟨y, by simpa using e, q⟩
theorem cutV_from (xs : List V) (n : Nat) : cutV xs (some (n : Int)) none = xs.drop n := by
  unfold cutV
  rw [HT.sIx_none, HT.sIx_nat]
  by_cases h : n ≤ xs.length
  · rw [Nat.min_eq_left h, List.take_of_length_le (by simp)]
  · rw [Nat.min_eq_right (by omega), List.drop_of_length_le (Nat.le_refl _), List.drop_of_length_le (by omega)]; simp
def ascL (zs : List Str) : List Bool := (zs.zip (zs.drop 1)).map fun p => ltB p.1 p.2
theorem ascL_all (zs : List Str) : (ascL zs).all id = ascB zs := by
  unfold ascL ascB
  rw [List.all_map]; rfl
/-- [one < following for one, following in zip(value, value[1:])] -/
theorem asc_lc {K : PySem.W.Frag} {a p D : Addr} {H2 : Hp} {zs : List Str} (ha : H2 a = some (.tup (zs.map V.str))) (hp : H2 p = some (.tup ((zs.drop 1).map V.str))) (hl : zs.length ≤ 1000) {σ : L2.St} {x0 : V} (hσ : σ = [some x0, none, none, none]) (hD : H2 D = none) {Qd : Hp → Prop}
    (hq : ∀ H, Same H2 H → H D = some (.lst ((ascL zs).map V.bl)) → Qd H) :
    ∃ W : Nat → Nat → Hp → Prop, (∃ m, W 0 m (upd H2 D (.lst []))) ∧ ∀ i m H, W i m H →
      ((RZ.ItzT K a p).stop i H ∧ Qd H) ∨ ((RZ.ItzT K a p).go i H ∧ ∃ Nx : Hp → Prop, (∀ H', Nx H' → ∃ m', m' < m ∧ W (i + 1) m' H') ∧ ∀ x H', (RZ.ItzT K a p).yld i H x H' → gTup K 2 (gCons (gName 2) (gCons (gName 3) gNil)) x (wipe σ [2, 3]) H' fun σ2 H2 => wipe σ2 [2, 3] = wipe σ [2, 3] ∧ tYes σ2 H2 fun b H3 =>
        if b = true then tOp (fun x y H Q => ∃ i j, x = .str i ∧ y = .str j ∧ Q (.bl (decide (i.cps.toList < j.cps.toList))) H) (tVar 2) (tVar 3) σ2 H3 fun y H4 => ∃ a, H4 D = some (.lst a) ∧ a.length < sizeLine ∧ Nx (upd H4 D (.lst (a ++ [y]))) else Nx H3) := by
  subst hσ
  have hs : (1000 : Nat) < sizeLine := by decide
  have hzl : (zs.zip (zs.drop 1)).length = min (zs.map V.str).length ((zs.drop 1).map V.str).length := by simp
  refine lc_acc (walk_zipT hzl) (fun i => (((zs.zip (zs.drop 1)).take i).map fun q => V.bl (ltB q.1 q.2))) rfl hD (fun i hi => ?_) (fun H1 s1 => ⟨SqT.of (s1 _ _ ha), SqT.of (s1 _ _ hp)⟩) (fun i x H1 H3 N hi s1 y keep skip => ?_) (fun H1 s1 hL => ?_)
  · rw [List.length_map, List.length_take]
    have : (zs.zip (zs.drop 1)).length ≤ zs.length := by rw [List.length_zip]; omega
    omega
  · obtain ⟨T, u, v, rfl, hT, rfl, hu, hv⟩ := y
    have hu' : (zs.map V.str)[i]? = some u := hu
    have hv' : ((zs.drop 1).map V.str)[i]? = some v := hv
    rw [List.getElem?_map] at hu' hv'
    obtain ⟨zu, e1, rfl⟩ := Option.map_eq_some_iff.mp hu'
    obtain ⟨zv, e2, rfl⟩ := Option.map_eq_some_iff.mp hv'
    refine ⟨T, _, rfl, SqT.of upd_same, rfl, ?_⟩
    refine ⟨_, _, rfl, _, _, rfl, rfl, rfl, ?_⟩
    refine ⟨_, rfl, _, rfl, _, _, rfl, rfl, ?_⟩
    refine keep _ _ (Same.new (Same.refl _) hT) ?_
    have ez : (zs.zip (zs.drop 1))[i]? = some (zu, zv) := by
      rw [List.getElem?_zip_eq_some]; exact ⟨e1, e2⟩
    rw [take_snoc ez, List.map_append]; rfl
  · refine hq H1 s1 ?_
    rw [hL, List.take_of_length_le (Nat.le_refl _)]
    unfold ascL
    rw [List.map_map]; rfl
theorem parts_strs {K : PySem.W.Frag} {H : Hp} : ∀ {xs : List V} {os : List (Option Str)}, Paired (PartOk K H) xs os → os.all nameO = true → ∃ zs : List Str, xs = zs.map V.str ∧ os = zs.map some
  | _, _, .nil, _ => ⟨[], rfl, rfl⟩
  | _, _, .cons r t, h => by
    rw [List.all_cons, Bool.and_eq_true] at h
    obtain ⟨zs, e1, e2⟩ := parts_strs t h.2
    rcases r with ⟨z, rfl, _, rfl⟩ | ⟨_, rfl⟩
    · exact ⟨z :: zs, by rw [e1]; rfl, by rw [e2]; rfl⟩
    · exact absurd h.1 (by simp [nameO])
section
variable {P : Program} {w : World} {K : PySem.W.Frag} {mg : Str → Option Value} {base : Heap}
theorem ok_cols {f : Addr} {fd : FuncData} (F : Fun K "is_columns" "is_columns" s_is_columns f fd) (T : Names2 mg) (C1 : Callee P w K mg base CX0 1 "is_name" ["value"] (spName K)) : FnOk P w K mg base CX0 2 f fd ["value"] (spCols K) := by
  have nd := sc_is_columns.nd
  refine F.ok sc_is_columns (fun vs H Q E h => ?_) (fun cdv A outer s H vs Q E hr h => ?_)
  · obtain ⟨x, b, rfl, _⟩ := h
    rfl
  · obtain ⟨x, b, rfl, hx, k⟩ := h
    refine ⟨_, (pss_cons
    (ps_if (PW.pt (pw_or (pt_not (pt_val (pe_callB call_isi (by rfl) T.isinstance (by decide +kernel) (pa_cons (pv 0) (pa_cons (pe_bltn (v := .ty "tuple") (by rfl) T.tuple (by decide +kernel) rfl) pa_nil))))) (pw_or1 (pt_not (pt_val (pe_callB (cr_all rfl) (by rfl) T.all (by decide +kernel) (pa_cons (pe_lc (own := [("part", 1)]) (g := (gName 1)) rfl nd (pi_tup (pv 0)) (blkOk_by (N := N_is_columns) (sc := defScope s_is_columns) (by decide +kernel)) (fun _ _ _ _ _ => (pg_name (i := 1) nd rfl (Or.inl rfl))) (fun _ _ _ _ _ => pts_nil) (fun _ _ _ _ _ => (pe_use C1 hr rfl pass0 (pa_cons (pv 1) pa_nil)))) pa_nil))))))) (pss_one
      (ps_ret pe_bl)) pss_nil)
    (pss_one
    (ps_ret (pe_callB (cr_all rfl) (by rfl) T.all (by decide +kernel) (pa_cons (pe_lc (own := [("one", 2), ("following", 3)]) (g := gTup K 2 (gCons (gName 2) (gCons (gName 3) gNil))) rfl nd (RZ.pi_zipA (by rfl) T.zip (pa_cons (pv 0) (pa_cons (pe_slice sl_tupA (pv 0) (po_some pe_int) po_none) pa_nil))) (blkOk_by (N := N_is_columns) (sc := defScope s_is_columns) (by decide +kernel)) (fun _ _ _ _ _ => (pg_tup rfl (pgs_cons (pg_name (i := 2) nd rfl (Or.inl rfl)) (pgs_cons (pg_name (i := 3) nd rfl (Or.inl rfl)) pgs_nil)))) (fun _ _ _ _ _ => pts_nil) (fun _ _ _ _ _ => (pe_cmpR op_lt_str (pv 2) (pv 3) (nomark _)))) pa_nil))))), ?_⟩
    rcases hx with ⟨⟨t, ty, e⟩, rfl⟩ | ⟨a, xs, os, rfl, ha, hlen, hp, eb⟩
    · exact ⟨_, rfl, _, _, t, _, false, rfl, .ty _, ty, e, _, rfl, iteT (iteT (k H (Same.refl H)))⟩
    · refine ⟨_, rfl, _, _, _, _, true, rfl, .ty _, .base (.tup ha), kit_ty (by decide +kernel), _, rfl, iteF ?_⟩
      refine ⟨_, rfl, a, rfl, ⟨_, SqT.of ha⟩, fun D hD => ?_⟩
      refine lc_acc walk_tup (fun i => ((os.take i).map fun o => V.bl (nameO o))) rfl hD (fun i hi => ?_) (fun H1 s1 => SqT.of (s1 _ _ ha)) (fun i x H1 H2 N hi s1 y keep skip => ?_) (fun H1 s1 hL => ?_)
      · have : (1000 : Nat) < sizeLine := by decide
        rw [List.length_map, List.length_take]; omega
      · obtain ⟨rfl, hx⟩ := y
        obtain ⟨o, ho, po⟩ := paired_get hp hx
        refine ⟨rfl, _, rfl, x, nameO o, rfl, ?_, fun H3 s3 => keep _ _ s3 ?_⟩
        · rcases po.same s1 with ⟨z, rfl, hz, rfl⟩ | ⟨ht, rfl⟩
          · exact .inl ⟨z, rfl, hz, rfl⟩
          · exact .inr ⟨ht, rfl⟩
        · rw [take_snoc ho, List.map_append]; rfl
      · refine ⟨D, os.map nameO, rfl, SqL.of ?_, _, rfl, ?_⟩
        · rw [hL, List.take_of_length_le (by rw [← hp.length]; exact Nat.le_refl _), List.map_map]; rfl
        · cases ea : (os.map nameO).all id with
          | false =>
            have e : b = false := by
              rw [eb]; unfold colsB
              rw [List.all_map] at ea
              rw [show os.all nameO = false from ea, Bool.false_and]
            subst e
            exact k H1 s1
          | true =>
            have en : os.all nameO = true := by rw [List.all_map] at ea; exact ea
            obtain ⟨zs, rfl, rfl⟩ := parts_strs hp en
            have ez : b = ascB zs := by
              rw [eb]; unfold colsB
              rw [en, Bool.true_and]
              congr 1
              rw [List.filterMap_map]; exact List.filterMap_some
            subst ez
            rw [List.length_map] at hlen
            refine ⟨_, rfl, _, rfl, _, rfl, a, _, rfl, SqT.of (s1 _ _ ha), fun hw => ?_, fun hw p hp0 => ?_⟩
            · have hz : zs = [] := by
                have := hw.1
                rw [show (1 : Int) = ((1 : Nat) : Int) from rfl, HT.sIx_nat] at this
                rw [List.length_map] at this
                have : zs.length = 0 := by omega
                exact List.eq_nil_of_length_eq_zero this
              subst hz
              refine ⟨a, a, _, _, rfl, .inr ⟨SqT.of (s1 _ _ ha), SqT.of (s1 _ _ ha), fun D2 hD2 => ?_⟩⟩
              refine asc_lc (zs := []) (s1 _ _ ha) (s1 _ _ ha) hlen rfl hD2 fun H3 s3 hL3 => ?_
              exact ⟨D2, _, rfl, SqL.of hL3, by rw [ascL_all]; exact k H3 (s1.trans s3)⟩
            · have hc : cutV (zs.map V.str) (some 1) none = (zs.drop 1).map V.str := by
                rw [show (1 : Int) = ((1 : Nat) : Int) from rfl, cutV_from, List.map_drop]
              rw [hc]
              refine ⟨a, p, _, _, rfl, .inr ⟨SqT.of (by rw [upd_ne (ne_of_none (s1 _ _ ha) hp0)]; exact s1 _ _ ha), SqT.of upd_same, fun D2 hD2 => ?_⟩⟩
              refine asc_lc (zs := zs) (by rw [upd_ne (ne_of_none (s1 _ _ ha) hp0)]; exact s1 _ _ ha) upd_same hlen rfl hD2 fun H3 s3 hL3 => ?_
              exact ⟨D2, _, rfl, SqL.of hL3, by rw [ascL_all]; exact k H3 ((Same.new s1 hp0).trans s3)⟩
end
end K1

/-! ## K6 -/
set_option Elab.async false
set_option linter.all false
set_option maxRecDepth 100000
set_option maxHeartbeats 4000000
namespace K1
open PySem PySem.Spec PyProof.Rows L2
abbrev s_is_whole : Stmt := topS 7
abbrev N_is_whole : List Str := ["value"]
theorem sc_is_whole : FnScope N_is_whole ["value"] (defScope s_is_whole) := ⟨rfl, rfl, rfl, by decide +kernel, rfl, by decide +kernel, by decide +kernel⟩
abbrev s_fits : Stmt := topS 8
abbrev N_fits : List Str := ["columns", "value", "part"]
theorem sc_fits : FnScope N_fits ["columns", "value"] (defScope s_fits) := ⟨rfl, rfl, rfl, by decide +kernel, rfl, by decide +kernel, by decide +kernel⟩
/-- an int, or what is no int or a bool -/
def WholeOk (K : PySem.W.Frag) (H : Hp) (p : V) (b : Bool) : Prop := (∃ i, p = .int i ∧ b = true) ∨ ((IsTy K H p "int" false ∨ ∃ c, p = .bl c) ∧ b = false)
def spWhole (K : PySem.W.Frag) : Sp := fun vs H Q _ => ∃ (x : V) (b : Bool), vs = [x] ∧ WholeOk K H x b ∧ Q (.bl b) H
def spFits (K : PySem.W.Frag) : Sp := fun vs H Q _ => ∃ (c : Addr) (cs : List V) (x : V) (b : Bool), vs = [.ref c, x] ∧ H c = some (.tup cs) ∧
  ((IsTy K H x "tuple" false ∧ b = false) ∨ (∃ a xs os, x = .ref a ∧ H a = some (.tup xs) ∧ xs.length ≤ 1000 ∧ Paired (WholeOk K H) xs os ∧ b = (decide (xs.length = cs.length) && os.all id))) ∧ ∀ H', Same H H' → Q (.bl b) H'
theorem WholeOk.same {K : PySem.W.Frag} {H H' : Hp} {p : V} {o : Bool} (h : WholeOk K H p o) (s : Same H H') : WholeOk K H' p o := h.imp id fun q => ⟨q.1.imp (fun z => z.same s) id, q.2⟩
section
variable {P : Program} {w : World} {K : PySem.W.Frag} {mg : Str → Option Value} {base : Heap}
theorem ok_whole {f : Addr} {fd : FuncData} (F : Fun K "is_whole" "is_whole" s_is_whole f fd) (T : Names2 mg) : FnOk P w K mg base CX0 1 f fd ["value"] (spWhole K) := by
  have nd := sc_is_whole.nd
  refine F.ok sc_is_whole (fun vs H Q E h => ?_) (fun cdv A outer s H vs Q E hr h => ?_)
  · obtain ⟨x, b, rfl, _⟩ := h
    rfl
  · obtain ⟨x, b, rfl, hx, k⟩ := h
    refine ⟨_, (pss_one
    (ps_ret (pe_and (pe_callB call_isi (by rfl) T.isinstance (by decide +kernel) (pa_cons (pv 0) (pa_cons (pe_bltn (v := .ty "int") (by rfl) T.int (by decide +kernel) rfl) pa_nil))) (pe_one (pe_not (pe_callB call_isi (by rfl) T.isinstance (by decide +kernel) (pa_cons (pv 0) (pa_cons (pe_bltn (v := .ty "bool") (by rfl) T.bool (by decide +kernel) rfl) pa_nil)))))))), ?_⟩
    rcases hx with ⟨i, rfl, rfl⟩ | ⟨⟨t, ty, e⟩ | ⟨c, rfl⟩, rfl⟩
    · refine ⟨_, rfl, _, _, _, _, true, rfl, .ty _, .base (.int i), kit_ty (by decide +kernel), true, rfl, ?_⟩
      exact ⟨_, rfl, _, _, _, _, false, rfl, .ty _, .base (.int i), kit_ty (by decide +kernel), _, rfl, k⟩
    · exact ⟨_, rfl, _, _, _, _, false, rfl, .ty _, ty, e, false, rfl, k⟩
    · refine ⟨_, rfl, _, _, _, _, true, rfl, .ty _, .base (.bl c), kit_ty (by decide +kernel), true, rfl, ?_⟩
      exact ⟨_, rfl, _, _, _, _, true, rfl, .ty _, .base (.bl c), kit_ty (by decide +kernel), _, rfl, k⟩
theorem ok_fits {f : Addr} {fd : FuncData} (F : Fun K "fits" "fits" s_fits f fd) (T : Names2 mg) (C1 : Callee P w K mg base CX0 1 "is_whole" ["value"] (spWhole K)) : FnOk P w K mg base CX0 2 f fd ["columns", "value"] (spFits K) := by
  have nd := sc_fits.nd
  refine F.ok sc_fits (fun vs H Q E h => ?_) (fun cdv A outer s H vs Q E hr h => ?_)
  · obtain ⟨c, cs, x, b, rfl, _⟩ := h
    rfl
  · obtain ⟨c, cs, x, b, rfl, hc, hx, k⟩ := h
    refine ⟨_, (pss_cons
    (ps_if (PW.pt (pw_or (pt_not (pt_val (pe_callB call_isi (by rfl) T.isinstance (by decide +kernel) (pa_cons (pv 1) (pa_cons (pe_bltn (v := .ty "tuple") (by rfl) T.tuple (by decide +kernel) rfl) pa_nil))))) (pw_or1 (pt_cmpR op_ne (pe_callB call_len_seq (by rfl) T.len (by decide +kernel) (pa_cons (pv 1) pa_nil)) (pe_callB call_len_seq (by rfl) T.len (by decide +kernel) (pa_cons (pv 0) pa_nil)) (nomark _))))) (pss_one
      (ps_ret pe_bl)) pss_nil)
    (pss_one
    (ps_ret (pe_callB (cr_all rfl) (by rfl) T.all (by decide +kernel) (pa_cons (pe_lc (own := [("part", 2)]) (g := (gName 2)) rfl nd (pi_tup (pv 1)) (blkOk_by (N := N_fits) (sc := defScope s_fits) (by decide +kernel)) (fun _ _ _ _ _ => (pg_name (i := 2) nd rfl (Or.inl rfl))) (fun _ _ _ _ _ => pts_nil) (fun _ _ _ _ _ => (pe_use C1 hr rfl pass0 (pa_cons (pv 2) pa_nil)))) pa_nil))))), ?_⟩
    rcases hx with ⟨⟨t, ty, e⟩, rfl⟩ | ⟨a, xs, os, rfl, ha, hlen, hp, eb⟩
    · exact ⟨_, rfl, _, _, t, _, false, rfl, .ty _, ty, e, _, rfl, iteT (iteT (k H (Same.refl H)))⟩
    · refine ⟨_, rfl, _, _, _, _, true, rfl, .ty _, .base (.tup ha), kit_ty (by decide +kernel), _, rfl, iteF ?_⟩
      refine ⟨_, rfl, a, _, rfl, .inr (SqT.of ha), _, rfl, c, _, rfl, .inr (SqT.of hc), rfl, _, rfl, ?_⟩
      by_cases hl : xs.length = cs.length
      · have hd : decide (V.int (xs.length : Nat) = V.int (cs.length : Nat)) = true := decide_eq_true (by rw [hl])
        rw [hd]
        refine iteF ⟨_, rfl, a, rfl, ⟨_, SqT.of ha⟩, fun D hD => ?_⟩
        refine lc_acc walk_tup (fun i => ((os.take i).map V.bl)) rfl hD (fun i hi => ?_) (fun H1 s1 => SqT.of (s1 _ _ ha)) (fun i x H1 H2 N hi s1 y keep skip => ?_) (fun H1 s1 hL => ?_)
        · have : (1000 : Nat) < sizeLine := by decide
          rw [List.length_map, List.length_take]; omega
        · obtain ⟨rfl, hx⟩ := y
          obtain ⟨o, ho, po⟩ := paired_get hp hx
          refine ⟨rfl, _, rfl, x, o, rfl, po.same s1, keep _ _ (Same.refl _) ?_⟩
          rw [take_snoc ho, List.map_append]; rfl
        · refine ⟨D, os, rfl, SqL.of ?_, ?_⟩
          · rw [hL, List.take_of_length_le (by rw [← hp.length]; exact Nat.le_refl _)]
          · have e : os.all id = b := by rw [eb, decide_eq_true hl, Bool.true_and]
            rw [e]
            exact k H1 s1
      · have hd : decide (V.int (xs.length : Nat) = V.int (cs.length : Nat)) = false := decide_eq_false (fun q => hl (by have := V.int.inj q; omega))
        rw [hd]
        have e : b = false := by rw [eb, decide_eq_false hl, Bool.false_and]
        subst e
        exact k H (Same.refl H)
end
end K1

/-! ## Z1 -/
set_option Elab.async false
set_option linter.all false
set_option maxRecDepth 100000
set_option maxHeartbeats 4000000
namespace K1
open PySem RZ
open PySem.Sem (wp)
section
variable {prog : Program} {w : World} {A : Around} {E : Value → Shared → Prop} {s : Shared}
/-! ### enumerate of a tuple -/
theorem enumT_step {e it l : Addr} {i : Nat} {xs : Array Value} {x old : Value} {Q : Value → Shared → Prop} (en : IsEnum s.heap e it i old) (at_ : s.heap.IsTupleIter it l i) (tp : s.heap.IsTuple l xs) (get : xs[i]? = some x) (ne : e ≠ it)
    (k : ∀ h', IsEnumOut h' e it ((i : Int) + 1) x s.heap.objs.size → h'.IsTupleIter it l (i + 1) → h'.get? s.heap.objs.size = some { cls := .type "tuple", data := .seq #[.int i s.toks, x] } →
      h'.objs.size = s.heap.objs.size + 1 → (∀ b o, b ≠ e → b ≠ it → s.heap.get? b = some o → h'.get? b = some o) → Q (.ref s.heap.objs.size) { s with heap := h', toks := s.toks + 1 }) :
    wpAny (model prog w) A (Builtin.«enumerate.__next__» ⟨[.ref e], []⟩) (fun fin s' => ∃ v, fin = .done (.ret v) ∧ Q v s') E s := by
  obtain ⟨h0, gens, drawn, tk, os⟩ := s
  have ne' := Ne.symm ne
  show wpAny _ _ (field (.ref e) 2 >>= _) _ _ _; refine wpAny_bind (wpAny_field en rfl (x := .ref it) rfl ?_)
  refine wpAny_bind (nextOf_tuple_item at_ tp get fun h1 at1 same1 => ?_)
  replace same1 : Heap.SameBut it h0 h1 := same1
  have en1 : IsEnum h1 e it i old := (same1.2 e ne).trans en
  show wpAny _ _ (field (.ref e) 3 >>= _) _ _ ⟨h1, gens, drawn, tk, os⟩; refine wpAny_bind (wpAny_field en1 rfl (x := rawInt i) rfl ?_)
  show wpAny _ _ (field (.ref e) 4 >>= _) _ _ ⟨h1, gens, drawn, tk, os⟩; refine wpAny_bind (wpAny_field en1 rfl (x := .none) rfl ?_)
  show wpAny _ _ (mkInt i >>= _) _ _ ⟨h1, gens, drawn, tk, os⟩; refine wpAny_bind (wpAny_mkInt ?_)
  show wpAny _ _ (setField (.ref e) 3 (rawInt ((i : Int) + 1)) >>= _) _ _ ⟨h1, gens, drawn, tk + 1, os⟩
  refine wpAny_bind (wpAny_setField_rec en1 (by simp) fun h2 en2 same2 => ?_)
  replace same2 : Heap.SameBut e h1 h2 := same2
  replace en2 : IsEnum h2 e it ((i : Int) + 1) old := en2
  show wpAny _ _ (setField (.ref e) 4 .none >>= _) _ _ ⟨h2, gens, drawn, tk + 1, os⟩
  refine wpAny_bind (wpAny_setField_rec en2 (by simp) fun h3 en3 same3 => ?_)
  replace same3 : Heap.SameBut e h2 h3 := same3
  replace en3 : IsEnum h3 e it ((i : Int) + 1) old := en3
  show wpAny _ _ (newTuple [.int i tk, x] >>= _) _ _ ⟨h3, gens, drawn, tk + 1, os⟩; refine wpAny_bind (wpAny_newTuple ?_)
  have len3 : h3.objs.size = h0.objs.size := by rw [same3.1, same2.1, same1.1]
  have below : e < h0.objs.size := Heap.lt_size en
  obtain ⟨h4, eq4⟩ : ∃ h4, h4 = h3.push { cls := .type "tuple", data := .seq #[.int i tk, x] } := ⟨_, rfl⟩
  have en4 : IsEnum h4 e it ((i : Int) + 1) old := by rw [eq4]; exact Heap.get?_push_of_some _ en3
  have new4 : h4.get? h0.objs.size = some { cls := .type "tuple", data := .seq #[.int i tk, x] } := by rw [eq4, ← len3]; exact Heap.get?_push_size _ rfl
  have len4 : h4.objs.size = h0.objs.size + 1 := by rw [eq4, Heap.size_push, len3]
  have keep4 : ∀ b o, b ≠ e → b ≠ it → h0.get? b = some o → h4.get? b = some o := fun b o n m q => by
    rw [eq4]
    exact Heap.get?_push_of_some _ (same3.extBut b o n (same2.extBut b o n (same1.extBut b o m q)))
  have at4 : h4.IsTupleIter it l (i + 1) := by
    obtain ⟨o, q, r⟩ := (at1.extBut same2.extBut ne').extBut same3.extBut ne'
    exact ⟨o, by rw [eq4]; exact Heap.get?_push_of_some _ q, r⟩
  rw [← eq4]
  show wpAny _ _ (Builtin.SmallTypes.ownedTupleIsFree (.ref e) >>= _) _ _ ⟨h4, gens, drawn, tk + 1, os⟩
  rw [len3]
  clear eq4 en3 same3 en2 same2 en1 same1 at1 len3
  refine wpAny_bind ?_
  unfold Builtin.SmallTypes.ownedTupleIsFree
  refine wpAny_bind (wpAny_field en4 rfl (x := .none) rfl (wpAny_pure ?_)); simp only [if_true]
  refine wpAny_bind (wpAny_rule ?_); refine wpAny_bind (wpAny_field en4 rfl (x := old) rfl ?_)
  refine wpAny_bind (wpAny_setField_rec en4 (by simp) fun h5 en5 same5 => ?_)
  replace same5 : Heap.SameBut e h4 h5 := same5
  replace en5 : IsEnum h5 e it ((i : Int) + 1) x := en5
  show wpAny _ _ (Builtin.SmallTypes.ownedTupleHandOut (.ref e) (.ref h0.objs.size) >>= _) _ _ ⟨h5, gens, drawn, tk + 1, os⟩
  refine wpAny_bind ?_
  unfold Builtin.SmallTypes.ownedTupleHandOut
  refine wpAny_bind (wpAny_setField_rec en5 (by simp) fun h6 en6 same6 => ?_)
  replace same6 : Heap.SameBut e h5 h6 := same6
  replace en6 : IsEnumOut h6 e it ((i : Int) + 1) x h0.objs.size := en6
  refine wpAny_setField_rec en6 (by simp) fun h7 en7 same7 => ?_
  replace same7 : Heap.SameBut e h6 h7 := same7
  replace en7 : IsEnumOut h7 e it ((i : Int) + 1) x h0.objs.size := en7
  have up : ∀ b o, b ≠ e → h4.get? b = some o → h7.get? b = some o := fun b o n q => same7.extBut b o n (same6.extBut b o n (same5.extBut b o n q))
  refine wpAny_bind (wpAny_letGo (wpAny_pure ⟨_, rfl, k h7 en7 (at4.at fun o q => up _ o ne' q) (up _ _ (Nat.ne_of_gt below) new4) ?_ fun b o n m q => up b o n (keep4 b o n m q)⟩))
  show h7.objs.size = h0.objs.size + 1
  rw [same7.1, same6.1, same5.1, len4]
theorem pyNext_enumT_item {e it l : Addr} {i : Nat} {xs : Array Value} {x old : Value} {Q : Option Value → Shared → Prop} (en : IsEnum s.heap e it i old) (at_ : s.heap.IsTupleIter it l i) (tp : s.heap.IsTuple l xs) (get : xs[i]? = some x) (ne : e ≠ it)
    (k : ∀ h', IsEnumOut h' e it ((i : Int) + 1) x s.heap.objs.size → h'.IsTupleIter it l (i + 1) → h'.get? s.heap.objs.size = some { cls := .type "tuple", data := .seq #[.int i s.toks, x] } →
      h'.objs.size = s.heap.objs.size + 1 → (∀ b o, b ≠ e → b ≠ it → s.heap.get? b = some o → h'.get? b = some o) → Q (some (.ref s.heap.objs.size)) { s with heap := h', toks := s.toks + 1 }) :
    wpAny (model prog w) A (pyNext (.ref e)) Q E s := by
  have ty : s.TypeIs (.ref e) "enumerate" := ⟨_, en, rfl⟩
  unfold pyNext
  refine wpAny_bind (wpAny_attempt (wpAny_callSpecial?_slot (name := Str.ofString "__next__") ty F.slot_enumerate_next (wpAny_call_entry F.slot_enumerate_next ty F.entry_enumerate_next ?_ (F.args_enumerate_next_1 _))))
  exact enumT_step en at_ tp get ne fun h' a b c d q => wpAny_pure (k h' a b c d q)
theorem pyNext_enumT_end {e it l : Addr} {i : Nat} {xs : Array Value} {old : Value} {Q : Option Value → Shared → Prop} (hh : A.handled = none) (en : IsEnum s.heap e it i old) (at_ : s.heap.IsTupleIter it l i) (tp : s.heap.IsTuple l xs) (get : xs[i]? = none)
    (k : ∀ h', Heap.ExtBut it s.heap h' → Q none { s with heap := h' }) : wpAny (model prog w) A (pyNext (.ref e)) Q E s := by
  have ty : s.TypeIs (.ref e) "enumerate" := ⟨_, en, rfl⟩
  unfold pyNext
  refine wpAny_bind (wpAny_attempt (wpAny_callSpecial?_slot (name := Str.ofString "__next__") ty F.slot_enumerate_next (wpAny_call_entry F.slot_enumerate_next ty F.entry_enumerate_next ?_ (F.args_enumerate_next_1 _))))
  show wpAny _ _ (field (.ref e) 2 >>= _) _ _ _; refine wpAny_bind (wpAny_field en rfl (x := .ref it) rfl ?_)
  refine wpAny_bind (nextOf_tuple_end hh at_ tp get fun h' z ext ⟨o, q, c⟩ => ?_)
  exact wpAny_bind (wpAny_isInstance (T := "StopIteration") (b := true) ⟨o, q, c⟩ isSubtype_stop (wpAny_pure (k _ ext)))
end
abbrev itTH (h : Heap) (l : Addr) : Heap := h.push { cls := .type "tuple_iterator", data := .fields #[.ref l, .int 0 0] }
theorem meets_enumT_new (l : Addr) (xs : Array Value) : Meets (Builtin.«enumerate.__new__» ⟨[.type "enumerate", .ref l], []⟩) (fun _ R s => s.heap.IsTuple l xs ∧
    R (.ok (.ret (.ref (itTH s.heap l).objs.size))) { s with heap := (itTH s.heap l).push { cls := .type "enumerate", data := .fields #[.none, .bool false, .ref s.heap.objs.size, rawInt 0, .none, .none] } }) :=
  .of_wp fun prog w A R s h => by
    obtain ⟨hp, gens, drawn, tk, os⟩ := s
    obtain ⟨tp, h⟩ := h
    have hsub := sub_enumerate
    have tL : Heap.IsTuple (Shared.heap ⟨hp, gens, drawn, tk, os⟩) l xs := tp
    obtain ⟨o, ho, _⟩ := id tp
    wp_walk using AutoSeq1.wpAny_loadPart' ho
    refine wpAny_stack_any fun st => wpAny_pure ?_
    split
    · rename_i c _ _ _ _ _
      cases (c == Value.type "enumerate")
      · wp_walk using AutoSeq1.wpAny_loadPart' ho, wpAny_pyIter_tuple tL
        exact ⟨_, rfl, h⟩
      · wp_walk using AutoSeq1.wpAny_loadPart' ho, wpAny_pyIter_tuple tL
        exact ⟨_, rfl, h⟩
    · wp_walk using AutoSeq1.wpAny_loadPart' ho, wpAny_pyIter_tuple tL
      exact ⟨_, rfl, h⟩
section
variable {prog : Program} {w : World} {A : Around} {E : Value → Shared → Prop} {s : Shared}
theorem call_enumT {l : Addr} {xs : Array Value} {Q : Value → Shared → Prop} (tp : s.heap.IsTuple l xs)
    (k : ∀ h', IsEnum h' (s.heap.objs.size + 1) s.heap.objs.size 0 .none → h'.IsTupleIter s.heap.objs.size l 0 → (∀ b o, s.heap.get? b = some o → h'.get? b = some o) → Q (.ref (s.heap.objs.size + 1)) { s with heap := h' }) :
    wpAny (model prog w) A (call (.type "enumerate") [.ref l]) Q E s := by
  refine callType_new F.called_enumerate (by decide) (F.typeCall_enumerate_1 _) (F.newCall_enumerate_1 _) (fun obj => F.args_object_init_2 obj _) F.entry_enumerate_new (meets_enumT_new l xs) ⟨tp, ?_⟩
  have z : (itTH s.heap l).objs.size = s.heap.objs.size + 1 := Heap.size_push ..
  have en : ((itTH s.heap l).push { cls := .type "enumerate", data := .fields #[.none, .bool false, .ref s.heap.objs.size, rawInt 0, .none, .none] }).get? (itTH s.heap l).objs.size = some _ := Heap.get?_push_size _ rfl
  show _ ∧ _
  rw [z] at en ⊢
  exact ⟨⟨_, en, rfl⟩, k _ en ⟨_, Heap.get?_push_of_some _ (Heap.get?_push_size _ rfl), rfl, rfl⟩ fun b o q => Heap.get?_push_of_some _ (Heap.get?_push_of_some _ q)⟩
end
end K1

/-! ## Z2 -/
set_option Elab.async false
set_option linter.all false
set_option maxRecDepth 100000
set_option maxHeartbeats 4000000
namespace K1
open PySem RZ
open PySem.Sem (wp)
section
variable {prog : Program} {w : World} {A : Around} {E : Value → Shared → Prop} {s : Shared}
/-! ### a zip of two tuples whose last pair is still in use -/
theorem zipH_step {z TI TO T i1 i2 l1 l2 : Addr} {f : Bool} {oT : Obj} {m n : Nat} {xs ys : Array Value} {x y : Value} {Q : Value → Shared → Prop} (D : ZipApart z TI TO i1 i2 l1 l2) (held : IsZipHeld s.heap z TI TO T f) (there : s.heap.get? T = some oT)
    (its : IsPair s.heap TI (.ref i1) (.ref i2)) (p1 : s.heap.IsTupleIter i1 l1 m) (p2 : s.heap.IsTupleIter i2 l2 n) (t1 : s.heap.IsTuple l1 xs) (t2 : s.heap.IsTuple l2 ys) (gx : xs[m]? = some x) (gy : ys[n]? = some y)
    (k : ∀ h', IsZipHeld h' z TI TO T true → h'.IsTupleIter i1 l1 (m + 1) → h'.IsTupleIter i2 l2 (n + 1) → IsPair h' s.heap.objs.size x y → h'.objs.size = s.heap.objs.size + 1 →
      (∀ c o, c ≠ z → c ≠ i1 → c ≠ i2 → s.heap.get? c = some o → h'.get? c = some o) → Q (.ref s.heap.objs.size) { s with heap := h' }) :
    wpAny (model prog w) A (Builtin.«zip.__next__» ⟨[.ref z], []⟩) (fun fin s' => ∃ v, fin = .done (.ret v) ∧ Q v s') E s := by
  show wpAny _ _ (field (.ref z) 2 >>= _) _ _ _; refine wpAny_bind (wpAny_field held rfl (x := .bool false) rfl ?_)
  show wpAny _ _ (field (.ref z) 3 >>= _) _ _ _; refine wpAny_bind (wpAny_field held rfl (x := .ref TI) rfl ?_)
  refine wpAny_bind (wpAny_seqItems its rfl ?_); show wpAny _ _ (Builtin.SmallTypes.ownedTupleIsFree (.ref z) >>= _) _ _ _
  refine wpAny_bind (wpAny_tupleHeld_zip held there fun ha za sa => ?_); simp only [Bool.false_eq_true, if_false]
  refine wpAny_bind ?_; rw [← Array.forIn_toList]
  simp only [List.forIn_cons, List.forIn_nil]; refine wpAny_bind (wpAny_bind (wpAny_holding ?_))
  show wpAny _ _ (Builtin.SmallTypes.nextOf (.ref i1) >>= _) _ _ _
  refine wpAny_bind (nextOf_tuple_item (s := { s with heap := ha }) (p1.extBut sa.extBut D.i1z) (t1.extBut sa.extBut D.l1z) gx fun hb pb sb => wpAny_pure ?_)
  refine wpAny_pure ?_; refine wpAny_bind (wpAny_bind (wpAny_holding ?_))
  show wpAny _ _ (Builtin.SmallTypes.nextOf (.ref i2) >>= _) _ _ _
  refine wpAny_bind (nextOf_tuple_item (s := { s with heap := hb }) ((p2.extBut sa.extBut D.i2z).extBut sb.extBut D.i12.symm) ((t2.extBut sa.extBut D.l2z).extBut sb.extBut D.l2i1) gy fun hc pc sc => wpAny_pure ?_)
  refine wpAny_pure (wpAny_pure ?_); show wpAny _ _ (newTuple [x, y] >>= _) _ _ _
  refine wpAny_bind (wpAny_newTuple (wpAny_pure ⟨_, rfl, ?_⟩))
  have len : hc.objs.size = s.heap.objs.size := by rw [sc.1, sb.1, sa.1]
  have keep : ∀ c o, c ≠ z → c ≠ i1 → c ≠ i2 → s.heap.get? c = some o → hc.get? c = some o := fun c o a b d q => sc.extBut _ _ d (sb.extBut _ _ b (sa.extBut _ _ a q))
  have zc : IsZipHeld hc z TI TO T true := sc.extBut _ _ D.i2z.symm (sb.extBut _ _ D.i1z.symm za)
  have pbc : hc.IsTupleIter i1 l1 (m + 1) := pb.extBut sc.extBut D.i12
  have new : IsPair (hc.push { cls := .type "tuple", data := .seq #[x, y] }) hc.objs.size x y := Heap.get?_push_size _ rfl
  show Q (.ref hc.objs.size) _
  rw [len] at new ⊢
  exact k _ (Heap.get?_push_of_some _ zc) (pbc.at fun o q => Heap.get?_push_of_some _ q) (pc.at fun o q => Heap.get?_push_of_some _ q) new (by rw [Heap.size_push, len]) fun c o a b d q => Heap.get?_push_of_some _ (keep c o a b d q)
theorem zipH_stop {z TI TO T i1 i2 l1 l2 : Addr} {f : Bool} {oT : Obj} {m n : Nat} {xs ys : Array Value} {Q : Fin → Shared → Prop} (hh : A.handled = none) (D : ZipApart z TI TO i1 i2 l1 l2) (held : IsZipHeld s.heap z TI TO T f) (there : s.heap.get? T = some oT)
    (its : IsPair s.heap TI (.ref i1) (.ref i2)) (p1 : s.heap.IsTupleIter i1 l1 m) (p2 : s.heap.IsTupleIter i2 l2 n) (t1 : s.heap.IsTuple l1 xs) (t2 : s.heap.IsTuple l2 ys) (none_ : xs[m]? = none ∨ ys[n]? = none)
    (k : ∀ h' e, (∀ c o, c ≠ z → c ≠ i1 → c ≠ i2 → s.heap.get? c = some o → h'.get? c = some o) → (∃ o, h'.get? e = some o ∧ o.cls = .type "StopIteration") → E (.ref e) { s with heap := h' }) :
    wpAny (model prog w) A (Builtin.«zip.__next__» ⟨[.ref z], []⟩) Q E s := by
  show wpAny _ _ (field (.ref z) 2 >>= _) _ _ _; refine wpAny_bind (wpAny_field held rfl (x := .bool false) rfl ?_)
  show wpAny _ _ (field (.ref z) 3 >>= _) _ _ _; refine wpAny_bind (wpAny_field held rfl (x := .ref TI) rfl ?_)
  refine wpAny_bind (wpAny_seqItems its rfl ?_); show wpAny _ _ (Builtin.SmallTypes.ownedTupleIsFree (.ref z) >>= _) _ _ _
  refine wpAny_bind (wpAny_tupleHeld_zip held there fun ha za sa => ?_); simp only [Bool.false_eq_true, if_false]
  refine wpAny_bind ?_; rw [← Array.forIn_toList]
  simp only [List.forIn_cons, List.forIn_nil]; refine wpAny_bind (wpAny_bind (wpAny_holding ?_))
  show wpAny _ _ (Builtin.SmallTypes.nextOf (.ref i1) >>= _) _ _ _
  have q1 := p1.extBut sa.extBut D.i1z
  have u1 := t1.extBut sa.extBut D.l1z
  cases gx : xs[m]? with
  | none => exact wpAny_bind (nextOf_tuple_end (s := { s with heap := ha }) hh q1 u1 gx fun hb e sb st => k hb e (fun c o a b _ q => sb _ _ b (sa.extBut _ _ a q)) st)
  | some x =>
    have gy : ys[n]? = none := none_.resolve_left (by rw [gx]; exact fun q => by cases q)
    refine wpAny_bind (nextOf_tuple_item (s := { s with heap := ha }) q1 u1 gx fun hb pb sb => wpAny_pure ?_)
    refine wpAny_pure ?_; refine wpAny_bind (wpAny_bind (wpAny_holding ?_))
    show wpAny _ _ (Builtin.SmallTypes.nextOf (.ref i2) >>= _) _ _ _
    exact wpAny_bind (nextOf_tuple_end (s := { s with heap := hb }) hh ((p2.extBut sa.extBut D.i2z).extBut sb.extBut D.i12.symm) ((t2.extBut sa.extBut D.l2z).extBut sb.extBut D.l2i1) gy fun hc e sc st =>
      k hc e (fun c o a b d q => sc _ _ d (sb.extBut _ _ b (sa.extBut _ _ a q))) st)
theorem pyNext_zipH_item {z TI TO T i1 i2 l1 l2 : Addr} {f : Bool} {oT : Obj} {m n : Nat} {xs ys : Array Value} {x y : Value} {Q : Option Value → Shared → Prop} (D : ZipApart z TI TO i1 i2 l1 l2) (held : IsZipHeld s.heap z TI TO T f) (there : s.heap.get? T = some oT)
    (its : IsPair s.heap TI (.ref i1) (.ref i2)) (p1 : s.heap.IsTupleIter i1 l1 m) (p2 : s.heap.IsTupleIter i2 l2 n) (t1 : s.heap.IsTuple l1 xs) (t2 : s.heap.IsTuple l2 ys) (gx : xs[m]? = some x) (gy : ys[n]? = some y)
    (k : ∀ h', IsZipHeld h' z TI TO T true → h'.IsTupleIter i1 l1 (m + 1) → h'.IsTupleIter i2 l2 (n + 1) → IsPair h' s.heap.objs.size x y → h'.objs.size = s.heap.objs.size + 1 →
      (∀ c o, c ≠ z → c ≠ i1 → c ≠ i2 → s.heap.get? c = some o → h'.get? c = some o) → Q (some (.ref s.heap.objs.size)) { s with heap := h' }) : wpAny (model prog w) A (pyNext (.ref z)) Q E s := by
  have ty : s.TypeIs (.ref z) "zip" := ⟨_, held, rfl⟩
  unfold pyNext
  refine wpAny_bind (wpAny_attempt (wpAny_callSpecial?_slot (name := Str.ofString "__next__") ty F.slot_zip_next (wpAny_call_entry F.slot_zip_next ty F.entry_zip_next ?_ (F.args_zip_next_1 _))))
  exact zipH_step D held there its p1 p2 t1 t2 gx gy fun h' a b c d e q => wpAny_pure (k h' a b c d e q)
theorem pyNext_zipH_end {z TI TO T i1 i2 l1 l2 : Addr} {f : Bool} {oT : Obj} {m n : Nat} {xs ys : Array Value} {Q : Option Value → Shared → Prop} (hh : A.handled = none) (D : ZipApart z TI TO i1 i2 l1 l2) (held : IsZipHeld s.heap z TI TO T f) (there : s.heap.get? T = some oT)
    (its : IsPair s.heap TI (.ref i1) (.ref i2)) (p1 : s.heap.IsTupleIter i1 l1 m) (p2 : s.heap.IsTupleIter i2 l2 n) (t1 : s.heap.IsTuple l1 xs) (t2 : s.heap.IsTuple l2 ys) (none_ : xs[m]? = none ∨ ys[n]? = none)
    (k : ∀ h', (∀ c o, c ≠ z → c ≠ i1 → c ≠ i2 → s.heap.get? c = some o → h'.get? c = some o) → Q none { s with heap := h' }) : wpAny (model prog w) A (pyNext (.ref z)) Q E s := by
  have ty : s.TypeIs (.ref z) "zip" := ⟨_, held, rfl⟩
  unfold pyNext
  refine wpAny_bind (wpAny_attempt (wpAny_callSpecial?_slot (name := Str.ofString "__next__") ty F.slot_zip_next (wpAny_call_entry F.slot_zip_next ty F.entry_zip_next (zipH_stop hh D held there its p1 p2 t1 t2 none_ fun h' e q st => ?_) (F.args_zip_next_1 _))))
  obtain ⟨o, ho, c⟩ := st
  exact wpAny_bind (wpAny_isInstance (T := "StopIteration") (b := true) ⟨o, ho, c⟩ isSubtype_stop (wpAny_pure (k _ q)))
end
/-! ### where a zip of two tuples stands, its pairs in use or not -/
structure ZipAt (z TI TO i1 i2 l1 l2 d : Addr) (xs ys : Array Value) (i : Nat) (h : Heap) : Prop where
  its : IsPair h TI (.ref i1) (.ref i2)
  p1 : h.IsTupleIter i1 l1 i
  p2 : h.IsTupleIter i2 l2 i
  t1 : h.IsTuple l1 xs
  t2 : h.IsTuple l2 ys
  st : (IsZip h z TI TO .none ∧ ∃ a b, IsPair h TO a b) ∨ ∃ T f oT, IsZipHeld h z TI TO T f ∧ h.get? T = some oT ∧ T ≠ z ∧ T ≠ i1 ∧ T ≠ i2 ∧ T ≠ d
theorem ZipAt.src {prog : Program} {w : World} {A : Around} {z TI TO i1 i2 l1 l2 d : Addr} {xs ys : Array Value} (hh : A.handled = none) (D : ZipApart z TI TO i1 i2 l1 l2) (ap : ∀ c ∈ [z, TI, TO, i1, i2, l1, l2], d ≠ c) :
    PairSrc prog w A z d [z, TO, i1, i2] (min xs.size ys.size) (fun i k v => xs[i]? = some k ∧ ys[i]? = some v) (ZipAt z TI TO i1 i2 l1 l2 d xs ys) where
  off := fun m => by
    simp only [List.mem_cons, List.not_mem_nil, or_false] at m
    rcases m with e | e | e | e <;> exact ap d (by simp [e]) rfl
  frame := fun i h h' Z k => by
    have o : ∀ c ∈ [z, TI, TO, i1, i2, l1, l2], ∀ u, h.get? c = some u → h'.get? c = some u := fun c m u q => k c u (Ne.symm (ap c m)) q
    refine ⟨o _ (by simp) _ Z.its, Z.p1.at fun u q => o i1 (by simp) u q, Z.p2.at fun u q => o i2 (by simp) u q, Z.t1.at fun u q => o l1 (by simp) u q, Z.t2.at fun u q => o l2 (by simp) u q, ?_⟩
    rcases Z.st with ⟨a, x, y, b⟩ | ⟨T, f, oT, a, b, n1, n2, n3, n4⟩
    · exact .inl ⟨o _ (by simp) _ a, x, y, o _ (by simp) _ b⟩
    · exact .inr ⟨T, f, oT, o _ (by simp) _ a, k _ _ n4 b, n1, n2, n3, n4⟩
  item := fun i s Q E hi Z lt k => by
    have e1 := Array.getElem?_eq_getElem (Nat.lt_of_lt_of_le hi (Nat.min_le_left xs.size ys.size))
    have e2 := Array.getElem?_eq_getElem (Nat.lt_of_lt_of_le hi (Nat.min_le_right xs.size ys.size))
    have off : ∀ {c o}, s.heap.get? c = some o → s.heap.objs.size ≠ c := fun e => Nat.ne_of_gt (Heap.lt_size e)
    have n1 : s.heap.objs.size ≠ i1 := by obtain ⟨_, e, _⟩ := Z.p1; exact off e
    have n2 : s.heap.objs.size ≠ i2 := by obtain ⟨_, e, _⟩ := Z.p2; exact off e
    rcases Z.st with ⟨a, x, y, b⟩ | ⟨T, f, oT, a, b, m1, m2, m3, m4⟩
    · refine pyNext_zipT_item D a Z.its b Z.p1 Z.p2 Z.t1 Z.t2 e1 e2 fun h' a1 a2 a3 a4 a5 _ kept => ?_
      refine k s.heap.objs.size _ _ h' s.toks ⟨e1, e2⟩ (.inl ⟨_, a5, rfl, _, rfl⟩) ⟨kept _ _ D.TIz D.TITO D.TIi1 D.TIi2 Z.its, a3, a4, Z.t1.at fun o q => kept _ o D.l1z D.l1TO D.l1i1 D.l1i2 q, Z.t2.at fun o q => kept _ o D.l2z D.l2TO D.l2i1 D.l2i2 q, .inr ⟨_, false, _, a1, a5, off a, n1, n2, Nat.ne_of_gt lt⟩⟩ fun c o m q => ?_
      simp only [List.mem_cons, List.not_mem_nil, or_false, not_or] at m
      exact kept c o m.1 m.2.1 m.2.2.1 m.2.2.2 q
    · refine pyNext_zipH_item D a b Z.its Z.p1 Z.p2 Z.t1 Z.t2 e1 e2 fun h' a1 a3 a4 a5 _ kept => ?_
      refine k s.heap.objs.size _ _ h' s.toks ⟨e1, e2⟩ (.inl ⟨_, a5, rfl, _, rfl⟩) ⟨kept _ _ D.TIz D.TIi1 D.TIi2 Z.its, a3, a4, Z.t1.at fun o q => kept _ o D.l1z D.l1i1 D.l1i2 q, Z.t2.at fun o q => kept _ o D.l2z D.l2i1 D.l2i2 q, .inr ⟨T, true, oT, a1, kept _ _ m1 m2 m3 b, m1, m2, m3, m4⟩⟩ fun c o m q => ?_
      simp only [List.mem_cons, List.not_mem_nil, or_false, not_or] at m
      exact kept c o m.1 m.2.2.1 m.2.2.2 q
  done := fun s Q E Z k => by
    have over : xs[min xs.size ys.size]? = none ∨ ys[min xs.size ys.size]? = none := by
      rcases Nat.le_total xs.size ys.size with h | h
      · rw [Nat.min_eq_left h]; exact .inl (Array.getElem?_eq_none (Nat.le_refl _))
      · rw [Nat.min_eq_right h]; exact .inr (Array.getElem?_eq_none (Nat.le_refl _))
    rcases Z.st with ⟨a, x, y, b⟩ | ⟨T, f, oT, a, b, _⟩
    · refine pyNext_zipT_end hh D a Z.its b Z.p1 Z.p2 Z.t1 Z.t2 over fun h' kept => k h' s.toks fun c o m q => ?_
      simp only [List.mem_cons, List.not_mem_nil, or_false, not_or] at m
      exact kept c o m.1 m.2.1 m.2.2.1 m.2.2.2 q
    · refine pyNext_zipH_end hh D a b Z.its Z.p1 Z.p2 Z.t1 Z.t2 over fun h' kept => k h' s.toks fun c o m q => ?_
      simp only [List.mem_cons, List.not_mem_nil, or_false, not_or] at m
      exact kept c o m.1 m.2.2.1 m.2.2.2 q
/-- a zip of two tuples that nobody has asked yet -/
structure ZipNew (z TI TO i1 i2 l1 l2 : Addr) (xs ys : Array Value) (h : Heap) : Prop where
  zip : IsZip h z TI TO .none
  its : IsPair h TI (.ref i1) (.ref i2)
  out : ∃ a b, IsPair h TO a b
  p1 : h.IsTupleIter i1 l1 0
  p2 : h.IsTupleIter i2 l2 0
  t1 : h.IsTuple l1 xs
  t2 : h.IsTuple l2 ys
theorem zipArg {prog : Program} {w : World} (z TI TO i1 i2 l1 l2 : Addr) (D : ZipApart z TI TO i1 i2 l1 l2) (xs ys : Array Value) :
    PairArg prog w "zip" z [z, TI, TO, i1, i2, l1, l2] [z, TO, i1, i2] (min xs.size ys.size) (fun i k v => xs[i]? = some k ∧ ys[i]? = some v) (ZipNew z TI TO i1 i2 l1 l2 xs ys) where
  type := fun s Z => ⟨_, Z.zip, rfl⟩
  notDict := by decide
  keep := fun h h' Z k => by
    obtain ⟨a, b, q⟩ := Z.out
    exact ⟨k _ _ Z.zip, k _ _ Z.its, ⟨a, b, k _ _ q⟩, Z.p1.at fun o q => k _ o q, Z.p2.at fun o q => k _ o q, Z.t1.at fun o q => k _ o q, Z.t2.at fun o q => k _ o q⟩
  there := fun h Z b m => by
    obtain ⟨_, _, q⟩ := Z.out
    obtain ⟨o1, h1, _⟩ := Z.p1
    obtain ⟨o2, h2, _⟩ := Z.p2
    obtain ⟨o3, h3, _⟩ := Z.t1
    obtain ⟨o4, h4, _⟩ := Z.t2
    simp only [List.mem_cons, List.not_mem_nil, or_false] at m
    rcases m with rfl | rfl | rfl | rfl | rfl | rfl | rfl
    · exact ⟨_, Z.zip⟩
    · exact ⟨_, Z.its⟩
    · exact ⟨_, q⟩
    · exact ⟨_, h1⟩
    · exact ⟨_, h2⟩
    · exact ⟨_, h3⟩
    · exact ⟨_, h4⟩
  sub := fun b m => by
    simp only [List.mem_cons, List.not_mem_nil, or_false] at m ⊢
    rcases m with e | e | e | e <;> simp [e]
  noKeys := fun A s Q E hA Z k => getAttrOr_miss_zip Z.zip rfl rfl rfl zip_no_keys (by decide +kernel) hA k
  iter := fun A s d Q E hA Z lt off k => by
    refine wpAny_pyIter_zip Z.zip (k z _ _ s.heap s.toks (ZipAt.src hA D fun c m e => off (by rw [e]; exact m)) ⟨Z.its, Z.p1, Z.p2, Z.t1, Z.t2, .inl ⟨Z.zip, Z.out⟩⟩ (fun _ _ q => q) fun b m => .inl m)
end K1

/-! ## Z3 -/
set_option Elab.async false
set_option linter.all false
set_option maxRecDepth 100000
set_option maxHeartbeats 4000000
namespace K1
open PySem PySem.Spec PyProof.Rows L2
/-! ### rules of our own: dict(zip(a, b)) of tuples -/
def tDZip (K : PySem.W.Frag) (ta : TA) : TE := fun σ H Q => ta σ H fun vs H1 => ∃ (a b : Addr) (zs : List Str) (ys : List V), vs = [.ref a, .ref b] ∧ SqT K H1 a (zs.map V.str) ∧ SqT K H1 b ys ∧ ∀ p, H1 p = none → Q (.ref p) (upd H1 p (.dK (mergeK [] ((zs.map Sum.inr).zip ys))))
theorem kv_zip {zs : List Str} : ∀ {ys : List V} {us : List Value}, Vals ys us → KV ((zs.map Sum.inr : List Key).zip ys) ((zs.map Sum.inr : List Key).zip us) := by
  induction zs with
  | nil => intro ys us r; exact .nil
  | cons z r ih =>
    intro ys us h
    cases h with
    | nil => exact .nil
    | cons a b => exact .cons ⟨rfl, a⟩ (ih b)
theorem pairs_zip {P : Program} {w : World} {zs : List Str} {its us : List Value} (r : Vals (zs.map V.str) its) :
    PairsHave (mixKind P w) (min its.toArray.size us.toArray.size) (fun i k v => its.toArray[i]? = some k ∧ us.toArray[i]? = some v) ((zs.map Sum.inr).zip us) := by
  have len : zs.length = its.length := by have := r.length; rwa [List.length_map] at this
  refine ⟨by rw [List.length_zip, List.length_map, len, List.size_toArray, List.size_toArray], fun i key v h => ?_⟩
  obtain ⟨h1, h2⟩ := h
  rw [List.getElem?_toArray] at h1 h2
  have hi : i < zs.length := by rw [len]; exact (List.getElem?_eq_some_iff.mp h1).1
  obtain ⟨u, e, ru⟩ := r.get (i := i) (x := V.str zs[i]) (by rw [List.getElem?_map, List.getElem?_eq_getElem hi]; rfl)
  rw [h1] at e
  cases e
  refine ⟨Sum.inr zs[i], ?_, kV_is (k := Sum.inr zs[i]) ru⟩
  rw [List.getElem?_zip_eq_some]
  exact ⟨by rw [List.getElem?_map, List.getElem?_eq_getElem hi]; rfl, h2⟩
section
variable {X : Cx}
theorem pe_dictZip {e1 e2 : Expr} {ta : TA} {p p2 pos pos2 : Pos} (hc : X.calm = true) (hg : Gl X "dict") (hm : X.mg "dict" = none) (hg2 : Gl X "zip") (hm2 : X.mg "zip" = none) (ha : PA X [e1, e2] ta)
    (hst : starEach [e1, e2] X.env = (false, eval e1 X.env) :: starEach [e2] X.env := by rfl) (hpl : (backTo pos2 (starEach [e2] X.env)).any (·.1) = false := by rfl) :
    PE X (.Call (.Name "dict" p) [.Call (.Name "zip" p2) [e1, e2] [] pos2] [] pos) (tDZip X.K ta) := by
  refine ⟨fun pins s σ H Q I h => ?_⟩
  refine Call_ (ld_blt I hg hm boot_dict (PyProof.Rows.callWith_type1 (PyProof.Rows.args_cons ?_ rfl) rfl rfl))
  refine Call_ (ld_blt I hg2 hm2 PyProof.Rows.boot_zip (PyProof.Rows.callWith_type1 (thn (ha.run pos2 pins s σ H _ I h) fun us s1 ⟨vs, H1, J, r, q⟩ => ?_) hst hpl))
  obtain ⟨a, b, zs, ys, rfl, t1, t2, q⟩ := q
  obtain ⟨u1, u2, rfl, r1, r2⟩ := vals2 r
  cases r1
  cases r2
  obtain ⟨its, rv, q1, _⟩ := J.tuple t1
  obtain ⟨jts, rw_, q2, small⟩ := J.tuple t2
  have w1 : s1.heap.IsTuple a its.toArray := q1
  have w2 : s1.heap.IsTuple b jts.toArray := q2
  obtain ⟨o1, g1, _⟩ := id w1
  obtain ⟨o2, g2, _⟩ := id w2
  refine RZ.call_zipT w1 w2 fun h' hz hTI hTO h1 h2 len kept => PyProof.Rows.args_nil ?_
  have ap := PySem.W.ktu_apart s1.heap.objs.size a b (Heap.lt_size g1) (Heap.lt_size g2)
  refine PySem.call_dict_pairs (s := { s1 with heap := h' }) (knd := mixKind X.prog X.w) (kvs := (zs.map Sum.inr).zip jts) (zipArg _ _ _ _ _ a b ap its.toArray jts.toArray) (J.ok.hd hc) ⟨hz, hTI, ⟨_, _, hTO⟩, h1, h2, w1.at fun o e => kept _ o e, w2.at fun o e => kept _ o e⟩ (pairs_zip rv) ?_ fun h'' tk dd kept2 => ?_
  · rw [List.size_toArray, List.size_toArray]
    exact Nat.le_trans (Nat.min_le_right _ _) (by rw [← rw_.length]; exact small)
  have le : s1.heap.objs.size ≤ h'.objs.size := by rw [len]; omega
  have all : ∀ c o, s1.heap.get? c = some o → h''.get? c = some o := fun c o e => by
    refine kept2 c o (fun m => ?_) (kept c o e)
    have lt := Heap.lt_size e
    simp only [List.mem_cons, List.not_mem_nil, or_false] at m
    have no : ∀ n : Nat, ¬ (s1.heap.objs.size + n < s1.heap.objs.size) := fun n z => Nat.lt_irrefl _ (Nat.lt_of_le_of_lt (Nat.le_add_right _ n) z)
    rcases m with z | z | z | z <;> rw [z] at lt
    · exact no 4 lt
    · exact no 3 lt
    · exact no 0 lt
    · exact no 1 lt
  have big := J.big
  have nsys : (h'.objs.size == sysModules) = false := beq_eq_false_iff_ne.mpr (Nat.ne_of_gt (Nat.lt_of_lt_of_le big le))
  have few : (mergeK [] ((zs.map Sum.inr).zip ys)).length ≤ sizeLine := by
    refine Nat.le_trans (length_mergeK _ _) ?_
    rw [List.length_nil, Nat.zero_add, List.length_zip]
    exact Nat.le_trans (Nat.min_le_right _ _) small
  exact ⟨.ref h'.objs.size, upd H1 h'.objs.size (.dK (mergeK [] ((zs.map Sum.inr).zip ys))), J.laid (t' := tk) all le (show ObjOk X.prog X.w _ _ _ (.dK (mergeK [] ((zs.map Sum.inr).zip ys))) from ⟨few, nsys, _, KV.merge (kv_zip rw_) .nil, dd⟩), rfl, q _ (J.hok.fresh le)⟩
end
end K1

/-! ## Z4 -/
set_option Elab.async false
set_option linter.all false
set_option maxRecDepth 100000
set_option maxHeartbeats 4000000
namespace K1
open PySem RZ
open PySem.Sem (wp)
/-! ### list(zip(a, b)) of tuples: pair j is the object b0 + j -/
structure Zl (b0 S z TI TO i1 i2 l1 l2 : Addr) (xs ys : Array Value) (i : Nat) (h : Heap) : Prop where
  pos : ZipAt z TI TO i1 i2 l1 l2 S xs ys i h
  size : h.objs.size = b0 + i
  made : ∀ (j : Nat) (x y : Value), j < i → xs[j]? = some x → ys[j]? = some y → IsPair h (b0 + j) x y
def Refs (b0 : Addr) (i : Nat) (acc : Array Value) : Prop := acc.size = i ∧ ∀ j : Nat, j < i → acc[j]? = some (.ref (b0 + j))
theorem Refs.push {b0 : Addr} {i : Nat} {acc : Array Value} (h : Refs b0 i acc) : Refs b0 (i + 1) (acc.push (.ref (b0 + i))) := by
  refine ⟨by rw [Array.size_push, h.1], fun j hj => ?_⟩
  rw [Array.getElem?_push, h.1]
  by_cases e : j = i
  · rw [if_pos e, e]
  · rw [if_neg e]; exact h.2 j (by omega)
abbrev lobj (acc : Array Value) (c : Nat) : Obj := { cls := .type "list", dict := none, data := .seq acc c, slots := #[] }
section
variable {prog : Program} {w : World} {A : Around} {R : Result → Shared → Prop} {b0 S z TI TO i1 i2 l1 l2 : Addr} {xs ys : Array Value}
theorem Zl.other {i : Nat} {h h' : Heap} (Z : Zl b0 S z TI TO i1 i2 l1 l2 xs ys i h) (ap : ∀ c ∈ [z, TI, TO, i1, i2, l1, l2], S ≠ c) (lowS : S < b0) (len : h'.objs.size = h.objs.size) (k : ∀ b o, b ≠ S → h.get? b = some o → h'.get? b = some o) : Zl b0 S z TI TO i1 i2 l1 l2 xs ys i h' := by
  have D : ∀ c ∈ [z, TI, TO, i1, i2, l1, l2], ∀ u, h.get? c = some u → h'.get? c = some u := fun c m u q => k c u (Ne.symm (ap c m)) q
  refine ⟨⟨D _ (by simp) _ Z.pos.its, Z.pos.p1.at fun u q => D i1 (by simp) u q, Z.pos.p2.at fun u q => D i2 (by simp) u q, Z.pos.t1.at fun u q => D l1 (by simp) u q, Z.pos.t2.at fun u q => D l2 (by simp) u q, ?_⟩, len.trans Z.size, fun j x y hj hx hy => ?_⟩
  · rcases Z.pos.st with ⟨a, x, y, b⟩ | ⟨T, f, oT, a, b, n1, n2, n3, n4⟩
    · exact .inl ⟨D _ (by simp) _ a, x, y, D _ (by simp) _ b⟩
    · exact .inr ⟨T, f, oT, D _ (by simp) _ a, k _ _ n4 b, n1, n2, n3, n4⟩
  · exact k _ _ (Nat.ne_of_gt (Nat.lt_of_lt_of_le lowS (Nat.le_add_right _ _))) (Z.made j x y hj hx hy)
/-- one more pair -/
theorem zl_next {A : Around} {E : Value → Shared → Prop} {s : Shared} {i : Nat} {x y : Value} {Q : Option Value → Shared → Prop} (D : ZipApart z TI TO i1 i2 l1 l2) (low : ∀ c ∈ [S, z, TO, i1, i2], c < b0) (Z : Zl b0 S z TI TO i1 i2 l1 l2 xs ys i s.heap) (gx : xs[i]? = some x) (gy : ys[i]? = some y)
    (k : ∀ h', Zl b0 S z TI TO i1 i2 l1 l2 xs ys (i + 1) h' → (∀ c o, c ∉ [z, TO, i1, i2] → s.heap.get? c = some o → h'.get? c = some o) → Q (some (.ref (b0 + i))) { s with heap := h' }) : wpAny (model prog w) A (pyNext (.ref z)) Q E s := by
  have off : ∀ c ∈ [S, z, TO, i1, i2], s.heap.objs.size ≠ c := fun c m => by
    rw [Z.size]
    exact Nat.ne_of_gt (Nat.lt_of_lt_of_le (low c m) (Nat.le_add_right _ _))
  have fin : ∀ h', IsPair h' TI (.ref i1) (.ref i2) → h'.IsTupleIter i1 l1 (i + 1) → h'.IsTupleIter i2 l2 (i + 1) → h'.IsTuple l1 xs → h'.IsTuple l2 ys →
      ((IsZip h' z TI TO .none ∧ ∃ a b, IsPair h' TO a b) ∨ ∃ T f oT, IsZipHeld h' z TI TO T f ∧ h'.get? T = some oT ∧ T ≠ z ∧ T ≠ i1 ∧ T ≠ i2 ∧ T ≠ S) → IsPair h' s.heap.objs.size x y → h'.objs.size = s.heap.objs.size + 1 →
      (∀ c o, c ∉ [z, TO, i1, i2] → s.heap.get? c = some o → h'.get? c = some o) → Q (some (.ref s.heap.objs.size)) { s with heap := h' } := fun h' c1 c2 c3 c4 c5 c6 new len kept => by
    rw [Z.size]
    refine k h' ⟨⟨c1, c2, c3, c4, c5, c6⟩, by rw [len, Z.size]; rfl, fun j u v hj hu hv => ?_⟩ kept
    by_cases e : j = i
    · subst e
      rw [gx] at hu
      rw [gy] at hv
      cases hu
      cases hv
      rw [← Z.size]
      exact new
    · refine kept _ _ (fun m => ?_) (Z.made j u v (by omega) hu hv)
      exact Nat.lt_irrefl _ (Nat.lt_of_le_of_lt (Nat.le_add_right b0 j) (low _ (List.mem_cons_of_mem _ m)))
  have mem : ∀ {c : Addr}, c ∉ [z, TO, i1, i2] → c ≠ z ∧ c ≠ TO ∧ c ≠ i1 ∧ c ≠ i2 := fun m => by
    simpa only [List.mem_cons, List.not_mem_nil, or_false, not_or] using m
  rcases Z.pos.st with ⟨a, p, q, b⟩ | ⟨T, f, oT, a, b, m1, m2, m3, m4⟩
  · refine pyNext_zipT_item D a Z.pos.its b Z.pos.p1 Z.pos.p2 Z.pos.t1 Z.pos.t2 gx gy fun h' a1 a2 a3 a4 a5 a6 kept => fin h' (kept _ _ D.TIz D.TITO D.TIi1 D.TIi2 Z.pos.its) a3 a4 (Z.pos.t1.at fun o q => kept _ o D.l1z D.l1TO D.l1i1 D.l1i2 q) (Z.pos.t2.at fun o q => kept _ o D.l2z D.l2TO D.l2i1 D.l2i2 q) (.inr ⟨_, false, _, a1, a5, off z (by simp), off i1 (by simp), off i2 (by simp), off S (by simp)⟩) a5 a6 fun c o m e => ?_
    obtain ⟨n1, n2, n3, n4⟩ := mem m
    exact kept c o n1 n2 n3 n4 e
  · refine pyNext_zipH_item D a b Z.pos.its Z.pos.p1 Z.pos.p2 Z.pos.t1 Z.pos.t2 gx gy fun h' a1 a3 a4 a5 a6 kept => fin h' (kept _ _ D.TIz D.TIi1 D.TIi2 Z.pos.its) a3 a4 (Z.pos.t1.at fun o q => kept _ o D.l1z D.l1i1 D.l1i2 q) (Z.pos.t2.at fun o q => kept _ o D.l2z D.l2i1 D.l2i2 q) (.inr ⟨T, true, oT, a1, kept _ _ m1 m2 m3 b, m1, m2, m3, m4⟩) a5 a6 fun c o m e => ?_
    obtain ⟨n1, n2, n3, n4⟩ := mem m
    exact kept c o n1 n3 n4 e
theorem zl_stop {A : Around} {E : Value → Shared → Prop} {s : Shared} {Q : Option Value → Shared → Prop} (hh : A.handled = none) (D : ZipApart z TI TO i1 i2 l1 l2) (ap : ∀ c ∈ [z, TI, TO, i1, i2, l1, l2], S ≠ c) (low : ∀ c ∈ [S, z, TO, i1, i2], c < b0) (Z : Zl b0 S z TI TO i1 i2 l1 l2 xs ys (min xs.size ys.size) s.heap)
    (k : ∀ h', (∀ (j : Nat) (x y : Value), j < min xs.size ys.size → xs[j]? = some x → ys[j]? = some y → IsPair h' (b0 + j) x y) → (∀ c o, c ∉ [z, TO, i1, i2] → s.heap.get? c = some o → h'.get? c = some o) → ∀ tk, Q none { s with heap := h', toks := tk }) : wpAny (model prog w) A (pyNext (.ref z)) Q E s := by
  refine (ZipAt.src hh D ap).done s Q E Z.pos fun h' tk kept => k h' (fun j x y hj hx hy => ?_) kept tk
  refine kept _ _ (fun m => ?_) (Z.made j x y hj hx hy)
  exact Nat.lt_irrefl _ (Nat.lt_of_le_of_lt (Nat.le_add_right b0 j) (low _ (List.mem_cons_of_mem _ m)))
/-- the list at S takes all pairs -/
theorem zl_loop (hh : A.in1.handled = none) (D : ZipApart z TI TO i1 i2 l1 l2) (ap : ∀ c ∈ [z, TI, TO, i1, i2, l1, l2], S ≠ c) (low : ∀ c ∈ [S, z, TO, i1, i2], c < b0) (few : min xs.size ys.size ≤ sizeLine) (res : Value) :
    ∀ (left i : Nat) (s : Shared) (acc : Array Value) (c : Nat), min xs.size ys.size - i = left → i ≤ min xs.size ys.size → Zl b0 S z TI TO i1 i2 l1 l2 xs ys i s.heap → s.heap.get? S = some (lobj acc c) → Refs b0 i acc →
    (∀ h' tk acc' c', h'.get? S = some (lobj acc' c') → Refs b0 (min xs.size ys.size) acc' → (∀ (j : Nat) (x y : Value), j < min xs.size ys.size → xs[j]? = some x → ys[j]? = some y → IsPair h' (b0 + j) x y) →
      (∀ b o, b ∉ [S, z, TO, i1, i2] → s.heap.get? b = some o → h'.get? b = some o) → R (.ok (.ret res)) { s with heap := h', toks := tk }) →
    codeAny (model prog w) A (.builtin "list.extend.loop" ⟨[.ref S, .ref z, res], []⟩) R s := by
  have lowS : S < b0 := low S (by simp)
  have nS : S ∉ [z, TO, i1, i2] := fun m => by
    refine ap S ?_ rfl
    simp only [List.mem_cons, List.not_mem_nil, or_false] at m ⊢
    rcases m with e | e | e | e <;> simp [← e]
  intro left
  induction left with
  | zero =>
    intro i s acc c e hi Z L r k
    obtain rfl : i = min xs.size ys.size := by omega
    refine codeAny_builtin F.entry_extend_loop ?_
    rw [Around.under_plainId F.plain_extend_loop _]; show wpAny _ A.in1 (pyNext (.ref z) >>= _) _ _ s
    refine wpAny_bind (zl_stop hh D ap low Z fun h' made kept tk => wpAny_pure (k h' tk acc c (kept S _ nS L) r made fun b o m q => kept b o (fun z => m (List.mem_cons_of_mem _ z)) q))
  | succ left ih =>
    intro i s acc c e hi Z L r k
    have hlt : i < min xs.size ys.size := by omega
    have gx := Array.getElem?_eq_getElem (Nat.lt_of_lt_of_le hlt (Nat.min_le_left xs.size ys.size))
    have gy := Array.getElem?_eq_getElem (Nat.lt_of_lt_of_le hlt (Nat.min_le_right xs.size ys.size))
    refine codeAny_builtin F.entry_extend_loop ?_
    rw [Around.under_plainId F.plain_extend_loop _]; show wpAny _ A.in1 (pyNext (.ref z) >>= _) _ _ s
    refine wpAny_bind (zl_next D low Z gx gy fun h' Z' kept => ?_)
    have L' := kept S _ nS L
    show wpAny _ A.in1 (updateSeq S (·.push (.ref (b0 + i))) >>= _) _ _ _
    refine wpAny_bind (wpAny_updateSeq L' rfl (wpAny_pure ⟨plainId_quiet F.plain_extend_loop _, ?_⟩) (by rw [r.1]; omega) (by show (acc.push _).size ≤ sizeLine + 1; rw [Array.size_push, r.1]; omega))
    have other : ∀ b o, b ≠ S → h'.get? b = some o → (h'.update S (Obj.mapSeq (·.push (.ref (b0 + i))))).get? b = some o := fun b o n q => (Heap.get?_update_other _ _ (Ne.symm n)).trans q
    refine ih (i + 1) { s with heap := h'.update S (Obj.mapSeq (·.push (.ref (b0 + i)))) } (acc.push (.ref (b0 + i))) _ (by omega) hlt (Z'.other ap lowS (by rw [Heap.size_update]) other) (Heap.get?_update_self _ L' rfl) r.push fun h2 tk acc' c' L2 r2 made kept2 => ?_
    refine k h2 tk acc' c' L2 r2 made fun b o m q => kept2 b o m (other b o (fun z => m (by rw [z]; exact List.mem_cons_self)) (kept b o (fun z => m (List.mem_cons_of_mem _ z)) q))
end
end K1

/-! ## Z5 -/
set_option Elab.async false
set_option linter.all false
set_option maxRecDepth 100000
set_option maxHeartbeats 4000000
namespace K1
open PySem RZ
open PySem.Sem (wp)
theorem zip_len0 : typeLookup (.type "zip") "__len__" = pure none := am_miss_of_fast (by decide +kernel)
theorem zip_hint0 : typeLookup (.type "zip") "__length_hint__" = pure none := am_miss_of_fast (by decide +kernel)
section
variable {prog : Program} {w : World} {A : Around} {R : Result → Shared → Prop} {S z TI TO i1 i2 l1 l2 : Addr} {xs ys : Array Value}
/-- what list() of such a zip leaves -/
abbrev ZlEnd (R : Result → Shared → Prop) (res : Value) (b0 S z TO i1 i2 : Addr) (xs ys : Array Value) (s : Shared) : Prop := ∀ h' tk acc' c', h'.get? S = some (lobj acc' c') → Refs b0 (min xs.size ys.size) acc' →
  (∀ (j : Nat) (x y : Value), j < min xs.size ys.size → xs[j]? = some x → ys[j]? = some y → IsPair h' (b0 + j) x y) → (∀ b o, b ∉ [S, z, TO, i1, i2] → s.heap.get? b = some o → h'.get? b = some o) → R (.ok (.ret res)) { s with heap := h', toks := tk }
theorem zl_extend {s : Shared} {c : Nat} (hh : A.in1.handled = none) (D : ZipApart z TI TO i1 i2 l1 l2) (ap : ∀ c ∈ [z, TI, TO, i1, i2, l1, l2], S ≠ c) (few : min xs.size ys.size ≤ sizeLine) (res : Value) (Z : ZipAt z TI TO i1 i2 l1 l2 S xs ys 0 s.heap) (zip : IsZip s.heap z TI TO .none)
    (low : ∀ c ∈ [S, z, TO, i1, i2], c < s.heap.objs.size) (L : s.heap.get? S = some (lobj #[] c)) (k : ZlEnd R res s.heap.objs.size S z TO i1 i2 xs ys s) :
    wpAny (model prog w) A.in1 (Builtin.List.listExtendWith (.ref S) (.ref z) res) (fun fin s' => match fin with | .done f => R (.ok f) s' | .again c' => c'.quiet = true ∧ codeAny (model prog w) A c' R s') (fun e s' => R (.error e) s') s := by
  have ty : s.TypeIs (.ref z) "zip" := ⟨_, zip, rfl⟩
  have nSz : S ≠ z := ap z (by simp)
  unfold Builtin.List.listExtendWith
  refine wpAny_bind (wpAny_typeOf ty ?_)
  simp only [show Builtin.List.listSameRef (.ref S) (.ref z) = false from by simp [Builtin.List.listSameRef, nSz], show (Value.type "zip" == Value.type "list") = false from by decide, show (Value.type "zip" == Value.type "tuple") = false from by decide, Bool.or_false, Bool.false_eq_true, if_false]
  refine wpAny_bind (wpAny_pyIter_zip zip (wpAny_bind (wpAny_holding ?_)))
  unfold Builtin.List.listLengthHint
  refine wpAny_bind (wpAny_specialOf ty zip_len0 ?_)
  show wpAny _ A.in1 (specialOf (.ref z) (Str.ofString "__length_hint__") >>= _) _ _ _
  refine wpAny_bind (wpAny_specialOf ty zip_hint0 (wpAny_pure ?_))
  show wpAny _ A.in1 (rule "list.extend.makes-room" >>= fun _ => Builtin.List.listTouch (.ref S) >>= fun _ => again (.builtin "list.extend.loop" ⟨[.ref S, .ref z, res], []⟩)) _ _ _
  refine wpAny_bind (wpAny_rule (wpAny_bind ?_))
  show wpAny _ A.in1 (updateSeq S (·.push .none) >>= fun _ => updateSeq S (·.pop)) _ _ _
  refine wpAny_bind (wpAny_updateSeq L rfl ?_)
  have L2 := Heap.get?_update_self (Obj.mapSeq (·.push Value.none)) L rfl
  refine wpAny_updateSeq (hz := by seq_fits) L2 rfl ?_
  have L3 := Heap.get?_update_self (Obj.mapSeq (·.pop)) L2 rfl
  obtain ⟨h2, eq2⟩ : ∃ h2, h2 = (s.heap.update S (Obj.mapSeq (·.push Value.none))).update S (Obj.mapSeq (·.pop)) := ⟨_, rfl⟩
  rw [← eq2] at L3 ⊢
  have other : ∀ b o, b ≠ S → s.heap.get? b = some o → h2.get? b = some o := fun b o n q => by
    rw [eq2]
    exact (Heap.get?_update_other _ _ (Ne.symm n)).trans ((Heap.get?_update_other _ _ (Ne.symm n)).trans q)
  have len : h2.objs.size = s.heap.objs.size := by rw [eq2, Heap.size_update, Heap.size_update]
  have Z0 : Zl s.heap.objs.size S z TI TO i1 i2 l1 l2 xs ys 0 s.heap := ⟨Z, rfl, fun j x y hj => absurd hj (Nat.not_lt_zero j)⟩
  refine wpAny_pure ⟨plainId_quiet F.plain_extend_loop _, zl_loop hh D ap low few res _ 0 { s with heap := h2 } #[] _ rfl (Nat.zero_le _) (Z0.other ap (low S (by simp)) len other) L3 ⟨rfl, fun j hj => absurd hj (Nat.not_lt_zero j)⟩ fun h' tk acc' c' a b d e => ?_⟩
  exact k h' tk acc' c' a b d fun c o m q => e c o m (other c o (fun z => m (by rw [z]; exact List.mem_cons_self)) q)
theorem zl_init {s : Shared} (hh : A.in1.handled = none) (D : ZipApart z TI TO i1 i2 l1 l2) (ap : ∀ c ∈ [z, TI, TO, i1, i2, l1, l2], S ≠ c) (few : min xs.size ys.size ≤ sizeLine) (Z : ZipAt z TI TO i1 i2 l1 l2 S xs ys 0 s.heap) (zip : IsZip s.heap z TI TO .none)
    (low : ∀ c ∈ [S, z, TO, i1, i2], c < s.heap.objs.size) (L : s.heap.get? S = some (lobj #[] 0)) (k : ZlEnd R .none s.heap.objs.size S z TO i1 i2 xs ys s) :
    wpAny (model prog w) A.in1 (Builtin.«list.__init__» ⟨[.ref S, .ref z], []⟩) (fun fin s' => match fin with | .done f => R (.ok f) s' | .again c' => c'.quiet = true ∧ codeAny (model prog w) A c' R s') (fun e s' => R (.error e) s') s := by
  show wpAny _ A.in1 (do let old ← Builtin.List.listItems (.ref S); Builtin.List.listUpdate (.ref S) (fun _ => #[]); letGo old.toList.reverse; Builtin.List.listExtendWith (.ref S) (.ref z) .none) _ _ s
  refine wpAny_bind ?_
  unfold Builtin.List.listItems
  refine wpAny_bind (wpAny_seqItems L rfl (wpAny_pure ?_))
  show wpAny _ A.in1 (updateSeq S (fun _ => #[]) >>= fun _ => letGo (#[] : Array Value).toList.reverse >>= fun _ => Builtin.List.listExtendWith (.ref S) (.ref z) .none) _ _ s
  refine wpAny_bind (wpAny_updateSeq L rfl (wpAny_bind (wpAny_letGo ?_)))
  have L2 := Heap.get?_update_self (Obj.mapSeq (fun _ => (#[] : Array Value))) L rfl
  obtain ⟨h2, eq2⟩ : ∃ h2, h2 = s.heap.update S (Obj.mapSeq (fun _ => (#[] : Array Value))) := ⟨_, rfl⟩
  rw [← eq2] at L2 ⊢
  have other : ∀ b o, b ≠ S → s.heap.get? b = some o → h2.get? b = some o := fun b o n q => by
    rw [eq2]
    exact (Heap.get?_update_other _ _ (Ne.symm n)).trans q
  have len : h2.objs.size = s.heap.objs.size := by rw [eq2, Heap.size_update]
  have Z0 : Zl s.heap.objs.size S z TI TO i1 i2 l1 l2 xs ys 0 s.heap := ⟨Z, rfl, fun j x y hj => absurd hj (Nat.not_lt_zero j)⟩
  refine zl_extend (s := { s with heap := h2 }) hh D ap few .none (Z0.other ap (low S (by simp)) len other).pos (other _ _ (Ne.symm (ap z (by simp))) zip) (fun c m => by show c < h2.objs.size; rw [len]; exact low c m) L2 fun h' tk acc' c' a b d e => ?_
  have b' : Refs s.heap.objs.size (min xs.size ys.size) acc' := by rw [← len]; exact b
  refine k h' tk acc' c' a b' (fun j x y hj hx hy => by rw [← len]; exact d j x y hj hx hy) fun c o m q => e c o m (other c o (fun z => m (by rw [z]; exact List.mem_cons_self)) q)
/-- list(z): the pairs in new tuples behind the list -/
theorem call_listZip {E : Value → Shared → Prop} {s : Shared} {Q : Value → Shared → Prop} (hh : A.handled = none) (D : ZipApart z TI TO i1 i2 l1 l2) (few : min xs.size ys.size ≤ sizeLine) (Z : ZipNew z TI TO i1 i2 l1 l2 xs ys s.heap)
    (k : ∀ h' tk acc' c', h'.get? s.heap.objs.size = some (lobj acc' c') → Refs (s.heap.objs.size + 1) (min xs.size ys.size) acc' → (∀ (j : Nat) (x y : Value), j < min xs.size ys.size → xs[j]? = some x → ys[j]? = some y → IsPair h' (s.heap.objs.size + 1 + j) x y) →
      (∀ b o, b ∉ [z, TO, i1, i2] → s.heap.get? b = some o → h'.get? b = some o) → Q (.ref s.heap.objs.size) { s with heap := h', toks := tk }) : wpAny (model prog w) A (call (.type "list") [.ref z]) Q E s := by
  have there : ∀ c ∈ [z, TI, TO, i1, i2, l1, l2], c < s.heap.objs.size := fun c m => by
    obtain ⟨o, q⟩ := (zipArg (prog := prog) (w := w) z TI TO i1 i2 l1 l2 D xs ys).there _ Z c m
    exact Heap.lt_size q
  refine callType_codes (Q₁ := fun obj s₁ => obj = .ref s.heap.objs.size ∧ s₁ = { s with heap := s.heap.push (lobj #[] 0) }) F.called_list (F.typeCall_list_1 _) F.entry_list_init (code_list_new _ ⟨rfl, rfl⟩) fun obj s₁ e => ?_
  obtain ⟨rfl, rfl⟩ := e
  have new : (s.heap.push (lobj #[] 0)).get? s.heap.objs.size = some (lobj #[] 0) := Heap.get?_push_size _ rfl
  have up : ∀ b o, s.heap.get? b = some o → (s.heap.push (lobj #[] 0)).get? b = some o := fun b o q => Heap.get?_push_of_some _ q
  have ap : ∀ c ∈ [z, TI, TO, i1, i2, l1, l2], s.heap.objs.size ≠ c := fun c m => Nat.ne_of_gt (there c m)
  have Z2 := (zipArg (prog := prog) (w := w) z TI TO i1 i2 l1 l2 D xs ys).keep _ _ Z up
  have len : (s.heap.push (lobj #[] 0)).objs.size = s.heap.objs.size + 1 := Heap.size_push ..
  refine ⟨⟨_, new, rfl⟩, F.args_list_init_2 _ _, zl_init (A := A.in1) (s := { s with heap := s.heap.push (lobj #[] 0) }) hh D ap few ⟨Z2.its, Z2.p1, Z2.p2, Z2.t1, Z2.t2, .inl ⟨Z2.zip, Z2.out⟩⟩ Z2.zip (fun c m => ?_) new fun h' tk acc' c' a b d e => ?_⟩
  · show c < (s.heap.push (lobj #[] 0)).objs.size
    rw [len]
    rcases List.mem_cons.mp m with rfl | m
    · exact Nat.lt_succ_self _
    · refine Nat.lt_succ_of_lt (there c ?_)
      simp only [List.mem_cons, List.not_mem_nil, or_false] at m ⊢
      rcases m with e | e | e | e <;> simp [e]
  · refine ⟨rfl, k h' tk acc' c' a (by rw [← len]; exact b) (fun j x y hj hx hy => by rw [← len]; exact d j x y hj hx hy) fun c o m q => e c o (fun n => ?_) (up c o q)⟩
    rcases List.mem_cons.mp n with rfl | n
    · exact Nat.lt_irrefl _ (Heap.lt_size q)
    · exact m n
end
end K1

/-! ## Z6 -/
set_option Elab.async false
set_option linter.all false
set_option maxRecDepth 100000
set_option maxHeartbeats 4000000
namespace K1
open PySem PySem.Spec PyProof.Rows L2
section
variable {X : Cx}
theorem pairs_list {P : Program} {w : World} {zs : List Str} {its us : List Value} (r : Vals (zs.map V.str) its) : PairsHave (mixKind P w) (its.zip us).length (PairRel (its.zip us)) ((zs.map Sum.inr).zip us) := by
  obtain ⟨h1, h2⟩ := pairs_zip (P := P) (w := w) (us := us) r
  refine ⟨by rw [h1, List.length_zip, List.size_toArray, List.size_toArray], fun i key v h => h2 i key v ?_⟩
  show its.toArray[i]? = some key ∧ us.toArray[i]? = some v
  rw [List.getElem?_toArray, List.getElem?_toArray]
  exact List.getElem?_zip_eq_some.mp h
theorem pe_dictListZip {e1 e2 : Expr} {ta : TA} {p p2 p3 pos pos2 pos3 : Pos} (hc : X.calm = true) (hg : Gl X "dict") (hm : X.mg "dict" = none) (hg3 : Gl X "list") (hm3 : X.mg "list" = none) (hg2 : Gl X "zip") (hm2 : X.mg "zip" = none) (ha : PA X [e1, e2] ta)
    (hst : starEach [e1, e2] X.env = (false, eval e1 X.env) :: starEach [e2] X.env := by rfl) (hpl : (backTo pos2 (starEach [e2] X.env)).any (·.1) = false := by rfl) :
    PE X (.Call (.Name "dict" p) [.Call (.Name "list" p3) [.Call (.Name "zip" p2) [e1, e2] [] pos2] [] pos3] [] pos) (tDZip X.K ta) := by
  refine ⟨fun pins s σ H Q I h => ?_⟩
  refine Call_ (ld_blt I hg hm boot_dict (PyProof.Rows.callWith_type1 (PyProof.Rows.args_cons ?_ rfl) rfl rfl))
  refine Call_ (ld_blt I hg3 hm3 boot_list (PyProof.Rows.callWith_type1 (PyProof.Rows.args_cons ?_ rfl) rfl rfl))
  refine Call_ (ld_blt I hg2 hm2 PyProof.Rows.boot_zip (PyProof.Rows.callWith_type1 (thn (ha.run pos2 pins s σ H _ I h) fun us s1 ⟨vs, H1, J, r, q⟩ => ?_) hst hpl))
  obtain ⟨a, b, zs, ys, rfl, t1, t2, q⟩ := q
  obtain ⟨u1, u2, rfl, r1, r2⟩ := vals2 r
  cases r1
  cases r2
  obtain ⟨its, rv, q1, _⟩ := J.tuple t1
  obtain ⟨jts, rw_, q2, small⟩ := J.tuple t2
  have w1 : s1.heap.IsTuple a its.toArray := q1
  have w2 : s1.heap.IsTuple b jts.toArray := q2
  obtain ⟨o1, g1, _⟩ := id w1
  obtain ⟨o2, g2, _⟩ := id w2
  have few : min its.toArray.size jts.toArray.size ≤ sizeLine := by
    rw [List.size_toArray, List.size_toArray]
    exact Nat.le_trans (Nat.min_le_right _ _) (by rw [← rw_.length]; exact small)
  refine RZ.call_zipT w1 w2 fun h' hz hTI hTO h1 h2 len kept => PyProof.Rows.args_nil ?_
  have ap := PySem.W.ktu_apart s1.heap.objs.size a b (Heap.lt_size g1) (Heap.lt_size g2)
  refine call_listZip (s := { s1 with heap := h' }) (xs := its.toArray) (ys := jts.toArray) (J.ok.hd hc) ap few ⟨hz, hTI, ⟨_, _, hTO⟩, h1, h2, w1.at fun o e => kept _ o e, w2.at fun o e => kept _ o e⟩ fun h3 tk3 acc c L refs made kept3 => PyProof.Rows.args_nil ?_
  have ml : (its.zip jts).length = min its.toArray.size jts.toArray.size := by rw [List.length_zip, List.size_toArray, List.size_toArray]
  refine PySem.call_dict_pairs (s := { s1 with heap := h3, toks := tk3 }) (knd := mixKind X.prog X.w) (kvs := (zs.map Sum.inr).zip jts) (PairArg.list h'.objs.size acc (fun j => h'.objs.size + 1 + j) (its.zip jts)) (J.ok.hd hc) ⟨⟨_, c, L, rfl, rfl, rfl⟩, refs.1.trans ml.symm, fun j k v e => ?_⟩ (pairs_list rv) (by rw [ml]; exact few) fun h'' tk dd kept2 => ?_
  · have lt : j < min its.toArray.size jts.toArray.size := by rw [← ml]; exact (List.getElem?_eq_some_iff.mp e).1
    obtain ⟨e1, e2⟩ := List.getElem?_zip_eq_some.mp e
    exact ⟨refs.2 j lt, .inl ⟨_, made j k v lt (by rw [List.getElem?_toArray]; exact e1) (by rw [List.getElem?_toArray]; exact e2), rfl, _, rfl⟩⟩
  have all3 : ∀ c o, s1.heap.get? c = some o → h3.get? c = some o := fun c o e => by
    refine kept3 c o (fun m => ?_) (kept c o e)
    have lt := Heap.lt_size e
    simp only [List.mem_cons, List.not_mem_nil, or_false] at m
    have no : ∀ n : Nat, ¬ (s1.heap.objs.size + n < s1.heap.objs.size) := fun n z => Nat.lt_irrefl _ (Nat.lt_of_le_of_lt (Nat.le_add_right _ n) z)
    rcases m with z | z | z | z <;> rw [z] at lt
    · exact no 4 lt
    · exact no 3 lt
    · exact no 0 lt
    · exact no 1 lt
  have all : ∀ c o, s1.heap.get? c = some o → h''.get? c = some o := fun c o e => kept2 c o (fun m => nomatch m) (all3 c o e)
  have le : s1.heap.objs.size ≤ h3.objs.size := by
    have : h'.objs.size < h3.objs.size := Heap.lt_size L
    rw [len] at this
    omega
  have big := J.big
  have nsys : (h3.objs.size == sysModules) = false := beq_eq_false_iff_ne.mpr (Nat.ne_of_gt (Nat.lt_of_lt_of_le big le))
  have short : (mergeK [] ((zs.map Sum.inr).zip ys)).length ≤ sizeLine := by
    refine Nat.le_trans (length_mergeK _ _) ?_
    rw [List.length_nil, Nat.zero_add, List.length_zip]
    exact Nat.le_trans (Nat.min_le_right _ _) small
  exact ⟨.ref h3.objs.size, upd H1 h3.objs.size (.dK (mergeK [] ((zs.map Sum.inr).zip ys))), J.laid (t' := tk) all le (show ObjOk X.prog X.w _ _ _ (.dK (mergeK [] ((zs.map Sum.inr).zip ys))) from ⟨short, nsys, _, KV.merge (kv_zip rw_) .nil, dd⟩), rfl, q _ (J.hok.fresh le)⟩
end
end K1

/-! ## Z7 -/
set_option Elab.async false
set_option linter.all false
set_option maxRecDepth 100000
set_option maxHeartbeats 4000000
namespace K1
open PySem
open PySem.Sem (wp)
section
variable {prog : Program} {w : World} {κ : Type} [DecidableEq κ] {knd : KeyKind prog w κ} {A : Around} {E : Value → Shared → Prop} {s : Shared}
theorem sub_dict_self : isSubtype (.type "dict") (.type "dict") = pure true := by rw [isSubtype_type]; kernel_rfl
/-- d[key] = v where the hash is known -/
theorem put_pairs {d : Addr} {kvs : List (κ × Value)} {k : κ} {key v : Value} {Q : Unit → Shared → Prop} (hk : knd.is k key = true) (D : s.heap.DictOf knd d kvs) (few : kvs.length ≤ sizeLine)
    (q : ∀ h', h'.DictOf knd d (stored kvs k v) → Heap.SameBut d s.heap h' → Q () { s with heap := h' }) : wpAny (model prog w) A (dictPut d (knd.hash k) key v) Q E s := by
  obtain ⟨o, es, ep, ho, hc, hd, ks, hp, hn⟩ := D
  have hes : es.size ≤ sizeLine := by
    have e1 := hp.length
    have e2 : es.toList.length = es.size := by simp
    omega
  unfold dictPut
  refine wpAny_bind (wpAny_dictFind_of hk ho hd ks ?_)
  have same : (es.findIdx? fun e => knd.is k e.key) = kvs.findIdx? fun kv => decide (kv.1 = k) := by
    rw [← hp.findIdx k]; obtain ⟨l⟩ := es; simp
  cases hi : es.findIdx? fun e => knd.is k e.key with
  | some i =>
    refine wpAny_updateDict ho hd (q _ ⟨_, _, ep, Heap.get?_update_self _ ho (Obj.isFreed_of_dict (Obj.data_mapDict hd _)), hc.mapDict _, Obj.data_mapDict hd _, ks.modify _ _, ?_, ?_⟩ (Heap.SameBut.update ..))
    · have hl : (es.toList.findIdx? fun e => knd.is k e.key) = some i := by rw [← hi]; obtain ⟨l⟩ := es; simp
      have m := hp.modify hn hl v
      rw [stored, if_pos (any_of_findIdx_some (same ▸ hi))]
      obtain ⟨l⟩ := es
      simpa using m
    · rw [stored, if_pos (any_of_findIdx_some (same ▸ hi)), keys_map_store]; exact hn
  | none =>
    have out : k ∉ kvs.map (·.1) := not_mem_of_findIdx_none (same ▸ hi)
    have none_ : ¬ (kvs.any fun kv => decide (kv.1 = k)) = true := fun z => by
      obtain ⟨kv, m, e⟩ := List.any_eq_true.mp z
      exact out (List.mem_map.mpr ⟨kv, m, of_decide_eq_true e⟩)
    refine wpAny_updateDictKeys (hz := hes) ho hd (q _ ⟨_, _, ep + 1, Heap.get?_update_self _ ho (Obj.isFreed_of_dict (Obj.data_mapDictKeys hd _)), hc.mapDictKeys _, Obj.data_mapDictKeys hd _, ks.push hk _, ?_, ?_⟩ (Heap.SameBut.update ..))
    · rw [stored, if_neg none_]
      have m := hp.append hk (knd.hash k) v
      obtain ⟨l⟩ := es
      simpa using m
    · rw [stored, if_neg none_, List.map_append, List.nodup_append]
      refine ⟨hn, by simp, fun a ha b hb e => ?_⟩
      rw [List.map_cons, List.map_nil, List.mem_singleton] at hb
      have : b = k := hb
      exact out (by rw [← this, ← e]; exact ha)
theorem empty_entries {d : Addr} {kvs : List (κ × Value)} {h : Heap} (D : h.DictOf knd d kvs) : ∃ o es ep, h.get? d = some o ∧ o.data = .dict es ep ∧ es.size = kvs.length ∧ ∀ e ∈ es, carriedByValue e.key = true := by
  obtain ⟨o, es, ep, ho, hc, hd, ks, hp, hn⟩ := D
  refine ⟨o, es, ep, ho, hd, by rw [← hp.length]; simp, fun e he => ?_⟩
  obtain ⟨k, hk, _⟩ := ks e he
  exact knd.byValue k _ hk
/-- {**d, **o}: all of o into d -/
theorem merge_pairs {d o : Addr} {kvs more : List (κ × Value)} {Q : Unit → Shared → Prop} (ne : d ≠ o) (nsys : (o == sysModules) = false) (D : s.heap.DictOf knd d kvs) (O : s.heap.DictOf knd o more) (few : kvs.length + more.length ≤ sizeLine)
    (q : ∀ h', h'.DictOf knd d (merged kvs more) → Heap.SameBut d s.heap h' → Q () { s with heap := h' }) : wpAny (model prog w) A (mergeMapping d (.ref o) false) Q E s := by
  obtain ⟨oo, eo, epo, ho, hco, hdo, kso, hpo, hno⟩ := id O
  obtain ⟨od, ed, epd, hd', hdd, _, _⟩ := empty_entries D
  have tyO : s.TypeIs (.ref o) "dict" := O.typeIs
  have len : more.length = eo.size := by rw [← hpo.length]; simp
  have byV : ∀ e ∈ eo.toList, carriedByValue e.key = true := fun e he => by
    obtain ⟨k, hk, _⟩ := kso e (by simpa using he)
    exact knd.byValue k _ hk
  have tail : wpAny (model prog w) A (do
      let l ← dictEntries o
      let epoch ← dictEpoch o
      forIn (List.range l.size) PUnit.unit fun i (_ : PUnit) => (do
          let l' ← dictEntries o
          match l'[i]? with
            | some e => do
              holding [e.key, e.val] (dictPut d e.hash e.key e.val)
              let ep' ← dictEpoch o
              if (ep' != epoch) = true then do
                  (unsupported "dict.changed-during-merge" : Sem PUnit)
                  pure (ForInStep.yield PUnit.unit)
                else pure (ForInStep.yield PUnit.unit)
            | _ => do
              (unsupported "dict.changed-during-merge" : Sem PUnit)
              pure (ForInStep.yield PUnit.unit) : Sem (ForInStep PUnit))
      pure ()) Q E s := by
    refine wpAny_bind (wpAny_dictEntries ho hdo (wpAny_bind (wpAny_dictEpoch ho hdo (wpAny_bind ?_))))
    rw [List.range_eq_range']
    refine wpAny_forIn_list _ (fun rest _ s' => ∃ h' i, s' = { s with heap := h' } ∧ rest = List.range' i (eo.size - i) ∧ i ≤ eo.size ∧ h'.DictOf knd d (merged kvs (more.take i)) ∧ h'.get? o = some oo ∧ Heap.SameBut d s.heap h') _ ?_ ?_ _ _
      ⟨s.heap, 0, rfl, by simp, Nat.zero_le _, by simpa [merged] using D, ho, Heap.SameBut.refl _ _⟩
    · rintro x rest b s' ⟨h', i, rfl, er, hi, D', ho', same⟩
      have lt : i < eo.size := by
        refine Nat.lt_of_not_le fun z => ?_
        rw [Nat.sub_eq_zero_of_le z] at er
        simp at er
      have step : eo.size - i = (eo.size - (i + 1)) + 1 := by omega
      rw [step, List.range'_succ] at er
      obtain ⟨rfl, rfl⟩ := List.cons.inj er
      refine wpAny_bind (wpAny_dictEntries ho' hdo ?_)
      rw [Array.getElem?_eq_getElem lt]
      have ltm : x < more.length := by rw [len]; exact lt
      have gm : more[x]? = some (more[x].1, more[x].2) := List.getElem?_eq_getElem ltm
      obtain ⟨hk, hv⟩ := hpo.get? (e := eo[x]) (by simp [lt]) gm
      obtain ⟨k', hk', hh⟩ := kso eo[x] (Array.getElem_mem lt)
      have ek : k' = more[x].1 := knd.inj _ _ _ hk' hk
      have fewx : (merged kvs (more.take x)).length ≤ sizeLine := by
        have e1 := merged_length_le kvs (more.take x)
        rw [List.length_take] at e1
        omega
      show wpAny _ _ (holding [eo[x].key, eo[x].val] (dictPut d eo[x].hash eo[x].key eo[x].val) >>= _) _ _ _
      rw [hh, hv, ek]
      refine wpAny_bind (wpAny_holding (put_pairs hk D' fewx fun h2 D2 same2 => ?_))
      have ho2 : h2.get? o = some oo := (same2.2 o (Ne.symm ne)).trans ho'
      refine wpAny_bind (wpAny_dictEpoch ho2 hdo ?_)
      rw [if_neg (by simp)]
      exact wpAny_pure ⟨h2, x + 1, rfl, rfl, lt, by rw [merged_take_succ kvs more x _ gm]; exact D2, ho2, same.trans same2⟩
    · rintro b s' ⟨h', i, rfl, er, hi, D', ho', same⟩
      have ei : i = eo.size := by
        refine Nat.le_antisymm hi (Nat.le_of_not_lt fun z => ?_)
        have step : eo.size - i = (eo.size - (i + 1)) + 1 := by omega
        rw [step, List.range'_succ] at er
        cases er
      rw [ei, ← len, List.take_length] at D'
      exact wpAny_pure (q h' D' same)
  unfold mergeMapping
  refine wpAny_bind (wpAny_bind (wpAny_typeOf tyO (wpAny_of_eq sub_dict_self ?_)))
  simp only [if_true]
  refine wpAny_bind (wpAny_specialOf tyO F.slot_dict_iter.lookup (wpAny_bind (wpAny_pure ?_)))
  simp only [show (some (Value.builtin "dict.__iter__") == some (Value.builtin "dict.__iter__")) = true from by decide, nsys, Bool.false_eq_true, if_false]
  refine wpAny_bind (wpAny_dictEntries hd' hdd ?_)
  split
  · refine wpAny_bind (wpAny_dictEntries ho hdo (wpAny_bind ?_))
    rw [← Array.forIn_toList]
    refine wpAny_forIn_list _ (fun rest _ s' => s' = s ∧ ∀ e ∈ rest, carriedByValue e.key = true) _ ?_ ?_ _ _ ⟨rfl, byV⟩
    · rintro ⟨hash, key, val⟩ rest b s' ⟨rfl, all⟩
      have mine := all _ List.mem_cons_self
      have others := fun e he => all e (List.mem_cons_of_mem _ he)
      cases key <;> first | (exact wpAny_pure ⟨rfl, others⟩) | (exact absurd mine (by decide)) | (cases mine)
    · rintro b s' ⟨rfl, _⟩
      exact tail
  · exact tail
end
end K1

/-! ## Z8 -/
set_option Elab.async false
set_option linter.all false
set_option maxRecDepth 100000
set_option maxHeartbeats 4000000
namespace K1
open PySem
open PySem.Sem (wp)
section
variable {prog : Program} {w : World} {A : Around} {E : Value → Shared → Prop} {s : Shared}
theorem display_star {m1 m2 : Sem Value} {Q : Value → Shared → Prop}
    (h : wpAny (model prog w) A m1 (fun v1 s1 => wpAny (model prog w) A (mergeMapping s.heap.objs.size v1 false) (fun _ s2 => wpAny (model prog w) A m2 (fun v2 s3 => wpAny (model prog w) A (mergeMapping s.heap.objs.size v2 false) (fun _ s4 => Q (.ref s.heap.objs.size) s4) (fun _ _ => False) s3) E s2) (fun _ _ => False) s1) E { s with heap := s.heap.push { cls := .type "dict", data := .dict #[] } }) :
    wpAny (model prog w) A (dictDisplay [(none, m1), (none, m2)]) Q E s := by
  unfold dictDisplay
  simp only [List.forIn_cons, List.forIn_nil, List.isEmpty_nil, if_true, pure_bind, bind_assoc]
  refine wpAny_bind (wpAny_alloc (wpAny_bind (wpAny_holding (wpAny_mono h (fun v1 s1 h1 => ?_) fun _ _ e => e))))
  refine wpAny_bind (wpAny_onRaise (wpAny_tryCatch (wpAny_onRaise (wpAny_holding (wpAny_mono h1 (fun _ s2 h2 => ?_) fun _ _ e => e.elim)))))
  refine wpAny_bind (wpAny_holding (wpAny_mono h2 (fun v2 s3 h3 => ?_) fun _ _ e => e))
  exact wpAny_bind (wpAny_onRaise (wpAny_tryCatch (wpAny_onRaise (wpAny_holding (wpAny_mono h3 (fun _ s4 h4 => wpAny_pure h4) fun _ _ e => e.elim)))))
end
end K1
namespace K1
open PySem PySem.Spec PyProof.Rows L2
def tDStar (ta tb : TE) : TE := fun σ H Q => ∀ p, H p = none → ta σ (upd H p (.dK [])) fun x H1 => ∃ (a : Addr) (kvs : List (Key × V)), x = .ref a ∧ H1 a = some (.dK kvs) ∧ a ≠ p ∧ H1 p = some (.dK []) ∧
  tb σ (upd H1 p (.dK (mergeK [] kvs))) fun y H2 => ∃ (b : Addr) (kvs2 : List (Key × V)), y = .ref b ∧ H2 b = some (.dK kvs2) ∧ b ≠ p ∧ H2 p = some (.dK (mergeK [] kvs)) ∧ (mergeK [] kvs).length + kvs2.length ≤ sizeLine ∧ Q (.ref p) (upd H2 p (.dK (mergeK (mergeK [] kvs) kvs2)))
section
variable {X : Cx}
/-- one dict merged into the new one -/
theorem merge_run {pins : List (Addr × Obj)} {σ : L2.St} {H : Hp} {s : Shared} {p a : Addr} {acc kvs : List (Key × V)} {R : Unit → Shared → Prop} {E : Value → Shared → Prop} (I : Inv X pins σ H s) (hp : H p = some (.dK acc)) (ha : H a = some (.dK kvs)) (ne : a ≠ p) (few : acc.length + kvs.length ≤ sizeLine)
    (k : ∀ s', Inv X pins σ (upd H p (.dK (mergeK acc kvs))) s' → R () s') : wpAny (model X.prog X.w) X.A (mergeMapping p (.ref a) false) R E s := by
  obtain ⟨_, hs, us, ru, du⟩ := dk_of I.hok hp
  obtain ⟨_, hsa, vs, rv, dv⟩ := dk_of I.hok ha
  refine merge_pairs (knd := mixKind X.prog X.w) (Ne.symm ne) hsa du dv (by rw [← ru.length, ← rv.length]; exact few) fun h' dd same => k _ ?_
  have z : (mergeK acc kvs).length ≤ sizeLine := Nat.le_trans (length_mergeK _ _) few
  exact I.write (t' := s.toks) (by rw [hp]; exact True.intro) (.inl rfl) (fun b u n e => same.extBut b u n e) (by obtain ⟨o, _, _, q, _⟩ := dd; exact ⟨o, q⟩) (show ObjOk X.prog X.w _ _ _ (.dK (mergeK acc kvs)) from ⟨z, hs, _, KV.merge rv ru, dd⟩)
theorem pe_dictStar {e1 e2 : Expr} {ta tb : TE} {pos : Pos} (hc : X.calm = true) (ha : PE X e1 ta) (hb : PE X e2 tb) : PE X (.Dict [none, none] [e1, e2] pos) (tDStar ta tb) := by
  refine ⟨fun pins s σ H Q I h => ?_⟩
  rw [arm_eval_Dict]
  refine wpAny_bind (wpAny_standAt ?_)
  show wpAny _ _ (dictDisplay [(none, eval e1 X.env >>= fun x => standAt pos >>= fun _ => pure x), (none, eval e2 X.env >>= fun x => standAt pos >>= fun _ => pure x)]) _ _ s
  have fresh : H s.heap.objs.size = none := I.hok.fresh (Nat.le_refl _)
  have big := I.big
  have nsys : (s.heap.objs.size == sysModules) = false := beq_eq_false_iff_ne.mpr (Nat.ne_of_gt big)
  have J : Inv X pins σ (upd H s.heap.objs.size (.dK [])) { s with heap := s.heap.push { cls := .type "dict", data := .dict #[] } } :=
    I.laid (t' := s.toks) (fun b u e => Heap.get?_push_of_some _ e) (Nat.le_refl _) (show ObjOk X.prog X.w _ _ _ (.dK []) from ⟨Nat.zero_le _, nsys, [], .nil, Heap.DictOf.new s.heap⟩)
  refine display_star (wpAny_bind (thn (ha.run pins _ σ _ _ J (h _ fresh)) fun v s1 ⟨x, H1, J1, r1, q1⟩ => wpAny_bind (wpAny_standAt (wpAny_pure ?_))))
  obtain ⟨a, kvs, rfl, h1, n1, hp1, q1⟩ := q1
  cases r1
  refine merge_run J1 hp1 h1 n1 (by rw [List.length_nil, Nat.zero_add]; exact (dk_of J1.hok h1).1) fun s2 J2 => ?_
  refine wpAny_bind (thn (hb.run pins _ σ _ _ J2 q1) fun v s3 ⟨y, H2, J3, r2, q2⟩ => wpAny_bind (wpAny_standAt (wpAny_pure ?_)))
  obtain ⟨b, kvs2, rfl, h2, n2, hp2, few, q2⟩ := q2
  cases r2
  exact merge_run J3 hp2 h2 n2 few fun s4 J4 => ⟨.ref _, _, J4, rfl, q2⟩
end
end K1

/-! ## K7 -/
set_option Elab.async false
set_option linter.all false
set_option maxRecDepth 100000
set_option maxHeartbeats 4000000
namespace K1
open PySem PySem.Spec PyProof.Rows L2
section
variable {X : Cx}
theorem pe_useX {k : Nat} {x : Str} {ps : List Str} {sp : Sp} {e : Expr} {es : List Expr} {t : TA} {E : XK} {W : WX} {p pos : Pos} (C : Callee X.prog X.w X.K X.mg X.base (L2.CX X.prog X.w) k x ps sp) (hr : Room k X.A) (hg : Gl X x) (tk : Takes X W) (hW : ∀ cls d σ H, E cls d H → W cls d σ H) (ha : PA X (e :: es) t)
    (hd : (x == ("__debug__" : Str)) = false := by decide) (he : starEach (e :: es) X.env = (false, eval e X.env) :: starEach es X.env := by rfl)
    (hpl : (backTo pos (starEach es X.env)).any (·.1) = false := by rfl) :
    PE X (.Call (.Name x p) (e :: es) [] pos) (tCall sp [] E t) := pe_use C hr hg (passes_call tk hW) ha hd he hpl
end
/-- what the written part says of an own error class over ValueError, one class between -/
structure Err1 (K : PySem.W.Frag) (mg : Str → Option Value) (x : Str) (C : Addr) : Prop where
  g : mg x = some (.ref C)
  x : PySem.W.excIn K C [.type "ValueError", .type "Exception", .type "BaseException", .type "object"] "ValueError.__new__" = true
  k : PySem.W.keepIn K (.ref C) = true
  b : PySem.W.subIn K (.ref C) (.type "BaseException") = some true
  t : PySem.W.typeIn K (.ref C) = some (.type "type")
  e : PySem.W.exmOne K (.ref C) (.ref C) = some true
def ColsArg (K : PySem.W.Frag) (H : Hp) (x : V) : Option (List Str) → Prop
  | none => IsTy K H x "tuple" false ∨ ∃ a xs os, x = .ref a ∧ H a = some (.tup xs) ∧ xs.length ≤ 1000 ∧ Paired (PartOk K H) xs os ∧ colsB os = false
  | some zs => ∃ a, x = .ref a ∧ H a = some (.tup (zs.map V.str)) ∧ zs.length ≤ 1000 ∧ (∀ z ∈ zs, z.length ≤ sizeLine) ∧ colsB (zs.map some) = true
def IntsArg (K : PySem.W.Frag) (H : Hp) (n : Nat) (y : V) : Option (List Int) → Prop
  | none => IsTy K H y "tuple" false ∨ ∃ a xs os, y = .ref a ∧ H a = some (.tup xs) ∧ xs.length ≤ 1000 ∧ Paired (WholeOk K H) xs os ∧ (decide (xs.length = n) && os.all id) = false
  | some is => ∃ a, y = .ref a ∧ H a = some (.tup (is.map V.int)) ∧ is.length = n
def kvOf (zs : List Str) (is : List Int) : List (Key × V) := (zs.map Sum.inr).zip (is.map V.int)
def spBy (K : PySem.W.Frag) (C : Addr) : Sp := fun vs H Q E => ∃ (x y : V) (oz : Option (List Str)), vs = [x, y] ∧ ColsArg K H x oz ∧ match oz with
  | none => ∀ H', Same H H' → E (.ref C) none H'
  | some zs => ∃ oi : Option (List Int), IntsArg K H zs.length y oi ∧ match oi with
    | none => ∀ H', Same H H' → E (.ref C) none H'
    | some is => ∀ p H', H p = none → Same H H' → H' p = some (.dK (kvOf zs is)) → Q (.ref p) H'
abbrev s_by : Stmt := topS 11
abbrev N_by : List Str := ["columns", "integers"]
theorem sc_by : FnScope N_by ["columns", "integers"] (defScope s_by) := ⟨rfl, rfl, rfl, by decide +kernel, rfl, by decide +kernel, by decide +kernel⟩
theorem merge_nodup_aux {kvs acc : List (Key × V)} (h : ((acc ++ kvs).map (·.1)).Nodup) : mergeK acc kvs = acc ++ kvs := by
  induction kvs generalizing acc with
  | nil => simp [mergeK]
  | cons p r ih =>
    show mergeK (putK acc p.1 p.2) r = acc ++ p :: r
    have hn : valV acc p.1 = none := by
      cases q : valV acc p.1 with
      | none => rfl
      | some v =>
        have m := valV_in q
        rw [List.map_append, List.nodup_append] at h
        exact absurd rfl (h.2.2 _ m _ (by simp))
    rw [putK_new p.2 hn, ih (by simpa using h)]
    simp
theorem merge_nodup {kvs : List (Key × V)} (h : (kvs.map (·.1)).Nodup) : mergeK [] kvs = kvs := by
  have := merge_nodup_aux (acc := []) (kvs := kvs) (by simpa using h)
  simpa using this
theorem asc_tail {z : Str} {zs : List Str} (h : ascB (z :: zs) = true) : ascB zs = true := by
  cases zs with
  | nil => rfl
  | cons y r =>
    unfold ascB at h ⊢
    simp only [List.drop_succ_cons, List.drop_zero, List.zip_cons_cons, List.all_cons, Bool.and_eq_true] at h
    exact h.2
theorem asc_pair : ∀ {zs : List Str}, ascB zs = true → zs.Pairwise fun a b => a.cps.toList < b.cps.toList
  | [], _ => List.Pairwise.nil
  | [z], _ => List.pairwise_singleton _ _
  | z :: y :: r, h => by
    have ih := asc_pair (asc_tail h)
    have h1 : z.cps.toList < y.cps.toList := by
      unfold ascB at h
      simp only [List.drop_succ_cons, List.drop_zero, List.zip_cons_cons, List.all_cons, Bool.and_eq_true] at h
      exact of_decide_eq_true h.1
    refine List.pairwise_cons.mpr ⟨fun b hb => ?_, ih⟩
    rcases List.mem_cons.mp hb with rfl | hb
    · exact h1
    · exact List.lt_trans h1 ((List.pairwise_cons.mp ih).1 b hb)
theorem asc_nodup {zs : List Str} (h : ascB zs = true) : zs.Nodup := by
  refine List.Pairwise.imp (fun {a b} hab e => ?_) (asc_pair h)
  subst e
  exact List.lt_irrefl _ hab
theorem cols_asc {zs : List Str} (h : colsB (zs.map some) = true) : ascB zs = true := by
  unfold colsB at h
  rw [Bool.and_eq_true, List.filterMap_map] at h
  have e : zs.filterMap (id ∘ some) = zs := List.filterMap_some
  rw [e] at h
  exact h.2
theorem kv_keys {zs : List Str} {is : List Int} (h : is.length = zs.length) : (kvOf zs is).map (·.1) = zs.map Sum.inr := by
  unfold kvOf
  exact List.map_fst_zip (by simp [h])
theorem kv_merge {zs : List Str} {is : List Int} (hz : ascB zs = true) (h : is.length = zs.length) : mergeK [] (kvOf zs is) = kvOf zs is := by
  refine merge_nodup ?_
  rw [kv_keys h]
  exact List.pairwise_map.mpr ((asc_nodup hz).imp fun h q => h (Sum.inr.inj q))
theorem parts_some {K : PySem.W.Frag} {H : Hp} : ∀ {zs : List Str}, (∀ z ∈ zs, z.length ≤ sizeLine) → Paired (PartOk K H) (zs.map V.str) (zs.map some)
  | [], _ => .nil
  | z :: r, h => .cons (.inl ⟨z, rfl, h z List.mem_cons_self, rfl⟩) (parts_some fun y hy => h y (List.mem_cons_of_mem _ hy))
theorem wholes_ints {K : PySem.W.Frag} {H : Hp} : ∀ is : List Int, Paired (WholeOk K H) (is.map V.int) (is.map fun _ => true)
  | [] => .nil
  | i :: r => .cons (.inl ⟨i, rfl, rfl⟩) (wholes_ints r)
section
variable {P : Program} {w : World} {K : PySem.W.Frag} {mg : Str → Option Value} {base : Heap}
theorem ok_by {f CE : Addr} {fd : FuncData} (F : Fun K "_by_column" "_by_column" s_by f fd) (T : Names2 mg) (TE : Err1 K mg "InvalidOperation" CE) (hdict : mg "dict" = none)
    (C1 : Callee P w K mg base CX0 2 "is_columns" ["value"] (spCols K)) (C2 : Callee P w K mg base CX0 2 "fits" ["columns", "value"] (spFits K)) : FnOk P w K mg base (L2.CX P w) 3 f fd ["columns", "integers"] (spBy K CE) := by
  have nd := sc_by.nd
  refine F.okX sc_by (fun vs H Q E h => ?_) (fun cdv A outer s H vs Q E hr h => ?_)
  · obtain ⟨x, y, oz, rfl, _⟩ := h
    rfl
  · obtain ⟨x, y, oz, rfl, hx, k⟩ := h
    refine ⟨_, (pss_cons
    (ps_if (pt_not (pt_val (pe_use C1 hr rfl pass0 (pa_cons (pv 0) pa_nil)))) (pss_one
      (ps_raise rfl (takes_of rfl rfl rfl rfl) (pmk_own PySem.F.excBase_ValueError TE.x TE.g TE.k (raises_own TE.b TE.t) (by exact rfl)))) pss_nil)
    (pss_cons
    (ps_if (pt_not (pt_val (pe_use C2 hr rfl pass0 (pa_cons (pv 0) (pa_cons (pv 1) pa_nil))))) (pss_one
      (ps_raise rfl (takes_of rfl rfl rfl rfl) (pmk_own PySem.F.excBase_ValueError TE.x TE.g TE.k (raises_own TE.b TE.t) (by exact rfl)))) pss_nil)
    (pss_one
    (ps_ret (pe_dictZip rfl (by rfl) hdict (by rfl) T.zip (pa_cons (pv 0) (pa_cons (pv 1) pa_nil))))))), ?_⟩
    cases oz with
    | none =>
      have bad : ∃ (x' : V) (b : Bool), [x] = [x'] ∧ ((IsTy K H x' "tuple" false ∧ b = false) ∨ (∃ a xs os, x' = .ref a ∧ H a = some (.tup xs) ∧ xs.length ≤ 1000 ∧ Paired (PartOk K H) xs os ∧ b = colsB os)) ∧ b = false := by
        rcases hx with h | ⟨a, xs, os, h1, h2, h3, h4, h5⟩
        · exact ⟨x, false, rfl, .inl ⟨h, rfl⟩, rfl⟩
        · exact ⟨x, false, rfl, .inr ⟨a, xs, os, h1, h2, h3, h4, h5.symm⟩, rfl⟩
      obtain ⟨x', b, e1, h1, rfl⟩ := bad
      exact ⟨_, rfl, x', false, e1, h1, fun H' s' => ⟨_, rfl, k H' s'⟩⟩
    | some zs =>
      obtain ⟨a, rfl, ha, hl, hz, hc⟩ := hx
      obtain ⟨oi, hy, k⟩ := k
      refine ⟨_, rfl, .ref a, true, rfl, .inr ⟨a, _, _, rfl, ha, by rw [List.length_map]; exact hl, parts_some hz, hc.symm⟩, fun H1 s1 => ⟨_, rfl, ?_⟩⟩
      cases oi with
      | none =>
        refine ⟨_, rfl, _, rfl, a, _, y, false, rfl, s1 _ _ ha, ?_, fun H2 s2 => ⟨_, rfl, k H2 (s1.trans s2)⟩⟩
        rcases hy with h | ⟨a, xs, os, h1, h2, h3, h4, h5⟩
        · exact .inl ⟨h.same s1, rfl⟩
        · refine .inr ⟨a, xs, os, h1, s1 _ _ h2, h3, ?_, by rw [List.length_map]; exact h5.symm⟩
          exact Paired.mapP h4 fun p o q => q.same s1
      | some is =>
        obtain ⟨b, rfl, hb, hn⟩ := hy
        refine ⟨_, rfl, _, rfl, a, _, .ref b, true, rfl, s1 _ _ ha, .inr ⟨b, _, _, rfl, s1 _ _ hb, by rw [List.length_map]; omega, wholes_ints is, ?_⟩, fun H2 s2 => ⟨_, rfl, ?_⟩⟩
        · rw [List.length_map, List.length_map, decide_eq_true hn]
          simp
        · refine ⟨_, rfl, _, rfl, a, b, zs, _, rfl, SqT.of (s2 _ _ (s1 _ _ ha)), SqT.of (s2 _ _ (s1 _ _ hb)), fun p hp => ?_⟩
          have e : mergeK [] ((zs.map Sum.inr).zip (is.map V.int)) = kvOf zs is := kv_merge (cols_asc hc) hn
          rw [e]
          exact k p _ ((s1.trans s2).free hp) (Same.new (s1.trans s2) hp) upd_same
end
end K1

/-! ## K8 -/
set_option Elab.async false
set_option linter.all false
set_option maxRecDepth 100000
set_option maxHeartbeats 4000000
namespace K1
open PySem PySem.Spec PyProof.Rows L2
abbrev s_project : Stmt := topS 9
abbrev N_project : List Str := ["columns", "integers", "some", "told", "column"]
theorem sc_project : FnScope N_project ["columns", "integers", "some"] (defScope s_project) := ⟨rfl, rfl, rfl, by decide +kernel, rfl, by decide +kernel, by decide +kernel⟩
/-- the look-up of names in the columns zs with the integers is -/
def lookI (zs : List Str) (is : List Int) (z : Str) : Option Int := (zs.zip is).lookup z
def spProject (K : PySem.W.Frag) (C : Addr) : Sp := fun vs H Q E => ∃ (x y u : V) (oz : Option (List Str)), vs = [x, y, u] ∧ ColsArg K H x oz ∧ match oz with
  | none => ∀ H', Same H H' → E (.ref C) none H'
  | some zs => ∃ oi : Option (List Int), IntsArg K H zs.length y oi ∧ match oi with
    | none => ∀ H', Same H H' → E (.ref C) none H'
    | some is => ∃ ou : Option (List Str), ColsArg K H u ou ∧ match ou with
      | none => ∀ H', Same H H' → E (.ref C) none H'
      | some us => ((∃ z ∈ us, z ∉ zs) ∧ ∀ H', Same H H' → E (.ref C) none H') ∨
        (∃ js : List Int, us.map (lookI zs is) = js.map some ∧ ∀ p H', H p = none → Same H H' → H' p = some (.tup (js.map V.int)) → Q (.ref p) H')
theorem val_kv : ∀ (zs : List Str) (is : List Int) (z : Str), valV (kvOf zs is) (Sum.inr z) = (lookI zs is z).map V.int
  | [], _, _ => rfl
  | _ :: _, [], _ => rfl
  | y :: r, i :: q, z => by
    unfold kvOf lookI
    simp only [List.map_cons, List.zip_cons_cons, List.lookup_cons]
    by_cases e : y = z
    · subst e
      rw [valV_pos rfl]
      simp
    · have e' : ¬ (Sum.inr y : Key) = Sum.inr z := fun w => e (Sum.inr.inj w)
      have e2 : (z == y) = false := by simpa using fun w => e w.symm
      rw [e2]
      have ih := val_kv r q z
      unfold kvOf lookI at ih
      rw [← ih]
      unfold valV
      rw [List.find?_cons]
      simp [e']
theorem look_mem : ∀ (zs : List Str) (is : List Int) (z : Str), is.length = zs.length → ((lookI zs is z).isSome = true ↔ z ∈ zs)
  | [], _, z, _ => by simp [lookI]
  | y :: r, [], z, h => by simp at h
  | y :: r, i :: q, z, h => by
    unfold lookI
    simp only [List.zip_cons_cons, List.lookup_cons]
    by_cases e : z = y
    · subst e; simp
    · have e2 : (z == y) = false := by simpa using e
      rw [e2]
      have ih := look_mem r q z (by simpa using h)
      unfold lookI at ih
      simp [ih, e]
theorem looks_all {zs : List Str} {is : List Int} (h : is.length = zs.length) : ∀ us : List Str, (∀ z ∈ us, z ∈ zs) → ∃ js : List Int, us.map (lookI zs is) = js.map some
  | [], _ => ⟨[], rfl⟩
  | z :: r, hz => by
    obtain ⟨js, e⟩ := looks_all h r fun y hy => hz y (List.mem_cons_of_mem _ hy)
    have m := (look_mem zs is z h).mpr (hz z List.mem_cons_self)
    obtain ⟨j, ej⟩ := Option.isSome_iff_exists.mp m
    exact ⟨j :: js, by rw [List.map_cons, ej, e]; rfl⟩
section
variable {P : Program} {w : World} {K : PySem.W.Frag} {mg : Str → Option Value} {base : Heap}
theorem ok_project {f CE : Addr} {fd : FuncData} (F : Fun K "project" "project" s_project f fd) (T : Names2 mg) (TE : Err1 K mg "InvalidOperation" CE)
    (C1 : Callee P w K mg base CX0 2 "is_columns" ["value"] (spCols K)) (C2 : Callee P w K mg base (L2.CX P w) 3 "_by_column" ["columns", "integers"] (spBy K CE)) : FnOk P w K mg base (L2.CX P w) 4 f fd ["columns", "integers", "some"] (spProject K CE) := by
  have nd := sc_project.nd
  refine F.okX sc_project (fun vs H Q E h => ?_) (fun cdv A outer s H vs Q E hr h => ?_)
  · obtain ⟨x, y, u, oz, rfl, _⟩ := h
    rfl
  · obtain ⟨x, y, u, oz, rfl, hx, k⟩ := h
    have hr2 : Room 2 _ := hr.mono (by decide)
    have hu := hu_of hr
    refine ⟨_, (pss_cons
    (ps_set (i := 3) nd rfl (Or.inr rfl) (pe_useX C2 hr rfl (takes_of rfl rfl rfl rfl) (fun _ _ _ _ h => h) (pa_cons (pv 0) (pa_cons (pv 1) pa_nil))))
    (pss_cons
    (ps_if (PW.pt (pw_or (pt_not (pt_val (pe_use C1 hr2 rfl pass0 (pa_cons (pv 2) pa_nil)))) (pw_or1 (pt_not (pt_val (pe_callB (cr_all rfl) (by rfl) T.all (by decide +kernel) (pa_cons (pe_lc (own := [("column", 4)]) (g := (gName 4)) rfl nd (pi_tup (pv 2)) (blkOk_by (N := N_project) (sc := defScope s_project) (by decide +kernel)) (fun _ _ _ _ _ => (pg_name (i := 4) nd rfl (Or.inl rfl))) (fun _ _ _ _ _ => pts_nil) (fun _ _ _ _ _ => (pe_cmp (pc_din hu (pv 4) (pv 3)) rfl))) pa_nil))))))) (pss_one
      (ps_raise rfl (takes_of rfl rfl rfl rfl) (pmk_own PySem.F.excBase_ValueError TE.x TE.g TE.k (raises_own TE.b TE.t) (by exact rfl)))) pss_nil)
    (pss_one
    (ps_ret (pe_callTy call_tuple_of (by rfl) T.tuple (by decide +kernel) (pa_cons (pe_lc (own := [("column", 4)]) (g := (gName 4)) rfl nd (pi_tup (pv 2)) (blkOk_by (N := N_project) (sc := defScope s_project) (by decide +kernel)) (fun _ _ _ _ _ => (pg_name (i := 4) nd rfl (Or.inl rfl))) (fun _ _ _ _ _ => pts_nil) (fun _ _ _ _ _ => (pe_dget hu (pv 3) (pv 4) (fun _ _ => rfl)))) pa_nil)))))), ?_⟩
    cases oz with
    | none => exact ⟨_, rfl, _, rfl, x, y, none, rfl, hx, k⟩
    | some zs =>
      obtain ⟨oi, hy, k⟩ := k
      cases oi with
      | none => exact ⟨_, rfl, _, rfl, x, y, some zs, rfl, hx, none, hy, k⟩
      | some is =>
        refine ⟨_, rfl, _, rfl, x, y, some zs, rfl, hx, some is, hy, fun t H1 ht s1 hT => ?_⟩
        obtain ⟨ou, hu', k⟩ := k
        cases ou with
        | none =>
          have bad : ∃ (x' : V) (b : Bool), [u] = [x'] ∧ ((IsTy K H1 x' "tuple" false ∧ b = false) ∨ (∃ a xs os, x' = .ref a ∧ H1 a = some (.tup xs) ∧ xs.length ≤ 1000 ∧ Paired (PartOk K H1) xs os ∧ b = colsB os)) ∧ b = false := by
            rcases hu' with h | ⟨a, xs, os, h1, h2, h3, h4, h5⟩
            · exact ⟨u, false, rfl, .inl ⟨h.same s1, rfl⟩, rfl⟩
            · exact ⟨u, false, rfl, .inr ⟨a, xs, os, h1, s1 _ _ h2, h3, Paired.mapP h4 fun p o q => q.same s1, h5.symm⟩, rfl⟩
          obtain ⟨x', b, e1, h1, rfl⟩ := bad
          exact ⟨_, rfl, x', false, e1, h1, fun H2 s2 => ⟨_, rfl, k H2 (s1.trans s2)⟩⟩
        | some us =>
          obtain ⟨a, rfl, ha, hl, hz, hc⟩ := hu'
          obtain ⟨b, rfl, hb, hn⟩ := hy
          refine ⟨_, rfl, .ref a, true, rfl, .inr ⟨a, _, _, rfl, s1 _ _ ha, by rw [List.length_map]; exact hl, parts_some hz, hc.symm⟩, fun H2 s2 => ⟨_, rfl, iteF ?_⟩⟩
          have ha2 := s2 _ _ (s1 _ _ ha)
          have hT2 := s2 _ _ hT
          refine ⟨_, rfl, a, rfl, ⟨_, SqT.of ha2⟩, fun D hD => ?_⟩
          refine lc_acc walk_tup (fun i => ((us.take i).map fun z => V.bl (lookI zs is z).isSome)) rfl hD (fun i hi => ?_) (fun H3 s3 => SqT.of (s3 _ _ ha2)) (fun i x H3 H4 N hi s3 y keep skip => ?_) (fun H3 s3 hL => ?_)
          · have : (1000 : Nat) < sizeLine := by decide
            rw [List.length_map, List.length_take]; omega
          · obtain ⟨rfl, hx⟩ := y
            rw [List.getElem?_map] at hx
            obtain ⟨z, ez, rfl⟩ := Option.map_eq_some_iff.mp hx
            refine ⟨rfl, _, rfl, _, rfl, t, _, rfl, DGet.k (k := Sum.inr z) (s3 _ _ hT2), ?_⟩
            refine keep _ _ (Same.refl _) ?_
            rw [take_snoc ez, List.map_append, val_kv]
            simp
          · refine ⟨D, us.map fun z => (lookI zs is z).isSome, rfl, SqL.of ?_, _, rfl, ?_⟩
            · rw [hL, List.take_of_length_le (by rw [List.length_map]; exact Nat.le_refl _), List.map_map]; rfl
            · by_cases hall : ∀ z ∈ us, z ∈ zs
              · have e : ((us.map fun z => (lookI zs is z).isSome).all id) = true := by
                  rw [List.all_map, List.all_eq_true]
                  exact fun z hz => (look_mem zs is z hn).mpr (hall z hz)
                rw [e]
                obtain ⟨js, hjs, kk⟩ : ∃ js : List Int, us.map (lookI zs is) = js.map some ∧ ∀ p H', H p = none → Same H H' → H' p = some (.tup (js.map V.int)) → Q (.ref p) H' := by
                  rcases k with ⟨⟨z, h1, h2⟩, _⟩ | h
                  · exact absurd (hall z h1) h2
                  · exact h
                have jl : js.length = us.length := by
                  have := congrArg List.length hjs
                  simpa using this.symm
                have s13 := (s1.trans s2).trans s3
                refine ⟨_, rfl, a, rfl, ⟨_, SqT.of (s3 _ _ ha2)⟩, fun D2 hD2 => ?_⟩
                refine lc_acc walk_tup (fun i => ((js.take i).map V.int)) rfl hD2 (fun i hi => ?_) (fun H4 s4 => SqT.of (s4 _ _ (s3 _ _ ha2))) (fun i x H4 H5 N hi s4 y keep skip => ?_) (fun H4 s4 hL4 => ?_)
                · have : (1000 : Nat) < sizeLine := by decide
                  rw [List.length_map, List.length_take]; omega
                · obtain ⟨rfl, hx⟩ := y
                  rw [List.getElem?_map] at hx
                  obtain ⟨z, ez, rfl⟩ := Option.map_eq_some_iff.mp hx
                  have ej : ∃ j, js[i]? = some j ∧ lookI zs is z = some j := by
                    have q : (us.map (lookI zs is))[i]? = some (lookI zs is z) := by rw [List.getElem?_map, ez]; rfl
                    rw [hjs, List.getElem?_map] at q
                    obtain ⟨j, q1, q2⟩ := Option.map_eq_some_iff.mp q
                    exact ⟨j, q1, q2.symm⟩
                  obtain ⟨j, ej, el⟩ := ej
                  refine ⟨rfl, _, rfl, _, rfl, t, .int j, rfl, ?_, ?_⟩
                  · have g := DGet.k (k := Sum.inr z) (s4 _ _ (s3 _ _ hT2))
                    rw [val_kv, el] at g
                    exact g
                  · refine keep _ _ (Same.refl _) ?_
                    rw [take_snoc ej, List.map_append]; rfl
                · refine ⟨D2, _, rfl, .inl ⟨SqL.of hL4, fun p hp => ?_⟩⟩
                  have s14 := s13.trans s4
                  refine kk p _ (s14.free hp) (Same.new s14 hp) ?_
                  rw [upd_same, List.take_of_length_le (by rw [List.length_map, jl]; exact Nat.le_refl _)]
              · have e : ((us.map fun z => (lookI zs is z).isSome).all id) = false := by
                  rw [List.all_map]
                  apply Bool.eq_false_iff.mpr
                  intro q
                  exact hall fun z hz => (look_mem zs is z hn).mp (List.all_eq_true.mp q z hz)
                rw [e]
                have kk : ∀ H', Same H H' → E (.ref CE) none H' := by
                  rcases k with ⟨_, h⟩ | ⟨js, hjs, _⟩
                  · exact h
                  · refine absurd (fun z hz => ?_) hall
                    have q : lookI zs is z ∈ us.map (lookI zs is) := List.mem_map.mpr ⟨z, hz, rfl⟩
                    rw [hjs] at q
                    obtain ⟨j, _, ej⟩ := List.mem_map.mp q
                    exact (look_mem zs is z hn).mp (by rw [← ej]; rfl)
                exact kk _ ((s1.trans s2).trans s3)
end
end K1

/-! ## K9 -/
set_option Elab.async false
set_option linter.all false
set_option maxRecDepth 100000
set_option maxHeartbeats 4000000
namespace K1
open PySem PySem.Spec PyProof.Rows L2
abbrev s_joined : Stmt := topS 10
abbrev N_joined : List Str := ["columns", "integers", "others", "more", "first", "second", "both", "together", "column"]
theorem sc_joined : FnScope N_joined ["columns", "integers", "others", "more"] (defScope s_joined) := ⟨rfl, rfl, rfl, by decide +kernel, rfl, by decide +kernel, by decide +kernel⟩
/-- whether no name of both has two integers -/
def okOne (za : List Str) (ia : List Int) (zb : List Str) (ib : List Int) (z : Str) : Bool := match lookI za ia z with
  | none => true
  | some j => decide (lookI zb ib z = some j)
def agreeB (za : List Str) (ia : List Int) (zb : List Str) (ib : List Int) : Bool := zb.all (okOne za ia zb ib)
/-- both together -/
def bothK (za : List Str) (ia : List Int) (zb : List Str) (ib : List Int) : List (Key × V) := mergeK (kvOf za ia) (kvOf zb ib)
def AllI (kvs : List (Key × V)) : Prop := ∀ p ∈ kvs, ∃ z i, p = (Sum.inr z, V.int i)
/-- what is joined: the names in order, their integers -/
def JoinedIs (kvs : List (Key × V)) (ys : List Str) (js : List Int) : Prop := ys.Nodup ∧ (∀ z : Str, z ∈ ys ↔ (Sum.inr z : Key) ∈ kvs.map (·.1)) ∧ sortedS ys = true ∧ ys.map (fun z => valV kvs (Sum.inr z)) = js.map fun j => some (V.int j)
/-- the value that both functions hand on -/
def spTail (H : Hp) (Q : VK) (za : List Str) (ia : List Int) (zb : List Str) (ib : List Int) : Prop :=
  (agreeB za ia zb ib = false ∧ ∀ H', Same H H' → Q .non H') ∨ (agreeB za ia zb ib = true ∧ ∀ ys js p q r H', JoinedIs (bothK za ia zb ib) ys js → Same H H' →
    H' p = some (.tup [.ref q, .ref r]) → H' q = some (.tup (ys.map V.str)) → H' r = some (.tup (js.map V.int)) → H p = none → Q (.ref p) H')
def spJoined (K : PySem.W.Frag) (C : Addr) : Sp := fun vs H Q E => ∃ (x y x2 y2 : V) (oz : Option (List Str)), vs = [x, y, x2, y2] ∧ ColsArg K H x oz ∧ match oz with
  | none => ∀ H', Same H H' → E (.ref C) none H'
  | some za => ∃ oi : Option (List Int), IntsArg K H za.length y oi ∧ match oi with
    | none => ∀ H', Same H H' → E (.ref C) none H'
    | some ia => ∃ ou : Option (List Str), ColsArg K H x2 ou ∧ match ou with
      | none => ∀ H', Same H H' → E (.ref C) none H'
      | some zb => ∃ oj : Option (List Int), IntsArg K H zb.length y2 oj ∧ match oj with
        | none => ∀ H', Same H H' → E (.ref C) none H'
        | some ib => za.length + zb.length < 64 ∧ spTail H Q za ia zb ib
theorem ColsArg.same {K : PySem.W.Frag} {H H' : Hp} {x : V} : ∀ {o : Option (List Str)}, ColsArg K H x o → Same H H' → ColsArg K H' x o
  | none, h, s => h.imp (fun z => z.same s) fun ⟨a, xs, os, h1, h2, h3, h4, h5⟩ => ⟨a, xs, os, h1, s _ _ h2, h3, Paired.mapP h4 fun _ _ q => q.same s, h5⟩
  | some _, ⟨a, h1, h2, h3, h4, h5⟩, s => ⟨a, h1, s _ _ h2, h3, h4, h5⟩
theorem IntsArg.same {K : PySem.W.Frag} {H H' : Hp} {n : Nat} {x : V} : ∀ {o : Option (List Int)}, IntsArg K H n x o → Same H H' → IntsArg K H' n x o
  | none, h, s => h.imp (fun z => z.same s) fun ⟨a, xs, os, h1, h2, h3, h4, h5⟩ => ⟨a, xs, os, h1, s _ _ h2, h3, Paired.mapP h4 fun _ _ q => q.same s, h5⟩
  | some _, ⟨a, h1, h2, h3⟩, s => ⟨a, h1, s _ _ h2, h3⟩
theorem allI_kv : ∀ (zs : List Str) (is : List Int), AllI (kvOf zs is)
  | [], _ => fun p h => by simp [kvOf] at h
  | _ :: _, [] => fun p h => by simp [kvOf] at h
  | z :: r, i :: q => fun p h => by
    rcases List.mem_cons.mp (show p ∈ (Sum.inr z, V.int i) :: kvOf r q from h) with rfl | h
    · exact ⟨z, i, rfl⟩
    · exact allI_kv r q p h
theorem allI_put {kvs : List (Key × V)} {z : Str} {i : Int} (h : AllI kvs) : AllI (putK kvs (Sum.inr z) (.int i)) := by
  unfold putK
  split
  · intro p hp
    obtain ⟨q, hq, e⟩ := List.mem_map.mp hp
    obtain ⟨y, j, rfl⟩ := h q hq
    by_cases ez : (Sum.inr y : Key) = Sum.inr z
    · rw [if_pos ez] at e; exact ⟨y, i, e.symm⟩
    · rw [if_neg ez] at e; exact ⟨y, j, e.symm⟩
  · intro p hp
    rcases List.mem_append.mp hp with h1 | h1
    · exact h p h1
    · rw [List.mem_singleton] at h1; exact ⟨z, i, h1⟩
theorem nd_put {kvs : List (Key × V)} {k : Key} (v : V) (h : (kvs.map (·.1)).Nodup) : ((putK kvs k v).map (·.1)).Nodup := by
  cases e : valV kvs k with
  | none => exact nd_putK v h e
  | some u =>
    unfold putK
    rw [valV_any, e]
    rw [if_pos (show (some u).isSome = true from rfl), List.map_map]
    have : ((fun x : Key × V => x.1) ∘ fun kv => if kv.1 = k then (kv.1, v) else kv) = fun x => x.1 := by
      funext x
      show (if x.1 = k then (x.1, v) else x).1 = x.1
      split <;> rfl
    rw [this]
    exact h
theorem merge_facts {more : List (Key × V)} : ∀ {kvs : List (Key × V)}, AllI kvs → AllI more → (kvs.map (·.1)).Nodup → AllI (mergeK kvs more) ∧ ((mergeK kvs more).map (·.1)).Nodup := by
  induction more with
  | nil => exact fun h _ n => ⟨h, n⟩
  | cons p r ih =>
    intro kvs h1 h2 n
    obtain ⟨z, i, rfl⟩ := h2 p List.mem_cons_self
    exact ih (allI_put h1) (fun q hq => h2 q (List.mem_cons_of_mem _ hq)) (nd_put _ n)
theorem allI_keys : ∀ {kvs : List (Key × V)}, AllI kvs → ∃ ks : List Str, kvs.map (·.1) = ks.map Sum.inr
  | [], _ => ⟨[], rfl⟩
  | p :: r, h => by
    obtain ⟨z, i, rfl⟩ := h p List.mem_cons_self
    obtain ⟨ks, e⟩ := allI_keys (kvs := r) fun q hq => h q (List.mem_cons_of_mem _ hq)
    exact ⟨z :: ks, by rw [List.map_cons, e]; rfl⟩
theorem allI_val : ∀ {kvs : List (Key × V)} {k : Key}, AllI kvs → k ∈ kvs.map (·.1) → ∃ j : Int, valV kvs k = some (.int j)
  | [], _, _, h => by simp at h
  | p :: r, k, h, m => by
    obtain ⟨z, i, e⟩ := h p List.mem_cons_self
    by_cases ek : p.1 = k
    · exact ⟨i, by rw [valV_pos ek, e]⟩
    · rw [valV_neg ek]
      refine allI_val (fun q hq => h q (List.mem_cons_of_mem _ hq)) ?_
      rcases List.mem_cons.mp m with q | q
      · exact absurd q.symm ek
      · exact q
theorem allI_vals {kvs : List (Key × V)} (h : AllI kvs) : ∀ ys : List Str, (∀ z ∈ ys, (Sum.inr z : Key) ∈ kvs.map (·.1)) → ∃ js : List Int, ys.map (fun z => valV kvs (Sum.inr z)) = js.map fun j => some (V.int j)
  | [], _ => ⟨[], rfl⟩
  | z :: r, m => by
    obtain ⟨j, e⟩ := allI_val h (m z List.mem_cons_self)
    obtain ⟨js, e2⟩ := allI_vals h r fun y hy => m y (List.mem_cons_of_mem _ hy)
    exact ⟨j :: js, by rw [List.map_cons, e, e2]; rfl⟩
theorem joined_of {kvs : List (Key × V)} {ks ys : List Str} (h : AllI kvs) (n : (kvs.map (·.1)).Nodup) (hk : kvs.map (·.1) = ks.map Sum.inr) (pm : ys.Perm ks) (st : sortedS ys = true) : ∃ js, JoinedIs kvs ys js := by
  have m : ∀ z : Str, z ∈ ys ↔ (Sum.inr z : Key) ∈ kvs.map (·.1) := fun z => by
    rw [pm.mem_iff, hk]
    constructor
    · exact fun q => List.mem_map.mpr ⟨z, q, rfl⟩
    · intro q
      obtain ⟨y, hy, e⟩ := List.mem_map.mp q
      rw [← Sum.inr.inj e]; exact hy
  obtain ⟨js, e⟩ := allI_vals h ys fun z hz => (m z).mp hz
  refine ⟨js, ?_, m, st, e⟩
  rw [hk] at n
  have nk : ks.Nodup := (List.pairwise_map.mp n).imp fun h q => h (congrArg Sum.inr q)
  exact pm.nodup_iff.mpr nk
/-- a comprehension [both[column] for column in together] -/
theorem kv_len (zs : List Str) (is : List Int) : (kvOf zs is).length ≤ zs.length := by
  unfold kvOf
  rw [List.length_zip, List.length_map]
  exact Nat.min_le_left _ _
theorem both_len {za zb : List Str} {ia ib : List Int} (ha : ia.length = za.length) (hb : ib.length = zb.length) : (bothK za ia zb ib).length ≤ za.length + zb.length := by
  refine Nat.le_trans (length_mergeK _ _) ?_
  unfold kvOf
  simp only [List.length_zip, List.length_map]
  omega
section
variable {P : Program} {w : World} {K : PySem.W.Frag} {mg : Str → Option Value} {base : Heap}
theorem ok_joined {f CE : Addr} {fd : FuncData} (F : Fun K "joined" "joined" s_joined f fd) (T : Names2 mg) (hsorted : mg "sorted" = none)
    (C2 : Callee P w K mg base (L2.CX P w) 3 "_by_column" ["columns", "integers"] (spBy K CE)) : FnOk P w K mg base (L2.CX P w) 4 f fd ["columns", "integers", "others", "more"] (spJoined K CE) := by
  have nd := sc_joined.nd
  refine F.okX sc_joined (fun vs H Q E h => ?_) (fun cdv A outer s H vs Q E hr h => ?_)
  · obtain ⟨x, y, x2, y2, oz, rfl, _⟩ := h
    rfl
  · obtain ⟨x, y, x2, y2, oz, rfl, hx, k⟩ := h
    have hu := hu_of hr
    refine ⟨_, (pss_cons
    (ps_set (i := 4) nd rfl (Or.inr rfl) (pe_useX C2 hr rfl (takes_of rfl rfl rfl rfl) (fun _ _ _ _ h => h) (pa_cons (pv 0) (pa_cons (pv 1) pa_nil))))
    (pss_cons
    (ps_set (i := 5) nd rfl (Or.inr rfl) (pe_useX C2 hr rfl (takes_of rfl rfl rfl rfl) (fun _ _ _ _ h => h) (pa_cons (pv 2) (pa_cons (pv 3) pa_nil))))
    (pss_cons
    (ps_if (pt_not (pt_val (pe_callB (cr_all rfl) (by rfl) T.all (by decide +kernel) (pa_cons (pe_lc (own := [("column", 8)]) (g := (gName 8)) rfl nd (pi_tup (pv 2)) (blkOk_by (N := N_joined) (sc := defScope s_joined) (by decide +kernel)) (fun _ _ _ _ _ => (pg_name (i := 8) nd rfl (Or.inl rfl))) (fun _ _ _ _ _ => pts_nil) (fun _ _ _ _ _ => (pe_cmpR op_eq (pe_dget2 hu (pv 4) (pv 8) (pe_dget hu (pv 5) (pv 8) (fun _ _ => rfl)) ⟨rfl, rfl, rfl, rfl⟩) (pe_dget hu (pv 5) (pv 8) (fun _ _ => rfl)) (nomark _)))) pa_nil)))) (pss_one
      (ps_ret pe_non)) pss_nil)
    (pss_cons
    (ps_set (i := 6) nd rfl (Or.inr rfl) (pe_dictStar rfl (pv 4) (pv 5)))
    (pss_cons
    (ps_set (i := 7) nd rfl (Or.inl rfl) (pe_callTy call_tuple_of (by rfl) T.tuple (by decide +kernel) (pa_cons (pe_callB (call_sortedD rfl) (by rfl) hsorted (by decide +kernel) (pa_cons (pv 6) pa_nil)) pa_nil)))
    (pss_one
    (ps_ret (pe_tup (pa_cons (pv 7) (pa_cons (pe_callTy call_tuple_of (by rfl) T.tuple (by decide +kernel) (pa_cons (pe_lc (own := [("column", 8)]) (g := (gName 8)) rfl nd (pi_tup (pv 7)) (blkOk_by (N := N_joined) (sc := defScope s_joined) (by decide +kernel)) (fun _ _ _ _ _ => (pg_name (i := 8) nd rfl (Or.inl rfl))) (fun _ _ _ _ _ => pts_nil) (fun _ _ _ _ _ => (pe_dget hu (pv 6) (pv 8) (fun _ _ => rfl)))) pa_nil)) pa_nil)))))))))), ?_⟩
    cases oz with
    | none => exact ⟨_, rfl, _, rfl, x, y, none, rfl, hx, k⟩
    | some za =>
      obtain ⟨oi, hy, k⟩ := k
      cases oi with
      | none => exact ⟨_, rfl, _, rfl, x, y, some za, rfl, hx, none, hy, k⟩
      | some ia =>
        refine ⟨_, rfl, _, rfl, x, y, some za, rfl, hx, some ia, hy, fun t1 H1 ht1 s1 hT1 => ?_⟩
        obtain ⟨ou, hx2, k⟩ := k
        cases ou with
        | none => exact ⟨_, rfl, _, rfl, x2, y2, none, rfl, hx2.same s1, fun H2 s2 => k H2 (s1.trans s2)⟩
        | some zb =>
          obtain ⟨oj, hy2, k⟩ := k
          cases oj with
          | none => exact ⟨_, rfl, _, rfl, x2, y2, some zb, rfl, hx2.same s1, none, hy2.same s1, fun H2 s2 => k H2 (s1.trans s2)⟩
          | some ib =>
            refine ⟨_, rfl, _, rfl, x2, y2, some zb, rfl, hx2.same s1, some ib, hy2.same s1, fun t2 H2 ht2 s2 hT2 => ?_⟩
            obtain ⟨hlen, k⟩ := k
            obtain ⟨a1, rfl, _, _, _, hc1⟩ := hx
            obtain ⟨b1, rfl, _, hn1⟩ := hy
            obtain ⟨a2, rfl, ha2, hl2, _, hc2⟩ := hx2
            obtain ⟨b2, rfl, _, hn2⟩ := hy2
            have s12 := s1.trans s2
            have hT1' := s2 _ _ hT1
            have ha2' := s12 _ _ ha2
            refine ⟨_, rfl, a2, rfl, ⟨_, SqT.of ha2'⟩, fun D hD => ?_⟩
            have hT2' := hT2
            refine lc_acc walk_tup (fun i => ((zb.take i).map fun z => V.bl (okOne za ia zb ib z))) rfl hD (fun i hi => ?_) (fun H3 s3 => SqT.of (s3 _ _ ha2')) (fun i x H3 H4 N hi s3 y keep skip => ?_) (fun H3 s3 hL => ?_)
            · have : (1000 : Nat) < sizeLine := by decide
              rw [List.length_map, List.length_take]; omega
            · obtain ⟨rfl, hx⟩ := y
              rw [List.getElem?_map] at hx
              obtain ⟨z, ez, rfl⟩ := Option.map_eq_some_iff.mp hx
              obtain ⟨j, ej⟩ := Option.isSome_iff_exists.mp ((look_mem zb ib z hn2).mpr (List.mem_of_getElem? ez))
              have g1 := DGet.k (k := Sum.inr z) (s3 _ _ hT1')
              have g2 := DGet.k (k := Sum.inr z) (s3 _ _ hT2')
              rw [val_kv] at g1 g2
              rw [ej] at g2
              refine ⟨rfl, _, rfl, t1, rfl, .inl ⟨_, .inl (s3 _ _ hT1')⟩, _, rfl, _, rfl, _, rfl, t2, .int j, rfl, g2, _, g1, ?_⟩
              refine ⟨_, rfl, _, rfl, t2, .int j, rfl, g2, ?_⟩
              have fin : ∀ c : Bool, okOne za ia zb ib z = c → ∃ a, H4 D = some (HO.lst a) ∧ a.length < sizeLine ∧ N (upd H4 D (HO.lst (a ++ [V.bl c]))) := fun c ec => by
                refine keep _ _ (Same.refl _) ?_
                rw [take_snoc ez, List.map_append, ← ec]; rfl
              cases el : lookI za ia z with
              | none =>
                refine ⟨rfl, fin _ ?_⟩
                unfold okOne
                rw [el]
                simp
              | some j0 =>
                refine ⟨rfl, fin _ ?_⟩
                unfold okOne
                rw [el]
                show decide (lookI zb ib z = some j0) = decide (V.int j0 = V.int j)
                rw [ej]
                by_cases e : j0 = j
                · subst e; simp
                · rw [decide_eq_false (fun q => e (Option.some.inj q).symm), decide_eq_false (fun q => e (V.int.inj q))]
            · refine ⟨D, zb.map (okOne za ia zb ib), rfl, SqL.of ?_, _, rfl, ?_⟩
              · rw [hL, List.take_of_length_le (by rw [List.length_map]; exact Nat.le_refl _), List.map_map]; rfl
              · have eb : (zb.map (okOne za ia zb ib)).all id = agreeB za ia zb ib := by rw [List.all_map]; rfl
                have s13 := s12.trans s3
                rw [eb]
                rcases k with ⟨hag, kk⟩ | ⟨hag, kk⟩
                · rw [hag]
                  exact kk _ s13
                · rw [hag]
                  intro p hp
                  have n1 : t1 ≠ p := ne_of_none (s3 _ _ hT1') hp
                  have n2 : t2 ≠ p := ne_of_none (s3 _ _ hT2') hp
                  have m1 : mergeK [] (kvOf za ia) = kvOf za ia := kv_merge (cols_asc hc1) hn1
                  have hall := merge_facts (kvs := kvOf za ia) (more := kvOf zb ib) (allI_kv _ _) (allI_kv _ _) (by
                    rw [kv_keys hn1]
                    exact List.pairwise_map.mpr ((asc_nodup (cols_asc hc1)).imp fun h q => h (Sum.inr.inj q)))
                  have hbl := both_len (zb := zb) hn1 hn2
                  have hkv : (kvOf za ia).length + (kvOf zb ib).length ≤ sizeLine := Nat.le_trans (Nat.add_le_add (kv_len za ia) (kv_len zb ib)) (Nat.le_of_lt (Nat.lt_trans hlen (by decide)))
                  refine ⟨_, rfl, t1, _, rfl, by rw [upd_ne n1]; exact s3 _ _ hT1', n1, upd_same, ?_⟩
                  rw [upd_upd, m1]
                  refine ⟨_, rfl, t2, _, rfl, by rw [upd_ne n2]; exact s3 _ _ hT2', n2, upd_same, hkv, ?_⟩
                  rw [upd_upd]
                  obtain ⟨ks, hks⟩ := allI_keys hall.1
                  have hkl : ks.length < 64 := by
                    have := congrArg List.length hks
                    rw [List.length_map, List.length_map] at this
                    have h2 : (bothK za ia zb ib).length = ks.length := this
                    omega
                  refine ⟨_, rfl, p, _, ks, rfl, .inl upd_same, hks, hkl, fun ys l pm st hl => ?_⟩
                  obtain ⟨js, hJ⟩ : ∃ js, JoinedIs (bothK za ia zb ib) ys js := joined_of hall.1 hall.2 hks pm st
                  refine ⟨l, _, rfl, .inl ⟨SqL.of upd_same, fun q hq => ?_⟩⟩
                  have npl : p ≠ l := fun e => by subst e; rw [upd_same] at hl; cases hl
                  have hH : ∃ H5 : Hp, H5 = upd (upd (upd H3 p (HO.dK (mergeK (kvOf za ia) (kvOf zb ib)))) l (HO.lst (List.map V.str ys))) q (HO.tup (List.map V.str ys)) := ⟨_, rfl⟩
                  obtain ⟨H5, eH⟩ := hH
                  have g1 : Same H3 H5 := by
                    rw [eH]
                    exact Same.new (Same.new (Same.new (Same.refl H3) hp) hl) hq
                  have g2 : H5 q = some (.tup (ys.map V.str)) := by rw [eH]; exact upd_same
                  have npq : p ≠ q := fun e => by subst e; rw [upd_ne npl, upd_same] at hq; cases hq
                  have g3 : H5 p = some (.dK (bothK za ia zb ib)) := by rw [eH, upd_ne npq, upd_ne npl]; exact upd_same
                  rw [← eH]
                  have hyl : ys.length < 64 := by rw [pm.length_eq]; exact hkl
                  have jl : js.length = ys.length := by
                    have := congrArg List.length hJ.2.2.2
                    simpa using this.symm
                  refine ⟨_, rfl, _, rfl, q, rfl, ⟨_, SqT.of g2⟩, fun D2 hD2 => ?_⟩
                  refine lc_acc walk_tup (fun i => ((js.take i).map V.int)) rfl hD2 (fun i hi => ?_) (fun H6 s6 => SqT.of (s6 _ _ g2)) (fun i x H6 H7 N hi s6 y keep skip => ?_) (fun H6 s6 hL6 => ?_)
                  · have : (1000 : Nat) < sizeLine := by decide
                    rw [List.length_map, List.length_take]
                    rw [List.length_map] at hi
                    omega
                  · obtain ⟨rfl, hx⟩ := y
                    rw [List.getElem?_map] at hx
                    obtain ⟨z, ez, rfl⟩ := Option.map_eq_some_iff.mp hx
                    have ej : ∃ j, js[i]? = some j ∧ valV (bothK za ia zb ib) (Sum.inr z) = some (V.int j) := by
                      have w1 : (ys.map (fun z => valV (bothK za ia zb ib) (Sum.inr z)))[i]? = some (valV (bothK za ia zb ib) (Sum.inr z)) := by rw [List.getElem?_map, ez]; rfl
                      rw [hJ.2.2.2, List.getElem?_map] at w1
                      obtain ⟨j, w2, w3⟩ := Option.map_eq_some_iff.mp w1
                      exact ⟨j, w2, w3.symm⟩
                    obtain ⟨j, ej, el⟩ := ej
                    refine ⟨rfl, _, rfl, _, rfl, p, .int j, rfl, ?_, ?_⟩
                    · have g := DGet.k (k := Sum.inr z) (s6 _ _ g3)
                      rw [el] at g
                      exact g
                    · refine keep _ _ (Same.refl _) ?_
                      rw [take_snoc ej, List.map_append]; rfl
                  · refine ⟨D2, _, rfl, .inl ⟨SqL.of hL6, fun r hr0 => ?_⟩⟩
                    refine ⟨(by show 2 ≤ sizeLine; decide), fun t ht => ?_⟩
                    have s16 := (s13.trans g1).trans s6
                    have nrt : r ≠ t := fun e => by subst e; rw [upd_same] at ht; cases ht
                    have ht6 : H6 t = none := by rw [upd_ne nrt.symm] at ht; exact ht
                    have nqr : q ≠ r := ne_of_none (s6 _ _ g2) hr0
                    have nqt : q ≠ t := ne_of_none (s6 _ _ g2) ht6
                    refine kk ys js t q r _ hJ (Same.new (Same.new s16 hr0) ht) upd_same ?_ ?_ (s16.free ht6)
                    · rw [upd_ne nqt, upd_ne nqr]; exact s6 _ _ g2
                    · rw [upd_ne nrt, upd_same, List.take_of_length_le (by rw [List.length_map, jl]; exact Nat.le_refl _)]
end
end K1

/-! ## S1 -/
set_option Elab.async false
set_option linter.all false
set_option maxRecDepth 100000
set_option maxHeartbeats 4000000
namespace K1
open PySem PySem.Spec PyProof.Rows L2
open PySem.Froz (SD sObj TxOk addTx tailTx)
/-! ### a set of texts: its texts l, each once; its table can be walked -/
def TxSet (P : Program) (w : World) (h : Heap) (a : Addr) (l : List Str) : Prop :=
  ∃ D : SD, h.get? a = some (sObj "set" D) ∧ TxOk P w D l ∧ l.Nodup ∧ Ris D.2.2.place.toList ∧ (w.params.followText "set-order" = true ∨ D.2.2.led = true)
theorem TxSet.at {P : Program} {w : World} {h h' : Heap} {a : Addr} {l : List Str} (T : TxSet P w h a l) (k : ∀ o, h.get? a = some o → h'.get? a = some o) : TxSet P w h' a l := by
  obtain ⟨D, g, r⟩ := T
  exact ⟨D, k _ g, r⟩
theorem tail_walk {w : World} {ep : Nat} {es : Array (Int × Value)} {t : SetTable} {b : Bool} (r : Ris t.place.toList) (l : w.params.followText "set-order" = true ∨ t.led = true) :
    Ris (tailTx ep es t b).2.2.place.toList ∧ (w.params.followText "set-order" = true ∨ (tailTx ep es t b).2.2.led = true) := by
  unfold tailTx
  by_cases c : (!b && t.tooFull) = true
  · rw [if_pos c]
    exact ⟨relayAll_ris _ _ _, l.imp id fun z => (relayAll_led t es _).trans z⟩
  · rw [if_neg c]
    exact ⟨r, l⟩
theorem add_walk {w : World} {x : Int} {v : Value} {D : SD} (r : Ris D.2.2.place.toList) (l : w.params.followText "set-order" = true ∨ D.2.2.led = true) :
    Ris (addTx x v D).2.2.place.toList ∧ (w.params.followText "set-order" = true ∨ (addTx x v D).2.2.led = true) := by
  have r1 := layNew_ris D.2.2 D.1 x v r
  have l1 := layNew_led D.2.2 D.1 x v
  refine tail_walk ?_ ?_
  · split
    · exact r1
    · exact r1
  · refine l.imp id fun z => ?_
    split
    · exact l1.trans z
    · exact l1.trans z
section
variable {P : Program} {w : World} {A : Around} {E : Value → Shared → Prop} {s : Shared} {a : Addr} {l : List Str}
theorem txset_put {k : Str} {u : Tok} {Q : Bool → Shared → Prop} (T : TxSet P w s.heap a l) (room : l.length + 1 < scanBound)
    (q : ∀ b h' l', Heap.SameBut a s.heap h' → TxSet P w h' a l' → (∀ z, z ∈ l' ↔ z ∈ l ∨ z = k) → l'.length ≤ l.length + 1 → Q b { s with heap := h' }) : wpAny (model P w) A (setAddHashed a (.str k u) (hashStr w k)) Q E s := by
  obtain ⟨D, g, F, nd, r, led⟩ := T
  by_cases m : k ∈ l
  · have done := q false s.heap l (Heap.SameBut.refl _ _) ⟨D, g, F, nd, r, led⟩ (fun z => ⟨.inl, fun x => x.elim id fun e => by rw [e]; exact m⟩) (Nat.le_succ _)
    obtain ⟨es, ep, t⟩ := D
    have el : ElemsOf (strKind P w) es.toList := F.el
    have few : es.size < scanBound := by
      have : es.size = l.length := F.sz
      omega
    have is : (strKind P w).is k (.str k u) = true := PySem.Froz.is_str k u
    unfold setAddHashed setAddHashedIn
    refine wpAny_holding (wpAny_bind (wpAny_setState_of g (rfl : (sObj "set" (es, ep, t)).data = .set es ep t) F.fit ?_))
    dsimp only
    rw [byScan_of rfl few el]; simp only [↓reduceIte]
    unfold setAddByScan
    refine wpAny_bind (wpAny_bind (wpAny_rule (wpAny_bind (wpAny_setScan_of (knd := strKind P w) (k := k) is g (rfl : (sObj "set" (es, ep, t)).data = .set es ep t) F.fit el ?_))))
    cases hf : List.findIdx? (fun e => (strKind P w).is k e.2) es.toList with
    | some j => exact wpAny_pure (wpAny_pure done)
    | none =>
      obtain ⟨e, he, z⟩ := (F.mem k).mp m
      have c := List.findIdx?_eq_none_iff.mp hf e he
      rw [z] at c
      cases c
  · obtain ⟨r2, l2⟩ := add_walk (x := hashStr w k) (v := .str k u) r led
    have F2 := PySem.Froz.add_ok (k := k) u F
    refine PySem.Froz.add_x g F m room (q true _ (k :: l) (Heap.SameBut.update ..) ⟨_, Heap.get?_update_self _ g rfl, F2, List.nodup_cons.mpr ⟨m, nd⟩, r2, l2⟩ (fun z => ?_) (Nat.le_refl _))
    rw [List.mem_cons]
    exact or_comm
end
end K1

/-! ## S2 -/
set_option Elab.async false
set_option linter.all false
set_option maxRecDepth 100000
set_option maxHeartbeats 4000000
namespace K1
open PySem PySem.Spec PyProof.Rows L2
open PySem.Froz (SD sObj TxOk addTx tailTx)
section
variable {P : Program} {w : World} {A : Around} {E : Value → Shared → Prop} {s : Shared}
/-- all texts of a walk put into the set at S -/
theorem tx_loop {I S : Addr} {fp wr : List Addr} {G : Array GenState → Array GenState → Prop} {n : Nat} {Pv : Nat → Value → Prop} {St : Nat → Shared → Prop} {R : Result → Shared → Prop} (W : WalksS P w A.in1 I fp wr G n Pv St) (out : S ∉ fp) (zs : List Str) (len : n = zs.length)
    (room : zs.length + 1 < scanBound) (val : ∀ i v, Pv i v → ∃ z t, zs[i]? = some z ∧ v = .str z t) :
    ∀ (left i : Nat) (s : Shared), n - i = left → i ≤ n → St i s → (∃ l, TxSet P w s.heap S l ∧ (∀ z, z ∈ l ↔ z ∈ zs.take i) ∧ l.length ≤ i) →
      (∀ s' l, Moved (S :: wr) G s s' → TxSet P w s'.heap S l → (∀ z, z ∈ l ↔ z ∈ zs) → l.length ≤ n → R (.ok (.ret .none)) s') → codeAny (model P w) A (.builtin "set.update.loop" ⟨[.ref S, .ref I], []⟩) R s := by
  have outw : S ∉ wr := fun m => out (W.sub _ m)
  have more : ∀ b ∈ wr, b ∈ S :: wr := fun b m => List.mem_cons_of_mem _ m
  intro left
  induction left with
  | zero =>
    intro i s e hi st ⟨l, T, mem, few⟩ k
    obtain rfl : i = n := by omega
    refine codeAny_builtin PyProof.Rows.F.entry_set_update_loop ?_
    rw [Around.under_plainId PyProof.Rows.F.plain_set_update_loop _]; show wpAny _ A.in1 (pyNext (.ref I) >>= _) _ _ s
    refine wpAny_bind (W.done s _ _ st fun s' mv => ?_); show wpAny _ A.in1 (ret Value.none) _ _ s'
    rw [List.take_of_length_le (by omega)] at mem
    exact wpAny_pure (k s' l (mv.mono more) (T.at fun o q => mv.heap S o outw q) mem few)
  | succ left ih =>
    intro i s e hi st ⟨l, T, mem, few⟩ k
    have lt : i < n := by omega
    refine codeAny_builtin PyProof.Rows.F.entry_set_update_loop ?_
    rw [Around.under_plainId PyProof.Rows.F.plain_set_update_loop _]; show wpAny _ A.in1 (pyNext (.ref I) >>= _) _ _ s
    refine wpAny_bind (W.item i s _ _ lt st fun v s' pv st' mv => ?_)
    obtain ⟨z, t, hz, rfl⟩ := val i v pv
    have T' := T.at (h' := s'.heap) fun o q => mv.heap S o outw q
    show wpAny _ A.in1 (holding [Value.str z t] (setAdd S (.str z t)) >>= _) _ _ s'
    unfold setAdd
    refine wpAny_bind (wpAny_holding (wpAny_holding (wpAny_bind ((strKind P w).pyHash (k := z) (PySem.Froz.is_str z t) ?_))))
    refine txset_put (s := { s' with toks := s'.toks + 1 }) T' (by omega) fun b h' l2 same T2 mem2 few2 => ?_
    have mem3 : ∀ y, y ∈ l2 ↔ y ∈ zs.take (i + 1) := fun y => by
      rw [mem2, mem, List.take_add_one, hz]
      simp [List.mem_append]
    have kept : ∀ b o, b ≠ S → s'.heap.get? b = some o → h'.get? b = some o := fun b o ne q => same.extBut b o ne q
    refine wpAny_pure ⟨plainId_quiet PyProof.Rows.F.plain_set_update_loop _, ih (i + 1) _ (by omega) lt (W.frame _ s' _ _ st' (Nat.le_succ _) fun b m o q => kept b o (fun e => out (by rw [← e]; exact m)) q) ⟨l2, T2, mem3, by omega⟩ fun s2 l3 mv2 T3 a b => ?_⟩
    refine k s2 l3 (Moved.trans W.gtrans ((mv.mono more).then_heap (Nat.le_succ _) fun b o m q => ?_) mv2) T3 a b
    exact kept b o (fun e => m (by rw [e]; exact List.mem_cons_self)) q
abbrev newSetObj (w : World) : Obj := { cls := .type "set", dict := none, data := .set #[] 0 (.fresh 0 0 (!w.params.followText "set-order")) }
theorem tx_new {h : Heap} {a : Addr} (g : h.get? a = some (newSetObj w)) : TxSet P w h a [] := by
  refine ⟨(#[], 0, .fresh 0 0 (!w.params.followText "set-order")), g, PySem.Froz.TxOk.nil (by rfl), List.nodup_nil, List.Pairwise.nil, ?_⟩
  show _ ∨ (!w.params.followText "set-order") = true
  cases w.params.followText "set-order"
  · exact .inr rfl
  · exact .inl rfl
/-- what set(t) of texts ends in -/
def SetDone (P : Program) (w : World) (s : Shared) (zs : List Str) (s2 : Shared) : Prop := ∃ h' tk l, s2 = { s with heap := h', toks := tk } ∧ TxSet P w h' s.heap.objs.size l ∧ (∀ z, z ∈ l ↔ z ∈ zs) ∧ l.length ≤ zs.length ∧ (∀ b o, s.heap.get? b = some o → h'.get? b = some o)
set_option maxHeartbeats 6400000 in
theorem call_set_texts {l : Addr} {items : Array Value} {zs : List Str} {Q : Value → Shared → Prop} (hh : A.handled = none) (tup : s.heap.IsTuple l items) (txts : StrsAre items.toList zs) (room : zs.length + 1 < scanBound) (k : ∀ s2, SetDone P w s zs s2 → Q (.ref s.heap.objs.size) s2) :
    wpAny (model P w) A (call (.type "set") [.ref l]) Q E s := by
  have isz : zs.length = items.size := by rw [← StrsAre.len_eq txts, Array.length_toList]
  obtain ⟨c, tl, hmro⟩ := PySem.F.called_set.mro
  have hmade := PySem.F.called_set.made
  have hsub := PySem.F.called_set.sub
  refine wpAny_call (codeAny_of_tree ?_); show wpAny _ _ (callAny (.type "set") _) _ _ _
  refine wpAny_pure ⟨Code.quiet_builtin _ (by decide +kernel), codeAny_builtin PySem.F.entry_type_call ?_⟩
  rw [Around.under_plain (weight_type_call_type "set" [.ref l] []) rfl]
  have h1 := PySem.F.called_set.notType
  have h2 := PySem.F.called_set.canCreate
  have hct := PySem.F.typeCall_set_1 (.ref l)
  repeat (any_goals (first | assumption | wp_step))
  refine codeAny_mono (code_set_led1 (.ref l) (E := E) (Q₁ := fun obj s₁ => obj = .ref s.heap.objs.size ∧ s₁ = { s with heap := s.heap.push (newSetObj w) }) ⟨rfl, rfl⟩) fun r s₁ hr => ?_
  cases r with
  | error e => exact hr
  | ok fl =>
    cases fl with
    | ret obj =>
      obtain ⟨rfl, rfl⟩ := hr
      have new : (s.heap.push (newSetObj w)).get? s.heap.objs.size = some (newSetObj w) := Heap.get?_push_size _ rfl
      have ty : Shared.TypeIs { s with heap := s.heap.push (newSetObj w) } (.ref s.heap.objs.size) "set" := ⟨_, new, rfl⟩
      have hli := PySem.F.called_set.init.lookup
      have hbi := PySem.F.called_set.init.bind (.ref s.heap.objs.size)
      repeat (any_goals (first | assumption | wp_step))
      refine codeAny_mono (codeAny_call_builtin (R := wants (fun r s₂ => r = .none ∧ SetDone P w s zs s₂) E) PySem.F.called_set.init.plain PySem.F.entry_set_init (check_set_init_1 ty ?_)) fun r₂ s₂ hr₂ => ?_
      · obtain ⟨⟨ocls, odict, odata, oslots⟩, hol, hcl, nl, hdl⟩ := tup
        simp only at hcl hdl
        subst hcl; subst hdl
        have hol' : (s.heap.push (newSetObj w)).get? l = some { cls := .type "tuple", dict := odict, data := .seq items nl, slots := oslots } := Heap.get?_push_of_some _ hol
        have hsls := PySem.F.sub_tuple_set
        have hslf := PySem.F.sub_tuple_frozenset
        have hne : (Value.type "tuple" == Value.type "dict") = false := by decide
        have tup1 : (s.heap.push (newSetObj w)).IsTuple l items := ⟨_, hol', rfl, nl, rfl⟩
        unfold Builtin.«set.__init__» noKeywords Builtin.Frozenset.updateFrom
        generalize hPI : pyIter = PI
        wp_walk
        subst hPI
        refine wpAny_pyIter_tuple tup1 (wpAny_bind (wpAny_runValue ?_))
        have below : l < s.heap.objs.size := Heap.lt_size hol
        have hh3 : A.in1.in1.in1.handled = none := by simp [hh]
        have len1 : (s.heap.push (newSetObj w)).objs.size = s.heap.objs.size + 1 := Heap.size_push ..
        have ne1 : l ≠ (s.heap.push (newSetObj w)).objs.size := by rw [len1]; exact Nat.ne_of_lt (Nat.lt_succ_of_lt below)
        have out : s.heap.objs.size ∉ [(s.heap.push (newSetObj w)).objs.size, l] := by
          rw [len1]; simp only [List.mem_cons, List.mem_singleton, List.not_mem_nil, or_false, not_or]
          exact ⟨Nat.ne_of_lt (Nat.lt_succ_self _), Nat.ne_of_gt below⟩
        refine tx_loop ((Walks.tuple hh3 _ l ne1 items).toS) out zs isz.symm room (fun i v hv => ?_) (items.size - 0) 0 _ (by omega) (Nat.zero_le _) ⟨⟨_, Heap.get?_push_size _ rfl, rfl, rfl⟩, tup1.push _⟩ ⟨[], tx_new (Heap.get?_push_of_some _ new), fun z => by simp, Nat.le_refl _⟩ fun s' l' mv T mem few => ?_
        · have hi : i < zs.length := by rw [isz]; exact (Array.getElem?_eq_some_iff.mp hv).1
          obtain ⟨t, e⟩ := SS.strs_at txts i v (by rw [Array.getElem?_toList]; exact hv)
          exact ⟨zs[i], t, List.getElem?_eq_getElem hi, by rw [e, List.getD_eq_getElem?_getD, List.getElem?_eq_getElem hi] <;> rfl⟩
        · obtain ⟨h', g2, d', tk', os'⟩ := s'
          obtain rfl : g2 = s.gens := mv.gens
          obtain rfl : d' = s.drawn := mv.drawn
          obtain rfl : os' = s.os := mv.os
          show wpAny _ _ _ _ _ _
          refine wpAny_pure ?_
          show wpAny _ _ (ret Value.none) _ _ _
          refine wpAny_pure ⟨rfl, h', tk', l', rfl, T, mem, by rw [isz]; exact few, fun b o q => mv.heap b o (fun m => ?_) (Heap.get?_push_of_some _ (Heap.get?_push_of_some _ q))⟩
          have lt := Heap.lt_size q
          rcases List.mem_cons.mp m with z | m
          · rw [z] at lt; exact Nat.lt_irrefl _ lt
          · rw [List.mem_singleton.mp m, len1] at lt; exact Nat.lt_irrefl _ (Nat.lt_of_succ_lt lt)
      · cases r₂ with
        | error e => exact hr₂
        | ok fl₂ =>
          cases fl₂ with
          | ret r =>
            obtain ⟨rfl, done⟩ := hr₂
            repeat (any_goals (first | assumption | wp_step))
            exact k _ done
          | _ => exact hr₂.elim
    | _ => exact hr.elim
end
end K1

/-! ## S3 -/
set_option Elab.async false
set_option linter.all false
set_option maxRecDepth 100000
set_option maxHeartbeats 4000000
namespace K1
open PySem PySem.Spec PyProof.Rows L2
open PySem.Froz (SD sObj TxOk addTx tailTx)
theorem perm_of_len : ∀ {l ks : List Str}, l.Nodup → (∀ z ∈ l, z ∈ ks) → ks.length ≤ l.length → l.Perm ks
  | [], ks, _, _, h => by
    have : ks = [] := List.length_eq_zero_iff.mp (Nat.le_zero.mp h)
    rw [this]
  | x :: r, ks, n, sub, h => by
    obtain ⟨n1, n2⟩ := List.nodup_cons.mp n
    have hx := sub x List.mem_cons_self
    have pm := perm_of_len (l := r) (ks := ks.erase x) n2 (fun z hz => (List.mem_erase_of_ne (fun e => n1 (by rw [← e]; exact hz))).mpr (sub z (List.mem_cons_of_mem _ hz))) (by
      rw [List.length_erase_of_mem hx]
      simp only [List.length_cons] at h
      omega)
    exact (pm.cons x).trans (List.perm_cons_erase hx).symm
section
variable {P : Program} {w : World} {A : Around} {E : Value → Shared → Prop} {s : Shared} {a : Addr} {l : List Str}
theorem texts_perm {D : SD} (F : TxOk P w D l) (nd : l.Nodup) : (∀ v ∈ D.1.toList.map (·.2), ∃ x t, v = Value.str x t) ∧ ((D.1.toList.map (·.2)).map strOf).Perm l := by
  have each : ∀ e ∈ D.1.toList, ∃ x t, e.2 = Value.str x t := fun e he => by
    obtain ⟨⟨k, hk, _⟩, _⟩ := F.el e he
    have hk' : Value.isStrOf k e.2 = true := hk
    cases h : e.2 with
    | str x t => exact ⟨x, t, rfl⟩
    | _ => rw [h] at hk'; cases hk'
  refine ⟨fun v hv => ?_, ?_⟩
  · obtain ⟨e, he, rfl⟩ := List.mem_map.mp hv
    exact each e he
  · refine (perm_of_len nd (fun z hz => ?_) ?_).symm
    · obtain ⟨e, he, is⟩ := (F.mem z).mp hz
      obtain ⟨x, t, ex⟩ := each e he
      have is' : Value.isStrOf z e.2 = true := is
      rw [ex] at is'
      have xz : x = z := by simpa [Value.isStrOf] using is'
      refine List.mem_map.mpr ⟨e.2, List.mem_map.mpr ⟨e, he, rfl⟩, ?_⟩
      rw [ex, ← xz]; rfl
    · rw [List.length_map, List.length_map, Array.length_toList, F.sz]
      exact Nat.le_refl _
/-- sorted(found): its texts, ascending -/
theorem sorted_texts {Q : Value → Shared → Prop} (T : TxSet P w s.heap a l) (hh : A.handled = none) (few : l.length < 64)
    (q : ∀ s' p (out : Array Value) (c : Nat) (ys : List Str), (∀ b o, s.heap.get? b = some o → s'.heap.get? b = some o) → s'.gens = s.gens → s'.os = s.os → s.heap.objs.size ≤ p → s'.heap.get? p = some (seqObj "list" out c) → StrsAre out.toList ys → ys.Perm l → sortedS ys = true → Q (.ref p) s') :
    wpAny (model P w) A (call (.builtin "sorted") [.ref a]) Q E s := by
  obtain ⟨D, g, F, nd, ris, led⟩ := T
  have bound : D.1.size < scanBound := by
    have := F.sz
    unfold scanBound
    omega
  obtain ⟨each, pmD⟩ := texts_perm F nd
  refine Calls.call_function_entry kind_sorted plain_sorted entry_sorted (args_sorted1 _) ?_
  unfold Builtin.«sorted»
  refine wpAny_bind (m := checkCount "sorted" 1 1 _) (wpAny_pure (wpAny_bind (collect_set (A := A.in1) hh ⟨_, g, rfl, rfl⟩ F.fit bound ris led fun s1 vs kept _ gens os pm => ?_)))
  have all : ∀ v ∈ vs, ∃ x t, v = Value.str x t := fun v hv => each v (pm.mem_iff.mp hv)
  have lenV : vs.length = l.length := by rw [pm.length_eq, List.length_map, Array.length_toList, F.sz]
  have small : vs.length ≤ sizeLine := by rw [lenV, sizeLine_eq]; omega
  have S := strsAre_map vs all
  refine wpAny_bind (wpAny_newList ?_ small)
  have new : (s1.heap.push (seqObj "list" vs.toArray 0)).get? s1.heap.objs.size = some (seqObj "list" vs.toArray 0) := Heap.get?_push_size _ rfl
  refine wpAny_bind (wpAny_holding (wpAny_call_entry slot_list_sort ⟨_, new, rfl⟩ entry_list_sort (list_sort_treeKAny strKind_oneLt new S.keysOf (fun v₁ v₂ rest e => keyKind_strs (by rw [← e]; exact S)) small fun st hp hs => ⟨_, rfl, ?_⟩) (args_list_sort _)))
  obtain ⟨ys, h1, h2, h3⟩ := sorted_out_str S hp hs
  obtain ⟨c, hc⟩ := sortedHeap_at (vs := vs) (out := (arrOf st).map (·.2)) new
  have le : s.heap.objs.size ≤ s1.heap.objs.size := by assumption
  refine wpAny_pure ⟨_, rfl, q _ s1.heap.objs.size _ c ys (fun b u e => ?_) gens os le hc h1 (h2.trans ((pm.map strOf).trans pmD)) h3⟩
  have k := kept b u e
  have lt := Heap.lt_size k
  show (sortedHeap (s1.heap.push (seqObj "list" vs.toArray 0)) s1.heap.objs.size vs ((arrOf st).map (·.2))).get? b = some u
  rw [sortedHeap_old (Nat.ne_of_lt lt) (by rw [Heap.size_push]; exact Nat.lt_succ_of_lt lt)]
  exact Heap.get?_push_of_some _ k
end
/-- the set of the texts zs at a -/
def SetS (P : Program) (w : World) (a : Addr) (zs : List Str) : HO := .ext fun h => ∃ l, TxSet P w h a l ∧ (∀ z, z ∈ l ↔ z ∈ zs) ∧ l.length ≤ zs.length
section
variable {X : Cx}
theorem cr_setS (hc : X.calm = true) : CallR X (.type "set") (fun xs H Q => ∃ (a : Addr) (zs : List Str), xs = [.ref a] ∧ SqT X.K H a (zs.map V.str) ∧ zs.length < 64 ∧ ∀ p, H p = none → Q (.ref p) (upd H p (SetS X.prog X.w p zs))) := by
  intro pins s σ H xs us Q I r h
  obtain ⟨a, zs, rfl, t, few, q⟩ := h
  obtain ⟨u, rfl, ru⟩ := vals1 r
  cases ru
  obtain ⟨its, rv, tup, _⟩ := I.tuple t
  refine call_set_texts (zs := zs) (I.ok.hd hc) (show s.heap.IsTuple a its.toArray from tup) (by simpa using rv.strs) (by unfold scanBound; omega) fun s2 done => ?_
  obtain ⟨h', tk, l, rfl, T, mem, short, kept⟩ := done
  have ok : ObjOk X.prog X.w (upd H s.heap.objs.size (SetS X.prog X.w s.heap.objs.size zs)) h' s.heap.objs.size (SetS X.prog X.w s.heap.objs.size zs) := by
    obtain ⟨D, g, _⟩ := id T
    exact ⟨⟨l, T, mem, short⟩, ⟨_, g⟩, fun h1 h2 p k => by
      obtain ⟨l', T', m, f⟩ := p
      exact ⟨l', T'.at k, m, f⟩⟩
  exact ⟨.ref _, _, I.laid (t' := tk) kept (Nat.le_refl _) ok, rfl, q _ (I.hok.fresh (Nat.le_refl _))⟩
theorem cr_sortedSS (hc : X.calm = true) : CallR X (.builtin "sorted") (fun xs H Q => ∃ (a : Addr) (zs : List Str), xs = [.ref a] ∧ H a = some (SetS X.prog X.w a zs) ∧ zs.length < 64 ∧
    ∀ (ys : List Str) p, ys.Nodup → (∀ z, z ∈ ys ↔ z ∈ zs) → sortedS ys = true → H p = none → Q (.ref p) (upd H p (.lst (ys.map V.str)))) := by
  intro pins s σ H xs us Q I r h
  obtain ⟨a, zs, rfl, ha, few, q⟩ := h
  obtain ⟨l, T, mem, short⟩ := (I.hok a _ ha).1
  rw [Vals.ref1 r]
  have nd : l.Nodup := by obtain ⟨_, _, _, n, _⟩ := T; exact n
  refine sorted_texts T (I.ok.hd hc) (by omega) fun s' p out c ys kept gens os le at_ strs_ pm st => ?_
  have small : (ys.map V.str).length ≤ sizeLine := by
    have e := pm.length_eq
    rw [List.length_map, sizeLine_eq]
    omega
  have free : H p = none := I.hok.fresh le
  have J : Inv X pins σ (upd H p (.lst (ys.map V.str))) { s with heap := s'.heap, gens := s'.gens, drawn := s'.drawn, toks := s'.toks } :=
    I.call (ch := []) (Un.laid kept le free) (I.hok.laid kept le ⟨small, out.toList, c, vals_of_strs strs_, at_⟩) (by rw [gens]; exact I.bare) (fun _ z => nomatch z)
  have e : s' = { s with heap := s'.heap, gens := s'.gens, drawn := s'.drawn, toks := s'.toks } := by
    cases s'
    cases s
    cases os
    rfl
  rw [e]
  exact ⟨.ref p, _, J, rfl, q ys p (pm.nodup_iff.mpr nd) (fun z => pm.mem_iff.trans (mem z)) st free⟩
end
end K1

/-! ## K10 -/
set_option Elab.async false
set_option linter.all false
set_option maxRecDepth 100000
set_option maxHeartbeats 4000000
namespace K1
open PySem PySem.Spec PyProof.Rows L2
/-! ### is_due -/
abbrev s_is_due : Stmt := topS 19
abbrev N_is_due : List Str := ["value", "sign"]
theorem sc_is_due : FnScope N_is_due ["value"] (defScope s_is_due) := ⟨rfl, rfl, rfl, by decide +kernel, rfl, by decide +kernel, by decide +kernel⟩
def spDue (K : PySem.W.Frag) : Sp := fun vs H Q _ => ∃ (x : V) (b : Bool), vs = [x] ∧ ((∃ z, x = .str z ∧ z.length ≤ sizeLine ∧ PyData.strOk z = true ∧ b = nameB z) ∨ (IsTy K H x "str" false ∧ b = false)) ∧ ∀ H', Same H H' → Q (.bl b) H'
def signOf (c : Nat) : Str := ⟨#[c]⟩
theorem alpha (c : Nat) : decide (c ∈ (Str.ofString "abcdefghijklmnopqrstuvwxyz").cps.toList) = okC c := by
  have e : (Str.ofString "abcdefghijklmnopqrstuvwxyz").cps.toList = [97, 98, 99, 100, 101, 102, 103, 104, 105, 106, 107, 108, 109, 110, 111, 112, 113, 114, 115, 116, 117, 118, 119, 120, 121, 122] := by decide +kernel
  rw [e]
  unfold okC
  by_cases h : 97 ≤ c ∧ c ≤ 122
  · rw [decide_eq_true h.1, decide_eq_true h.2]
    refine decide_eq_true ?_
    simp only [List.mem_cons, List.not_mem_nil, or_false]
    omega
  · have h2 : (decide (97 ≤ c) && decide (c ≤ 122)) = false := by
      apply Bool.eq_false_iff.mpr
      intro q
      rw [Bool.and_eq_true] at q
      exact h ⟨of_decide_eq_true q.1, of_decide_eq_true q.2⟩
    rw [h2]
    refine decide_eq_false fun m => ?_
    simp only [List.mem_cons, List.not_mem_nil, or_false] at m
    omega
theorem strOk_sign {z : Str} {c : Nat} (h : PyData.strOk z = true) (m : c ∈ z.cps.toList) : PyData.strOk (signOf c) = true := by
  unfold PyData.strOk at h ⊢
  rw [← Array.all_toList, List.all_eq_true] at h
  show (#[c] : Array Nat).all _ = true
  simpa using h c m
theorem filter_take {α : Type} (p : α → Bool) {l : List α} {i : Nat} {x : α} (h : l[i]? = some x) : (l.take (i + 1)).filter p = (l.take i).filter p ++ if p x = true then [x] else [] := by
  rw [take_snoc h, List.filter_append]
  by_cases q : p x = true
  · rw [if_pos q]; simp [q]
  · rw [if_neg q]; simp [q]
section
variable {P : Program} {w : World} {K : PySem.W.Frag} {mg : Str → Option Value} {base : Heap}
theorem ok_due {f : Addr} {fd : FuncData} (F : Fun K "_law_is_due" "_law_is_due" s_is_due f fd) (T : Names2 mg) : FnOk P w K mg base CX0 1 f fd ["value"] (spDue K) := by
  have nd := sc_is_due.nd
  refine F.ok sc_is_due (fun vs H Q E h => ?_) (fun cdv A outer s H vs Q E hr h => ?_)
  · obtain ⟨x, b, rfl, _⟩ := h
    rfl
  · obtain ⟨x, b, rfl, hx, k⟩ := h
    refine ⟨_, (pss_cons
    (ps_if (PW.pt (pw_or (pt_not (pt_val (pe_callB call_isi (by rfl) T.isinstance (by decide +kernel) (pa_cons (pv 0) (pa_cons (pe_bltn (v := .ty "str") (by rfl) T.str (by decide +kernel) rfl) pa_nil))))) (pw_or1 (pt_not (pt_chain op_le op_le pe_int (pe_callB call_len_str (by rfl) T.len (by decide +kernel) (pa_cons (pv 0) pa_nil)) pe_int))))) (pss_one
      (ps_ret pe_bl)) pss_nil)
    (pss_one
    (ps_ret (pe_cmpR (op_eqD hr.units) (pe_lc (own := [("sign", 1)]) (g := (gName 1)) rfl nd (pi_str (pv 0)) (blkOk_by (N := N_is_due) (sc := defScope s_is_due) (by decide +kernel)) (fun _ _ _ _ _ => (pg_name (i := 1) nd rfl (Or.inl rfl))) (fun _ _ _ _ _ => (pts_one (pt_cmpR op_notIn_sign (pv 1) pe_str rfl))) (fun _ _ _ _ _ => (pv 1))) (pe_lst pa_nil) (nomark _))))), ?_⟩
    rcases hx with ⟨z, rfl, hz, hok, eb⟩ | ⟨⟨t, ty, e⟩, rfl⟩
    · refine ⟨_, rfl, _, _, _, _, true, rfl, .ty _, .base (.str z), kit_ty (by decide +kernel), _, rfl, iteF ?_⟩
      refine ⟨_, rfl, z, rfl, hz, _, _, rfl, rfl, _, rfl, ite2 (fun h1 => ?_) (fun h1 => ?_)⟩
      · refine ⟨_, _, rfl, rfl, _, rfl, ?_⟩
        by_cases h8 : ((z.length : Nat) : Int) ≤ 8
        · rw [decide_eq_true h8]
          refine iteF ⟨_, rfl, z, rfl, fun D hD => ?_⟩
          refine lc_acc walk_str (fun i => (((z.cps.toList.take i).filter fun c => !okC c).map fun c => V.str (signOf c))) rfl hD (fun i hi => ?_) (fun _ _ => trivial) (fun i x H1 H2 N hi s1 y keep skip => ?_) (fun H1 s1 hL => ?_)
          · have h8' : z.cps.size ≤ 8 := by exact_mod_cast h8
            have : (8 : Nat) < sizeLine := by decide
            have h2 := List.length_filter_le (fun c => !okC c) (z.cps.toList.take i)
            rw [List.length_take] at h2
            rw [List.length_map]; omega
          · obtain ⟨rfl, c, hc, rfl⟩ := y
            have hc' : z.cps.toList[i]? = some c := by rw [← hc]; simp
            have hf := filter_take (fun c => !okC c) hc'
            refine ⟨rfl, _, rfl, c, _, rfl, rfl, _, rfl, ?_⟩
            rw [alpha]
            cases ec : okC c with
            | true =>
              refine iteF (skip _ (Same.refl _) ?_)
              rw [hf, ec]; simp
            | false =>
              refine iteT ⟨_, rfl, keep _ _ (Same.refl _) ?_⟩
              rw [hf, ec]; simp [signOf]
          · refine ⟨Nat.zero_le _, fun q hq => ?_⟩
            have nDq : D ≠ q := ne_of_none hL hq
            have hfil : ∀ x ∈ (z.cps.toList.filter fun c => !okC c).map signOf, PyData.strOk x = true := fun x hx => by
              obtain ⟨c, hc, rfl⟩ := List.mem_map.mp hx
              exact strOk_sign hok (List.mem_filter.mp hc).1
            refine ⟨.list (((z.cps.toList.filter fun c => !okC c).map signOf).map PyData.str), .list [], .lst (xs := ((z.cps.toList.filter fun c => !okC c).map signOf).map V.str) (SqL.of ?_) (dp_strs _), .lst (SqL.of upd_same) .nil, shaped_strs _ hfil, shaped_strs [] (by simp), ?_⟩
            · rw [upd_ne nDq, hL, List.take_of_length_le (by simp), List.map_map]; rfl
            · rw [eqv_nil]
              have e : ((z.cps.toList.filter fun c => !okC c).map signOf).isEmpty = b := by
                rw [eb]
                unfold nameB
                have h1' : 1 ≤ z.length := by have := of_decide_eq_true h1; omega
                rw [decide_eq_true h1', decide_eq_true (by omega : z.length ≤ 8), Bool.true_and, Bool.true_and, List.isEmpty_map]
                show _ = z.cps.toList.all okC
                induction z.cps.toList with
                | nil => rfl
                | cons c r ih =>
                  rw [List.all_cons]
                  cases ec : okC c with
                  | true => rw [Bool.true_and, ← ih, List.filter_cons]; simp [ec]
                  | false => rw [Bool.false_and, List.filter_cons]; simp [ec]
              rw [e]
              exact k _ (Same.new s1 hq)
        · rw [decide_eq_false h8]
          have e : b = false := by
            rw [eb]; unfold nameB
            rw [decide_eq_false (by omega : ¬ z.length ≤ 8), Bool.and_false, Bool.false_and]
          subst e
          exact k H (Same.refl H)
      · have e : b = false := by
          rw [eb]; unfold nameB
          have h1' : ¬ 1 ≤ z.length := by intro q; exact h1 (decide_eq_true (by omega))
          rw [decide_eq_false h1', Bool.false_and, Bool.false_and]
        subst e
        exact ⟨_, rfl, k H (Same.refl H)⟩
    · refine ⟨_, rfl, _, _, t, _, false, rfl, .ty _, ty, e, _, rfl, iteT (iteT ?_)⟩
      exact k H (Same.refl H)
end
/-! ### are_due -/
abbrev s_are_due : Stmt := topS 20
abbrev N_are_due : List Str := ["value", "one"]
theorem sc_are_due : FnScope N_are_due ["value"] (defScope s_are_due) := ⟨rfl, rfl, rfl, by decide +kernel, rfl, by decide +kernel, by decide +kernel⟩
def GoodS (z : Str) : Prop := z.length ≤ sizeLine ∧ PyData.strOk z = true
def spAre : Sp := fun vs H Q _ => ∃ (a : Addr) (zs : List Str), vs = [.ref a] ∧ H a = some (.tup (zs.map V.str)) ∧ zs.length ≤ 60 ∧ (∀ z ∈ zs, GoodS z) ∧ ∀ H', Same H H' → Q (.bl (colsB (zs.map some))) H'
theorem eqv_strs : ∀ xs ys : List Str, PyData.eqv (.list (xs.map PyData.str)) (.list (ys.map PyData.str)) = decide (xs = ys)
  | [], [] => by rfl
  | [], _ :: _ => by rfl
  | _ :: _, [] => by rfl
  | x :: r, y :: q => by
    have ih := eqv_strs r q
    have e : PyData.eqv (.list ((x :: r).map PyData.str)) (.list ((y :: q).map PyData.str)) = ((x == y) && PyData.eqv (.list (r.map PyData.str)) (.list (q.map PyData.str))) := rfl
    rw [e, ih]
    by_cases h : x = y
    · subst h; simp
    · have h2 : (x == y) = false := by simpa using h
      rw [h2, Bool.false_and]
      exact (decide_eq_false fun w => h (List.cons.inj w).1).symm
theorem rising_pair : ∀ (p : Str) (ys : List Str), risingS p ys = true → (p :: ys).Pairwise fun a b => ¬ b.cps.toList < a.cps.toList
  | p, [], _ => List.pairwise_singleton _ _
  | p, x :: r, h => by
    have h' : (!ltCps x.cps.toList p.cps.toList && risingS x r) = true := h
    rw [Bool.and_eq_true, ltCps_eq] at h'
    have ih := rising_pair x r h'.2
    have h1 : ¬ x.cps.toList < p.cps.toList := by simpa using h'.1
    refine List.pairwise_cons.mpr ⟨fun b hb => ?_, ih⟩
    rcases List.mem_cons.mp hb with rfl | hb
    · exact h1
    · have h2 := (List.pairwise_cons.mp ih).1 b hb
      exact List.not_lt.mpr (List.le_trans (List.not_lt.mp h1) (List.not_lt.mp h2))
theorem filter_none {α : Type} (p : α → Bool) : ∀ l : List α, (l.filter fun z => !p z).isEmpty = l.all p
  | [] => rfl
  | c :: r => by
    rw [List.all_cons, List.filter_cons]
    cases e : p c with
    | true => rw [Bool.true_and, ← filter_none p r]; simp
    | false => rw [Bool.false_and]; simp
theorem sorted_pair {ys : List Str} (h : sortedS ys = true) : ys.Pairwise fun a b => ¬ b.cps.toList < a.cps.toList := by
  cases ys with
  | nil => exact List.Pairwise.nil
  | cons p r => exact rising_pair p r h
theorem cps_ext {a b : Str} (h : a.cps.toList = b.cps.toList) : a = b := by
  cases a; cases b
  congr 1
  exact Array.toList_inj.mp h
theorem sorted_lt {ys : List Str} (h : sortedS ys = true) (n : ys.Nodup) : ys.Pairwise fun a b => a.cps.toList < b.cps.toList := by
  refine (List.Pairwise.and (sorted_pair h) n).imp fun {a b} ⟨h1, h2⟩ => ?_
  by_cases q : a.cps.toList < b.cps.toList
  · exact q
  · exact absurd (cps_ext (List.le_antisymm (List.not_lt.mp h1) (List.not_lt.mp q))) h2
theorem pair_asc : ∀ {zs : List Str}, (zs.Pairwise fun a b => a.cps.toList < b.cps.toList) → ascB zs = true
  | [], _ => rfl
  | [_], _ => rfl
  | z :: y :: r, h => by
    have ih := pair_asc (List.pairwise_cons.mp h).2
    unfold ascB at ih ⊢
    simp only [List.drop_succ_cons, List.drop_zero, List.zip_cons_cons, List.all_cons, Bool.and_eq_true]
    exact ⟨decide_eq_true ((List.pairwise_cons.mp h).1 y List.mem_cons_self), ih⟩
/-- two ascending lists of the same texts are one -/
theorem asc_unique {xs ys : List Str} (hx : xs.Pairwise fun a b => a.cps.toList < b.cps.toList) (hy : ys.Pairwise fun a b => a.cps.toList < b.cps.toList) (m : ∀ z, z ∈ xs ↔ z ∈ ys) : xs = ys := by
  induction xs generalizing ys with
  | nil =>
    cases ys with
    | nil => rfl
    | cons y r => exact absurd ((m y).mpr List.mem_cons_self) (by simp)
  | cons x r ih =>
    cases ys with
    | nil => exact absurd ((m x).mp List.mem_cons_self) (by simp)
    | cons y q =>
      obtain ⟨hx1, hx2⟩ := List.pairwise_cons.mp hx
      obtain ⟨hy1, hy2⟩ := List.pairwise_cons.mp hy
      have e : x = y := by
        rcases List.mem_cons.mp ((m x).mp List.mem_cons_self) with h | h
        · exact h
        · rcases List.mem_cons.mp ((m y).mpr List.mem_cons_self) with h2 | h2
          · exact h2.symm
          · exact absurd (List.lt_trans (hx1 y h2) (hy1 x h)) (List.lt_irrefl _)
      subst e
      congr 1
      refine ih hx2 hy2 fun z => ?_
      constructor
      · intro hz
        rcases List.mem_cons.mp ((m z).mp (List.mem_cons_of_mem _ hz)) with h | h
        · subst h; exact absurd (hx1 z hz) (List.lt_irrefl _)
        · exact h
      · intro hz
        rcases List.mem_cons.mp ((m z).mpr (List.mem_cons_of_mem _ hz)) with h | h
        · subst h; exact absurd (hy1 z hz) (List.lt_irrefl _)
        · exact h
theorem eq_sorted {zs ys : List Str} (n : ys.Nodup) (m : ∀ z, z ∈ ys ↔ z ∈ zs) (st : sortedS ys = true) : decide (zs = ys) = ascB zs := by
  cases h : ascB zs with
  | true => exact decide_eq_true (asc_unique (asc_pair h) (sorted_lt st n) fun z => (m z).symm)
  | false =>
    refine decide_eq_false fun e => ?_
    rw [e, pair_asc (sorted_lt st n)] at h
    cases h
section
variable {P : Program} {w : World} {K : PySem.W.Frag} {mg : Str → Option Value} {base : Heap}
theorem ok_are {f : Addr} {fd : FuncData} (F : Fun K "_law_are_due" "_law_are_due" s_are_due f fd) (T : Names2 mg) (hset : mg "set" = none) (hsorted : mg "sorted" = none) (C1 : Callee P w K mg base CX0 1 "_law_is_due" ["value"] (spDue K)) : FnOk P w K mg base CX0 2 f fd ["value"] spAre := by
  have nd := sc_are_due.nd
  refine F.ok sc_are_due (fun vs H Q E h => ?_) (fun cdv A outer s H vs Q E hr h => ?_)
  · obtain ⟨a, zs, rfl, _⟩ := h
    rfl
  · obtain ⟨a, zs, rfl, ha, hl, hg, k⟩ := h
    refine ⟨_, (pss_cons
    (ps_if (PW.pt (pw_or (pt_not (pt_val (pe_callB call_isi (by rfl) T.isinstance (by decide +kernel) (pa_cons (pv 0) (pa_cons (pe_bltn (v := .ty "tuple") (by rfl) T.tuple (by decide +kernel) rfl) pa_nil))))) (pw_or1 (pt_cmpR (op_neD hr.units) (pe_lc (own := [("one", 1)]) (g := (gName 1)) rfl nd (pi_tup (pv 0)) (blkOk_by (N := N_are_due) (sc := defScope s_are_due) (by decide +kernel)) (fun _ _ _ _ _ => (pg_name (i := 1) nd rfl (Or.inl rfl))) (fun _ _ _ _ _ => (pts_one (pt_not (pt_val (pe_use C1 hr rfl pass0 (pa_cons (pv 1) pa_nil)))))) (fun _ _ _ _ _ => (pv 1))) (pe_lst pa_nil) (nomark _))))) (pss_one
      (ps_ret pe_bl)) pss_nil)
    (pss_one
    (ps_ret (pe_cmpR (op_eqD hr.units) (pe_callTy call_list_of (by rfl) T.list (by decide +kernel) (pa_cons (pv 0) pa_nil)) (pe_callB (cr_sortedSS rfl) (by rfl) hsorted (by decide +kernel) (pa_cons (pe_callTy (cr_setS rfl) (by rfl) hset (by decide +kernel) (pa_cons (pv 0) pa_nil)) pa_nil)) (nomark _))))), ?_⟩
    refine ⟨_, rfl, _, _, _, _, true, rfl, .ty _, .base (.tup ha), kit_ty (by decide +kernel), _, rfl, iteF ?_⟩
    refine ⟨_, rfl, a, rfl, ⟨_, SqT.of ha⟩, fun D hD => ?_⟩
    refine lc_acc walk_tup (fun i => (((zs.take i).filter fun z => !nameB z).map V.str)) rfl hD (fun i hi => ?_) (fun H1 s1 => SqT.of (s1 _ _ ha)) (fun i x H1 H2 N hi s1 y keep skip => ?_) (fun H1 s1 hL => ?_)
    · have : (60 : Nat) < sizeLine := by decide
      have h2 := List.length_filter_le (fun z => !nameB z) (zs.take i)
      rw [List.length_take] at h2
      rw [List.length_map]; omega
    · obtain ⟨rfl, hx⟩ := y
      rw [List.getElem?_map] at hx
      obtain ⟨z, ez, rfl⟩ := Option.map_eq_some_iff.mp hx
      obtain ⟨g1, g2⟩ := hg z (List.mem_of_getElem? ez)
      have hf := filter_take (fun z => !nameB z) ez
      refine ⟨rfl, _, rfl, _, nameB z, rfl, .inl ⟨z, rfl, g1, g2, rfl⟩, fun H3 s3 => ⟨_, rfl, ?_⟩⟩
      cases ec : nameB z with
      | true =>
        refine iteF (skip _ s3 ?_)
        rw [hf, ec]; simp
      | false =>
        refine iteT ⟨_, rfl, keep _ _ s3 ?_⟩
        rw [hf, ec]; simp
    · refine ⟨Nat.zero_le _, fun q hq => ?_⟩
      have nDq : D ≠ q := ne_of_none hL hq
      have hfil : ∀ x ∈ (zs.filter fun z => !nameB z), PyData.strOk x = true := fun x hx => (hg x (List.mem_filter.mp hx).1).2
      refine ⟨.list ((zs.filter fun z => !nameB z).map PyData.str), .list [], .lst (xs := (zs.filter fun z => !nameB z).map V.str) (SqL.of ?_) (dp_strs _), .lst (SqL.of upd_same) .nil, shaped_strs _ hfil, shaped_strs [] (by simp), _, rfl, ?_⟩
      · rw [upd_ne nDq, hL, List.take_of_length_le (by simp)]
      · rw [eqv_nil]
        have en : (zs.filter fun z => !nameB z).isEmpty = zs.all nameB := filter_none nameB zs
        have ec : colsB (zs.map some) = (zs.all nameB && ascB zs) := by
          unfold colsB
          rw [List.all_map, List.filterMap_map]
          congr 1
          congr 1
          exact List.filterMap_some
        rw [en]
        rw [ec] at k
        cases ha2 : zs.all nameB with
        | false =>
          rw [ha2, Bool.false_and] at k
          exact k _ (Same.new s1 hq)
        | true =>
          rw [ha2, Bool.true_and] at k
          have s2 : Same H (upd H1 q (.lst [])) := Same.new s1 hq
          refine ⟨_, rfl, a, _, rfl, .inr (SqT.of (s2 _ _ ha)), fun l hl1 => ?_⟩
          have s3 := Same.new (o := .lst (zs.map V.str)) s2 hl1
          refine ⟨_, rfl, a, zs, rfl, SqT.of (s3 _ _ ha), by omega, fun p hp => ?_⟩
          refine ⟨p, zs, rfl, upd_same, by omega, fun ys r n m st hr0 => ?_⟩
          have npl : l ≠ p := fun e => by subst e; rw [upd_same] at hp; cases hp
          have nrp : r ≠ p := fun e => by subst e; rw [upd_same] at hr0; cases hr0
          have nrl : l ≠ r := fun e => by subst e; rw [upd_ne npl, upd_same] at hr0; cases hr0
          refine ⟨_, _, .lst (SqL.of (by rw [upd_ne nrl, upd_ne npl]; exact upd_same)) (dp_strs zs), .lst (SqL.of upd_same) (dp_strs ys), shaped_strs _ (fun z hz => (hg z hz).2), shaped_strs _ (fun z hz => (hg z ((m z).mp hz)).2), ?_⟩
          rw [eqv_strs, eq_sorted n m st]
          exact k _ (Same.new (Same.new s3 hp) hr0)
end
end K1

/-! ## K11 -/
set_option Elab.async false
set_option linter.all false
set_option maxRecDepth 100000
set_option maxHeartbeats 4000000
namespace K1
open PySem PySem.Spec PyProof.Rows L2
/-- a comprehension whose turns roll the dice at d -/
theorem lc_accB {J : It} {n : Nat} {G : Hp → Prop} {Y : Nat → Hp → V → Hp → Prop} (w : Walk J n G Y) {g : TG} {tt : TT} {te : TE} {vs : List Nat} {σ : L2.St} {H0 : Hp} {D d : Addr} {Qd : Hp → Prop} (I : Nat → List V → Prop) (a0 : I 0 []) (hD : H0 D = none) (hd0 : Dice H0 d)
    (hlen : ∀ i l, i < n → I i l → l.length < sizeLine) (hG : ∀ H, But d H0 H → Dice H d → G H)
    (hs : ∀ i l x H H' (N : Hp → Prop), i < n → I i l → But d H0 H → Dice H d → Y i H x H' → (∀ H4 y, But d H H4 → Dice H4 d → I (i + 1) (l ++ [y]) → ∃ a, H4 D = some (.lst a) ∧ a.length < sizeLine ∧ N (upd H4 D (.lst (a ++ [y])))) →
      g x (wipe σ vs) H' fun σ2 H2 => wipe σ2 vs = wipe σ vs ∧ tt σ2 H2 fun b H3 => if b = true then te σ2 H3 fun y H4 => ∃ a, H4 D = some (.lst a) ∧ a.length < sizeLine ∧ N (upd H4 D (.lst (a ++ [y]))) else N H3)
    (hd : ∀ H l, I n l → But d H0 H → Dice H d → H D = some (.lst l) → Qd H) :
    ∃ W : Nat → Nat → Hp → Prop, (∃ m, W 0 m (upd H0 D (.lst []))) ∧ ∀ i m H, W i m H →
      (J.stop i H ∧ Qd H) ∨ (J.go i H ∧ ∃ Nx : Hp → Prop, (∀ H', Nx H' → ∃ m', m' < m ∧ W (i + 1) m' H') ∧ ∀ x H', J.yld i H x H' → g x (wipe σ vs) H' fun σ2 H2 => wipe σ2 vs = wipe σ vs ∧ tt σ2 H2 fun b H3 =>
        if b = true then te σ2 H3 fun y H4 => ∃ a, H4 D = some (.lst a) ∧ a.length < sizeLine ∧ Nx (upd H4 D (.lst (a ++ [y]))) else Nx H3) := by
  have nD : D ≠ d := (hd0.ne_none hD).symm
  refine lc_it w (fun i H => But d H0 H ∧ Dice H d ∧ ∃ l, I i l ∧ H D = some (.lst l)) ⟨(But.refl d H0).new hD, hd0.new hD, [], a0, upd_same⟩ (fun i H _ p => hG H p.1 p.2.1) (fun i x H H' hi p y => ?_) (fun H p => ?_)
  · obtain ⟨p1, p2, l, hl, hDl⟩ := p
    refine hs i l x H H' _ hi hl p1 p2 y (fun H4 y' s e hI => ⟨l, s _ _ nD hDl, hlen i l hi hl, ?_, ?_, l ++ [y'], hI, upd_same⟩)
    · intro c o nc q
      rw [upd_ne (ne_of_none q hD)]
      exact s _ _ nc (p1 _ _ nc q)
    · obtain ⟨u, v, z, e⟩ := e
      exact ⟨u, v, z, by rw [upd_ne nD.symm]; exact e⟩
  · obtain ⟨p1, p2, l, hl, hDl⟩ := p
    exact hd H l hl p1 p2 hDl
/-! ### sign, string -/
abbrev s_sign : Stmt := topS 21
abbrev N_sign : List Str := ["dice"]
theorem sc_sign : FnScope N_sign ["dice"] (defScope s_sign) := ⟨rfl, rfl, rfl, by decide +kernel, rfl, by decide +kernel, by decide +kernel⟩
def spSign : Sp := fun vs H Q _ => ∃ d : Addr, vs = [.ref d] ∧ Dice H d ∧ ∀ (c : Nat) H', c < 128 → But d H H' → Dice H' d → Q (.str ⟨#[c]⟩) H'
abbrev s_string : Stmt := topS 22
abbrev N_string : List Str := ["dice", "turn"]
theorem sc_string : FnScope N_string ["dice"] (defScope s_string) := ⟨rfl, rfl, rfl, by decide +kernel, rfl, by decide +kernel, by decide +kernel⟩
def spString : Sp := fun vs H Q _ => ∃ d : Addr, vs = [.ref d] ∧ Dice H d ∧ ∀ (z : Str) H', PyData.strOk z = true → z.length ≤ 10 → But d H H' → Dice H' d → Q (.str z) H'
theorem join_cps0 : ∀ ys : List Str, (Str.join Str.empty ys).cps.toList = (ys.map (·.cps.toList)).flatten
  | [] => rfl
  | [x] => by show x.cps.toList = _; simp
  | x :: y :: r => by
    have ih := join_cps0 (y :: r)
    show ((x ++ Str.empty) ++ Str.join Str.empty (y :: r)).cps.toList = _
    have e : ∀ a b : Str, (a ++ b).cps.toList = a.cps.toList ++ b.cps.toList := fun a b => Array.toList_append
    rw [e, e, ih]
    simp [Str.empty]
theorem join_cps (ys : List Str) : (Txt.join Str.empty ys).cps.toList = (ys.map (·.cps.toList)).flatten := by
  rw [eq_of_beq (join_plain_closes Str.empty ys), join_cps0]
section
variable {P : Program} {w : World} {K : PySem.W.Frag} {mg : Str → Option Value} {base : Heap}
theorem ok_sign {f : Addr} {fd : FuncData} (F : Fun K "_law_sign" "_law_sign" s_sign f fd) (C1 : Callee P w K mg base CX0 2 "_law_pick" ["dice", "items"] spPick) : FnOk P w K mg base CX0 3 f fd ["dice"] spSign := by
  have nd := sc_sign.nd
  refine F.ok sc_sign (fun vs H Q E h => ?_) (fun cdv A outer s H vs Q E hr h => ?_)
  · obtain ⟨d, rfl, _⟩ := h
    rfl
  · obtain ⟨d, rfl, hd, k⟩ := h
    refine ⟨_, (pss_one
    (ps_ret (pe_use C1 hr rfl pass0 (pa_cons (pv 0) (pa_cons (pe_lst (pa_cons pe_str (pa_cons pe_str (pa_cons pe_str (pa_cons pe_str (pa_cons pe_str (pa_cons pe_str (pa_cons pe_str (pa_cons pe_str (pa_cons pe_str (pa_cons pe_str (pa_cons pe_str (pa_cons pe_str (pa_cons pe_str (pa_cons pe_str pa_nil))))))))))))))) pa_nil))))), ?_⟩
    refine ⟨_, rfl, (by show 14 ≤ sizeLine; decide), fun l hl => ?_⟩
    refine ⟨d, l, _, rfl, hd.new hl, .inl upd_same, (hd.ne_none hl).symm, by simp, by show 14 ≤ 1000; decide, fun x H' hx s' hd' => ?_⟩
    have hc : ∃ c : Nat, c < 128 ∧ x = .str ⟨#[c]⟩ := by
      simp only [List.mem_cons, List.not_mem_nil, or_false] at hx
      rcases hx with rfl | rfl | rfl | rfl | rfl | rfl | rfl | rfl | rfl | rfl | rfl | rfl | rfl | rfl
      all_goals first
        | exact ⟨97, by decide, rfl⟩ | exact ⟨98, by decide, rfl⟩ | exact ⟨113, by decide, rfl⟩ | exact ⟨122, by decide, rfl⟩ | exact ⟨65, by decide, rfl⟩ | exact ⟨90, by decide, rfl⟩
        | exact ⟨95, by decide, rfl⟩ | exact ⟨32, by decide, rfl⟩ | exact ⟨48, by decide, rfl⟩ | exact ⟨123, by decide, rfl⟩ | exact ⟨10, by decide, rfl⟩ | exact ⟨46, by decide, rfl⟩
    obtain ⟨c, hc, rfl⟩ := hc
    exact k c H' hc (fun b o n e => s' b o n (by rw [upd_ne (ne_of_none e hl)]; exact e)) hd'
theorem ok_string {f : Addr} {fd : FuncData} (F : Fun K "_law_string" "_law_string" s_string f fd) (hrange : mg "range" = none) (C1 : Callee P w K mg base CX0 2 "_law_pick" ["dice", "items"] spPick) (C2 : Callee P w K mg base CX0 3 "_law_sign" ["dice"] spSign) : FnOk P w K mg base CX0 4 f fd ["dice"] spString := by
  have nd := sc_string.nd
  refine F.ok sc_string (fun vs H Q E h => ?_) (fun cdv A outer s H vs Q E hr h => ?_)
  · obtain ⟨d, rfl, _⟩ := h
    rfl
  · obtain ⟨d, rfl, hd, k⟩ := h
    have hr2 : Room 2 _ := hr.mono (by decide)
    refine ⟨_, (pss_one
    (ps_ret (pe_join pe_str (pe_lc (own := [("turn", 1)]) (g := (gName 1)) rfl nd (pi_range1 (by rfl) hrange (pa_cons (pe_use C1 hr2 rfl pass0 (pa_cons (pv 0) (pa_cons (pe_lst (pa_cons pe_int (pa_cons pe_int (pa_cons pe_int (pa_cons pe_int (pa_cons pe_int (pa_cons pe_int (pa_cons pe_int (pa_cons pe_int pa_nil))))))))) pa_nil))) pa_nil)) (blkOk_by (N := N_string) (sc := defScope s_string) (by decide +kernel)) (fun _ _ _ _ _ => (pg_name (i := 1) nd rfl (Or.inl rfl))) (fun _ _ _ _ _ => pts_nil) (fun _ _ _ _ _ => (pe_use C2 hr rfl pass0 (pa_cons (pv 0) pa_nil))))))), ?_⟩
    refine ⟨⟨_, rfl⟩, _, rfl, (by show 8 ≤ sizeLine; decide), fun l hl => ?_⟩
    refine ⟨d, l, _, rfl, hd.new hl, .inl upd_same, (hd.ne_none hl).symm, by simp, by show 8 ≤ 1000; decide, fun x H1 hx s1 hd1 => ?_⟩
    have hc : ∃ n : Nat, n ≤ 10 ∧ x = .int n := by
      simp only [List.mem_cons, List.not_mem_nil, or_false] at hx
      rcases hx with rfl | rfl | rfl | rfl | rfl | rfl | rfl | rfl
      · exact ⟨0, by decide, rfl⟩
      · exact ⟨1, by decide, rfl⟩
      · exact ⟨2, by decide, rfl⟩
      · exact ⟨3, by decide, rfl⟩
      · exact ⟨7, by decide, rfl⟩
      · exact ⟨8, by decide, rfl⟩
      · exact ⟨9, by decide, rfl⟩
      · exact ⟨10, by decide, rfl⟩
    obtain ⟨n, hn, rfl⟩ := hc
    have s01 : But d H H1 := fun b o nb e => s1 b o nb (by rw [upd_ne (ne_of_none e hl)]; exact e)
    refine ⟨_, rfl, by omega, by omega, fun D hD => ?_⟩
    rw [show ((n : Int)).toNat = n from Int.toNat_natCast n]
    refine lc_accB (d := d) (walk_range (lo := 0) (n := n)) (fun i L => ∃ ys : List Str, L = ys.map V.str ∧ ys.length = i ∧ ∀ y ∈ ys, ∃ c, c < 128 ∧ y = ⟨#[c]⟩) ⟨[], rfl, rfl, by simp⟩ hD hd1 (fun i L hi hL => ?_) (fun _ _ _ => trivial) (fun i L x H2 H3 N hi hL s2 hd2 y keep => ?_) (fun H2 L hL s2 hd2 hDL => ?_)
    · obtain ⟨ys, rfl, e, _⟩ := hL
      have : (10 : Nat) < sizeLine := by decide
      rw [List.length_map]; omega
    · obtain ⟨rfl, rfl⟩ := y
      obtain ⟨ys, rfl, e, hc⟩ := hL
      refine ⟨rfl, _, rfl, d, rfl, hd2, fun c H4 h128 s4 hd4 => keep _ _ s4 hd4 ⟨ys ++ [⟨#[c]⟩], by rw [List.map_append]; rfl, by simp [e], fun y hy => ?_⟩⟩
      rcases List.mem_append.mp hy with h | h
      · exact hc y h
      · rw [List.mem_singleton] at h; exact ⟨c, h128, h⟩
    · obtain ⟨ys, rfl, e, hc⟩ := hL
      have hflat : ∀ ys : List Str, (∀ y ∈ ys, ∃ c, c < 128 ∧ y = (⟨#[c]⟩ : Str)) → ((ys.map (·.cps.toList)).flatten).length = ys.length ∧ (∀ c ∈ (ys.map (·.cps.toList)).flatten, c < 128) ∧ (ys.map (·.length)).sum = ys.length := by
        intro ys
        induction ys with
        | nil => intro _; simp
        | cons y r ih =>
          intro h
          obtain ⟨c, h1, rfl⟩ := h y List.mem_cons_self
          obtain ⟨i1, i2, i3⟩ := ih fun z hz => h z (List.mem_cons_of_mem _ hz)
          refine ⟨by simp [i1, Nat.add_comm], ?_, ?_⟩
          · intro a ha
            simp only [List.map_cons, List.flatten_cons, List.mem_append] at ha
            rcases ha with q | q
            · simp at q; omega
            · exact i2 a q
          · simp only [List.map_cons, List.sum_cons, i3, List.length_cons]
            show 1 + r.length = r.length + 1
            omega
      obtain ⟨f1, f2, f3⟩ := hflat ys hc
      refine ⟨_, D, ys, rfl, rfl, .inl (SqL.of hDL), by rw [f3]; show ys.length + ys.length * 0 ≤ _; omega, ?_⟩
      have ej := join_cps ys
      refine k _ H2 ?_ ?_ (s01.trans s2) hd2
      · unfold PyData.strOk
        rw [← Array.all_toList, List.all_eq_true]
        intro c hcm
        have hcm' : c ∈ (ys.map (·.cps.toList)).flatten := by rw [← ej]; exact hcm
        have := f2 c hcm'
        exact decide_eq_true (by omega)
      · have hl2 : (Txt.join Str.empty ys).length = ys.length := by
          show (Txt.join Str.empty ys).cps.size = _
          rw [← Array.length_toList, ej, f1]
        have hl3 : (Txt.join (Str.ofString "") ys).length = ys.length := hl2
        omega
end
end K1

/-! ## K12 -/
set_option Elab.async false
set_option linter.all false
set_option maxRecDepth 100000
set_option maxHeartbeats 4000000
namespace K1
open PySem PySem.Spec PyProof.Rows L2
theorem alloc {H : Hp} {p : Addr} {o : HO} (h : H p = none) : ∃ H' : Hp, H' = upd H p o ∧ Same H H' ∧ H' p = some o := ⟨_, rfl, Same.new (Same.refl H) h, upd_same⟩
/-! ### odd values -/
abbrev s_odd : Stmt := topS 23
abbrev N_odd : List Str := ["dice", "some"]
theorem sc_odd : FnScope N_odd ["dice"] (defScope s_odd) := ⟨rfl, rfl, rfl, by decide +kernel, rfl, by decide +kernel, by decide +kernel⟩
def spOdd (K : PySem.W.Frag) : Sp := fun vs H Q _ => ∃ d : Addr, vs = [.ref d] ∧ Dice H d ∧ ∀ (x : V) H', ColsArg K H' x none → But d H H' → Dice H' d → Q x H'
section
variable {P : Program} {w : World} {K : PySem.W.Frag} {mg : Str → Option Value} {base : Heap}
theorem ok_odd {f : Addr} {fd : FuncData} (F : Fun K "_law_odd" "_law_odd" s_odd f fd) (C1 : Callee P w K mg base CX0 2 "_law_pick" ["dice", "items"] spPick) : FnOk P w K mg base CX0 3 f fd ["dice"] (spOdd K) := by
  have nd := sc_odd.nd
  refine F.ok sc_odd (fun vs H Q E h => ?_) (fun cdv A outer s H vs Q E hr h => ?_)
  · obtain ⟨d, rfl, _⟩ := h
    rfl
  · obtain ⟨d, rfl, hd, k⟩ := h
    refine ⟨_, (pss_cons
    (ps_set (i := 1) nd rfl (Or.inl rfl) (pe_lst (pa_cons pe_non (pa_cons pe_int (pa_cons pe_str (pa_cons pe_str (pa_cons (pe_lst pa_nil) (pa_cons (pe_lst (pa_cons pe_str pa_nil)) (pa_cons pe_dnewK (pa_cons (pe_tup (pa_cons pe_str (pa_cons pe_str pa_nil))) (pa_cons (pe_tup (pa_cons pe_str (pa_cons pe_str pa_nil))) (pa_cons (pe_tup (pa_cons pe_str (pa_cons pe_str pa_nil))) (pa_cons (pe_tup (pa_cons pe_str pa_nil)) (pa_cons (pe_tup (pa_cons pe_int pa_nil)) (pa_cons (pe_tup (pa_cons pe_non pa_nil)) (pa_cons (pe_tup (pa_cons (pe_tup (pa_cons pe_str pa_nil)) pa_nil)) pa_nil))))))))))))))))
    (pss_one
    (ps_ret (pe_use C1 hr rfl pass0 (pa_cons (pv 0) (pa_cons (pe_op op_cat (pv 1) (pe_lst (pa_cons pe_bl (pa_cons (pe_tup (pa_cons pe_str (pa_cons pe_str pa_nil))) (pa_cons (pe_tup (pa_cons pe_str (pa_cons pe_str pa_nil))) (pa_cons (pe_disp (pps_cons pe_str pe_int pps_nil) (by rfl) (by rfl) (fun z => by cases z) (by decide)) (pa_cons (pe_tup (pa_cons pe_str (pa_cons pe_str (pa_cons pe_str pa_nil)))) pa_nil))))))) pa_nil)))))), ?_⟩
    refine ⟨(by show 0 ≤ sizeLine; decide), fun p1 q1 => ?_⟩
    obtain ⟨H1, e1, s1, f1⟩ := alloc (o := .lst []) q1
    rw [← e1]
    refine ⟨(by show 1 ≤ sizeLine; decide), fun p2 q2 => ?_⟩
    obtain ⟨H2, e2, s2, f2⟩ := alloc (o := .lst [.str "a"]) q2
    rw [← e2]
    refine fun p3 q3 => ?_
    obtain ⟨H3, e3, s3, f3⟩ := alloc (o := .dK []) q3
    rw [← e3]
    refine ⟨(by show 2 ≤ sizeLine; decide), fun p4 q4 => ?_⟩
    obtain ⟨H4, e4, s4, f4⟩ := alloc (o := .tup [.str "b", .str "a"]) q4
    rw [← e4]
    refine ⟨(by show 2 ≤ sizeLine; decide), fun p5 q5 => ?_⟩
    obtain ⟨H5, e5, s5, f5⟩ := alloc (o := .tup [.str "a", .str "a"]) q5
    rw [← e5]
    refine ⟨(by show 2 ≤ sizeLine; decide), fun p6 q6 => ?_⟩
    obtain ⟨H6, e6, s6, f6⟩ := alloc (o := .tup [.str "a", .str "B"]) q6
    rw [← e6]
    refine ⟨(by show 1 ≤ sizeLine; decide), fun p7 q7 => ?_⟩
    obtain ⟨H7, e7, s7, f7⟩ := alloc (o := .tup [.str ""]) q7
    rw [← e7]
    refine ⟨(by show 1 ≤ sizeLine; decide), fun p8 q8 => ?_⟩
    obtain ⟨H8, e8, s8, f8⟩ := alloc (o := .tup [.int 1]) q8
    rw [← e8]
    refine ⟨(by show 1 ≤ sizeLine; decide), fun p9 q9 => ?_⟩
    obtain ⟨H9, e9, s9, f9⟩ := alloc (o := .tup [.non]) q9
    rw [← e9]
    refine ⟨(by show 1 ≤ sizeLine; decide), fun p10 q10 => ?_⟩
    obtain ⟨H10, e10, s10, f10⟩ := alloc (o := .tup [.str "a"]) q10
    rw [← e10]
    refine ⟨(by show 1 ≤ sizeLine; decide), fun p11 q11 => ?_⟩
    obtain ⟨H11, e11, s11, f11⟩ := alloc (o := .tup [.ref p10]) q11
    rw [← e11]
    refine ⟨(by show 14 ≤ sizeLine; decide), fun p12 q12 => ?_⟩
    obtain ⟨H12, e12, s12, f12⟩ := alloc (o := .lst [.non, .int 0, .str "a", .str "who", .ref p1, .ref p2, .ref p3, .ref p4, .ref p5, .ref p6, .ref p7, .ref p8, .ref p9, .ref p11]) q12
    rw [← e12]
    refine ⟨_, rfl, _, rfl, ?_⟩
    refine ⟨(by show 2 ≤ sizeLine; decide), fun p13 q13 => ?_⟩
    obtain ⟨H13, e13, s13, f13⟩ := alloc (o := .tup [.str "a", .str "ninechars"]) q13
    rw [← e13]
    refine ⟨(by show 2 ≤ sizeLine; decide), fun p14 q14 => ?_⟩
    obtain ⟨H14, e14, s14, f14⟩ := alloc (o := .tup [.str "a", .str ""]) q14
    rw [← e14]
    refine fun p15 q15 => ⟨upd_same, [((Sum.inr "a" : Key), V.int 1)], rfl, by decide, ?_⟩
    rw [upd_upd]
    obtain ⟨H15, e15, s15, f15⟩ := alloc (o := .dK (mergeK [] [((Sum.inr "a" : Key), V.int 1)])) q15
    rw [← e15]
    refine ⟨(by show 3 ≤ sizeLine; decide), fun p16 q16 => ?_⟩
    obtain ⟨H16, e16, s16, f16⟩ := alloc (o := .tup [.str "a", .str "b", .str "a"]) q16
    rw [← e16]
    refine ⟨(by show 5 ≤ sizeLine; decide), fun p17 q17 => ?_⟩
    obtain ⟨H17, e17, s17, f17⟩ := alloc (o := .lst [.bl true, .ref p13, .ref p14, .ref p15, .ref p16]) q17
    rw [← e17]
    refine ⟨p12, p17, _, _, rfl, rfl, (((((s13).trans s14).trans s15).trans s16).trans s17) _ _ f12, f17, (by show 14 + 5 ≤ sizeLine; decide), fun pL qL => ?_⟩
    have sA : Same H H17 := ((((((((((((((((s1).trans s2).trans s3).trans s4).trans s5).trans s6).trans s7).trans s8).trans s9).trans s10).trans s11).trans s12).trans s13).trans s14).trans s15).trans s16).trans s17
    have hdn := hd.same sA
    refine ⟨d, pL, _, rfl, hdn.new qL, .inl upd_same, (hdn.ne_none qL).symm, by simp, by show 14 + 5 ≤ 1000; decide, fun x H' hx b1 hd' => ?_⟩
    have b2 : But d H17 H' := fun c o nc e => b1 c o nc (by rw [upd_ne (ne_of_none e qL)]; exact e)
    have b3 : But d H H' := (But.same sA).trans b2
    refine k x H' ?_ b3 hd'
    have hx' : x ∈ ([.non, .int 0, .str "a", .str "who", .ref p1, .ref p2, .ref p3, .ref p4, .ref p5, .ref p6, .ref p7, .ref p8, .ref p9, .ref p11, .bl true, .ref p13, .ref p14, .ref p15, .ref p16] : List V) := hx
    simp only [List.mem_cons, List.not_mem_nil, or_false] at hx'
    have nd : ∀ {p : Addr} {o : HO}, H17 p = some o → (∀ l, o ≠ .lst l) → p ≠ d := fun {p o} e ho z => by
      obtain ⟨u, v, t, q⟩ := hdn
      rw [z, q] at e
      exact ho _ (Option.some.inj e).symm
    rcases hx' with rfl | rfl | rfl | rfl | rfl | rfl | rfl | rfl | rfl | rfl | rfl | rfl | rfl | rfl | rfl | rfl | rfl | rfl | rfl
    · exact .inl ⟨_, .base .non, kit_ty (by decide +kernel)⟩
    · exact .inl ⟨_, .base (.int _), kit_ty (by decide +kernel)⟩
    · exact .inl ⟨_, .base (.str _), kit_ty (by decide +kernel)⟩
    · exact .inl ⟨_, .base (.str _), kit_ty (by decide +kernel)⟩
    · have h := b2 _ _ (by intro z; obtain ⟨u, v, t, q⟩ := hdn; rw [← z, ((((((((((((((((s2).trans s3).trans s4).trans s5).trans s6).trans s7).trans s8).trans s9).trans s10).trans s11).trans s12).trans s13).trans s14).trans s15).trans s16).trans s17) _ _ f1] at q; simp at q) (((((((((((((((((s2).trans s3).trans s4).trans s5).trans s6).trans s7).trans s8).trans s9).trans s10).trans s11).trans s12).trans s13).trans s14).trans s15).trans s16).trans s17) _ _ f1)
      exact .inl ⟨_, .base (.lst h), kit_ty (by decide +kernel)⟩
    · have h := b2 _ _ (by intro z; obtain ⟨u, v, t, q⟩ := hdn; rw [← z, (((((((((((((((s3).trans s4).trans s5).trans s6).trans s7).trans s8).trans s9).trans s10).trans s11).trans s12).trans s13).trans s14).trans s15).trans s16).trans s17) _ _ f2] at q; simp at q) ((((((((((((((((s3).trans s4).trans s5).trans s6).trans s7).trans s8).trans s9).trans s10).trans s11).trans s12).trans s13).trans s14).trans s15).trans s16).trans s17) _ _ f2)
      exact .inl ⟨_, .base (.lst h), kit_ty (by decide +kernel)⟩
    · have h := b2 _ _ (nd (((((((((((((((s4).trans s5).trans s6).trans s7).trans s8).trans s9).trans s10).trans s11).trans s12).trans s13).trans s14).trans s15).trans s16).trans s17) _ _ f3) (by intro l z; cases z)) (((((((((((((((s4).trans s5).trans s6).trans s7).trans s8).trans s9).trans s10).trans s11).trans s12).trans s13).trans s14).trans s15).trans s16).trans s17) _ _ f3)
      exact .inl ⟨_, .base (.dK h), kit_ty (by decide +kernel)⟩
    · have h := b2 _ _ (nd ((((((((((((((s5).trans s6).trans s7).trans s8).trans s9).trans s10).trans s11).trans s12).trans s13).trans s14).trans s15).trans s16).trans s17) _ _ f4) (by intro l z; cases z)) ((((((((((((((s5).trans s6).trans s7).trans s8).trans s9).trans s10).trans s11).trans s12).trans s13).trans s14).trans s15).trans s16).trans s17) _ _ f4)
      exact .inr ⟨_, _, [some "b", some "a"], rfl, h, by simp, (.cons (.inl ⟨_, rfl, by decide, rfl⟩) (.cons (.inl ⟨_, rfl, by decide, rfl⟩) .nil)), by decide +kernel⟩
    · have h := b2 _ _ (nd (((((((((((((s6).trans s7).trans s8).trans s9).trans s10).trans s11).trans s12).trans s13).trans s14).trans s15).trans s16).trans s17) _ _ f5) (by intro l z; cases z)) (((((((((((((s6).trans s7).trans s8).trans s9).trans s10).trans s11).trans s12).trans s13).trans s14).trans s15).trans s16).trans s17) _ _ f5)
      exact .inr ⟨_, _, [some "a", some "a"], rfl, h, by simp, (.cons (.inl ⟨_, rfl, by decide, rfl⟩) (.cons (.inl ⟨_, rfl, by decide, rfl⟩) .nil)), by decide +kernel⟩
    · have h := b2 _ _ (nd ((((((((((((s7).trans s8).trans s9).trans s10).trans s11).trans s12).trans s13).trans s14).trans s15).trans s16).trans s17) _ _ f6) (by intro l z; cases z)) ((((((((((((s7).trans s8).trans s9).trans s10).trans s11).trans s12).trans s13).trans s14).trans s15).trans s16).trans s17) _ _ f6)
      exact .inr ⟨_, _, [some "a", some "B"], rfl, h, by simp, (.cons (.inl ⟨_, rfl, by decide, rfl⟩) (.cons (.inl ⟨_, rfl, by decide, rfl⟩) .nil)), by decide +kernel⟩
    · have h := b2 _ _ (nd (((((((((((s8).trans s9).trans s10).trans s11).trans s12).trans s13).trans s14).trans s15).trans s16).trans s17) _ _ f7) (by intro l z; cases z)) (((((((((((s8).trans s9).trans s10).trans s11).trans s12).trans s13).trans s14).trans s15).trans s16).trans s17) _ _ f7)
      exact .inr ⟨_, _, [some ""], rfl, h, by simp, (.cons (.inl ⟨_, rfl, by decide, rfl⟩) .nil), by decide +kernel⟩
    · have h := b2 _ _ (nd ((((((((((s9).trans s10).trans s11).trans s12).trans s13).trans s14).trans s15).trans s16).trans s17) _ _ f8) (by intro l z; cases z)) ((((((((((s9).trans s10).trans s11).trans s12).trans s13).trans s14).trans s15).trans s16).trans s17) _ _ f8)
      exact .inr ⟨_, _, [none], rfl, h, by simp, (.cons (.inr ⟨⟨_, .base (.int _), kit_ty (by decide +kernel)⟩, rfl⟩) .nil), by decide +kernel⟩
    · have h := b2 _ _ (nd (((((((((s10).trans s11).trans s12).trans s13).trans s14).trans s15).trans s16).trans s17) _ _ f9) (by intro l z; cases z)) (((((((((s10).trans s11).trans s12).trans s13).trans s14).trans s15).trans s16).trans s17) _ _ f9)
      exact .inr ⟨_, _, [none], rfl, h, by simp, (.cons (.inr ⟨⟨_, .base .non, kit_ty (by decide +kernel)⟩, rfl⟩) .nil), by decide +kernel⟩
    · have h := b2 _ _ (nd (((((((s12).trans s13).trans s14).trans s15).trans s16).trans s17) _ _ f11) (by intro l z; cases z)) (((((((s12).trans s13).trans s14).trans s15).trans s16).trans s17) _ _ f11)
      have h10 := b2 _ _ (nd ((((((((s11).trans s12).trans s13).trans s14).trans s15).trans s16).trans s17) _ _ f10) (by intro l z; cases z)) ((((((((s11).trans s12).trans s13).trans s14).trans s15).trans s16).trans s17) _ _ f10)
      exact .inr ⟨_, _, [none], rfl, h, by simp, (.cons (.inr ⟨⟨_, .base (.tup (h10)), kit_ty (by decide +kernel)⟩, rfl⟩) .nil), by decide +kernel⟩
    · exact .inl ⟨_, .base (.bl _), kit_ty (by decide +kernel)⟩
    · have h := b2 _ _ (nd (((((s14).trans s15).trans s16).trans s17) _ _ f13) (by intro l z; cases z)) (((((s14).trans s15).trans s16).trans s17) _ _ f13)
      exact .inr ⟨_, _, [some "a", some "ninechars"], rfl, h, by simp, (.cons (.inl ⟨_, rfl, by decide, rfl⟩) (.cons (.inl ⟨_, rfl, by decide, rfl⟩) .nil)), by decide +kernel⟩
    · have h := b2 _ _ (nd ((((s15).trans s16).trans s17) _ _ f14) (by intro l z; cases z)) ((((s15).trans s16).trans s17) _ _ f14)
      exact .inr ⟨_, _, [some "a", some ""], rfl, h, by simp, (.cons (.inl ⟨_, rfl, by decide, rfl⟩) (.cons (.inl ⟨_, rfl, by decide, rfl⟩) .nil)), by decide +kernel⟩
    · have h := b2 _ _ (nd (((s16).trans s17) _ _ f15) (by intro l z; cases z)) (((s16).trans s17) _ _ f15)
      exact .inl ⟨_, .base (.dK h), kit_ty (by decide +kernel)⟩
    · have h := b2 _ _ (nd ((s17) _ _ f16) (by intro l z; cases z)) ((s17) _ _ f16)
      exact .inr ⟨_, _, [some "a", some "b", some "a"], rfl, h, by simp, (.cons (.inl ⟨_, rfl, by decide, rfl⟩) (.cons (.inl ⟨_, rfl, by decide, rfl⟩) (.cons (.inl ⟨_, rfl, by decide, rfl⟩) .nil))), by decide +kernel⟩
end
end K1

/-! ## K13 -/
set_option Elab.async false
set_option linter.all false
set_option maxRecDepth 100000
set_option maxHeartbeats 4000000
namespace K1
open PySem PySem.Spec PyProof.Rows L2
/-! ### defs that are called where nothing is being written out: A.guards = some [] -/
structure FnOkG (P : Program) (w : World) (K : PySem.W.Frag) (mg : Str → Option Value) (base : Heap) (k : Nat) (f : Addr) (fd : FuncData) (ps : List Str) (sp : Sp) : Prop where
  len : ∀ vs H Q E, sp vs H Q E → vs.length = ps.length
  run : ∀ (A : Around) (outer : List Env) (s : Shared) (H : Hp) (args : Args) (us : List Value) (vs : List V) (Q : VK), Room k A → A.guards = some [] → Env0 P w K mg base A outer s H → BindsTo s fd args (ps.zip us) → Vals vs us → sp vs H Q E0 →
    codeAny (model P w) A (.call (.ref f) args) (CR CX0 outer P w H s Q E0) s
theorem FnOkG.of {P : Program} {w : World} {K : PySem.W.Frag} {mg : Str → Option Value} {base : Heap} {k : Nat} {f : Addr} {fd : FuncData} {ps : List Str} {sp : Sp} (F : FnOk P w K mg base CX0 k f fd ps sp) : FnOkG P w K mg base k f fd ps sp :=
  ⟨F.len, fun A outer s H args us vs Q hr _ => F.run A outer s H args us vs Q E0 hr⟩
section
variable {P : Program} {w : World} {K : PySem.W.Frag} {mg : Str → Option Value} {base : Heap}
/-- a def's promise by its body, where nothing is being written out -/
theorem fn_ofG {k : Nat} {x qual : Str} {st : Stmt} {f : Addr} {fd : FuncData} {N ps : List Str} {sp : Sp} (F : Fun K x qual st f fd) (S : FnScope N ps (defScope st)) (len : ∀ vs H Q E, sp vs H Q E → vs.length = ps.length)
    (body : ∀ (cdv : Value) (A : Around) (outer : List Env) (s : Shared) (H : Hp) (vs : List V) (Q : VK), Room k (A.deeper (envOfC qual (defScope st) s.heap.objs.size f cdv)) → (A.deeper (envOfC qual (defScope st) s.heap.objs.size f cdv)).guards = some [] → sp vs H Q E0 →
      ∃ t, PSs (cxOf CX0 P w K mg base N qual (defScope st) f cdv A outer s H E0).nox (defBody st) t ∧ t { nx := fun _ H' => Q .non H', rt := Q } (L2.start N vs) H) : FnOkG P w K mg base (k + 1) f fd ps sp := by
  obtain ⟨oc, od, kV, doc, pm, an, cdv, ct, osl, rfl, lk, hcd⟩ := F.ex
  refine ⟨len, fun A outer s H args us vs Q hr hg e0 hb r hsp => LamX.run_ofS lk hcd S hr e0 hb r (len _ _ _ _ hsp) fun hr' => ?_⟩
  obtain ⟨t, h1, h2⟩ := body cdv A outer s H vs Q hr' hg hsp
  exact ⟨t, h1.nox, h2⟩
end
structure CalleeG (P : Program) (w : World) (K : PySem.W.Frag) (mg : Str → Option Value) (base : Heap) (k : Nat) (x : Str) (ps : List Str) (sp : Sp) : Prop where
  ex : ∃ f fd, mg x = some (.ref f) ∧ PySem.W.keepIn K (.ref f) = true ∧ FnOkG P w K mg base k f fd ps sp ∧ Binds K fd ps []
section
variable {X : Cx}
/-- its call -/
theorem pe_useG {k : Nat} {x : Str} {ps : List Str} {sp : Sp} {e : Expr} {es : List Expr} {t : TA} {p pos : Pos} (C : CalleeG X.prog X.w X.K X.mg X.base k x ps sp) (room : Room k X.A) (quiet : X.A.guards = some []) (hg : Gl X x) (ha : PA X (e :: es) t)
    (hd : (x == ("__debug__" : Str)) = false := by decide) (hst : starEach (e :: es) X.env = (false, eval e X.env) :: starEach es X.env := by rfl) (hpl : (backTo pos (starEach es X.env)).any (·.1) = false := by rfl) :
    PE X (.Call (.Name x p) (e :: es) [] pos) (tCall sp [] E0 t) := by
  obtain ⟨f, fd, gl, kept, F, bind⟩ := C.ex
  constructor
  intro pins s σ H Q I h
  have step : ∀ us s1, AP X pins σ (fun vs H1 => sp (vs ++ []) H1 Q E0) us s1 → X.K.In s1.heap ∧ wpAny (model X.prog X.w) X.A (call (.ref f) us) (EP X pins σ Q) X.xe s1 := by
    rintro us s1 ⟨vs, H1, J, r, q⟩
    rw [List.append_nil] at q
    have n : us.length = ps.length := r.length ▸ F.len _ _ _ _ q
    have b := bind s1 us J.kIn (by rw [List.append_nil]; exact n)
    rw [List.append_nil] at b
    refine ⟨J.kIn, wpAny_call (codeAny_mono (F.run X.A X.stack s1 H1 ⟨us, []⟩ us vs Q room quiet J.env0 b r q) fun z s2 done => ?_)⟩
    match z, done with
    | .ok (.ret u), d => exact J.after d
  exact wpAny_Call_Name_kw (ld_glob I hg gl (PySem.W.callWith_K (h₀ := X.base) I.ok.mod.kin kept (thn (ha.run pos pins s σ H _ I h) step) hst hpl) hd)
/-- repr of data -/
theorem call_reprD (quiet : X.A.guards = some []) (hu : X.A.units + 100 < cLine) : CallR X (.builtin "repr") (fun xs H Q => ∃ (x : V) (d : PyData), xs = [x] ∧ Dp X.K H x d ∧ d.showable = true ∧ d.hasDict = false ∧ d.depth ≤ 64 ∧ d.shown.length ≤ sizeLine ∧
    ((∃ a, x = .ref a) ∨ (∃ b, x = .bl b) ∨ x = .non) ∧ Q (.str d.shown) H) := by
  intro pins s σ H xs us Q I r h
  obtain ⟨x, d, rfl, dp, hs, hnd, hdep, hsz, hk, q⟩ := h
  obtain ⟨u, rfl, ru⟩ := vals1 r
  rcases hk with ⟨a, rfl⟩ | ⟨b, rfl⟩ | rfl
  · obtain ⟨as, rd⟩ := Dp.reads I d _ u dp ru
    cases ru
    refine repr_of_reads' rd hs (PyData.noDict_hsm hnd) quiet (by omega) (fun _ _ e => e) (fun h' v tk hk => ?_) hsz
    exact ⟨.str d.shown, H, I.kept (t' := tk) hk, ⟨v, rfl⟩, q⟩
  · cases dp
    cases ru
    exact PySem.P.repr_of_bool ⟨.str _, H, I.tok _, ⟨_, rfl⟩, q⟩
  · cases dp
    cases ru
    exact PySem.P.repr_of_none ⟨.str _, H, I.tok _, ⟨_, rfl⟩, q⟩
end
end K1

/-! ## K14 -/
set_option Elab.async false
set_option linter.all false
set_option maxRecDepth 100000
set_option maxHeartbeats 4000000
namespace K1
open PySem PySem.Spec PyProof.Rows L2
abbrev s_jd : Stmt := topS 26
abbrev N_jd : List Str := ["columns", "integers", "others", "more", "known", "column", "integer"]
theorem sc_jd : FnScope N_jd ["columns", "integers", "others", "more"] (defScope s_jd) := ⟨rfl, rfl, rfl, by decide +kernel, rfl, by decide +kernel, by decide +kernel⟩
def spJD : Sp := fun vs H Q _ => ∃ (a b a2 b2 : Addr) (za zb : List Str) (ia ib : List Int), vs = [.ref a, .ref b, .ref a2, .ref b2] ∧ H a = some (.tup (za.map V.str)) ∧ H b = some (.tup (ia.map V.int)) ∧ H a2 = some (.tup (zb.map V.str)) ∧ H b2 = some (.tup (ib.map V.int)) ∧
  ia.length = za.length ∧ ib.length = zb.length ∧ ascB za = true ∧ ascB zb = true ∧ za.length + zb.length < 64 ∧ spTail H Q za ia zb ib
theorem val_merge_out {k : Key} : ∀ {more kvs : List (Key × V)}, k ∉ more.map (·.1) → valV (mergeK kvs more) k = valV kvs k
  | [], _, _ => rfl
  | p :: r, kvs, h => by
    show valV (mergeK (putK kvs p.1 p.2) r) k = valV kvs k
    rw [val_merge_out fun m => h (List.mem_cons_of_mem _ m), valV_put, if_neg fun e => h (List.mem_cons.mpr (.inl e))]
theorem merge_snoc (kvs more : List (Key × V)) (p : Key × V) : mergeK kvs (more ++ [p]) = putK (mergeK kvs more) p.1 p.2 := by
  unfold mergeK
  rw [List.foldl_append]; rfl
theorem kv_take {zb : List Str} {ib : List Int} {i : Nat} {z : Str} {j : Int} (hz : zb[i]? = some z) (hj : ib[i]? = some j) : (kvOf zb ib).take (i + 1) = (kvOf zb ib).take i ++ [(Sum.inr z, V.int j)] := by
  refine take_snoc ?_
  unfold kvOf
  rw [List.getElem?_zip_eq_some]
  exact ⟨by rw [List.getElem?_map, hz]; rfl, by rw [List.getElem?_map, hj]; rfl⟩
theorem look_at : ∀ {zb : List Str} {ib : List Int} {i : Nat} {z : Str} {j : Int}, zb.Nodup → zb[i]? = some z → ib[i]? = some j → lookI zb ib z = some j
  | [], _, i, z, j, _, h, _ => by simp at h
  | _ :: _, [], i, z, j, _, _, h => by simp at h
  | y :: r, k :: q, 0, z, j, _, h1, h2 => by
    simp at h1 h2
    subst h1 h2
    unfold lookI
    simp
  | y :: r, k :: q, i + 1, z, j, n, h1, h2 => by
    obtain ⟨n1, n2⟩ := List.nodup_cons.mp n
    have h1' : r[i]? = some z := by simpa using h1
    have ih := look_at n2 h1' (by simpa using h2)
    have e : (z == y) = false := by
      simp only [beq_eq_false_iff_ne, ne_eq]
      intro e; subst e; exact n1 (List.mem_of_getElem? h1')
    unfold lookI at ih ⊢
    simp [List.lookup_cons, e, ih]
theorem not_in_take {zb : List Str} {ib : List Int} {i : Nat} {z : Str} (n : zb.Nodup) (hz : zb[i]? = some z) : (Sum.inr z : Key) ∉ ((kvOf zb ib).take i).map (·.1) := by
  intro m
  obtain ⟨p, hp, e⟩ := List.mem_map.mp m
  obtain ⟨j, hj⟩ := List.mem_iff_getElem?.mp hp
  rw [List.getElem?_take] at hj
  split at hj
  · rename_i hji
    unfold kvOf at hj
    rw [List.getElem?_zip_eq_some, List.getElem?_map] at hj
    obtain ⟨y, hy, e2⟩ := Option.map_eq_some_iff.mp hj.1
    have : y = z := Sum.inr.inj (e2.trans e)
    subst this
    have := nd_ix n hy hz
    omega
  · cases hj
section
variable {P : Program} {w : World} {K : PySem.W.Frag} {mg : Str → Option Value} {base : Heap}
theorem ok_jd {f : Addr} {fd : FuncData} (F : Fun K "_law_joined_due" "_law_joined_due" s_jd f fd) (T : Names2 mg) (hdict : mg "dict" = none) (hsorted : mg "sorted" = none) : FnOk P w K mg base CX0 1 f fd ["columns", "integers", "others", "more"] spJD := by
  have nd := sc_jd.nd
  refine F.ok sc_jd (fun vs H Q E h => ?_) (fun cdv A outer s H vs Q E hr h => ?_)
  · obtain ⟨a, b, a2, b2, za, zb, ia, ib, rfl, _⟩ := h
    rfl
  · obtain ⟨a, b, a2, b2, za, zb, ia, ib, rfl, ha, hb, ha2, hb2, hn1, hn2, az, bz, hlen, k⟩ := h
    have hu := hu_of hr
    refine ⟨_, (pss_cons
    (ps_set (i := 4) nd rfl (Or.inr rfl) (pe_dictListZip rfl (by rfl) hdict (by rfl) T.list (by rfl) T.zip (pa_cons (pv 0) (pa_cons (pv 1) pa_nil))))
    (pss_cons
    (ps_for PassesOwn.never rfl (RZ.pi_zipA (by rfl) T.zip (pa_cons (pv 2) (pa_cons (pv 3) pa_nil))) (pg_tup rfl (pgs_cons (pg_name (i := 5) nd rfl (Or.inl rfl)) (pgs_cons (pg_name (i := 6) nd rfl (Or.inl rfl)) pgs_nil))) (pss_cons
      (ps_if (pt_cmpR op_ne (pe_dget2 hu (pv 4) (pv 5) (pv 6) ⟨rfl, rfl, rfl, rfl⟩) (pv 6) (nomark _)) (pss_one
        (ps_ret pe_non)) pss_nil)
      (pss_one
      (ps_dput hu (pv 4) (pv 5) (pv 6) rfl))))
    (pss_one
    (ps_ret (pe_tup (pa_cons (pe_callTy call_tuple_of (by rfl) T.tuple (by decide +kernel) (pa_cons (pe_callB (call_sortedD rfl) (by rfl) hsorted (by decide +kernel) (pa_cons (pv 4) pa_nil)) pa_nil)) (pa_cons (pe_callTy call_tuple_of (by rfl) T.tuple (by decide +kernel) (pa_cons (pe_lc (own := [("column", 5)]) (g := (gName 5)) rfl nd (pi_list (pe_callB (call_sortedD rfl) (by rfl) hsorted (by decide +kernel) (pa_cons (pv 4) pa_nil))) (blkOk_by (N := N_jd) (sc := defScope s_jd) (by decide +kernel)) (fun _ _ _ _ _ => (pg_name (i := 5) nd rfl (Or.inl rfl))) (fun _ _ _ _ _ => pts_nil) (fun _ _ _ _ _ => (pe_dget hu (pv 4) (pv 5) (fun _ _ => rfl)))) pa_nil)) pa_nil))))))), ?_⟩
    have m1 : mergeK [] ((za.map Sum.inr).zip (ia.map V.int)) = kvOf za ia := kv_merge az hn1
    refine ⟨_, rfl, _, rfl, a, b, za, _, rfl, SqT.of ha, SqT.of hb, fun t ht => ?_⟩
    rw [m1]
    have hzl : zb.length = min (zb.map V.str).length (ib.map V.int).length := by simp [hn2]
    have nd2 := asc_nodup bz
    have g0 : Same H (upd H t (.dK (kvOf za ia))) := Same.new (Same.refl H) ht
    refine ⟨_, rfl, _, rfl, a2, b2, _, _, rfl, .inr ⟨SqT.of (g0 _ _ ha2), SqT.of (g0 _ _ hb2), ?_⟩⟩
    refine for_it (walk_zipT hzl) (fun i σ H' => ∃ v5 v6 : Option V, σ = [some (.ref a), some (.ref b), some (.ref a2), some (.ref b2), some (.ref t), v5, v6] ∧ Same H H' ∧ H' t = some (.dK (mergeK (kvOf za ia) ((kvOf zb ib).take i))) ∧ (zb.take i).all (okOne za ia zb ib) = true)
      ⟨none, none, rfl, g0, upd_same, rfl⟩ (fun i σ H' _ ⟨_, _, _, s1, _, _⟩ => ⟨SqT.of (s1 _ _ ha2), SqT.of (s1 _ _ hb2)⟩) (fun i x σ H1 H2 hi ⟨v5, v6, hσ, s1, hT, hok⟩ y => ?_) (fun σ H1 ⟨v5, v6, hσ, s1, hT, hok⟩ => ?_)
    · subst hσ
      obtain ⟨T0, u, v, rfl, hT0, rfl, hu1, hv1⟩ := y
      have hu' : (zb.map V.str)[i]? = some u := hu1
      have hv' : (ib.map V.int)[i]? = some v := hv1
      rw [List.getElem?_map] at hu' hv'
      obtain ⟨z, e1, rfl⟩ := Option.map_eq_some_iff.mp hu'
      obtain ⟨j, e2, rfl⟩ := Option.map_eq_some_iff.mp hv'
      have s2 : Same H (upd H1 T0 (.tup [.str z, .int j])) := Same.new s1 hT0
      have ntT : t ≠ T0 := ne_of_none hT hT0
      have hT2 : upd H1 T0 (.tup [.str z, .int j]) t = some (.dK (mergeK (kvOf za ia) ((kvOf zb ib).take i))) := by rw [upd_ne ntT]; exact hT
      have hl2 : (mergeK (kvOf za ia) ((kvOf zb ib).take i)).length ≤ za.length + zb.length := by
        refine Nat.le_trans (length_mergeK _ _) ?_
        unfold kvOf
        rw [List.length_take, List.length_zip, List.length_zip, List.length_map, List.length_map]
        simp only [List.length_map]
        omega
      have hval : valV (mergeK (kvOf za ia) ((kvOf zb ib).take i)) (Sum.inr z) = (lookI za ia z).map V.int := by
        rw [val_merge_out (not_in_take nd2 e1), val_kv]
      have hlk : lookI zb ib z = some j := look_at nd2 e1 e2
      have g := DGet.k (k := Sum.inr z) hT2
      rw [hval] at g
      refine ⟨T0, _, rfl, SqT.of upd_same, rfl, _, _, rfl, _, _, rfl, rfl, ?_⟩
      refine ⟨_, rfl, t, rfl, .inl ⟨_, .inl hT2⟩, _, rfl, _, rfl, _, g, _, rfl, ?_⟩
      have put : okOne za ia zb ib z = true → ∃ v5 v6 : Option V, ([some (.ref a), some (.ref b), some (.ref a2), some (.ref b2), some (.ref t), some (.str z), some (.int j)] : L2.St) = [some (.ref a), some (.ref b), some (.ref a2), some (.ref b2), some (.ref t), v5, v6] ∧ Same H (upd (upd H1 T0 (.tup [.str z, .int j])) t (.dK (putK (mergeK (kvOf za ia) ((kvOf zb ib).take i)) (Sum.inr z) (.int j)))) ∧
          upd (upd H1 T0 (.tup [.str z, .int j])) t (.dK (putK (mergeK (kvOf za ia) ((kvOf zb ib).take i)) (Sum.inr z) (.int j))) t = some (.dK (mergeK (kvOf za ia) ((kvOf zb ib).take (i + 1)))) ∧ (zb.take (i + 1)).all (okOne za ia zb ib) = true := fun ok => by
        refine ⟨_, _, rfl, fun c o e => ?_, ?_, ?_⟩
        · rw [upd_ne (ne_of_none e ht)]
          exact s2 _ _ e
        · rw [upd_same, kv_take e1 e2, merge_snoc]
        · rw [take_snoc e1, List.all_append, hok]
          simp [ok]
      cases el : lookI za ia z with
      | none =>
        refine ⟨rfl, _, rfl, ?_⟩
        have e3 : (!decide ((Option.map V.int none).getD (V.int j) = V.int j)) = false := by simp
        rw [e3]
        refine ⟨_, rfl, _, rfl, _, rfl, t, _, rfl, DPut.k (k := Sum.inr z) hT2 (Nat.lt_of_le_of_lt hl2 (Nat.lt_trans hlen (by decide))), ?_⟩
        exact put (by unfold okOne; rw [el])
      | some j0 =>
        by_cases ej : j0 = j
        · subst ej
          refine ⟨rfl, _, rfl, ?_⟩
          have e3 : (!decide ((Option.map V.int (some j0)).getD (V.int j0) = V.int j0)) = false := by simp
          rw [e3]
          refine ⟨_, rfl, _, rfl, _, rfl, t, _, rfl, DPut.k (k := Sum.inr z) hT2 (Nat.lt_of_le_of_lt hl2 (Nat.lt_trans hlen (by decide))), ?_⟩
          exact put (by unfold okOne; rw [el]; exact decide_eq_true hlk)
        · refine ⟨rfl, _, rfl, ?_⟩
          have e3 : (!decide ((Option.map V.int (some j0)).getD (V.int j) = V.int j)) = true := by
            simp only [Option.map_some, Option.getD_some, Bool.not_eq_true', decide_eq_false_iff_not]
            exact fun q => ej (V.int.inj q)
          rw [e3]
          have hbad : agreeB za ia zb ib = false := by
            apply Bool.eq_false_iff.mpr
            intro q
            have := List.all_eq_true.mp q z (List.mem_of_getElem? e1)
            unfold okOne at this
            rw [el] at this
            have e4 := of_decide_eq_true this
            rw [hlk] at e4
            exact ej (Option.some.inj e4).symm
          rcases k with ⟨_, kk⟩ | ⟨h, _⟩
          · exact kk _ s2
          · rw [hbad] at h; cases h
    · subst hσ
      have hfull : (kvOf zb ib).take zb.length = kvOf zb ib := List.take_of_length_le (by unfold kvOf; simp; omega)
      rw [hfull] at hT
      have hag : agreeB za ia zb ib = true := by rw [List.take_of_length_le (Nat.le_refl _)] at hok; exact hok
      have kk : ∀ ys js p q r H', JoinedIs (bothK za ia zb ib) ys js → Same H H' → H' p = some (.tup [.ref q, .ref r]) → H' q = some (.tup (ys.map V.str)) → H' r = some (.tup (js.map V.int)) → H p = none → Q (.ref p) H' := by
        rcases k with ⟨h, _⟩ | ⟨_, kk⟩
        · rw [hag] at h; cases h
        · exact kk
      have hall := merge_facts (kvs := kvOf za ia) (more := kvOf zb ib) (allI_kv _ _) (allI_kv _ _) (by
        rw [kv_keys hn1]
        exact List.pairwise_map.mpr ((asc_nodup az).imp fun h q => h (Sum.inr.inj q)))
      obtain ⟨ks, hks⟩ := allI_keys hall.1
      have hbl := both_len (zb := zb) hn1 hn2
      have hkl : ks.length < 64 := by
        have := congrArg List.length hks
        rw [List.length_map, List.length_map] at this
        have h2 : (bothK za ia zb ib).length = ks.length := this
        omega
      refine ⟨_, rfl, t, _, ks, rfl, .inl hT, hks, hkl, fun ys l pm st hl => ?_⟩
      obtain ⟨js, hJ⟩ : ∃ js, JoinedIs (bothK za ia zb ib) ys js := joined_of hall.1 hall.2 hks pm st
      refine ⟨l, _, rfl, .inl ⟨SqL.of upd_same, fun q hq => ?_⟩⟩
      obtain ⟨H5, eH, s5, hq5⟩ : ∃ H5 : Hp, H5 = upd (upd H1 l (.lst (ys.map V.str))) q (.tup (ys.map V.str)) ∧ Same H1 H5 ∧ H5 q = some (.tup (ys.map V.str)) := ⟨_, rfl, Same.new (Same.new (Same.refl H1) hl) hq, upd_same⟩
      rw [← eH]
      refine ⟨_, rfl, t, _, ks, rfl, .inl (s5 _ _ hT), hks, hkl, fun ys2 l2 pm2 st2 hl2 => ?_⟩
      have ey : ys2 = ys := by
        obtain ⟨js2, hJ2⟩ : ∃ js2, JoinedIs (bothK za ia zb ib) ys2 js2 := joined_of hall.1 hall.2 hks pm2 st2
        exact asc_unique (sorted_lt hJ2.2.2.1 hJ2.1) (sorted_lt hJ.2.2.1 hJ.1) fun z => (hJ2.2.1 z).trans (hJ.2.1 z).symm
      subst ey
      have s6 : Same H1 (upd H5 l2 (.lst (ys2.map V.str))) := Same.new s5 hl2
      have hq6 : upd H5 l2 (.lst (ys2.map V.str)) q = some (.tup (ys2.map V.str)) := by rw [upd_ne (ne_of_none hq5 hl2)]; exact hq5
      have hyl : ys2.length < 64 := by rw [pm.length_eq]; exact hkl
      have jl : js.length = ys2.length := by
        have := congrArg List.length hJ.2.2.2
        simpa using this.symm
      refine ⟨_, rfl, ⟨_, SqL.of upd_same⟩, fun D2 hD2 => ?_⟩
      refine lc_acc walk_list (fun i => ((js.take i).map V.int)) rfl hD2 (fun i hi => ?_) (fun H6 s7 => SqL.of (s7 _ _ upd_same)) (fun i x H6 H7 N hi s7 y keep skip => ?_) (fun H6 s7 hL6 => ?_)
      · have : (1000 : Nat) < sizeLine := by decide
        rw [List.length_map] at hi
        rw [List.length_map, List.length_take]
        omega
      · obtain ⟨rfl, hx⟩ := y
        rw [List.getElem?_map] at hx
        obtain ⟨z, ez, rfl⟩ := Option.map_eq_some_iff.mp hx
        have ej : ∃ j, js[i]? = some j ∧ valV (bothK za ia zb ib) (Sum.inr z) = some (V.int j) := by
          have w1 : (ys2.map (fun z => valV (bothK za ia zb ib) (Sum.inr z)))[i]? = some (valV (bothK za ia zb ib) (Sum.inr z)) := by rw [List.getElem?_map, ez]; rfl
          rw [hJ.2.2.2, List.getElem?_map] at w1
          obtain ⟨j, w2, w3⟩ := Option.map_eq_some_iff.mp w1
          exact ⟨j, w2, w3.symm⟩
        obtain ⟨j, ej, el⟩ := ej
        refine ⟨rfl, _, rfl, _, rfl, t, .int j, rfl, ?_, ?_⟩
        · have g := DGet.k (k := Sum.inr z) (s7 _ _ (s6 _ _ hT))
          have el' : valV (mergeK (kvOf za ia) (kvOf zb ib)) (Sum.inr z) = some (V.int j) := el
          rw [el'] at g
          exact g
        · refine keep _ _ (Same.refl _) ?_
          rw [take_snoc ej, List.map_append]; rfl
      · refine ⟨D2, _, rfl, .inl ⟨SqL.of hL6, fun r hr0 => ?_⟩⟩
        refine ⟨(by show 2 ≤ sizeLine; decide), fun p hp => ?_⟩
        have s16 := (s1.trans s6).trans s7
        have nrt : r ≠ p := fun e => by subst e; rw [upd_same] at hp; cases hp
        have hp6 : H6 p = none := by rw [upd_ne nrt.symm] at hp; exact hp
        have nqr : q ≠ r := ne_of_none (s7 _ _ hq6) hr0
        have nqp : q ≠ p := ne_of_none (s7 _ _ hq6) hp6
        refine kk ys2 js p q r _ hJ (Same.new (Same.new s16 hr0) hp) upd_same ?_ ?_ (s16.free hp6)
        · rw [upd_ne nqp, upd_ne nqr]; exact s7 _ _ hq6
        · rw [upd_ne nrt, upd_same, List.take_of_length_le (by rw [List.length_map, jl]; exact Nat.le_refl _)]
end
end K1

/-! ## K15 -/
set_option Elab.async false
set_option linter.all false
set_option maxRecDepth 100000
set_option maxHeartbeats 4000000
namespace K1
open PySem PySem.Spec PyProof.Rows L2
abbrev s_refused : Stmt := topS 24
theorem sc_refused : FnScope ["call"] ["call"] (defScope s_refused) := ⟨rfl, rfl, rfl, by decide +kernel, rfl, by decide +kernel, by decide +kernel⟩
/-- refused: whether the call raises the error of the class at CS -/
def TTref (CS : Addr) : (XK → Hp → VK → Prop) → Hp → VK → Prop := fun tl H Q => tl (fun cls _ H' => cls = Value.ref CS ∧ Q (.bl true) H') H (fun _ H' => Q (.bl false) H')
section
variable {X : Cx}
theorem refused_gives {g CS : Addr} {cdg : Value} {q : Str} (hme : X.mg "InvalidOperation" = some (.ref CS)) (he : PySem.W.exmOne X.K (.ref CS) (.ref CS) = some true) :
    LamX.GivesTo X ["call"] "_law_refused" (defScope s_refused) g cdg (defBody s_refused) "call" q (TTref CS) := by
  intro f c' s H Q tl act hc h
  refine ⟨_, pss_cons (ps_try_only (X := (cxOf C8.CX0 X.prog X.w X.K X.mg X.base ["call"] "_law_refused" (defScope s_refused) g cdg X.A X.stack s H C8.E0).nox) (c := .ref CS) (Wout := fun _ _ _ _ => False)
      (tb := fun W D σ H => ∃ Ech : XK, (∀ cls d σ' H', Ech cls d H' → W cls d σ' H') ∧ σ[0]? = some (some (.ref f)) ∧ H c' = some (LamX.CodeO c' q) ∧ tl Ech H fun _ H' => D.nx σ H')
      rfl rfl ⟨rfl, by decide, .inl hme⟩ LamX.takes0 (fun W pn xe tk _ => ?_) (fun a oe cls d pn _ _ => pss_one (ps_ret pe_bl))) (pss_one (ps_ret pe_bl)), ?_⟩
  · refine ⟨fun pins s' σ H' D I h' => ?_⟩
    obtain ⟨Ech, hW, h1, h2, h3⟩ := h'
    exact (pss_one (ps_expr (act W pn xe Ech _ _ tk hW))).run pins s' σ H' D I ⟨h1, h2, h3⟩
  · exact ⟨fun cls _ H' => cls = Value.ref CS ∧ Q (.bl true) H', fun cls d σ' H' ⟨e1, e2⟩ => ⟨true, by rw [e1]; exact he, fun _ a _ => e2, fun hb => nomatch hb⟩, rfl, hc, h⟩
theorem pe_ref {g CS c P : Addr} {fd : FuncData} {k : Nat} {params : Arguments} {body : Expr} {scope : Scope} {t : XK → TE} {p lpos pos : Pos} (hm : X.mg "_law_refused" = some (.ref g)) (F : Fun X.K "_law_refused" "_law_refused" s_refused g fd)
    (hme : X.mg "InvalidOperation" = some (.ref CS)) (he : PySem.W.exmOne X.K (.ref CS) (.ref CS) = some true) (TB : LamX.TabB X.base X.mg c P) (hcode : X.env.code = .ref c) (hr : Room (k + 2) X.A) (hg : Gl X "_law_refused") (L : LamX.LamS X.env.scope scope)
    (hdef : defaultsOf params X.env = ([], [])) (hbind : ∀ (q : Str) (cl : List (Str × Addr)) (pm cv ctv : Value), bindArgs (PySem.W.kla_fn "<lambda>" q params body scope cl pm cv ctv) ⟨[], []⟩ = pure [])
    (hbody : ∀ (A : Around) (outer : List Env) (s : Shared) (H : Hp) (E : XK) (f c' : Addr), Room k (A.deeper (LamX.lamEnv X scope s.heap.objs.size f c')) → PE (LamX.lamCx X A outer s H E scope f c') body (t E)) :
    PE X (.Call (.Name "_law_refused" p) [.Lambda params body scope lpos] [] pos) (LamX.tLam [(P, X.env.qual ++ "<lambda>")] (TTref CS) t) := by
  have B := F.binds (ps := ["call"]) fun _ _ _ _ _ _ us hl => match us, hl with | [_], _ => rfl
  have kp := F.kp
  obtain ⟨oc, od, kV, doc, pm, an, cdv, ct, osl, rfl, lk, hcd⟩ := F.ex
  exact LamX.pe_lamcall hg hm kp lk hcd B sc_refused rfl (.inl rfl) (refused_gives hme he) TB hcode List.mem_cons_self (fun q hq _ => by rw [List.mem_singleton] at hq; rw [hq]) hr L hdef hbind hbody
end
/-! ### errors_right -/
abbrev s_er : Stmt := topS 28
abbrev N_er : List Str := ["dice", "columns", "integers", "odd", "bad", "far", "found"]
theorem sc_er : FnScope N_er ["dice"] (defScope s_er) := ⟨rfl, rfl, rfl, by decide +kernel, rfl, by decide +kernel, by decide +kernel⟩
end K1

/-! ## K16 -/
set_option Elab.async false
set_option linter.all false
set_option maxRecDepth 100000
set_option maxHeartbeats 8000000
namespace K1
open PySem PySem.Spec PyProof.Rows L2
/-- all but the dice and the tables of code objects is kept -/
def ButT (d : Addr) (H H' : Hp) : Prop := ∀ b o, b ≠ d → (∀ ps, o ≠ .tbl ps) → H b = some o → H' b = some o

/-- lists may change, tables grow; all else is kept -/
structure Evo (H H' : Hp) : Prop where
  keep : ∀ b o, H b = some o → (∀ ps, o ≠ .tbl ps) → (∀ l, o ≠ .lst l) → H' b = some o
  lst : ∀ b l, H b = some (.lst l) → ∃ l', H' b = some (.lst l')
theorem Evo.same {H H' : Hp} (s : Same H H') : Evo H H' := ⟨fun b o e _ _ => s b o e, fun b l e => ⟨l, s b _ e⟩⟩
theorem Evo.ext {H H' : Hp} (s : LamX.ExtN H H') : Evo H H' := ⟨fun b o e h _ => s b o e h, fun b l e => ⟨l, s b _ e (by intro ps z; cases z)⟩⟩
theorem Evo.app {H : Hp} {p : Addr} {l l' : List V} (h : H p = some (.lst l)) : Evo H (upd H p (.lst l')) := ⟨fun b o e _ hl => by
    rw [upd_ne (fun z => by subst z; rw [h] at e; exact hl _ (Option.some.inj e).symm)]; exact e, fun b m e => by
    by_cases z : b = p
    · subst z; exact ⟨l', upd_same⟩
    · exact ⟨m, by rw [upd_ne z]; exact e⟩⟩
theorem Evo.but {d : Addr} {H H' : Hp} (b : But d H H') (h1 : Dice H d) (h2 : Dice H' d) : Evo H H' := by
  obtain ⟨x, y, z, e⟩ := h1
  obtain ⟨x', y', z', e'⟩ := h2
  refine ⟨fun c o q _ hl => b c o (fun w => by subst w; rw [e] at q; exact hl _ (Option.some.inj q).symm) q, fun c l q => ?_⟩
  by_cases w : c = d
  · subst w; exact ⟨_, e'⟩
  · exact ⟨l, b _ _ w q⟩
theorem IsTy.evo {K : PySem.W.Frag} {H H' : Hp} {x : V} {T : String} {b : Bool} (h : IsTy K H x T b) (s : Evo H H') : IsTy K H' x T b := by
  obtain ⟨t, ty, e⟩ := h
  refine ⟨t, ?_, e⟩
  cases ty with
  | base c =>
    refine .base ?_
    cases c with
    | non => exact .non
    | bl x => exact .bl x
    | int i => exact .int i
    | str x => exact .str x
    | flt x => exact .flt x
    | lst q => obtain ⟨l', q'⟩ := s.lst _ _ q; exact .lst q'
    | frz q => exact .frz (s.keep _ _ q (by intro _ z; cases z) (by intro _ z; cases z))
    | tup q => exact .tup (s.keep _ _ q (by intro _ z; cases z) (by intro _ z; cases z))
    | dK q => exact .dK (s.keep _ _ q (by intro _ z; cases z) (by intro _ z; cases z))
    | dT q => exact .dT (s.keep _ _ q (by intro _ z; cases z) (by intro _ z; cases z))
    | ins q cl ha hn htk hm => exact .ins (s.keep _ _ q (by intro _ z; cases z) (by intro _ z; cases z)) cl ha hn htk hm
  | byt b => exact .byt b
  | set q => exact .set (s.keep _ _ q (by intro _ z; cases z) (by intro _ z; cases z))
  | kList q c => exact .kList q c
  | kTuple q c => exact .kTuple q c
  | kDict q c => exact .kDict q c
  | fTuple q => exact .fTuple (s.keep _ _ q (by intro _ z; cases z) (by intro _ z; cases z))
  | fDict q => exact .fDict (s.keep _ _ q (by intro _ z; cases z) (by intro _ z; cases z))
theorem Evo.tup {H H' : Hp} (s : Evo H H') {b : Addr} {xs : List V} (h : H b = some (.tup xs)) : H' b = some (.tup xs) := s.keep _ _ h (by intro _ z; cases z) (by intro _ z; cases z)
theorem ColsArg.evo {K : PySem.W.Frag} {H H' : Hp} {x : V} : ∀ {o : Option (List Str)}, ColsArg K H x o → Evo H H' → ColsArg K H' x o
  | none, h, s => h.imp (fun z => z.evo s) fun ⟨a, xs, os, h1, h2, h3, h4, h5⟩ => ⟨a, xs, os, h1, s.tup h2, h3, Paired.mapP h4 fun _ _ q => q.imp id fun z => ⟨z.1.evo s, z.2⟩, h5⟩
  | some _, ⟨a, h1, h2, h3, h4, h5⟩, s => ⟨a, h1, s.tup h2, h3, h4, h5⟩
theorem IntsArg.evo {K : PySem.W.Frag} {H H' : Hp} {n : Nat} {x : V} : ∀ {o : Option (List Int)}, IntsArg K H n x o → Evo H H' → IntsArg K H' n x o
  | none, h, s => h.imp (fun z => z.evo s) fun ⟨a, xs, os, h1, h2, h3, h4, h5⟩ => ⟨a, xs, os, h1, s.tup h2, h3, Paired.mapP h4 fun _ _ q => q.imp id fun z => ⟨z.1.imp (fun w => w.evo s) id, z.2⟩, h5⟩
  | some _, ⟨a, h1, h2, h3⟩, s => ⟨a, h1, s.tup h2, h3⟩
def abw : List Str := ["a", "b", "who"]
/-- where errors_right stands between two of its calls -/
structure ErS (K : PySem.W.Frag) (T : List (Addr × Str)) (H0 : Hp) (d pc pi pf : Addr) (po pb pr : V) (us : List Str) (H : Hp) (acc : List V) : Prop where
  tabs : LamX.Tabs T H
  but : ButT d H0 H
  dice : Dice H d
  cols : H pc = some (.tup (abw.map V.str))
  intg : H pi = some (.tup ([1, 0, -7].map V.int))
  odd : ColsArg K H po none
  bad : IntsArg K H 3 pb none
  far : ColsArg K H pr (some us)
  found : H pf = some (.lst acc)
  nf : ∀ o, H0 pf = some o → ∃ ps, o = .tbl ps
  nd : pf ≠ d
section
variable {K : PySem.W.Frag} {T : List (Addr × Str)} {H0 H H1 : Hp} {d pc pi pf : Addr} {po pb pr : V} {us : List Str} {acc : List V}
theorem ErS.same (S : ErS K T H0 d pc pi pf po pb pr us H acc) (s : Same H H1) : ErS K T H0 d pc pi pf po pb pr us H1 acc :=
  ⟨S.tabs.ext s, fun b o n t e => s _ _ (S.but b o n t e), S.dice.same s, s _ _ S.cols, s _ _ S.intg, S.odd.same s, S.bad.same s, S.far.same s, s _ _ S.found, S.nf, S.nd⟩
theorem ErS.lam (S : ErS K T H0 d pc pi pf po pb pr us H acc) (s : LamX.ExtN H H1) (t : LamX.Tabs T H1) : ErS K T H0 d pc pi pf po pb pr us H1 acc := by
  have v := Evo.ext s
  refine ⟨t, fun b o n t e => s _ _ (S.but b o n t e) t, ?_, v.tup S.cols, v.tup S.intg, S.odd.evo v, S.bad.evo v, S.far.evo v, s _ _ S.found (by intro _ z; cases z), S.nf, S.nd⟩
  obtain ⟨x, y, z, e⟩ := S.dice
  exact ⟨x, y, z, s _ _ e (by intro _ z; cases z)⟩
theorem ErS.app (S : ErS K T H0 d pc pi pf po pb pr us H acc) (u : V) : ErS K T H0 d pc pi pf po pb pr us (upd H pf (.lst (acc ++ [u]))) (acc ++ [u]) := by
  have v := Evo.app (l' := acc ++ [u]) S.found
  refine ⟨fun p hp => ?_, fun b o n t e => ?_, ?_, v.tup S.cols, v.tup S.intg, S.odd.evo v, S.bad.evo v, S.far.evo v, upd_same, S.nf, S.nd⟩
  · obtain ⟨ps, h1, h2, h3⟩ := S.tabs p hp
    refine ⟨ps, by rw [upd_ne (ne_of h1 S.found (by intro z; cases z))]; exact h1, h2, fun pos cv hc => ?_⟩
    obtain ⟨c, e1, e2⟩ := h3 pos cv hc
    exact ⟨c, e1, by rw [upd_ne (ne_of e2 S.found (by intro z; cases z))]; exact e2⟩
  · rw [upd_ne (fun z => by subst z; obtain ⟨ps, e2⟩ := S.nf o e; exact t ps e2)]
    exact S.but b o n t e
  · obtain ⟨x, y, z, e⟩ := S.dice
    exact ⟨x, y, z, by rw [upd_ne S.nd.symm]; exact e⟩
end

def spEr (qual : Str) (P : Addr) : Sp := fun vs H Q _ => ∃ d : Addr, vs = [.ref d] ∧ Dice H d ∧ LamX.Tabs [(P, qual)] H ∧ ∀ H', ButT d H H' → Dice H' d → LamX.Tabs [(P, qual)] H' → Q (.bl true) H'
section
variable {P : Program} {w : World} {K : PySem.W.Frag} {mg : Str → Option Value} {base : Heap}
theorem ok_er {f g CE c PT : Addr} {fdR : FuncData} {oc od kV doc pm an ct osl} (lk : K.lookup f = some ⟨oc, od, .func (PySem.W.fnOf "_law_errors_right" "_law_errors_right" (defArgs s_er) (defBody s_er) (defScope s_er) .none kV doc pm an (.ref c) ct), osl⟩) (hcd : PySem.W.codeIn K (.ref c) "_law_errors_right" = true)
    (TE : Err1 K mg "InvalidOperation" CE) (gR : mg "_law_refused" = some (.ref g)) (FR : Fun K "_law_refused" "_law_refused" s_refused g fdR) (TB : LamX.TabB base mg c PT)
    (CO : Callee P w K mg base CX0 3 "_law_odd" ["dice"] (spOdd K)) (CK : Callee P w K mg base CX0 2 "_law_pick" ["dice", "items"] spPick)
    (CP : Callee P w K mg base (L2.CX P w) 4 "project" ["columns", "integers", "some"] (spProject K CE)) (CJ : Callee P w K mg base (L2.CX P w) 4 "joined" ["columns", "integers", "others", "more"] (spJoined K CE)) :
    FnOk P w K mg base CX0 7 f (PySem.W.fnOf "_law_errors_right" "_law_errors_right" (defArgs s_er) (defBody s_er) (defScope s_er) .none kV doc pm an (.ref c) ct) ["dice"] (spEr ("_law_errors_right.<locals>." ++ "<lambda>") PT) := by
  have nd := sc_er.nd
  refine fn_of lk hcd sc_er (fun vs H Q E h => ?_) (fun A outer s H vs Q E hr h => ?_)
  · obtain ⟨d, rfl, _⟩ := h
    rfl
  · obtain ⟨d, rfl, hd, hT, k⟩ := h
    have hr6 : Room 6 _ := hr
    have hr3 : Room 3 _ := hr.mono (by decide)
    have hr2 : Room 2 _ := hr.mono (by decide)
    suffices hh : ∃ t, PSs (cxOf CX0 P w K mg base N_er "_law_errors_right" (defScope s_er) f (.ref c) A outer s H E).nox (defBody s_er) t ∧ t { nx := fun _ H' => Q .non H', rt := Q } (L2.start N_er [.ref d]) H by
      obtain ⟨t, h1, h2⟩ := hh
      exact ⟨t, h1.nox, h2⟩
    refine ⟨_, (pss_cons (ps_asg (pe_tup (pa_cons (pe_tup (pa_cons pe_str (pa_cons pe_str (pa_cons pe_str pa_nil)))) (pa_cons (pe_tup (pa_cons pe_int (pa_cons pe_int (pa_cons (pe_un un_neg pe_int) pa_nil)))) (pa_cons (pe_use CO hr3 rfl pass0 (pa_cons (pv 0) pa_nil)) pa_nil)))) (pg_tup rfl (pgs_cons (pg_name (i := 1) nd rfl (Or.inr rfl)) (pgs_cons (pg_name (i := 2) nd rfl (Or.inr rfl)) (pgs_cons (pg_name (i := 3) nd rfl (Or.inr rfl)) pgs_nil)))))
    (pss_cons (ps_set (i := 4) nd rfl (Or.inr rfl) (pe_use CK hr2 rfl pass0 (pa_cons (pv 0) (pa_cons (pe_lst (pa_cons pe_non (pa_cons pe_int (pa_cons (pe_lst (pa_cons pe_int (pa_cons pe_int (pa_cons pe_int pa_nil)))) (pa_cons (pe_tup (pa_cons pe_int (pa_cons pe_int pa_nil))) (pa_cons (pe_tup (pa_cons pe_int (pa_cons pe_int (pa_cons pe_int (pa_cons pe_int pa_nil))))) (pa_cons (pe_tup (pa_cons pe_int (pa_cons pe_int (pa_cons pe_bl pa_nil)))) (pa_cons (pe_tup (pa_cons pe_int (pa_cons pe_int (pa_cons pe_non pa_nil)))) (pa_cons (pe_tup (pa_cons pe_int (pa_cons pe_int (pa_cons pe_str pa_nil)))) (pa_cons (pe_tup (pa_cons (pe_tup (pa_cons pe_int pa_nil)) pa_nil)) pa_nil)))))))))) pa_nil))))
    (pss_cons (ps_set (i := 5) nd rfl (Or.inr rfl) (pe_use CK hr2 rfl pass0 (pa_cons (pv 0) (pa_cons (pe_lst (pa_cons (pe_tup (pa_cons pe_str pa_nil)) (pa_cons (pe_tup (pa_cons pe_str (pa_cons pe_str pa_nil))) (pa_cons (pe_tup (pa_cons pe_str (pa_cons pe_str (pa_cons pe_str (pa_cons pe_str pa_nil))))) (pa_cons (pe_tup (pa_cons pe_str pa_nil)) pa_nil))))) pa_nil))))
    (pss_cons (ps_set (i := 6) nd rfl (Or.inl rfl) (pe_lst (pa_cons (pe_ref gR FR TE.g TE.e TB rfl hr6 rfl (LamX.lamS_by (sc := defScope s_er) (by decide +kernel)) rfl (fun _ _ _ _ _ => rfl) (fun A outer s H E f c' hr4 => (pe_useX CP hr4 rfl (takes_of rfl rfl rfl rfl) (fun _ _ _ _ h => h) (pa_cons (pv 3) (pa_cons (pv 2) (pa_cons (pe_tup (pa_cons pe_str pa_nil)) pa_nil)))))) pa_nil)))
    (pss_cons (ps_expr (pe_bm PySem.F.plainAttrs_list PySem.F.slot_list_append PySem.F.type_list_append mt_append (pv 6) (pa_cons (pe_ref gR FR TE.g TE.e TB rfl hr6 rfl (LamX.lamS_by (sc := defScope s_er) (by decide +kernel)) rfl (fun _ _ _ _ _ => rfl) (fun A outer s H E f c' hr4 => (pe_useX CP hr4 rfl (takes_of rfl rfl rfl rfl) (fun _ _ _ _ h => h) (pa_cons (pv 1) (pa_cons (pv 4) (pa_cons (pe_tup (pa_cons pe_str pa_nil)) pa_nil)))))) pa_nil)))
    (pss_cons (ps_expr (pe_bm PySem.F.plainAttrs_list PySem.F.slot_list_append PySem.F.type_list_append mt_append (pv 6) (pa_cons (pe_ref gR FR TE.g TE.e TB rfl hr6 rfl (LamX.lamS_by (sc := defScope s_er) (by decide +kernel)) rfl (fun _ _ _ _ _ => rfl) (fun A outer s H E f c' hr4 => (pe_useX CP hr4 rfl (takes_of rfl rfl rfl rfl) (fun _ _ _ _ h => h) (pa_cons (pv 1) (pa_cons (pv 2) (pa_cons (pv 3) pa_nil)))))) pa_nil)))
    (pss_cons (ps_expr (pe_bm PySem.F.plainAttrs_list PySem.F.slot_list_append PySem.F.type_list_append mt_append (pv 6) (pa_cons (pe_ref gR FR TE.g TE.e TB rfl hr6 rfl (LamX.lamS_by (sc := defScope s_er) (by decide +kernel)) rfl (fun _ _ _ _ _ => rfl) (fun A outer s H E f c' hr4 => (pe_useX CP hr4 rfl (takes_of rfl rfl rfl rfl) (fun _ _ _ _ h => h) (pa_cons (pv 1) (pa_cons (pv 2) (pa_cons (pv 5) pa_nil)))))) pa_nil)))
    (pss_cons (ps_expr (pe_bm PySem.F.plainAttrs_list PySem.F.slot_list_append PySem.F.type_list_append mt_append (pv 6) (pa_cons (pe_ref gR FR TE.g TE.e TB rfl hr6 rfl (LamX.lamS_by (sc := defScope s_er) (by decide +kernel)) rfl (fun _ _ _ _ _ => rfl) (fun A outer s H E f c' hr4 => (pe_useX CJ hr4 rfl (takes_of rfl rfl rfl rfl) (fun _ _ _ _ h => h) (pa_cons (pv 3) (pa_cons (pv 2) (pa_cons (pv 1) (pa_cons (pv 2) pa_nil))))))) pa_nil)))
    (pss_cons (ps_expr (pe_bm PySem.F.plainAttrs_list PySem.F.slot_list_append PySem.F.type_list_append mt_append (pv 6) (pa_cons (pe_ref gR FR TE.g TE.e TB rfl hr6 rfl (LamX.lamS_by (sc := defScope s_er) (by decide +kernel)) rfl (fun _ _ _ _ _ => rfl) (fun A outer s H E f c' hr4 => (pe_useX CJ hr4 rfl (takes_of rfl rfl rfl rfl) (fun _ _ _ _ h => h) (pa_cons (pv 1) (pa_cons (pv 4) (pa_cons (pv 1) (pa_cons (pv 2) pa_nil))))))) pa_nil)))
    (pss_cons (ps_expr (pe_bm PySem.F.plainAttrs_list PySem.F.slot_list_append PySem.F.type_list_append mt_append (pv 6) (pa_cons (pe_ref gR FR TE.g TE.e TB rfl hr6 rfl (LamX.lamS_by (sc := defScope s_er) (by decide +kernel)) rfl (fun _ _ _ _ _ => rfl) (fun A outer s H E f c' hr4 => (pe_useX CJ hr4 rfl (takes_of rfl rfl rfl rfl) (fun _ _ _ _ h => h) (pa_cons (pv 1) (pa_cons (pv 2) (pa_cons (pv 3) (pa_cons (pv 2) pa_nil))))))) pa_nil)))
    (pss_cons (ps_expr (pe_bm PySem.F.plainAttrs_list PySem.F.slot_list_append PySem.F.type_list_append mt_append (pv 6) (pa_cons (pe_ref gR FR TE.g TE.e TB rfl hr6 rfl (LamX.lamS_by (sc := defScope s_er) (by decide +kernel)) rfl (fun _ _ _ _ _ => rfl) (fun A outer s H E f c' hr4 => (pe_useX CJ hr4 rfl (takes_of rfl rfl rfl rfl) (fun _ _ _ _ h => h) (pa_cons (pv 1) (pa_cons (pv 2) (pa_cons (pv 1) (pa_cons (pv 4) pa_nil))))))) pa_nil)))
    (pss_cons (ps_expr (pe_bm PySem.F.plainAttrs_list PySem.F.slot_list_append PySem.F.type_list_append mt_append (pv 6) (pa_cons (pe_ref gR FR TE.g TE.e TB rfl hr6 rfl (LamX.lamS_by (sc := defScope s_er) (by decide +kernel)) rfl (fun _ _ _ _ _ => rfl) (fun A outer s H E f c' hr4 => (pe_useX CJ hr4 rfl (takes_of rfl rfl rfl rfl) (fun _ _ _ _ h => h) (pa_cons (pv 1) (pa_cons (pv 4) (pa_cons (pv 3) (pa_cons (pv 4) pa_nil))))))) pa_nil)))
    (pss_one (ps_ret (pe_and (pe_cmpR (op_eqD hr.units) (pv 6) (pe_op op_rep (pe_lst (pa_cons pe_bl pa_nil)) pe_int) (nomark _)) (pe_one (pe_not (pe_ref gR FR TE.g TE.e TB rfl hr6 rfl (LamX.lamS_by (sc := defScope s_er) (by decide +kernel)) rfl (fun _ _ _ _ _ => rfl) (fun A outer s H E f c' hr4 => (pe_useX CP hr4 rfl (takes_of rfl rfl rfl rfl) (fun _ _ _ _ h => h) (pa_cons (pv 1) (pa_cons (pv 2) (pa_cons (pe_tup pa_nil) pa_nil))))))))))))))))))))))), ?_⟩
    refine ⟨(by show 3 ≤ sizeLine; decide), fun p1 q1 => ?_⟩
    obtain ⟨H1, e1, s1, f1⟩ := alloc (o := .tup [.str "a", .str "b", .str "who"]) q1
    rw [← e1]
    refine ⟨_, rfl, (by show 3 ≤ sizeLine; decide), fun p2 q2 => ?_⟩
    obtain ⟨H2, e2, s2, f2⟩ := alloc (o := .tup [.int 1, .int 0, .int (-7)]) q2
    rw [← e2]
    have hd2 := (hd.same s1).same s2
    refine ⟨_, rfl, d, rfl, hd2, fun po Ho hodd bo hdo => ?_⟩
    have ndc : p1 ≠ d := (hd.ne_none q1).symm
    have ndi : p2 ≠ d := ((hd.same s1).ne_none q2).symm
    have c0 : Ho p1 = some (.tup (abw.map V.str)) := bo _ _ ndc (s2 _ _ f1)
    have i0 : Ho p2 = some (.tup (([1, 0, -7] : List Int).map V.int)) := bo _ _ ndi f2
    have b0 : But d H Ho := (But.same (s1.trans s2)).trans bo
    have T0 : ∀ {H1 H2 : Hp}, LamX.Tabs [(PT, "_law_errors_right.<locals>." ++ "<lambda>")] H1 → But d H1 H2 → Dice H1 d → LamX.Tabs [(PT, "_law_errors_right.<locals>." ++ "<lambda>")] H2 := fun {H1 H2} t b hd p hp => by
      obtain ⟨x, y, z, e⟩ := hd
      obtain ⟨ps, h1, h2, h3⟩ := t p hp
      refine ⟨ps, b _ _ (ne_of h1 e (by intro z; cases z)) h1, h2, fun pos cv hc => ?_⟩
      obtain ⟨c, e1, e2⟩ := h3 pos cv hc
      exact ⟨c, e1, b _ _ (ne_of e2 e (by intro z; cases z)) e2⟩
    have t0 := T0 hT b0 hd
    refine ⟨(by show 3 ≤ sizeLine; decide), fun pt qt => ?_⟩
    obtain ⟨H3, e3, s3, f3⟩ := alloc (o := .tup [.ref p1, .ref p2, po]) qt
    rw [← e3]
    refine ⟨pt, _, rfl, SqT.of f3, rfl, _, _, rfl, _, _, rfl, _, _, rfl, rfl, ?_⟩
    have hd3 := hdo.same s3
    refine ⟨_, rfl, ?_⟩
    refine ⟨(by show 3 ≤ sizeLine; decide), fun p4 q4 => ?_⟩
    obtain ⟨H4, e4, s4, f4⟩ := alloc (o := .lst [.int 1, .int 0, .int 2]) q4
    rw [← e4]
    refine ⟨(by show 2 ≤ sizeLine; decide), fun p5 q5 => ?_⟩
    obtain ⟨H5, e5, s5, f5⟩ := alloc (o := .tup [.int 1, .int 0]) q5
    rw [← e5]
    refine ⟨(by show 4 ≤ sizeLine; decide), fun p6 q6 => ?_⟩
    obtain ⟨H6, e6, s6, f6⟩ := alloc (o := .tup [.int 1, .int 0, .int 2, .int 3]) q6
    rw [← e6]
    refine ⟨(by show 3 ≤ sizeLine; decide), fun p7 q7 => ?_⟩
    obtain ⟨H7, e7, s7, f7⟩ := alloc (o := .tup [.int 1, .int 0, .bl true]) q7
    rw [← e7]
    refine ⟨(by show 3 ≤ sizeLine; decide), fun p8 q8 => ?_⟩
    obtain ⟨H8, e8, s8, f8⟩ := alloc (o := .tup [.int 1, .int 0, .non]) q8
    rw [← e8]
    refine ⟨(by show 3 ≤ sizeLine; decide), fun p9 q9 => ?_⟩
    obtain ⟨H9, e9, s9, f9⟩ := alloc (o := .tup [.int 1, .int 0, .str "2"]) q9
    rw [← e9]
    refine ⟨(by show 1 ≤ sizeLine; decide), fun p10 q10 => ?_⟩
    obtain ⟨H10, e10, s10, f10⟩ := alloc (o := .tup [.int 1]) q10
    rw [← e10]
    refine ⟨(by show 1 ≤ sizeLine; decide), fun p11 q11 => ?_⟩
    obtain ⟨H11, e11, s11, f11⟩ := alloc (o := .tup [.ref p10]) q11
    rw [← e11]
    refine ⟨(by show 9 ≤ sizeLine; decide), fun p12 q12 => ?_⟩
    obtain ⟨H12, e12, s12, f12⟩ := alloc (o := .lst [.non, .int 7, .ref p4, .ref p5, .ref p6, .ref p7, .ref p8, .ref p9, .ref p11]) q12
    rw [← e12]
    have sB := ((((((((s4).trans s5).trans s6).trans s7).trans s8).trans s9).trans s10).trans s11).trans s12
    have hdB := hd3.same sB
    have ndB : ∀ {p : Addr} {o : HO}, H12 p = some o → (∀ l, o ≠ .lst l) → p ≠ d := fun {p o} e ho z => by
      obtain ⟨u, v, t, q⟩ := hdB
      rw [z, q] at e
      exact ho _ (Option.some.inj e).symm
    refine ⟨d, p12, _, rfl, hdB, .inl f12, (by intro z; obtain ⟨u, v, t, q⟩ := hdB; rw [← z, f12] at q; simp at q), by simp, by show 9 ≤ 1000; decide, fun xB HB hx bB hdB' => ?_⟩
    have hbad : IntsArg K HB 3 xB none := by
      have hx' : xB ∈ ([.non, .int 7, .ref p4, .ref p5, .ref p6, .ref p7, .ref p8, .ref p9, .ref p11] : List V) := hx
      simp only [List.mem_cons, List.not_mem_nil, or_false] at hx'
      rcases hx' with rfl | rfl | rfl | rfl | rfl | rfl | rfl | rfl | rfl
      · exact .inl ⟨_, .base .non, kit_ty (by decide +kernel)⟩
      · exact .inl ⟨_, .base (.int _), kit_ty (by decide +kernel)⟩
      · have h := bB _ _ (hd3.ne_none q4).symm (((((((((s5).trans s6).trans s7).trans s8).trans s9).trans s10).trans s11).trans s12) _ _ f4)
        exact .inl ⟨_, .base (.lst h), kit_ty (by decide +kernel)⟩
      · have h := bB _ _ (ndB ((((((((s6).trans s7).trans s8).trans s9).trans s10).trans s11).trans s12) _ _ f5) (by intro l z; cases z)) ((((((((s6).trans s7).trans s8).trans s9).trans s10).trans s11).trans s12) _ _ f5)
        exact .inr ⟨_, _, [true, true], rfl, h, by simp, (.cons (.inl ⟨_, rfl, rfl⟩) (.cons (.inl ⟨_, rfl, rfl⟩) .nil)), by first | decide | rfl⟩
      · have h := bB _ _ (ndB (((((((s7).trans s8).trans s9).trans s10).trans s11).trans s12) _ _ f6) (by intro l z; cases z)) (((((((s7).trans s8).trans s9).trans s10).trans s11).trans s12) _ _ f6)
        exact .inr ⟨_, _, [true, true, true, true], rfl, h, by simp, (.cons (.inl ⟨_, rfl, rfl⟩) (.cons (.inl ⟨_, rfl, rfl⟩) (.cons (.inl ⟨_, rfl, rfl⟩) (.cons (.inl ⟨_, rfl, rfl⟩) .nil)))), by first | decide | rfl⟩
      · have h := bB _ _ (ndB ((((((s8).trans s9).trans s10).trans s11).trans s12) _ _ f7) (by intro l z; cases z)) ((((((s8).trans s9).trans s10).trans s11).trans s12) _ _ f7)
        exact .inr ⟨_, _, [true, true, false], rfl, h, by simp, (.cons (.inl ⟨_, rfl, rfl⟩) (.cons (.inl ⟨_, rfl, rfl⟩) (.cons (.inr ⟨.inr ⟨_, rfl⟩, rfl⟩) .nil))), by first | decide | rfl⟩
      · have h := bB _ _ (ndB (((((s9).trans s10).trans s11).trans s12) _ _ f8) (by intro l z; cases z)) (((((s9).trans s10).trans s11).trans s12) _ _ f8)
        exact .inr ⟨_, _, [true, true, false], rfl, h, by simp, (.cons (.inl ⟨_, rfl, rfl⟩) (.cons (.inl ⟨_, rfl, rfl⟩) (.cons (.inr ⟨.inl ⟨_, .base .non, kit_ty (by decide +kernel)⟩, rfl⟩) .nil))), by first | decide | rfl⟩
      · have h := bB _ _ (ndB ((((s10).trans s11).trans s12) _ _ f9) (by intro l z; cases z)) ((((s10).trans s11).trans s12) _ _ f9)
        exact .inr ⟨_, _, [true, true, false], rfl, h, by simp, (.cons (.inl ⟨_, rfl, rfl⟩) (.cons (.inl ⟨_, rfl, rfl⟩) (.cons (.inr ⟨.inl ⟨_, .base (.str _), kit_ty (by decide +kernel)⟩, rfl⟩) .nil))), by first | decide | rfl⟩
      · have h := bB _ _ (ndB ((s12) _ _ f11) (by intro l z; cases z)) ((s12) _ _ f11)
        have h10 := bB _ _ (ndB (((s11).trans s12) _ _ f10) (by intro l z; cases z)) (((s11).trans s12) _ _ f10)
        exact .inr ⟨_, _, [false], rfl, h, by simp, (.cons (.inr ⟨.inl ⟨_, .base (.tup h10), kit_ty (by decide +kernel)⟩, rfl⟩) .nil), by first | decide | rfl⟩
    have bOB : But d Ho HB := (But.same (s3.trans sB)).trans bB
    refine ⟨_, rfl, ?_⟩
    refine ⟨(by show 1 ≤ sizeLine; decide), fun p13 q13 => ?_⟩
    obtain ⟨H13, e13, s13, f13⟩ := alloc (o := .tup [.str "c"]) q13
    rw [← e13]
    refine ⟨(by show 2 ≤ sizeLine; decide), fun p14 q14 => ?_⟩
    obtain ⟨H14, e14, s14, f14⟩ := alloc (o := .tup [.str "a", .str "c"]) q14
    rw [← e14]
    refine ⟨(by show 4 ≤ sizeLine; decide), fun p15 q15 => ?_⟩
    obtain ⟨H15, e15, s15, f15⟩ := alloc (o := .tup [.str "a", .str "b", .str "who", .str "x"]) q15
    rw [← e15]
    refine ⟨(by show 1 ≤ sizeLine; decide), fun p16 q16 => ?_⟩
    obtain ⟨H16, e16, s16, f16⟩ := alloc (o := .tup [.str "w"]) q16
    rw [← e16]
    refine ⟨(by show 4 ≤ sizeLine; decide), fun p17 q17 => ?_⟩
    obtain ⟨H17, e17, s17, f17⟩ := alloc (o := .lst [.ref p13, .ref p14, .ref p15, .ref p16]) q17
    rw [← e17]
    have sF := ((((s13).trans s14).trans s15).trans s16).trans s17
    have hdF := hdB'.same sF
    have ndF : ∀ {p : Addr} {o : HO}, H17 p = some o → (∀ l, o ≠ .lst l) → p ≠ d := fun {p o} e ho z => by
      obtain ⟨u, v, t, q⟩ := hdF
      rw [z, q] at e
      exact ho _ (Option.some.inj e).symm
    refine ⟨d, p17, _, rfl, hdF, .inl f17, (by intro z; obtain ⟨u, v, t, q⟩ := hdF; rw [← z, f17] at q; simp at q), by simp, by show 4 ≤ 1000; decide, fun xF HF hx bF hdF' => ?_⟩
    have hfar : ∃ us : List Str, ColsArg K HF xF (some us) ∧ ∃ z ∈ us, z ∉ abw := by
      have hx' : xF ∈ ([.ref p13, .ref p14, .ref p15, .ref p16] : List V) := hx
      simp only [List.mem_cons, List.not_mem_nil, or_false] at hx'
      rcases hx' with rfl | rfl | rfl | rfl
      · have h := bF _ _ (ndF (((((s14).trans s15).trans s16).trans s17) _ _ f13) (by intro l z; cases z)) (((((s14).trans s15).trans s16).trans s17) _ _ f13)
        exact ⟨["c"], ⟨_, rfl, h, by simp, by decide, by decide +kernel⟩, by decide⟩
      · have h := bF _ _ (ndF ((((s15).trans s16).trans s17) _ _ f14) (by intro l z; cases z)) ((((s15).trans s16).trans s17) _ _ f14)
        exact ⟨["a", "c"], ⟨_, rfl, h, by simp, by decide, by decide +kernel⟩, by decide⟩
      · have h := bF _ _ (ndF (((s16).trans s17) _ _ f15) (by intro l z; cases z)) (((s16).trans s17) _ _ f15)
        exact ⟨["a", "b", "who", "x"], ⟨_, rfl, h, by simp, by decide, by decide +kernel⟩, by decide⟩
      · have h := bF _ _ (ndF ((s17) _ _ f16) (by intro l z; cases z)) ((s17) _ _ f16)
        exact ⟨["w"], ⟨_, rfl, h, by simp, by decide, by decide +kernel⟩, by decide⟩
    have bBF : But d HB HF := (But.same sF).trans bF
    obtain ⟨us, hfar, hus⟩ := hfar
    have nodd : ∀ {H1 H2 : Hp}, ColsArg K H1 po none → But d H1 H2 → Dice H1 d → Dice H2 d → ColsArg K H2 po none := fun {H1 H2} h b h1 h2 => h.evo (Evo.but b h1 h2)
    have nbad : ∀ {H1 H2 : Hp}, IntsArg K H1 3 xB none → But d H1 H2 → Dice H1 d → Dice H2 d → IntsArg K H2 3 xB none := fun {H1 H2} h b h1 h2 => h.evo (Evo.but b h1 h2)
    have oddF := nodd (nodd hodd bOB hdo hdB') bBF hdB' hdF'
    have badF := nbad hbad bBF hdB' hdF'
    have bHF : But d H HF := (b0.trans bOB).trans bBF
    have colsF := bBF _ _ ndc (bOB _ _ ndc c0)
    have intsF := bBF _ _ ndi (bOB _ _ ndi i0)
    have tF := T0 (T0 t0 bOB hdo) bBF hdB'
    have R0 : ∀ {pf : Addr} {H1 : Hp}, Same HF H1 → True := fun _ => trivial
    refine ⟨tF, fun G0 x0 u0 => ?_⟩
    have v0 := Evo.ext x0
    have dG0 : Dice G0 d := by obtain ⟨x, y, z, e⟩ := hdF'; exact ⟨x, y, z, x0 _ _ e (by intro _ z; cases z)⟩
    refine ⟨_, rfl, _, rfl, (by show 1 ≤ sizeLine; decide), fun pa qa => ?_⟩
    refine ⟨po, .ref p2, .ref pa, none, rfl, ((oddF.evo v0).same (Same.new (Same.refl _) qa)), fun G1 g1 => ⟨rfl, ?_⟩⟩
    refine ⟨(by show 1 ≤ sizeLine; decide), fun pf qf => ?_⟩
    have e0 : Same G0 (upd G1 pf (.lst [.bl true])) := Same.new ((Same.new (Same.refl _) qa).trans g1) qf
    have nfH : ∀ o, H pf = some o → ∃ ps, o = .tbl ps := fun o q => by
      have h1 : G0 pf = none := ((Same.new (Same.refl _) qa).trans g1).free qf
      have h2 : pf ≠ d := (dG0.ne_none h1).symm
      have h3 := bHF _ _ h2 q
      by_cases ht : ∃ ps, o = .tbl ps
      · exact ht
      · rw [x0 _ _ h3 (fun ps z => ht ⟨ps, z⟩)] at h1; cases h1
    have S0 : ErS K [(PT, "_law_errors_right.<locals>." ++ "<lambda>")] H d p1 p2 pf po xB xF us (upd G1 pf (.lst [.bl true])) ([] ++ [.bl true]) :=
      ⟨u0.ext e0, fun b o n t e => e0 _ _ (x0 _ _ (bHF b o n e) t), dG0.same e0, e0 _ _ (v0.tup colsF), e0 _ _ (v0.tup intsF), (oddF.evo v0).same e0, (badF.evo v0).same e0, (hfar.evo v0).same e0, upd_same, nfH, (dG0.ne_none (((Same.new (Same.refl _) qa).trans g1).free qf)).symm⟩
    obtain ⟨F0, eF0⟩ : ∃ F0 : Hp, F0 = upd G1 pf (.lst [.bl true]) := ⟨_, rfl⟩
    rw [← eF0] at S0 ⊢
    refine ⟨_, rfl, .inl ⟨rfl, _, SqL.of S0.found⟩, S0.tabs, fun G11 x1 u1 => ?_⟩
    have R1 := S0.lam x1 u1
    refine ⟨_, rfl, _, rfl, (by show 1 ≤ sizeLine; decide), fun pa qa => ?_⟩
    replace R1 := R1.same (Same.new (o := .tup [.str "a"]) (Same.refl _) qa)
    refine ⟨.ref p1, xB, _, some abw, rfl, ⟨p1, rfl, R1.cols, by decide, by decide +kernel, by decide +kernel⟩, none, R1.bad, fun G g => ⟨rfl, ?_⟩⟩
    replace R1 := R1.same g
    refine ⟨pf, _, _, rfl, rfl, R1.found, by simp; decide, ?_⟩
    have S1 := R1.app (.bl true)
    obtain ⟨F1, eF1⟩ : ∃ F1 : Hp, F1 = upd G pf (.lst (([] ++ [.bl true]) ++ [.bl true])) := ⟨_, rfl⟩
    rw [← eF1] at S1 ⊢
    refine ⟨_, rfl, .inl ⟨rfl, _, SqL.of S1.found⟩, S1.tabs, fun G12 x2 u2 => ?_⟩
    have R2 := S1.lam x2 u2
    refine ⟨_, rfl, _, rfl, _, rfl, ?_⟩
    refine ⟨.ref p1, .ref p2, po, some abw, rfl, ⟨p1, rfl, R2.cols, by decide, by decide +kernel, by decide +kernel⟩, some [1, 0, -7], ⟨p2, rfl, R2.intg, rfl⟩, none, R2.odd, fun G g => ⟨rfl, ?_⟩⟩
    replace R2 := R2.same g
    refine ⟨pf, _, _, rfl, rfl, R2.found, by simp; decide, ?_⟩
    have S2 := R2.app (.bl true)
    obtain ⟨F2, eF2⟩ : ∃ F2 : Hp, F2 = upd G pf (.lst ((([] ++ [.bl true]) ++ [.bl true]) ++ [.bl true])) := ⟨_, rfl⟩
    rw [← eF2] at S2 ⊢
    refine ⟨_, rfl, .inl ⟨rfl, _, SqL.of S2.found⟩, S2.tabs, fun G13 x3 u3 => ?_⟩
    have R3 := S2.lam x3 u3
    refine ⟨_, rfl, _, rfl, _, rfl, ?_⟩
    refine ⟨.ref p1, .ref p2, xF, some abw, rfl, ⟨p1, rfl, R3.cols, by decide, by decide +kernel, by decide +kernel⟩, some [1, 0, -7], ⟨p2, rfl, R3.intg, rfl⟩, some us, R3.far, .inl ⟨hus, fun G g => ⟨rfl, ?_⟩⟩⟩
    replace R3 := R3.same g
    refine ⟨pf, _, _, rfl, rfl, R3.found, by simp; decide, ?_⟩
    have S3 := R3.app (.bl true)
    obtain ⟨F3, eF3⟩ : ∃ F3 : Hp, F3 = upd G pf (.lst (((([] ++ [.bl true]) ++ [.bl true]) ++ [.bl true]) ++ [.bl true])) := ⟨_, rfl⟩
    rw [← eF3] at S3 ⊢
    refine ⟨_, rfl, .inl ⟨rfl, _, SqL.of S3.found⟩, S3.tabs, fun G14 x4 u4 => ?_⟩
    have R4 := S3.lam x4 u4
    refine ⟨_, rfl, _, rfl, _, rfl, _, rfl, ?_⟩
    refine ⟨po, .ref p2, .ref p1, .ref p2, none, rfl, R4.odd, fun G g => ⟨rfl, ?_⟩⟩
    replace R4 := R4.same g
    refine ⟨pf, _, _, rfl, rfl, R4.found, by simp; decide, ?_⟩
    have S4 := R4.app (.bl true)
    obtain ⟨F4, eF4⟩ : ∃ F4 : Hp, F4 = upd G pf (.lst ((((([] ++ [.bl true]) ++ [.bl true]) ++ [.bl true]) ++ [.bl true]) ++ [.bl true])) := ⟨_, rfl⟩
    rw [← eF4] at S4 ⊢
    refine ⟨_, rfl, .inl ⟨rfl, _, SqL.of S4.found⟩, S4.tabs, fun G15 x5 u5 => ?_⟩
    have R5 := S4.lam x5 u5
    refine ⟨_, rfl, _, rfl, _, rfl, _, rfl, ?_⟩
    refine ⟨.ref p1, xB, .ref p1, .ref p2, some abw, rfl, ⟨p1, rfl, R5.cols, by decide, by decide +kernel, by decide +kernel⟩, none, R5.bad, fun G g => ⟨rfl, ?_⟩⟩
    replace R5 := R5.same g
    refine ⟨pf, _, _, rfl, rfl, R5.found, by simp; decide, ?_⟩
    have S5 := R5.app (.bl true)
    obtain ⟨F5, eF5⟩ : ∃ F5 : Hp, F5 = upd G pf (.lst (((((([] ++ [.bl true]) ++ [.bl true]) ++ [.bl true]) ++ [.bl true]) ++ [.bl true]) ++ [.bl true])) := ⟨_, rfl⟩
    rw [← eF5] at S5 ⊢
    refine ⟨_, rfl, .inl ⟨rfl, _, SqL.of S5.found⟩, S5.tabs, fun G16 x6 u6 => ?_⟩
    have R6 := S5.lam x6 u6
    refine ⟨_, rfl, _, rfl, _, rfl, _, rfl, ?_⟩
    refine ⟨.ref p1, .ref p2, po, .ref p2, some abw, rfl, ⟨p1, rfl, R6.cols, by decide, by decide +kernel, by decide +kernel⟩, some [1, 0, -7], ⟨p2, rfl, R6.intg, rfl⟩, none, R6.odd, fun G g => ⟨rfl, ?_⟩⟩
    replace R6 := R6.same g
    refine ⟨pf, _, _, rfl, rfl, R6.found, by simp; decide, ?_⟩
    have S6 := R6.app (.bl true)
    obtain ⟨F6, eF6⟩ : ∃ F6 : Hp, F6 = upd G pf (.lst ((((((([] ++ [.bl true]) ++ [.bl true]) ++ [.bl true]) ++ [.bl true]) ++ [.bl true]) ++ [.bl true]) ++ [.bl true])) := ⟨_, rfl⟩
    rw [← eF6] at S6 ⊢
    refine ⟨_, rfl, .inl ⟨rfl, _, SqL.of S6.found⟩, S6.tabs, fun G17 x7 u7 => ?_⟩
    have R7 := S6.lam x7 u7
    refine ⟨_, rfl, _, rfl, _, rfl, _, rfl, ?_⟩
    refine ⟨.ref p1, .ref p2, .ref p1, xB, some abw, rfl, ⟨p1, rfl, R7.cols, by decide, by decide +kernel, by decide +kernel⟩, some [1, 0, -7], ⟨p2, rfl, R7.intg, rfl⟩, some abw, ⟨p1, rfl, R7.cols, by decide, by decide +kernel, by decide +kernel⟩, none, R7.bad, fun G g => ⟨rfl, ?_⟩⟩
    replace R7 := R7.same g
    refine ⟨pf, _, _, rfl, rfl, R7.found, by simp; decide, ?_⟩
    have S7 := R7.app (.bl true)
    obtain ⟨F7, eF7⟩ : ∃ F7 : Hp, F7 = upd G pf (.lst (((((((([] ++ [.bl true]) ++ [.bl true]) ++ [.bl true]) ++ [.bl true]) ++ [.bl true]) ++ [.bl true]) ++ [.bl true]) ++ [.bl true])) := ⟨_, rfl⟩
    rw [← eF7] at S7 ⊢
    refine ⟨_, rfl, .inl ⟨rfl, _, SqL.of S7.found⟩, S7.tabs, fun G18 x8 u8 => ?_⟩
    have R8 := S7.lam x8 u8
    refine ⟨_, rfl, _, rfl, _, rfl, _, rfl, ?_⟩
    refine ⟨.ref p1, xB, po, xB, some abw, rfl, ⟨p1, rfl, R8.cols, by decide, by decide +kernel, by decide +kernel⟩, none, R8.bad, fun G g => ⟨rfl, ?_⟩⟩
    replace R8 := R8.same g
    refine ⟨pf, _, _, rfl, rfl, R8.found, by simp; decide, ?_⟩
    have S8 := R8.app (.bl true)
    obtain ⟨F8, eF8⟩ : ∃ F8 : Hp, F8 = upd G pf (.lst ((((((((([] ++ [.bl true]) ++ [.bl true]) ++ [.bl true]) ++ [.bl true]) ++ [.bl true]) ++ [.bl true]) ++ [.bl true]) ++ [.bl true]) ++ [.bl true])) := ⟨_, rfl⟩
    rw [← eF8] at S8 ⊢
    have f8 : F8 pf = some (.lst ([.bl true, .bl true, .bl true, .bl true, .bl true, .bl true, .bl true, .bl true, .bl true] : List V)) := S8.found
    refine ⟨_, rfl, (by show 1 ≤ sizeLine; decide), fun pl ql => ?_⟩
    have npl := ne_of_none f8 ql
    refine ⟨pl, 9, _, rfl, rfl, upd_same, by decide, by decide, by decide, fun pm qm => ?_⟩
    have npm : pf ≠ pm := ne_of_none (by rw [upd_ne npl]; exact f8) qm
    have sF : Same F8 (upd (upd F8 pl (.lst [.bl true])) pm (.lst ([.bl true, .bl true, .bl true, .bl true, .bl true, .bl true, .bl true, .bl true, .bl true] : List V))) := Same.new (Same.new (Same.refl _) ql) qm
    refine ⟨.list (List.replicate 9 (.bool true)), .list (List.replicate 9 (.bool true)), .lst (xs := [.bl true, .bl true, .bl true, .bl true, .bl true, .bl true, .bl true, .bl true, .bl true]) (SqL.of (sF _ _ f8)) (.cons (.bl _) (.cons (.bl _) (.cons (.bl _) (.cons (.bl _) (.cons (.bl _) (.cons (.bl _) (.cons (.bl _) (.cons (.bl _) (.cons (.bl _) .nil))))))))), .lst (xs := [.bl true, .bl true, .bl true, .bl true, .bl true, .bl true, .bl true, .bl true, .bl true]) (SqL.of upd_same) (.cons (.bl _) (.cons (.bl _) (.cons (.bl _) (.cons (.bl _) (.cons (.bl _) (.cons (.bl _) (.cons (.bl _) (.cons (.bl _) (.cons (.bl _) .nil))))))))), by decide +kernel, by decide +kernel, true, rfl, ?_⟩
    have S9 := S8.same sF
    refine ⟨S9.tabs, fun G9 x9 u9 => ?_⟩
    have R9 := S9.lam x9 u9
    refine ⟨_, rfl, _, rfl, (by show 0 ≤ sizeLine; decide), fun pe qe => ?_⟩
    have R10 := R9.same (Same.new (o := .tup []) (Same.refl _) qe)
    refine ⟨.ref p1, .ref p2, .ref pe, some abw, rfl, ⟨p1, rfl, R10.cols, by decide, by decide +kernel, by decide +kernel⟩, some [1, 0, -7], ⟨p2, rfl, R10.intg, rfl⟩, some [], ⟨pe, rfl, upd_same, by decide, by simp, by decide +kernel⟩, .inr ⟨[], rfl, fun pz G10 qz gz hz => ?_⟩⟩
    have R11 := R10.same gz
    exact ⟨false, rfl, k _ R11.but R11.dice R11.tabs⟩
end
end K1

/-! ## K17 -/
set_option Elab.async false
set_option linter.all false
set_option maxRecDepth 100000
set_option maxHeartbeats 8000000
namespace K1
open PySem PySem.Spec PyProof.Rows L2
abbrev s_tr : Stmt := topS 25
abbrev N_tr : List Str := ["dice", "turn", "value", "some", "words", "again"]
theorem sc_tr : FnScope N_tr ["dice"] (defScope s_tr) := ⟨rfl, rfl, rfl, by decide +kernel, rfl, by decide +kernel, by decide +kernel⟩
def spTr : Sp := fun vs H Q _ => ∃ d : Addr, vs = [.ref d] ∧ Dice H d ∧ ∀ H', But d H H' → Dice H' d → Q (.bl true) H'
structure Names3 (mg : Str → Option Value) : Prop extends Names2 mg where
  range : mg "range" = none
  repr : mg "repr" = none
  sorted : mg "sorted" = none
  dict : mg "dict" = none
theorem two_short (a b : Bool) : (PyData.shown (.list [.bool a, .bool b])).length ≤ sizeLine := by
  refine Nat.le_trans (PyData.shown_le_bulk 8 (by decide) _ (by simp [PyData.leavesShort, PyData.leavesShortAll])) ?_
  show (8 + 2) * (0 + 1 + (0 + 1 + 0)) + 8 ≤ sizeLine
  decide
theorem bool_short (a : Bool) : (PyData.shown (.bool a)).length ≤ sizeLine := by cases a <;> decide
theorem good_of {z : Str} (h : PyData.strOk z = true) (l : z.length ≤ 10) : GoodS z := ⟨Nat.le_trans l (by decide), h⟩
/-- different words of the fourteen -/
structure Wd (zs : List Str) : Prop where
  nd : zs.Nodup
  mem : ∀ z ∈ zs, z ∈ words14
  len : zs.length ≤ 14
theorem w14_nd : words14.Nodup := by decide +kernel
theorem w14_name : ∀ z ∈ words14, nameB z = true := by decide +kernel
theorem w14_good : ∀ z ∈ words14, PyData.strOk z = true ∧ z.length ≤ 10 := by decide +kernel
theorem Wd.perm {xs ys : List Str} (h : Wd xs) (p : ys.Perm xs) : Wd ys := ⟨p.nodup_iff.mpr h.nd, fun z hz => h.mem z (p.mem_iff.mp hz), by rw [p.length_eq]; exact h.len⟩
theorem Wd.take {xs : List Str} (h : Wd xs) (n : Nat) : Wd (xs.take n) := ⟨h.nd.sublist (List.take_sublist n xs), fun z hz => h.mem z (List.mem_of_mem_take hz), Nat.le_trans (List.length_take_le' n xs) h.len⟩
theorem Wd.of {ys : List Str} (p : ys.Perm words14) : Wd ys := Wd.perm ⟨w14_nd, fun _ h => h, by decide⟩ p
theorem Wd.short {zs : List Str} (h : Wd zs) : ∀ z ∈ zs, z.length ≤ sizeLine := fun z hz => Nat.le_trans (w14_good z (h.mem z hz)).2 (by decide)
theorem Wd.asc {zs : List Str} (h : Wd zs) (s : sortedS zs = true) : ascB zs = true := pair_asc (sorted_lt s h.nd)
theorem Wd.cols {zs : List Str} (h : Wd zs) : colsB (zs.map some) = ascB zs := by
  have e : (zs.map some).all nameO = true := by
    rw [List.all_map, List.all_eq_true]
    exact fun z hz => w14_name z (h.mem z hz)
  unfold colsB
  rw [e, Bool.true_and, List.filterMap_map]
  simp
theorem Wd.shape {zs : List Str} (h : Wd zs) : SeqAt.shaped (.list (zs.map PyData.str)) = true := shaped_strs zs fun z hz => (w14_good z (h.mem z hz)).1
section
variable {P : Program} {w : World} {K : PySem.W.Frag} {mg : Str → Option Value} {base : Heap}
theorem ok_tr {f : Addr} {fd : FuncData} (F : Fun K "_law_told_right" "_law_told_right" s_tr f fd) (T : Names3 mg)
    (CS : Callee P w K mg base CX0 4 "_law_string" ["dice"] spString) (CN : Callee P w K mg base CX0 1 "is_name" ["value"] (spName K)) (CC : Callee P w K mg base CX0 2 "is_columns" ["value"] (spCols K))
    (CD : Callee P w K mg base CX0 1 "_law_is_due" ["value"] (spDue K)) (CA : Callee P w K mg base CX0 2 "_law_are_due" ["value"] spAre) (CR : Callee P w K mg base CX0 1 "_law_roll" ["dice", "upto"] spRoll)
    (CO : Callee P w K mg base CX0 3 "_law_odd" ["dice"] (spOdd K)) (CW : Callee P w K mg base CX0 3 "_law_words" ["dice", "upto"] spWords) : FnOkG P w K mg base 5 f fd ["dice"] spTr := by
  have nd := sc_tr.nd
  refine fn_ofG F sc_tr (fun vs H Q E h => ?_) (fun cdv A outer s H vs Q hr quiet h => ?_)
  · obtain ⟨d, rfl, _⟩ := h
    rfl
  · obtain ⟨d, rfl, hd, k⟩ := h
    have hr1 : Room 1 _ := hr.mono (by decide)
    have hr2 : Room 2 _ := hr.mono (by decide)
    have hr3 : Room 3 _ := hr.mono (by decide)
    have hu := hu_of hr
    have hu100 : (A.deeper (envOfC "_law_told_right" (defScope s_tr) s.heap.objs.size f cdv)).units + 100 < cLine := by have := hr.un; omega
    refine ⟨_, (pss_cons
    (ps_for PassesOwn.never rfl (pi_range1 (by rfl) T.range (pa_cons pe_int pa_nil)) (pg_name (i := 1) nd rfl (Or.inl rfl)) (pss_cons
      (ps_set (i := 2) nd rfl (Or.inl rfl) (pe_use CS hr rfl pass0 (pa_cons (pv 0) pa_nil)))
      (pss_cons
      (ps_if (pt_cmpR op_ne (pe_callB (call_reprD quiet hu100) (by rfl) T.repr (by decide +kernel) (pa_cons (pe_lst (pa_cons (pe_use CN hr1 rfl pass0 (pa_cons (pv 2) pa_nil)) (pa_cons (pe_use CC hr2 rfl pass0 (pa_cons (pe_tup (pa_cons (pv 2) pa_nil)) pa_nil)) pa_nil))) pa_nil)) (pe_callB (call_reprD quiet hu100) (by rfl) T.repr (by decide +kernel) (pa_cons (pe_lst (pa_cons (pe_use CD hr1 rfl pass0 (pa_cons (pv 2) pa_nil)) (pa_cons (pe_use CA hr2 rfl pass0 (pa_cons (pe_tup (pa_cons (pv 2) pa_nil)) pa_nil)) pa_nil))) pa_nil)) (nomark _)) (pss_one
        (ps_ret pe_bl)) pss_nil)
      (pss_cons
      (ps_set (i := 3) nd rfl (Or.inl rfl) (pe_callTy call_tuple_of (by rfl) T.tuple (by decide +kernel) (pa_cons (pe_lc (own := [("again", 5)]) (g := (gName 5)) rfl nd (pi_range1 (by rfl) T.range (pa_cons (pe_use CR hr1 rfl pass0 (pa_cons (pv 0) (pa_cons pe_int pa_nil))) pa_nil)) (blkOk_by (N := N_tr) (sc := defScope s_tr) (by decide +kernel)) (fun _ _ _ _ _ => (pg_name (i := 5) nd rfl (Or.inl rfl))) (fun _ _ _ _ _ => pts_nil) (fun _ _ _ _ _ => (pe_use CS hr rfl pass0 (pa_cons (pv 0) pa_nil)))) pa_nil)))
      (pss_one
      (ps_if (PW.pt (pw_or (pt_cmpR op_ne (pe_callB (call_reprD quiet hu100) (by rfl) T.repr (by decide +kernel) (pa_cons (pe_use CC hr2 rfl pass0 (pa_cons (pv 3) pa_nil)) pa_nil)) (pe_callB (call_reprD quiet hu100) (by rfl) T.repr (by decide +kernel) (pa_cons (pe_use CA hr2 rfl pass0 (pa_cons (pv 3) pa_nil)) pa_nil)) (nomark _)) (pw_or1 (pt_cmpR op_notBl (pe_use CC hr2 rfl pass0 (pa_cons (pe_callTy call_list_of (by rfl) T.list (by decide +kernel) (pa_cons (pv 3) pa_nil)) pa_nil)) pe_bl (nomark _))))) (pss_one
        (ps_ret pe_bl)) pss_nil))))))
    (pss_cons
    (ps_set (i := 2) nd rfl (Or.inl rfl) (pe_use CO hr3 rfl pass0 (pa_cons (pv 0) pa_nil)))
    (pss_cons
    (ps_if (PW.pt (pw_or (pt_cmpR op_notBl (pe_use CC hr2 rfl pass0 (pa_cons (pv 2) pa_nil)) pe_bl (nomark _)) (pw_or (pt_cmpR op_notBl (pe_use CN hr1 rfl pass0 (pa_cons (pe_lst (pa_cons (pv 2) pa_nil)) pa_nil)) pe_bl (nomark _)) (pw_or1 (pt_cmpR op_notBl (pe_use CN hr1 rfl pass0 (pa_cons (pe_tup (pa_cons (pv 2) pa_nil)) pa_nil)) pe_bl (nomark _)))))) (pss_one
      (ps_ret pe_bl)) pss_nil)
    (pss_cons
    (ps_set (i := 4) nd rfl (Or.inl rfl) (pe_use CW hr3 rfl pass0 (pa_cons (pv 0) (pa_cons (pe_op op_add pe_int (pe_use CR hr1 rfl pass0 (pa_cons (pv 0) (pa_cons pe_int pa_nil)))) pa_nil))))
    (pss_cons
    (ps_if (pt_cmpR op_notBl (pe_use CC hr2 rfl pass0 (pa_cons (pe_callTy call_tuple_of (by rfl) T.tuple (by decide +kernel) (pa_cons (pe_callB cr_sortedS (by rfl) T.sorted (by decide +kernel) (pa_cons (pv 4) pa_nil)) pa_nil)) pa_nil)) pe_bl (nomark _)) (pss_one
      (ps_ret pe_bl)) pss_nil)
    (pss_one
    (ps_ret (pe_cmpR op_eq (pe_callB (call_reprD quiet hu100) (by rfl) T.repr (by decide +kernel) (pa_cons (pe_use CC hr2 rfl pass0 (pa_cons (pe_callTy call_tuple_of (by rfl) T.tuple (by decide +kernel) (pa_cons (pv 4) pa_nil)) pa_nil)) pa_nil)) (pe_callB (call_reprD quiet hu100) (by rfl) T.repr (by decide +kernel) (pa_cons (pe_cmpR (op_eqD hr.units) (pv 4) (pe_callB cr_sortedS (by rfl) T.sorted (by decide +kernel) (pa_cons (pv 4) pa_nil)) (nomark _)) pa_nil)) (nomark _))))))))), ?_⟩
    refine ⟨6, rfl, by decide, by decide, for_range (n := 6) (fun i σ H' => ∃ v1 v2 v3 : Option V, σ = [some (.ref d), v1, v2, v3, none, none] ∧ But d H H' ∧ Dice H' d) ⟨none, none, none, rfl, But.refl d H, hd⟩ (fun i σ H1 hi ⟨v1, v2, v3, hσ, b1, hd1⟩ => ?_) (fun σ H1 ⟨v1, v2, v3, hσ, b1, hd1⟩ => ?_)⟩
    · subst hσ
      refine ⟨_, rfl, d, rfl, hd1, fun z H2 hok hz b2 hd2 => ?_⟩
      have gz := good_of hok hz
      -- the texts of both answers about one text
      refine ⟨_, rfl, .str z, nameB z, rfl, .inl ⟨z, rfl, gz.1, rfl⟩, fun H3 s3 => ?_⟩
      refine ⟨_, rfl, (by show 1 ≤ sizeLine; decide), fun p3 q3 => ?_⟩
      refine ⟨.ref p3, _, rfl, .inr ⟨p3, _, [some z], rfl, upd_same, by simp, .cons (.inl ⟨z, rfl, gz.1, rfl⟩) .nil, rfl⟩, fun H4 s4 => ?_⟩
      refine ⟨(by show 2 ≤ sizeLine; decide), fun p4 q4 => ?_⟩
      refine ⟨.ref p4, .list [.bool (nameB z), .bool (colsB [some z])], rfl, .lst (SqL.of upd_same) (.cons (.bl _) (.cons (.bl _) .nil)), rfl, rfl, Nat.le_of_ble_eq_true rfl, two_short _ _, .inl ⟨_, rfl⟩, ?_⟩
      refine ⟨_, rfl, .str z, nameB z, rfl, .inl ⟨z, rfl, gz.1, gz.2, rfl⟩, fun H5 s5 => ?_⟩
      refine ⟨_, rfl, (by show 1 ≤ sizeLine; decide), fun p5 q5 => ?_⟩
      refine ⟨p5, [z], rfl, upd_same, by simp, by simpa using gz, fun H6 s6 => ?_⟩
      refine ⟨(by show 2 ≤ sizeLine; decide), fun p6 q6 => ?_⟩
      refine ⟨.ref p6, .list [.bool (nameB z), .bool (colsB [some z])], rfl, .lst (SqL.of upd_same) (.cons (.bl _) (.cons (.bl _) .nil)), rfl, rfl, Nat.le_of_ble_eq_true rfl, two_short _ _, .inl ⟨_, rfl⟩, ?_⟩
      refine ⟨rfl, _, rfl, ?_⟩
      rw [decide_eq_true rfl]
      have s7 : Same H2 (upd H6 p6 (.lst [.bl (nameB z), .bl (colsB [some z])])) := by
        refine Same.new ?_ q6
        refine Same.trans ?_ s6
        refine Same.new ?_ q5
        refine Same.trans ?_ s5
        refine Same.new ?_ q4
        refine Same.trans ?_ s4
        exact Same.new s3 q3
      have hd7 := hd2.same s7
      have b7 : But d H1 (upd H6 p6 (.lst [.bl (nameB z), .bl (colsB [some z])])) := b2.trans (But.same s7)
      -- a tuple of up to two texts
      refine ⟨_, rfl, d, 3, rfl, hd7, by decide, by decide, fun r H8 r0 r1 b8 hd8 => ?_⟩
      refine ⟨r, rfl, by omega, by omega, fun D hD => ?_⟩
      obtain ⟨n, rfl⟩ : ∃ n : Nat, r = n := ⟨r.toNat, by omega⟩
      rw [show ((n : Int)).toNat = n from Int.toNat_natCast n]
      refine lc_accB (d := d) (walk_range (lo := 0) (n := n)) (fun i L => ∃ ys : List Str, L = ys.map V.str ∧ ys.length = i ∧ ∀ y ∈ ys, GoodS y) ⟨[], rfl, rfl, by simp⟩ hD hd8 (fun i L hi hL => ?_) (fun _ _ _ => trivial) (fun i L x H9 H10 N hi hL b9 hd9 y keep => ?_) (fun H9 L hL b9 hd9 hDL => ?_)
      · obtain ⟨ys, rfl, e, _⟩ := hL
        have : (10 : Nat) < sizeLine := by decide
        rw [List.length_map]; omega
      · obtain ⟨rfl, rfl⟩ := y
        obtain ⟨ys, rfl, e, hc⟩ := hL
        refine ⟨rfl, _, rfl, d, rfl, hd9, fun z2 H11 ok2 l2 b11 hd11 => keep _ _ b11 hd11 ⟨ys ++ [z2], by rw [List.map_append]; rfl, by simp [e], fun y hy => ?_⟩⟩
        rcases List.mem_append.mp hy with h | h
        · exact hc y h
        · rw [List.mem_singleton] at h; subst h; exact good_of ok2 l2
      · obtain ⟨ys, rfl, e, hc⟩ := hL
        refine ⟨D, _, rfl, .inl ⟨SqL.of hDL, fun p9 q9 => ?_⟩⟩
        have hdA := hd9.new (o := .tup (ys.map V.str)) q9
        have bA : But d H1 (upd H9 p9 (.tup (ys.map V.str))) := ((b7.trans b8).trans b9).new q9
        obtain ⟨HA, eA, hpA⟩ : ∃ HA : Hp, HA = upd H9 p9 (.tup (ys.map V.str)) ∧ HA p9 = some (.tup (ys.map V.str)) := ⟨_, rfl, upd_same⟩
        rw [← eA] at hdA bA ⊢
        have good : ∀ z ∈ ys, z.length ≤ sizeLine := fun z hz => (hc z hz).1
        refine ⟨_, rfl, .ref p9, _, rfl, .inr ⟨p9, _, _, rfl, hpA, by rw [List.length_map]; omega, parts_some good, rfl⟩, fun HB sB => ?_⟩
        refine ⟨.bl _, .bool (colsB (ys.map some)), rfl, .bl _, rfl, rfl, Nat.le_of_ble_eq_true rfl, bool_short _, .inr (.inl ⟨_, rfl⟩), ?_⟩
        refine ⟨_, rfl, p9, ys, rfl, sB _ _ hpA, by omega, hc, fun HC sC => ?_⟩
        refine ⟨.bl _, .bool (colsB (ys.map some)), rfl, .bl _, rfl, rfl, Nat.le_of_ble_eq_true rfl, bool_short _, .inr (.inl ⟨_, rfl⟩), ?_⟩
        refine ⟨rfl, _, rfl, ?_⟩
        rw [decide_eq_true rfl]
        refine iteF ?_
        refine ⟨_, rfl, p9, _, rfl, .inr (SqT.of (sC _ _ (sB _ _ hpA))), fun l ql => ?_⟩
        refine ⟨.ref l, false, rfl, .inl ⟨⟨_, .base (.lst upd_same), kit_ty (by decide +kernel)⟩, rfl⟩, fun HD sD => ?_⟩
        refine ⟨_, _, rfl, rfl, _, rfl, ?_⟩
        rw [decide_eq_true rfl]
        have sE : Same HA HD := (Same.new (sB.trans sC) ql).trans sD
        exact ⟨_, _, _, rfl, b1.trans (bA.trans (But.same sE)), hdA.same sE⟩
    · subst hσ
      refine ⟨_, rfl, d, rfl, hd1, fun x H2 hx b2 hd2 => ?_⟩
      obtain ⟨b, eb, hb⟩ : ∃ b : Bool, b = false ∧ ((IsTy K H2 x "tuple" false ∧ b = false) ∨ (∃ a xs os, x = .ref a ∧ H2 a = some (.tup xs) ∧ xs.length ≤ 1000 ∧ Paired (PartOk K H2) xs os ∧ b = colsB os)) := by
        refine ⟨false, rfl, ?_⟩
        rcases hx with h | ⟨a, xs, os, e, h1, h2, h3, h4⟩
        · exact .inl ⟨h, rfl⟩
        · exact .inr ⟨a, xs, os, e, h1, h2, h3, h4.symm⟩
      subst eb
      refine ⟨_, rfl, x, false, rfl, hb, fun H3 s3 => ⟨_, _, rfl, rfl, _, rfl, ?_⟩⟩
      rw [decide_eq_true rfl]
      refine iteF ⟨_, rfl, Nat.le_of_ble_eq_true rfl, fun p3 q3 => ?_⟩
      refine ⟨.ref p3, false, rfl, .inr ⟨⟨_, .base (.lst upd_same), kit_ty (by decide +kernel)⟩, rfl⟩, fun H4 s4 => ⟨_, _, rfl, rfl, _, rfl, ?_⟩⟩
      rw [decide_eq_true rfl]
      refine iteF ⟨_, rfl, Nat.le_of_ble_eq_true rfl, fun p4 q4 => ?_⟩
      refine ⟨.ref p4, false, rfl, .inr ⟨⟨_, .base (.tup upd_same), kit_ty (by decide +kernel)⟩, rfl⟩, fun H5 s5 => ⟨_, _, rfl, rfl, _, rfl, ?_⟩⟩
      rw [decide_eq_true rfl]
      refine iteF ?_
      have s6 : Same H2 H5 := ((Same.new ((Same.new s3 q3).trans s4) q4).trans s5)
      refine ⟨_, rfl, _, rfl, d, 6, rfl, hd2.same s6, by decide, by decide, fun r H6 r0 r1 b6 hd6 => ?_⟩
      obtain ⟨n, rfl⟩ : ∃ n : Nat, r = n := ⟨r.toNat, by omega⟩
      have hn6 : n < 6 := by omega
      refine ⟨_, _, rfl, rfl, d, 1 + n, ?_, by omega, hd6, fun ys p7 H7 pm q7 b7 hd7 h7 => ?_⟩
      · show [V.ref d, V.int ((1 : Int) + (n : Int))] = [V.ref d, V.int ((1 + n : Nat) : Int)]
        rw [Int.natCast_add]; rfl
      obtain ⟨zs, ez, hW⟩ : ∃ zs, zs = ys.take (1 + n) ∧ Wd zs := ⟨_, rfl, (Wd.of pm).take _⟩
      rw [← ez] at h7
      have hl := hW.len
      have hlz : zs.length < 64 := by omega
      refine ⟨_, rfl, p7, zs, rfl, SqL.of h7, hlz, fun xs p8 pm8 st8 q8 => ?_⟩
      have hX := hW.perm pm8
      have hlx := hX.len
      have h78 : p7 ≠ p8 := ne_of_none h7 q8
      refine ⟨p8, _, rfl, .inl ⟨SqL.of upd_same, fun p9 q9 => ?_⟩⟩
      have s9 : Same H7 (upd (upd H7 p8 (.lst (xs.map V.str))) p9 (.tup (xs.map V.str))) := Same.new (Same.new (Same.refl _) q8) q9
      refine ⟨.ref p9, true, rfl, .inr ⟨p9, _, _, rfl, upd_same, by rw [List.length_map]; omega, parts_some hX.short, by rw [hX.cols, hX.asc st8]⟩, fun H10 s10 => ⟨_, _, rfl, rfl, _, rfl, ?_⟩⟩
      rw [decide_eq_true rfl]
      refine iteF ?_
      have s7 := s9.trans s10
      refine ⟨_, rfl, p7, _, rfl, .inl ⟨SqL.of (s7 _ _ h7), fun p11 q11 => ?_⟩⟩
      refine ⟨.ref p11, ascB zs, rfl, .inr ⟨p11, _, _, rfl, upd_same, by rw [List.length_map]; omega, parts_some hW.short, hW.cols.symm⟩, fun H12 s12 => ?_⟩
      refine ⟨.bl _, .bool (ascB zs), rfl, .bl _, rfl, rfl, Nat.le_of_ble_eq_true rfl, bool_short _, .inr (.inl ⟨_, rfl⟩), ?_⟩
      have s8 := (Same.new s7 q11).trans s12
      have h12 := s8 _ _ h7
      refine ⟨_, rfl, _, rfl, p7, zs, rfl, SqL.of h12, hlz, fun xs2 p13 pm13 st13 q13 => ?_⟩
      have hY := hW.perm pm13
      have h713 : p7 ≠ p13 := ne_of_none h12 q13
      refine ⟨.list (zs.map PyData.str), .list (xs2.map PyData.str), .lst (SqL.of (by rw [upd_ne h713]; exact h12)) (dp_strs _), .lst (SqL.of upd_same) (dp_strs _), hW.shape, hY.shape, ?_⟩
      rw [eqv_strs, eq_sorted hY.nd (fun z => pm13.mem_iff) st13]
      refine ⟨.bl _, .bool (ascB zs), rfl, .bl _, rfl, rfl, Nat.le_of_ble_eq_true rfl, bool_short _, .inr (.inl ⟨_, rfl⟩), ?_⟩
      refine ⟨rfl, ?_⟩
      rw [decide_eq_true rfl]
      have sE := Same.new (o := .lst (xs2.map V.str)) s8 q13
      have bE := ((((b1.trans b2).trans (But.same s6)).trans b6).trans b7).trans (But.same sE)
      exact k _ bE (hd7.same sE)
end
end K1

/-! ## K18 -/
set_option Elab.async false
set_option linter.all false
set_option maxRecDepth 100000
set_option maxHeartbeats 8000000
namespace K1
open PySem PySem.Spec PyProof.Rows L2
/-! ### enumerate of a tuple -/
def IteT (K : PySem.W.Frag) (a : Addr) : It :=
  ⟨fun i H => ∃ (xs : List V) (x : V), SqT K H a xs ∧ xs[i]? = some x, fun i H v H' => ∃ T x, v = .ref T ∧ H T = none ∧ H' = upd H T (.tup [.int (i : Nat), x]) ∧ ∀ xs, SqT K H a xs → xs[i]? = some x, fun i H => ∃ xs : List V, SqT K H a xs ∧ xs.length ≤ i⟩
theorem walk_enumT {K : PySem.W.Frag} {a : Addr} {xs : List V} : Walk (IteT K a) xs.length (fun H => SqT K H a xs) (YPair (fun i => some (.int (i : Nat))) (fun i => xs[i]?)) := by
  refine ⟨fun i _ hi q => ⟨xs, xs[i], q, by simp [hi]⟩, fun _ q => ⟨xs, q, Nat.le_refl _⟩, fun i H v H' _ q y => ?_⟩
  obtain ⟨T, x, h1, h2, h3, h4⟩ := y
  exact ⟨T, .int (i : Nat), x, h1, h2, h3, rfl, h4 xs q⟩
theorem turn_enumT {P : Program} {w : World} {K : PySem.W.Frag} {elts : List Expr} {kk : Nat} {tpos : Pos} (a e it : Addr) :
    Turn P w K (.Tuple elts kk tpos) (IteT K a) [e, it] e (fun i h => (∃ old, IsEnum h e it ((i : Nat) : Int) old) ∧ h.IsTupleIter it a i ∧ e ≠ it) where
  mem := by simp
  obj := fun i h st b hb => by
    obtain ⟨⟨old, en⟩, ⟨o, ho, _, hd⟩, _⟩ := st
    rcases List.mem_cons.mp hb with rfl | hb
    · exact ⟨_, en, fun v q => nomatch q⟩
    · rw [List.mem_singleton] at hb
      subst hb
      exact ⟨o, ho, fun v q => by rw [hd] at q; cases q⟩
  keep := fun i h h' st k => by
    obtain ⟨⟨old, en⟩, at_, ne⟩ := st
    exact ⟨⟨old, k e (by simp) _ en⟩, at_.at fun o q => k it (by simp) o q, ne⟩
  item := by
    intro X hP hw hK hc i pins s σ H E I hf st go
    subst hP hw hK
    obtain ⟨⟨old, en⟩, at_, ne⟩ := st
    obtain ⟨xs, x, hq, hx⟩ := go
    obtain ⟨us, rv, tp, _⟩ := I.tuple hq
    obtain ⟨u, hu, ru⟩ := rv.get hx
    have le : e < s.heap.objs.size := Heap.lt_size en
    have li : it < s.heap.objs.size := by obtain ⟨_, q, _⟩ := at_; exact Heap.lt_size q
    refine pyNext_enumT_item en at_ tp (x := u) (by simpa using hu) ne fun h' out at2 new len kept => ?_
    refine ⟨_, rfl, wpAny_letOwnedTupleGo_enum (s := { s with heap := h', toks := s.toks + 1 }) out fun h'' en2 sb => ?_⟩
    have up : ∀ b o, b ≠ e → h'.get? b = some o → h''.get? b = some o := fun b o n q => (sb.2 b n).trans q
    have new2 := up _ _ (Nat.ne_of_gt le) new
    have ok : ObjOk X.prog X.w (upd H s.heap.objs.size (.tup [.int (i : Nat), x])) h'' s.heap.objs.size (.tup [.int (i : Nat), x]) :=
      ⟨by show 2 ≤ sizeLine; decide, [.int i s.toks, u], .cons ⟨_, rfl⟩ (.cons ru .nil), ⟨_, new2, rfl, _, rfl⟩⟩
    have J : Inv X pins σ (upd H s.heap.objs.size (.tup [.int (i : Nat), x])) { s with heap := h'', toks := s.toks + 1 } := by
      refine I.turnedNew (ch := [e, it]) (fun b o hb q => ?_) hf (Nat.le_refl _) ok
      have n1 : b ≠ e := fun z => hb (by simp [z])
      exact up b o n1 (kept b o n1 (fun z => hb (by simp [z])) q)
    refine ⟨.ref s.heap.objs.size, _, J, rfl, ⟨_, x, rfl, I.hok.fresh (Nat.le_refl _), rfl, fun l hl => by rw [I.tuple_inj hl hq]; exact hx⟩, ⟨⟨u, ?_⟩, at2.at fun o q => up _ o (Ne.symm ne) q, ne⟩, fun b hb => ?_⟩
    · rw [show ((i + 1 : Nat) : Int) = (i : Int) + 1 from by omega]
      exact en2
    · have lt : b < s.heap.objs.size := by
        rcases List.mem_cons.mp hb with rfl | hb
        · exact le
        · rw [List.mem_singleton] at hb; subst hb; exact li
      rw [upd_ne (Nat.ne_of_lt lt)]
      exact (hf b hb).1
  done := by
    intro X hP hw hK hc i pins s σ H E I hf st stop
    subst hP hw hK
    obtain ⟨⟨old, en⟩, at_, ne⟩ := st
    obtain ⟨xs, hq, hx⟩ := stop
    obtain ⟨us, rv, tp, _⟩ := I.tuple hq
    have len := rv.length
    obtain ⟨f0, f1, f2, f3, f4, f5⟩ := hf it (by simp)
    exact pyNext_enumT_end (I.ok.hd hc) en at_ tp (by simp; omega) fun h' ext => ⟨rfl, I.turned (t' := s.toks) (fun b o n q => ext b o n q) f0 f1 f3 f4 f5⟩
  self := fun A i s Q E st h => by
    obtain ⟨⟨_, en⟩, _⟩ := st
    exact wpAny_pyIter_enum en h
def iEnumT (K : PySem.W.Frag) (ta : TA) : TI := fun σ H R => ta σ H fun vs H1 => ∃ a xs, vs = [.ref a] ∧ SqT K H1 a xs ∧ R (IteT K a) H1
theorem pi_enumT {X : Cx} {e : Expr} {ta : TA} {p pos tpos : Pos} {elts : List Expr} {kk : Nat} (hc : X.calm = true) (hg : Gl X "enumerate") (hm : X.mg "enumerate" = none) (ha : PA X [e] ta) (hst : starEach [e] X.env = [(false, eval e X.env)] := by rfl) :
    PI X (.Tuple elts kk tpos) (.Call (.Name "enumerate" p) [e] [] pos) (iEnumT X.K ta) := by
  refine ⟨fun pins s σ H R I h => ?_⟩
  refine Call_ (ld_blt I hg hm boot_enumerate (PyProof.Rows.callWith_type1 (thn (ha.run pos pins s σ H _ I h) fun us s1 ⟨vs, H1, J, r, q⟩ => ?_) hst rfl))
  obtain ⟨a, xs, rfl, hq, q⟩ := q
  obtain ⟨u, rfl, ru⟩ := vals1 r
  cases ru
  obtain ⟨its, rv, tp, _⟩ := J.tuple hq
  refine call_enumT (show s1.heap.IsTuple a its.toArray from tp) fun h' en at_ kept => wpAny_pyIter_enum en ?_
  refine ⟨s1.heap.objs.size + 1, [s1.heap.objs.size + 1, s1.heap.objs.size], _, _, H1, rfl, J.kept (t' := s1.toks) kept, turn_enumT a (s1.heap.objs.size + 1) s1.heap.objs.size, ⟨⟨.none, en⟩, at_, Nat.succ_ne_self _⟩, fun b hb => ?_, q⟩
  have le : s1.heap.objs.size ≤ b := by
    rcases List.mem_cons.mp hb with rfl | hb
    · exact Nat.le_add_right _ _
    · rw [List.mem_singleton] at hb; subst hb; exact Nat.le_refl _
  exact J.fpOk le (J.hok.fresh le)
/-- both ways of a choice lead on from here -/
theorem seq_split {a b : TS} {D : Ends} {σ : L2.St} {H : Hp} (I : L2.St → Hp → Prop) (h2 : ∀ σ' H', I σ' H' → b D σ' H') (h1 : ∀ nx : L2.St → Hp → Prop, (∀ σ' H', I σ' H' → nx σ' H') → a { D with nx := nx } σ H) : tSeq a b D σ H := h1 _ h2
theorem passE0 {X : Cx} : Passes (L2.CX X.prog X.w) X E0 := fun _ _ _ _ _ _ _ ⟨_, _, _, _, _, _, _, _, _, _, _, _, h⟩ => h.elim
/-! ### the integers that are drawn -/
def Big (i : Int) : Prop := i = 0 ∨ i = 1 ∨ i = -1 ∨ i = 10 ^ 39
theorem big_short {i : Int} (h : Big i) : (PyData.shown (.int i)).length ≤ 100 := by
  rcases h with rfl | rfl | rfl | rfl <;> decide +kernel
theorem big_shape {i : Int} (h : Big i) : SeqAt.shaped (.int i) = true := rfl
theorem dp_ints {K : PySem.W.Frag} {H : Hp} : ∀ is : List Int, DpAll K H (is.map V.int) (is.map PyData.int)
  | [] => .nil
  | i :: r => .cons (.int i) (dp_ints r)
theorem ints_short : ∀ {is : List Int}, (∀ j ∈ is, Big j) → PyData.leavesShortAll 100 (is.map PyData.int) = true
  | [], _ => rfl
  | i :: r, h => by
    show (decide ((PyData.shown (.int i)).length ≤ 100) && PyData.leavesShortAll 100 (r.map PyData.int)) = true
    rw [decide_eq_true (big_short (h i List.mem_cons_self)), ints_short fun j hj => h j (List.mem_cons_of_mem _ hj)]
    rfl
theorem ints_bulk : ∀ is : List Int, PyData.bulkAll (is.map PyData.int) = is.length
  | [] => rfl
  | i :: r => by
    show 0 + 1 + PyData.bulkAll (r.map PyData.int) = r.length + 1
    rw [ints_bulk r]; omega
theorem w14_leaf : ∀ z ∈ words14, (z.cps.toList.all fun c => decide (c < 16 ^ 8)) = true ∧ z.cps.size ≤ 10 := by decide +kernel
theorem strs_short : ∀ {zs : List Str}, (∀ z ∈ zs, z ∈ words14) → PyData.leavesShortAll 100 (zs.map PyData.str) = true
  | [], _ => rfl
  | z :: r, h => by
    show ((z.cps.toList.all fun c => decide (c < 16 ^ 8)) && PyData.leavesShortAll 100 (r.map PyData.str)) = true
    rw [(w14_leaf z (h z List.mem_cons_self)).1, strs_short fun j hj => h j (List.mem_cons_of_mem _ hj)]
    rfl
theorem strs_bulk : ∀ {zs : List Str}, (∀ z ∈ zs, z ∈ words14) → PyData.bulkAll (zs.map PyData.str) ≤ 11 * zs.length
  | [], _ => Nat.le_refl _
  | z :: r, h => by
    show z.cps.size + 1 + PyData.bulkAll (r.map PyData.str) ≤ 11 * (r.length + 1)
    have := strs_bulk fun j hj => h j (List.mem_cons_of_mem z hj)
    have := (w14_leaf z (h z List.mem_cons_self)).2
    omega
theorem row_shown {is : List Int} (h : ∀ j ∈ is, Big j) (l : is.length ≤ 14) : (PyData.shown (.tuple (is.map PyData.int))).length ≤ sizeLine := by
  refine Nat.le_trans (PyData.shown_le_bulk 100 (by decide) _ (ints_short h)) ?_
  show (100 + 2) * PyData.bulkAll (is.map PyData.int) + 100 ≤ sizeLine
  rw [ints_bulk]
  have : (102 * 14 + 100 : Nat) ≤ sizeLine := by decide
  omega
theorem pair_shown {zs : List Str} {is : List Int} (hz : ∀ z ∈ zs, z ∈ words14) (lz : zs.length ≤ 14) (h : ∀ j ∈ is, Big j) (l : is.length ≤ 14) : (PyData.shown (.tuple [.tuple (zs.map PyData.str), .tuple (is.map PyData.int)])).length ≤ sizeLine := by
  refine Nat.le_trans (PyData.shown_le_bulk 100 (by decide) _ ?_) ?_
  · show (PyData.leavesShortAll 100 (zs.map PyData.str) && (PyData.leavesShortAll 100 (is.map PyData.int) && true)) = true
    rw [strs_short hz, ints_short h]; rfl
  · show (100 + 2) * (PyData.bulkAll (zs.map PyData.str) + 1 + (PyData.bulkAll (is.map PyData.int) + 1 + 0)) + 100 ≤ sizeLine
    rw [ints_bulk]
    have := strs_bulk hz
    have : (102 * (11 * 14 + 1 + (14 + 1 + 0)) + 100 : Nat) ≤ sizeLine := by decide
    omega
theorem in_strs (z : Str) (xs : List Str) : inV (.str z) (xs.map V.str) = decide (z ∈ xs) := by
  unfold inV
  induction xs with
  | nil => rfl
  | cons x r ih =>
    rw [List.map_cons, List.any_cons, ih]
    have e : eqV (.str x) (.str z) = (x == z) := rfl
    rw [e]
    by_cases h : x = z
    · subst h; simp
    · have h2 : (x == z) = false := by simpa using h
      have h3 : ¬ z = x := fun q => h q.symm
      rw [h2, Bool.false_or]
      simp [h3]
theorem flat_strs (xs : List Str) : (xs.map V.str).all flatV = true := by
  rw [List.all_map, List.all_eq_true]; exact fun _ _ => rfl
/-! ### joined: both sides tell one value -/
def AllB (kvs : List (Key × V)) : Prop := ∀ p ∈ kvs, ∃ z i, p = (Sum.inr z, V.int i) ∧ z ∈ words14 ∧ Big i
theorem allB_kv : ∀ {zs : List Str} {is : List Int}, (∀ z ∈ zs, z ∈ words14) → (∀ j ∈ is, Big j) → AllB (kvOf zs is)
  | [], _, _, _ => fun p hp => by cases hp
  | z :: r, [], _, _ => fun p hp => by cases hp
  | z :: r, i :: q, h1, h2 => fun p hp => by
    have hp' : p ∈ (Sum.inr z, V.int i) :: kvOf r q := hp
    rcases List.mem_cons.mp hp' with rfl | h
    · exact ⟨z, i, rfl, h1 z List.mem_cons_self, h2 i List.mem_cons_self⟩
    · exact allB_kv (fun y hy => h1 y (List.mem_cons_of_mem _ hy)) (fun y hy => h2 y (List.mem_cons_of_mem _ hy)) p h
theorem allB_put {kvs : List (Key × V)} {z : Str} {i : Int} (h : AllB kvs) (hz : z ∈ words14) (hi : Big i) : AllB (putK kvs (Sum.inr z) (.int i)) := by
  unfold putK
  split
  · intro p hp
    obtain ⟨q, hq, rfl⟩ := List.mem_map.mp hp
    split
    · next e => exact ⟨z, i, by rw [e], hz, hi⟩
    · exact h q hq
  · intro p hp
    rcases List.mem_append.mp hp with hp | hp
    · exact h p hp
    · rw [List.mem_singleton] at hp; exact ⟨z, i, hp, hz, hi⟩
theorem allB_merge : ∀ {more kvs : List (Key × V)}, AllB kvs → AllB more → AllB (mergeK kvs more)
  | [], _, h, _ => h
  | p :: r, kvs, h, hm => by
    obtain ⟨z, i, rfl, hz, hi⟩ := hm p List.mem_cons_self
    exact allB_merge (more := r) (allB_put h hz hi) fun q hq => hm q (List.mem_cons_of_mem _ hq)
theorem valV_mem {kvs : List (Key × V)} {k : Key} {v : V} (h : valV kvs k = some v) : (k, v) ∈ kvs := by
  unfold valV at h
  obtain ⟨p, hp, rfl⟩ := Option.map_eq_some_iff.mp h
  have h1 := List.mem_of_find?_eq_some hp
  have h2 : p.1 = k := by simpa using List.find?_some hp
  rw [← h2]; exact h1
theorem nd_len : ∀ {xs ys : List Str}, xs.Nodup → (∀ z ∈ xs, z ∈ ys) → xs.length ≤ ys.length
  | [], _, _, _ => Nat.zero_le _
  | x :: r, ys, n, h => by
    have hx := h x List.mem_cons_self
    obtain ⟨n1, n2⟩ := List.nodup_cons.mp n
    have := nd_len (xs := r) (ys := ys.erase x) n2 fun z hz => (List.mem_erase_of_ne (fun e => n1 (by rw [← e]; exact hz))).mpr (h z (List.mem_cons_of_mem _ hz))
    rw [List.length_erase_of_mem hx] at this
    have : 0 < ys.length := List.length_pos_of_mem hx
    simp only [List.length_cons]
    omega
structure Row2 (ys : List Str) (js : List Int) : Prop where
  mem : ∀ z ∈ ys, z ∈ words14
  len : ys.length ≤ 14
  big : ∀ j ∈ js, Big j
  len2 : js.length ≤ 14
theorem joined_row {kvs : List (Key × V)} {ys : List Str} {js : List Int} (hB : AllB kvs) (h : JoinedIs kvs ys js) : Row2 ys js := by
  obtain ⟨h1, h2, h3, h4⟩ := h
  have m : ∀ z ∈ ys, z ∈ words14 := fun z hz => by
    obtain ⟨p, hp, e⟩ := List.mem_map.mp ((h2 z).mp hz)
    obtain ⟨z', i, rfl, w, _⟩ := hB p hp
    have : z' = z := Sum.inr.inj e
    rw [← this]; exact w
  have l : ys.length ≤ 14 := nd_len (ys := words14) h1 m
  have l2 : js.length = ys.length := by
    have := congrArg List.length h4
    simpa using this.symm
  refine ⟨m, l, fun j hj => ?_, by omega⟩
  have : some (V.int j) ∈ ys.map (fun z => valV kvs (Sum.inr z)) := by rw [h4]; exact List.mem_map.mpr ⟨j, hj, rfl⟩
  obtain ⟨z, _, e⟩ := List.mem_map.mp this
  obtain ⟨z', i, e2, _, b⟩ := hB _ (valV_mem e)
  have : j = i := V.int.inj (Prod.mk.inj e2).2
  rw [this]; exact b
theorem joined_one {kvs : List (Key × V)} {ys ys2 : List Str} {js js2 : List Int} (h : JoinedIs kvs ys js) (h' : JoinedIs kvs ys2 js2) : ys = ys2 ∧ js = js2 := by
  obtain ⟨h1, h2, h3, h4⟩ := h
  obtain ⟨g1, g2, g3, g4⟩ := h'
  have e : ys = ys2 := asc_unique (sorted_lt h3 h1) (sorted_lt g3 g1) fun z => (h2 z).trans (g2 z).symm
  subst e
  refine ⟨rfl, ?_⟩
  rw [h4] at g4
  have inj : ∀ {a b : List Int}, a.map (fun j => some (V.int j)) = b.map (fun j => some (V.int j)) → a = b := by
    intro a
    induction a with
    | nil => intro b h; cases b with
      | nil => rfl
      | cons _ _ => cases h
    | cons x r ih => intro b h; cases b with
      | nil => cases h
      | cons y q =>
        obtain ⟨e1, e2⟩ := List.cons.inj h
        have := V.int.inj (Option.some.inj e1)
        rw [this, ih e2]
  exact inj g4
/-! ### what is written out -/
structure Rep (K : PySem.W.Frag) (H : Hp) (x : V) (d : PyData) : Prop where
  dp : Dp K H x d
  sh : d.showable = true
  nd : d.hasDict = false
  dep : d.depth ≤ 64
  sz : d.shown.length ≤ sizeLine
  kd : (∃ a, x = .ref a) ∨ (∃ b, x = .bl b) ∨ x = .non
theorem big_log {i : Int} (h : Big i) : decide (i.natAbs.log2 < 1920) = true := by
  rcases h with rfl | rfl | rfl | rfl <;> decide +kernel
theorem ints_facts : ∀ {is : List Int}, (∀ j ∈ is, Big j) → PyData.showableAll (is.map PyData.int) = true ∧ PyData.hasDictAll (is.map PyData.int) = false ∧ PyData.depthAll (is.map PyData.int) = 0
  | [], _ => ⟨rfl, rfl, rfl⟩
  | i :: r, h => by
    obtain ⟨h1, h2, h3⟩ := ints_facts fun j hj => h j (List.mem_cons_of_mem i hj)
    refine ⟨?_, ?_, ?_⟩
    · show (decide (i.natAbs.log2 < 1920) && PyData.showableAll (r.map PyData.int)) = true
      rw [big_log (h i List.mem_cons_self), h1]; rfl
    · show (false || PyData.hasDictAll (r.map PyData.int)) = false
      rw [h2]; rfl
    · show max 0 (PyData.depthAll (r.map PyData.int)) = 0
      rw [h3]; rfl
theorem strs_facts : ∀ zs : List Str, PyData.showableAll (zs.map PyData.str) = true ∧ PyData.hasDictAll (zs.map PyData.str) = false ∧ PyData.depthAll (zs.map PyData.str) = 0
  | [] => ⟨rfl, rfl, rfl⟩
  | i :: r => by
    obtain ⟨h1, h2, h3⟩ := strs_facts r
    refine ⟨?_, ?_, ?_⟩
    · show (true && PyData.showableAll (r.map PyData.str)) = true
      rw [h1]; rfl
    · show (false || PyData.hasDictAll (r.map PyData.str)) = false
      rw [h2]; rfl
    · show max 0 (PyData.depthAll (r.map PyData.str)) = 0
      rw [h3]; rfl
theorem rep_row {K : PySem.W.Frag} {H : Hp} {a : Addr} {is : List Int} (h : H a = some (.tup (is.map V.int))) (hb : ∀ j ∈ is, Big j) (l : is.length ≤ 14) : Rep K H (.ref a) (.tuple (is.map PyData.int)) := by
  obtain ⟨h1, h2, h3⟩ := ints_facts hb
  refine ⟨.tup (SqT.of h) (dp_ints is), h1, h2, ?_, row_shown hb l, .inl ⟨_, rfl⟩⟩
  show PyData.depthAll (is.map PyData.int) + 1 ≤ 64
  rw [h3]; decide
theorem rep_pair {K : PySem.W.Frag} {H : Hp} {p q r : Addr} {ys : List Str} {js : List Int} (h : H p = some (.tup [.ref q, .ref r])) (hq : H q = some (.tup (ys.map V.str))) (hr : H r = some (.tup (js.map V.int))) (R : Row2 ys js) :
    Rep K H (.ref p) (.tuple [.tuple (ys.map PyData.str), .tuple (js.map PyData.int)]) := by
  obtain ⟨h1, h2, h3⟩ := ints_facts R.big
  obtain ⟨g1, g2, g3⟩ := strs_facts ys
  refine ⟨.tup (SqT.of h) (.cons (.tup (SqT.of hq) (dp_strs ys)) (.cons (.tup (SqT.of hr) (dp_ints js)) .nil)), ?_, ?_, ?_, pair_shown R.mem R.len R.big R.len2, .inl ⟨_, rfl⟩⟩
  · show (PyData.showableAll (ys.map PyData.str) && (PyData.showableAll (js.map PyData.int) && true)) = true
    rw [g1, h1]; rfl
  · show (PyData.hasDictAll (ys.map PyData.str) || (PyData.hasDictAll (js.map PyData.int) || false)) = false
    rw [g2, h2]; rfl
  · show max (PyData.depthAll (ys.map PyData.str) + 1) (max (PyData.depthAll (js.map PyData.int) + 1) 0) + 1 ≤ 64
    rw [g3, h3]; decide
theorem rep_non {K : PySem.W.Frag} {H : Hp} : Rep K H .non .none := ⟨.non, rfl, rfl, Nat.zero_le _, by decide, .inr (.inr rfl)⟩
/-! ### project: both sides tell one value -/
def dueOf (zs : List Str) (is : List Int) (us : List Str) : List Int := ((zs.zip is).filter fun p => decide (p.1 ∈ us)).map (·.2)
theorem due_take {zs : List Str} {is : List Int} {us : List Str} {i : Nat} {z : Str} {j : Int} (hz : zs[i]? = some z) (hj : is[i]? = some j) :
    (((zs.zip is).take (i + 1)).filter fun p => decide (p.1 ∈ us)).map (·.2) = (((zs.zip is).take i).filter fun p => decide (p.1 ∈ us)).map (·.2) ++ if z ∈ us then [j] else [] := by
  have h : (zs.zip is)[i]? = some (z, j) := by rw [List.getElem?_zip_eq_some]; exact ⟨hz, hj⟩
  rw [filter_take _ h, List.map_append]
  by_cases q : z ∈ us
  · simp [q]
  · simp [q]
theorem due_is {zs us : List Str} {is js : List Int} (hz : ascB zs = true) (hu : ascB us = true) (sub : ∀ z ∈ us, z ∈ zs) (hl : is.length = zs.length) (h : us.map (lookI zs is) = js.map some) : dueOf zs is us = js := by
  have e : us = zs.filter fun z => decide (z ∈ us) := asc_unique (asc_pair hu) ((asc_pair hz).filter _) fun z => by
    rw [List.mem_filter]
    exact ⟨fun m => ⟨sub z m, decide_eq_true m⟩, fun m => of_decide_eq_true m.2⟩
  have key : ∀ (p : Str → Bool) (zs : List Str) (is : List Int), zs.Nodup → is.length = zs.length → ((zs.zip is).filter fun q => p q.1).map (fun q => some q.2) = (zs.filter p).map (lookI zs is) := by
    intro p zs
    induction zs with
    | nil => intro is _ _; rfl
    | cons z r ih =>
      intro is n l
      cases is with
      | nil => cases l
      | cons i q =>
        obtain ⟨n1, n2⟩ := List.nodup_cons.mp n
        have l' : q.length = r.length := by simpa using l
        have hr := ih q n2 l'
        have out : (r.filter p).map (lookI (z :: r) (i :: q)) = (r.filter p).map (lookI r q) := by
          refine List.map_congr_left fun y hy => ?_
          have hne : y ≠ z := fun e => n1 (by rw [← e]; exact (List.mem_filter.mp hy).1)
          unfold lookI
          rw [List.zip_cons_cons, List.lookup_cons]
          have : (y == z) = false := by simpa using hne
          rw [this]
        have at0 : lookI (z :: r) (i :: q) z = some i := by
          unfold lookI
          rw [List.zip_cons_cons, List.lookup_cons]
          simp
        rw [List.zip_cons_cons, List.filter_cons, List.filter_cons]
        by_cases pz : p z = true
        · rw [if_pos pz, if_pos pz, List.map_cons, List.map_cons, hr, out, at0]
        · rw [if_neg pz, if_neg pz, hr, out]
  have k := key (fun z => decide (z ∈ us)) zs is (asc_nodup hz) hl
  rw [← e, h] at k
  have k2 : (dueOf zs is us).map some = js.map some := by
    unfold dueOf
    rw [List.map_map]; exact k
  have inj : ∀ {a b : List Int}, a.map some = b.map some → a = b := fun {a b} h => by
    have := congrArg (List.filterMap id) h
    simpa [List.filterMap_map] using this
  exact inj k2
end K1

/-! ## K19 -/
set_option Elab.async false
set_option linter.all false
set_option maxRecDepth 100000
set_option maxHeartbeats 16000000
namespace K1
open PySem PySem.Spec PyProof.Rows L2
abbrev s_rr : Stmt := topS 27
abbrev N_rr : List Str := ["dice", "pool", "columns", "others", "integers", "more", "known", "some", "due", "column", "integer", "at"]
theorem sc_rr : FnScope N_rr ["dice"] (defScope s_rr) := ⟨rfl, rfl, rfl, by decide +kernel, rfl, by decide +kernel, by decide +kernel⟩
structure Names4 (mg : Str → Option Value) : Prop extends Names3 mg where
  enum : mg "enumerate" = none
structure Cs (H : Hp) (d a : Addr) (zs : List Str) : Prop where
  at_ : H a = some (.tup (zs.map V.str))
  wd : Wd zs
  asc : ascB zs = true
  ne : a ≠ d
theorem Cs.but {H H' : Hp} {d a : Addr} {zs : List Str} (h : Cs H d a zs) (b : But d H H') : Cs H' d a zs := ⟨b _ _ h.ne h.at_, h.wd, h.asc, h.ne⟩
structure Ns (H : Hp) (d a : Addr) (n : Nat) (is : List Int) : Prop where
  at_ : H a = some (.tup (is.map V.int))
  len : is.length = n
  big : ∀ j ∈ is, Big j
  ne : a ≠ d
theorem Ns.but {H H' : Hp} {d a : Addr} {n : Nat} {is : List Int} (h : Ns H d a n is) (b : But d H H') : Ns H' d a n is := ⟨b _ _ h.ne h.at_, h.len, h.big, h.ne⟩
theorem Cs.arg {K : PySem.W.Frag} {H : Hp} {d a : Addr} {zs : List Str} (h : Cs H d a zs) : ColsArg K H (.ref a) (some zs) := ⟨a, rfl, h.at_, Nat.le_trans h.wd.len (by decide), h.wd.short, by rw [h.wd.cols]; exact h.asc⟩
theorem Ns.arg {K : PySem.W.Frag} {H : Hp} {d a : Addr} {n : Nat} {is : List Int} (h : Ns H d a n is) : IntsArg K H n (.ref a) (some is) := ⟨a, rfl, h.at_, h.len⟩
theorem big_of {x : V} (h : x ∈ [V.int 0, V.int 1, V.int (-1), V.int (10 ^ 39)]) : ∃ j, x = .int j ∧ Big j := by
  simp only [List.mem_cons, List.not_mem_nil, or_false] at h
  rcases h with rfl | rfl | rfl | rfl
  · exact ⟨_, rfl, .inl rfl⟩
  · exact ⟨_, rfl, .inr (.inl rfl)⟩
  · exact ⟨_, rfl, .inr (.inr (.inl rfl))⟩
  · exact ⟨_, rfl, .inr (.inr (.inr rfl))⟩
def BigL (i : Nat) (L : List V) : Prop := ∃ is : List Int, L = is.map V.int ∧ is.length = i ∧ ∀ j ∈ is, Big j
theorem BigL.len {i n : Nat} {L : List V} (h : BigL i L) (hi : i < n) (hn : n ≤ 14) : L.length < sizeLine := by
  obtain ⟨is, rfl, e, _⟩ := h
  have : (14 : Nat) < sizeLine := by decide
  rw [List.length_map]; omega
theorem BigL.snoc {i : Nat} {L : List V} {j : Int} (h : BigL i L) (hj : Big j) : BigL (i + 1) (L ++ [.int j]) := by
  obtain ⟨is, rfl, e, hb⟩ := h
  refine ⟨is ++ [j], by rw [List.map_append]; rfl, by simp [e], fun y hy => ?_⟩
  rcases List.mem_append.mp hy with h | h
  · exact hb y h
  · rw [List.mem_singleton] at h; subst h; exact hj
theorem look_big {za : List Str} {ia : List Int} {z : Str} {j : Int} (hz : ∀ z ∈ za, z ∈ words14) (hb : ∀ j ∈ ia, Big j) (h : lookI za ia z = some j) : Big j := by
  have v : valV (kvOf za ia) (Sum.inr z) = some (.int j) := by rw [val_kv, h]; rfl
  obtain ⟨_, i, e, _, b⟩ := allB_kv hz hb _ (valV_mem v)
  have : j = i := V.int.inj (Prod.mk.inj e).2
  rw [this]; exact b
theorem tail_rep {K : PySem.W.Frag} {za zb : List Str} {ia ib : List Int} (hza : ∀ z ∈ za, z ∈ words14) (hzb : ∀ z ∈ zb, z ∈ words14) (hia : ∀ j ∈ ia, Big j) (hib : ∀ j ∈ ib, Big j) :
    ∃ D : PyData, ∀ (H : Hp) (Q : VK), (∀ x H', Same H H' → Rep K H' x D → Q x H') → spTail H Q za ia zb ib := by
  cases hA : agreeB za ia zb ib with
  | false => exact ⟨.none, fun H Q k => .inl ⟨hA, fun H' s => k _ _ s rep_non⟩⟩
  | true =>
    by_cases e : ∃ ys js, JoinedIs (bothK za ia zb ib) ys js
    · obtain ⟨ys, js, J⟩ := e
      refine ⟨.tuple [.tuple (ys.map PyData.str), .tuple (js.map PyData.int)], fun H Q k => .inr ⟨hA, fun ys2 js2 p q r H' J2 s hp hq hr _ => ?_⟩⟩
      obtain ⟨rfl, rfl⟩ := joined_one J J2
      exact k _ _ s (rep_pair hp hq hr (joined_row (allB_merge (allB_kv hza hia) (allB_kv hzb hib)) J))
    · exact ⟨.none, fun H Q k => .inr ⟨hA, fun ys2 js2 p q r H' J2 _ _ _ _ _ => absurd ⟨ys2, js2, J2⟩ e⟩⟩
section
variable {P : Program} {w : World} {K : PySem.W.Frag} {mg : Str → Option Value} {base : Heap}
theorem ok_rr {f CE : Addr} {fd : FuncData} (F : Fun K "_law_rows_right" "_law_rows_right" s_rr f fd) (T : Names4 mg)
    (CP : Callee P w K mg base (L2.CX P w) 4 "project" ["columns", "integers", "some"] (spProject K CE)) (CJ : Callee P w K mg base (L2.CX P w) 4 "joined" ["columns", "integers", "others", "more"] (spJoined K CE))
    (CD : Callee P w K mg base CX0 1 "_law_joined_due" ["columns", "integers", "others", "more"] spJD) (CR : Callee P w K mg base CX0 1 "_law_roll" ["dice", "upto"] spRoll)
    (CK : Callee P w K mg base CX0 2 "_law_pick" ["dice", "items"] spPick) (CS : Callee P w K mg base CX0 3 "_law_some" ["dice", "items", "least", "most"] spSome) (CW : Callee P w K mg base CX0 3 "_law_words" ["dice", "upto"] spWords) : FnOkG P w K mg base 5 f fd ["dice"] spTr := by
  have nd := sc_rr.nd
  refine fn_ofG F sc_rr (fun vs H Q E h => ?_) (fun cdv A outer s H vs Q hr quiet h => ?_)
  · obtain ⟨d, rfl, _⟩ := h
    rfl
  · obtain ⟨d, rfl, hd, k⟩ := h
    have hr1 : Room 1 _ := hr.mono (by decide)
    have hr2 : Room 2 _ := hr.mono (by decide)
    have hr3 : Room 3 _ := hr.mono (by decide)
    have hu := hu_of hr
    have hu100 : (A.deeper (envOfC "_law_rows_right" (defScope s_rr) s.heap.objs.size f cdv)).units + 100 < cLine := by have := hr.un; omega
    refine ⟨_, (pss_cons
    (ps_set (i := 1) nd rfl (Or.inl rfl) (pe_use CW hr3 rfl pass0 (pa_cons (pv 0) (pa_cons pe_int pa_nil))))
    (pss_cons
    (ps_par (i := 2) (j := 3) (by rfl) nd rfl rfl (by decide) rfl rfl (pa_cons (pe_callTy call_tuple_of (by rfl) T.tuple (by decide +kernel) (pa_cons (pe_callB cr_sortedS (by rfl) T.sorted (by decide +kernel) (pa_cons (pe_use CS hr3 rfl pass0 (pa_cons (pv 0) (pa_cons (pv 1) (pa_cons pe_int (pa_cons pe_int pa_nil))))) pa_nil)) pa_nil)) (pa_cons (pe_callTy call_tuple_of (by rfl) T.tuple (by decide +kernel) (pa_cons (pe_callB cr_sortedS (by rfl) T.sorted (by decide +kernel) (pa_cons (pe_use CS hr3 rfl pass0 (pa_cons (pv 0) (pa_cons (pv 1) (pa_cons pe_int (pa_cons pe_int pa_nil))))) pa_nil)) pa_nil)) pa_nil)) (by rfl))
    (pss_cons
    (ps_set (i := 4) nd rfl (Or.inr rfl) (pe_callTy call_tuple_of (by rfl) T.tuple (by decide +kernel) (pa_cons (pe_lc (own := [("column", 9)]) (g := (gName 9)) rfl nd (pi_tup (pv 2)) (blkOk_by (N := N_rr) (sc := defScope s_rr) (by decide +kernel)) (fun _ _ _ _ _ => (pg_name (i := 9) nd rfl (Or.inl rfl))) (fun _ _ _ _ _ => pts_nil) (fun _ _ _ _ _ => (pe_use CK hr2 rfl pass0 (pa_cons (pv 0) (pa_cons (pe_lst (pa_cons pe_int (pa_cons pe_int (pa_cons (pe_un un_neg pe_int) (pa_cons (pe_op op_powW pe_int pe_int) pa_nil))))) pa_nil))))) pa_nil)))
    (pss_cons
    (ps_set (i := 5) nd rfl (Or.inl rfl) (pe_callTy call_tuple_of (by rfl) T.tuple (by decide +kernel) (pa_cons (pe_lc (own := [("column", 9)]) (g := (gName 9)) rfl nd (pi_tup (pv 3)) (blkOk_by (N := N_rr) (sc := defScope s_rr) (by decide +kernel)) (fun _ _ _ _ _ => (pg_name (i := 9) nd rfl (Or.inl rfl))) (fun _ _ _ _ _ => pts_nil) (fun _ _ _ _ _ => (pe_use CK hr2 rfl pass0 (pa_cons (pv 0) (pa_cons (pe_lst (pa_cons pe_int (pa_cons pe_int (pa_cons (pe_un un_neg pe_int) (pa_cons (pe_op op_powW pe_int pe_int) pa_nil))))) pa_nil))))) pa_nil)))
    (pss_cons
    (ps_if (pt_cmpR op_eq (pe_use CR hr1 rfl pass0 (pa_cons (pv 0) (pa_cons pe_int pa_nil))) pe_int (nomark _)) (pss_cons
      (ps_set (i := 6) nd rfl (Or.inr rfl) (pe_dictListZip rfl (by rfl) T.dict (by rfl) T.list (by rfl) T.zip (pa_cons (pv 2) (pa_cons (pv 4) pa_nil))))
      (pss_one
      (ps_set (i := 5) nd rfl (Or.inl rfl) (pe_callTy call_tuple_of (by rfl) T.tuple (by decide +kernel) (pa_cons (pe_lc (own := [("column", 9), ("integer", 10)]) (g := gTup K 2 (gCons (gName 9) (gCons (gName 10) gNil))) rfl nd (RZ.pi_zipA (by rfl) T.zip (pa_cons (pv 3) (pa_cons (pv 5) pa_nil))) (blkOk_by (N := N_rr) (sc := defScope s_rr) (by decide +kernel)) (fun _ _ _ _ _ => (pg_tup rfl (pgs_cons (pg_name (i := 9) nd rfl (Or.inl rfl)) (pgs_cons (pg_name (i := 10) nd rfl (Or.inl rfl)) pgs_nil)))) (fun _ _ _ _ _ => pts_nil) (fun _ _ _ _ _ => (pe_dget2 hu (pv 6) (pv 9) (pv 10) ⟨rfl, rfl, rfl, rfl⟩))) pa_nil))))) pss_nil)
    (pss_cons
    (ps_set (i := 7) nd rfl (Or.inr rfl) (pe_callTy call_tuple_of (by rfl) T.tuple (by decide +kernel) (pa_cons (pe_callB cr_sortedS (by rfl) T.sorted (by decide +kernel) (pa_cons (pe_use CS hr3 rfl pass0 (pa_cons (pv 0) (pa_cons (pv 2) (pa_cons pe_int (pa_cons pe_int pa_nil))))) pa_nil)) pa_nil)))
    (pss_cons
    (ps_set (i := 8) nd rfl (Or.inl rfl) (pe_callTy call_tuple_of (by rfl) T.tuple (by decide +kernel) (pa_cons (pe_lc (own := [("at", 11), ("column", 9)]) (g := gTup K 2 (gCons (gName 11) (gCons (gName 9) gNil))) rfl nd (pi_enumT rfl (by rfl) T.enum (pa_cons (pv 2) pa_nil)) (blkOk_by (N := N_rr) (sc := defScope s_rr) (by decide +kernel)) (fun _ _ _ _ _ => (pg_tup rfl (pgs_cons (pg_name (i := 11) nd rfl (Or.inl rfl)) (pgs_cons (pg_name (i := 9) nd rfl (Or.inl rfl)) pgs_nil)))) (fun _ _ _ _ _ => (pts_one (pt_cmpR (r := rIn K false) op_in_seq (pv 9) (pv 7) rfl))) (fun _ _ _ _ _ => (pe_ix (r := rIxT K) ix_tup (pv 4) (pv 11) (fun _ _ => rfl)))) pa_nil)))
    (pss_cons
    (ps_if (pt_cmpR op_ne (pe_callB (call_reprD quiet hu100) (by rfl) T.repr (by decide +kernel) (pa_cons (pe_use CP hr rfl passE0 (pa_cons (pv 2) (pa_cons (pv 4) (pa_cons (pv 7) pa_nil)))) pa_nil)) (pe_callB (call_reprD quiet hu100) (by rfl) T.repr (by decide +kernel) (pa_cons (pv 8) pa_nil)) (nomark _)) (pss_one
      (ps_ret pe_bl)) pss_nil)
    (pss_cons
    (ps_if (pt_cmpR op_ne (pe_callB (call_reprD quiet hu100) (by rfl) T.repr (by decide +kernel) (pa_cons (pe_use CJ hr rfl passE0 (pa_cons (pv 2) (pa_cons (pv 4) (pa_cons (pv 3) (pa_cons (pv 5) pa_nil))))) pa_nil)) (pe_callB (call_reprD quiet hu100) (by rfl) T.repr (by decide +kernel) (pa_cons (pe_use CD hr1 rfl pass0 (pa_cons (pv 2) (pa_cons (pv 4) (pa_cons (pv 3) (pa_cons (pv 5) pa_nil))))) pa_nil)) (nomark _)) (pss_one
      (ps_ret pe_bl)) pss_nil)
    (pss_one
    (ps_ret (pe_cmpR op_eq (pe_callB (call_reprD quiet hu100) (by rfl) T.repr (by decide +kernel) (pa_cons (pe_use CJ hr rfl passE0 (pa_cons (pv 3) (pa_cons (pv 5) (pa_cons (pv 2) (pa_cons (pv 4) pa_nil))))) pa_nil)) (pe_callB (call_reprD quiet hu100) (by rfl) T.repr (by decide +kernel) (pa_cons (pe_use CD hr1 rfl pass0 (pa_cons (pv 3) (pa_cons (pv 5) (pa_cons (pv 2) (pa_cons (pv 4) pa_nil))))) pa_nil)) (nomark _))))))))))))), ?_⟩
    refine ⟨_, rfl, d, 6, rfl, by decide, hd, fun ys p1 H1 pm q1 b1 hd1 h1 => ?_⟩
    obtain ⟨pool, ep, hP⟩ : ∃ zs, zs = ys.take 6 ∧ Wd zs := ⟨_, rfl, (Wd.of pm).take _⟩
    rw [← ep] at h1
    have n1 : p1 ≠ d := (hd.ne_none q1).symm
    have okP : ∀ x ∈ pool, PyData.strOk x = true := fun x hx => (w14_good x (hP.mem x hx)).1
    have lP : pool.length ≤ 1000 := Nat.le_trans hP.len (by decide)
    -- columns
    refine ⟨_, rfl, _, rfl, d, p1, pool, 0, 5, rfl, by decide, by decide, hd1, .inl h1, n1, lP, okP, fun ys2 m2 p2 H2 pm2 _ _ q2 b2 hd2 h2 => ?_⟩
    have w2 : Wd (ys2.take m2) := (hP.perm pm2).take _
    refine ⟨p2, _, rfl, SqL.of h2, Nat.lt_of_le_of_lt w2.len (by decide), fun za p3 pm3 st3 q3 => ?_⟩
    refine ⟨p3, _, rfl, .inl ⟨SqL.of upd_same, fun a qa => ?_⟩⟩
    have wa := w2.perm pm3
    have s3 : Same H2 (upd (upd H2 p3 (.lst (za.map V.str))) a (.tup (za.map V.str))) := Same.new (Same.new (Same.refl _) q3) qa
    have hd3 := hd2.same s3
    have b3 := b2.trans (But.same (d := d) s3)
    have cA : Cs (upd (upd H2 p3 (.lst (za.map V.str))) a (.tup (za.map V.str))) d a za := ⟨upd_same, wa, wa.asc st3, ((hd2.new q3).ne_none qa).symm⟩
    generalize upd (upd H2 p3 (.lst (za.map V.str))) a (.tup (za.map V.str)) = H3 at s3 hd3 b3 cA ⊢
    -- the others
    refine ⟨_, rfl, _, rfl, d, p1, pool, 0, 5, rfl, by decide, by decide, hd3, .inl (b3 _ _ n1 h1), n1, lP, okP, fun ys4 m4 p4 H4 pm4 _ _ q4 b4 hd4 h4 => ?_⟩
    have w4 : Wd (ys4.take m4) := (hP.perm pm4).take _
    refine ⟨p4, _, rfl, SqL.of h4, Nat.lt_of_le_of_lt w4.len (by decide), fun zb p5 pm5 st5 q5 => ?_⟩
    refine ⟨p5, _, rfl, .inl ⟨SqL.of upd_same, fun b qb => ?_⟩⟩
    have wb := w4.perm pm5
    have s5 : Same H4 (upd (upd H4 p5 (.lst (zb.map V.str))) b (.tup (zb.map V.str))) := Same.new (Same.new (Same.refl _) q5) qb
    have hd5 := hd4.same s5
    have b5 := b4.trans (But.same (d := d) s5)
    have cB : Cs (upd (upd H4 p5 (.lst (zb.map V.str))) b (.tup (zb.map V.str))) d b zb := ⟨upd_same, wb, wb.asc st5, ((hd4.new q5).ne_none qb).symm⟩
    replace cA := cA.but b5
    replace b5 := (b1.trans b3).trans b5
    generalize upd (upd H4 p5 (.lst (zb.map V.str))) b (.tup (zb.map V.str)) = H5 at hd5 b5 cB cA ⊢
    refine ⟨_, _, rfl, ?_⟩
    -- integers
    refine ⟨_, rfl, a, rfl, ⟨_, SqT.of cA.at_⟩, fun D hD => ?_⟩
    refine lc_accB (d := d) walk_tup BigL ⟨[], rfl, rfl, by simp⟩ hD hd5 (fun i L hi hL => hL.len hi (by rw [List.length_map]; exact cA.wd.len)) (fun H' b' _ => SqT.of (cA.but b').at_) (fun i L x H6 H7 N hi hL b6 hd6 y keep => ?_) (fun H9 L hL bH9 hdH9 hDL => ?_)
    · obtain ⟨rfl, _⟩ := y
      refine ⟨rfl, _, rfl, _, rfl, _, _, rfl, rfl, ⟨by decide, by decide⟩, Nat.le_of_ble_eq_true rfl, fun p6 q6 => ?_⟩
      refine ⟨d, p6, _, rfl, hd6.new q6, .inl upd_same, (hd6.ne_none q6).symm, by simp, by simp, fun x2 H8 hx b8 hd8 => ?_⟩
      obtain ⟨j, rfl, hj⟩ := big_of hx
      exact keep _ _ (((But.refl d _).new q6).trans b8) hd8 (hL.snoc hj)
    obtain ⟨ia, rfl, lia, gia⟩ := hL
    rw [List.length_map] at lia
    refine ⟨D, _, rfl, .inl ⟨SqL.of hDL, fun aia qia => ?_⟩⟩
    have nia : Ns (upd H9 aia (.tup (ia.map V.int))) d aia za.length ia := ⟨upd_same, lia, gia, (hdH9.ne_none qia).symm⟩
    replace cA := cA.but (bH9.new (o := .tup (ia.map V.int)) qia)
    replace cB := cB.but (bH9.new (o := .tup (ia.map V.int)) qia)
    replace b5 := b5.trans (bH9.new (o := .tup (ia.map V.int)) qia)
    replace hd5 := hdH9.new (o := .tup (ia.map V.int)) qia
    generalize upd H9 aia (.tup (ia.map V.int)) = H10 at cA cB b5 hd5 nia ⊢
    clear hDL bH9 hdH9 hD qia
    -- integers
    refine ⟨_, rfl, b, rfl, ⟨_, SqT.of cB.at_⟩, fun D hD => ?_⟩
    refine lc_accB (d := d) walk_tup BigL ⟨[], rfl, rfl, by simp⟩ hD hd5 (fun i L hi hL => hL.len hi (by rw [List.length_map]; exact cB.wd.len)) (fun H' b' _ => SqT.of (cB.but b').at_) (fun i L x H6 H7 N hi hL b6 hd6 y keep => ?_) (fun H11 L hL bH11 hdH11 hDL => ?_)
    · obtain ⟨rfl, _⟩ := y
      refine ⟨rfl, _, rfl, _, rfl, _, _, rfl, rfl, ⟨by decide, by decide⟩, Nat.le_of_ble_eq_true rfl, fun p6 q6 => ?_⟩
      refine ⟨d, p6, _, rfl, hd6.new q6, .inl upd_same, (hd6.ne_none q6).symm, by simp, by simp, fun x2 H8 hx b8 hd8 => ?_⟩
      obtain ⟨j, rfl, hj⟩ := big_of hx
      exact keep _ _ (((But.refl d _).new q6).trans b8) hd8 (hL.snoc hj)
    obtain ⟨ib, rfl, lib, gib⟩ := hL
    rw [List.length_map] at lib
    refine ⟨D, _, rfl, .inl ⟨SqL.of hDL, fun aib qib => ?_⟩⟩
    have nib : Ns (upd H11 aib (.tup (ib.map V.int))) d aib zb.length ib := ⟨upd_same, lib, gib, (hdH11.ne_none qib).symm⟩
    replace cA := cA.but (bH11.new (o := .tup (ib.map V.int)) qib)
    replace cB := cB.but (bH11.new (o := .tup (ib.map V.int)) qib)
    replace nia := nia.but (bH11.new (o := .tup (ib.map V.int)) qib)
    replace b5 := b5.trans (bH11.new (o := .tup (ib.map V.int)) qib)
    replace hd5 := hdH11.new (o := .tup (ib.map V.int)) qib
    generalize upd H11 aib (.tup (ib.map V.int)) = H12 at cA cB b5 hd5 nia nib ⊢
    dsimp only [gName]
    refine seq_split (fun σ' H' => ∃ (v6 : Option V) (m : Addr) (ib : List Int), σ' = [some (.ref d), some (.ref p1), some (.ref a), some (.ref b), some (.ref aia), some (.ref m), v6, none, none, none, none, none] ∧ But d H H' ∧ Dice H' d ∧ Cs H' d a za ∧ Cs H' d b zb ∧ Ns H' d aia za.length ia ∧ Ns H' d m zb.length ib) (fun σ' H' h' => ?_) (fun nx hn => ?_)
    · obtain ⟨v6, m, ib, rfl, b5, hd5, cA, cB, nia, nib⟩ := h'
      have okA : ∀ x ∈ za, PyData.strOk x = true := fun x hx => (w14_good x (cA.wd.mem x hx)).1
      have lA : za.length ≤ 1000 := Nat.le_trans cA.wd.len (by decide)
      -- some of the columns
      refine ⟨_, rfl, _, rfl, d, a, za, 0, 5, rfl, by decide, by decide, hd5, .inr cA.at_, cA.ne, lA, okA, fun ys6 m6 p6 H6 pm6 _ _ q6 b6 hd6 h6 => ?_⟩
      have w6 : Wd (ys6.take m6) := (cA.wd.perm pm6).take _
      refine ⟨p6, _, rfl, SqL.of h6, Nat.lt_of_le_of_lt w6.len (by decide), fun us p7 pm7 st7 q7 => ?_⟩
      refine ⟨p7, _, rfl, .inl ⟨SqL.of upd_same, fun u qu => ?_⟩⟩
      have wu := w6.perm pm7
      have sub : ∀ z ∈ us, z ∈ za := fun z hz => pm6.mem_iff.mp (List.mem_of_mem_take (pm7.mem_iff.mp hz))
      have s7 : Same H6 (upd (upd H6 p7 (.lst (us.map V.str))) u (.tup (us.map V.str))) := Same.new (Same.new (Same.refl _) q7) qu
      have hd7 := hd6.same s7
      have b7 := b6.trans (But.same (d := d) s7)
      have cU : Cs (upd (upd H6 p7 (.lst (us.map V.str))) u (.tup (us.map V.str))) d u us := ⟨upd_same, wu, wu.asc st7, ((hd6.new q7).ne_none qu).symm⟩
      replace cA := cA.but b7
      replace cB := cB.but b7
      replace nia := nia.but b7
      replace nib := nib.but b7
      replace b5 := b5.trans b7
      generalize upd (upd H6 p7 (.lst (us.map V.str))) u (.tup (us.map V.str)) = H8 at hd7 b5 cB cA nia nib cU ⊢
      -- what is due
      refine ⟨_, rfl, a, _, rfl, SqT.of cA.at_, fun D hD => ?_⟩
      refine lc_acc walk_enumT (fun i => ((((za.zip ia).take i).filter fun p => decide (p.1 ∈ us)).map (·.2)).map V.int) rfl hD (fun i hi => ?_) (fun H' s' => SqT.of (s' _ _ cA.at_)) (fun i x H1 H2 N hi s1 y keep skip => ?_) (fun H9 s9 hL => ?_)
      · have h14 := cA.wd.len
        have h2 := List.length_filter_le (fun p : Str × Int => decide (p.1 ∈ us)) ((za.zip ia).take i)
        rw [List.length_take, List.length_zip] at h2
        have : (14 : Nat) < sizeLine := by decide
        rw [List.length_map, List.length_map]; omega
      · obtain ⟨T0, u0, v0, rfl, hT0, rfl, hu1, hv1⟩ := y
        obtain rfl : V.int (i : Nat) = u0 := Option.some.inj hu1
        have hv' : (za.map V.str)[i]? = some v0 := hv1
        rw [List.getElem?_map] at hv'
        obtain ⟨z, e1, rfl⟩ := Option.map_eq_some_iff.mp hv'
        have hi' : i < ia.length := by rw [nia.len]; rw [List.length_map] at hi; exact hi
        obtain ⟨j, e2⟩ : ∃ j, ia[i]? = some j := ⟨ia[i], by simp [hi']⟩
        have sT : Same H1 (upd H1 T0 (.tup [.int (i : Nat), .str z])) := Same.new (Same.refl _) hT0
        have hdue := due_take (us := us) e1 e2
        refine ⟨T0, _, rfl, SqT.of upd_same, rfl, _, _, rfl, _, _, rfl, rfl, rfl, _, rfl, _, rfl, u, _, rfl, .inr (SqT.of (sT _ _ (s1 _ _ cU.at_))), rfl, flat_strs us, _, rfl, ?_⟩
        rw [in_strs]
        by_cases hz : z ∈ us
        · rw [decide_eq_true hz]
          refine ⟨_, rfl, _, rfl, aia, _, _, .int j, rfl, rfl, SqT.of (sT _ _ (s1 _ _ nia.at_)), atI_nat (by rw [List.getElem?_map, e2]; rfl), keep _ _ sT ?_⟩
          rw [hdue, if_pos hz, List.map_append]; rfl
        · rw [decide_eq_false hz]
          refine skip _ sT ?_
          rw [hdue, if_neg hz, List.append_nil]
      have eD : ((((za.zip ia).take (za.map V.str).length).filter fun p => decide (p.1 ∈ us)).map (·.2)).map V.int = (dueOf za ia us).map V.int := by
        rw [List.take_of_length_le (by rw [List.length_zip, List.length_map]; omega)]; rfl
      obtain ⟨js, hjs⟩ := looks_all nia.len us sub
      have edu := due_is cA.asc cU.asc sub nia.len hjs
      rw [eD, edu] at hL
      refine ⟨D, _, rfl, .inl ⟨SqL.of hL, fun q qq => ?_⟩⟩
      have bigJ : ∀ j ∈ js, Big j := fun j hj => by
        have : some j ∈ us.map (lookI za ia) := by rw [hjs]; exact List.mem_map.mpr ⟨j, hj, rfl⟩
        obtain ⟨z, _, e⟩ := List.mem_map.mp this
        exact look_big cA.wd.mem nia.big e
      have lenJ : js.length ≤ 14 := by
        have := congrArg List.length hjs
        rw [List.length_map, List.length_map] at this
        have := cU.wd.len
        omega
      have sq : Same H8 (upd H9 q (.tup (js.map V.int))) := Same.new s9 qq
      have hQ : upd H9 q (.tup (js.map V.int)) q = some (.tup (js.map V.int)) := upd_same
      have bq := But.same (d := d) sq
      have hd9 := hd7.same sq
      replace cA := cA.but bq
      replace cB := cB.but bq
      replace nia := nia.but bq
      replace nib := nib.but bq
      replace cU := cU.but bq
      replace b5 := b5.trans bq
      generalize upd H9 q (.tup (js.map V.int)) = H10 at cA cB nia nib cU b5 hd9 hQ ⊢
      -- project
      refine ⟨_, rfl, _, rfl, _, rfl, .ref a, .ref aia, .ref u, some za, rfl, cA.arg, some ia, nia.arg, some us, cU.arg, .inr ⟨js, hjs, fun p11 H11 _ s11 h11 => ?_⟩⟩
      have R1 : Rep K H11 (.ref p11) _ := rep_row h11 bigJ lenJ
      refine ⟨_, _, rfl, R1.dp, R1.sh, R1.nd, R1.dep, R1.sz, R1.kd, ?_⟩
      have R2 : Rep K H11 (.ref q) _ := rep_row (s11 _ _ hQ) bigJ lenJ
      refine ⟨_, rfl, _, _, rfl, R2.dp, R2.sh, R2.nd, R2.dep, R2.sz, R2.kd, ⟨rfl, _, rfl, ?_⟩⟩
      rw [decide_eq_true rfl]
      refine iteF ?_
      have b11 := But.same (d := d) s11
      replace hd9 := hd9.same s11
      replace cA := cA.but b11
      replace cB := cB.but b11
      replace nia := nia.but b11
      replace nib := nib.but b11
      replace b5 := b5.trans b11
      have lAB : za.length + zb.length < 64 := by have := cA.wd.len; have := cB.wd.len; omega
      -- joined
      obtain ⟨D1, hD1⟩ := tail_rep (K := K) cA.wd.mem cB.wd.mem nia.big nib.big
      obtain ⟨D2, hD2⟩ := tail_rep (K := K) cB.wd.mem cA.wd.mem nib.big nia.big
      refine ⟨_, rfl, _, rfl, _, rfl, _, rfl, .ref a, .ref aia, .ref b, .ref m, some za, rfl, cA.arg, some ia, nia.arg, some zb, cB.arg, some ib, nib.arg, lAB, hD1 _ _ fun x12 H12 s12 R12 => ?_⟩
      refine ⟨_, _, rfl, R12.dp, R12.sh, R12.nd, R12.dep, R12.sz, R12.kd, ?_⟩
      have b12 := But.same (d := d) s12
      replace hd9 := hd9.same s12
      replace cA := cA.but b12
      replace cB := cB.but b12
      replace nia := nia.but b12
      replace nib := nib.but b12
      replace b5 := b5.trans b12
      refine ⟨_, rfl, _, rfl, _, rfl, _, rfl, a, aia, b, m, za, zb, ia, ib, rfl, cA.at_, nia.at_, cB.at_, nib.at_, nia.len, nib.len, cA.asc, cB.asc, lAB, hD1 _ _ fun x13 H13 s13 R13 => ?_⟩
      refine ⟨_, _, rfl, R13.dp, R13.sh, R13.nd, R13.dep, R13.sz, R13.kd, ⟨rfl, _, rfl, ?_⟩⟩
      rw [decide_eq_true rfl]
      refine iteF ?_
      have b13 := But.same (d := d) s13
      replace hd9 := hd9.same s13
      replace cA := cA.but b13
      replace cB := cB.but b13
      replace nia := nia.but b13
      replace nib := nib.but b13
      replace b5 := b5.trans b13
      -- the other way
      refine ⟨_, rfl, _, rfl, _, rfl, _, rfl, .ref b, .ref m, .ref a, .ref aia, some zb, rfl, cB.arg, some ib, nib.arg, some za, cA.arg, some ia, nia.arg, by omega, hD2 _ _ fun x14 H14 s14 R14 => ?_⟩
      refine ⟨_, _, rfl, R14.dp, R14.sh, R14.nd, R14.dep, R14.sz, R14.kd, ?_⟩
      have b14 := But.same (d := d) s14
      replace hd9 := hd9.same s14
      replace cA := cA.but b14
      replace cB := cB.but b14
      replace nia := nia.but b14
      replace nib := nib.but b14
      replace b5 := b5.trans b14
      refine ⟨_, rfl, _, rfl, _, rfl, _, rfl, b, m, a, aia, zb, za, ib, ia, rfl, cB.at_, nib.at_, cA.at_, nia.at_, nib.len, nia.len, cB.asc, cA.asc, by omega, hD2 _ _ fun x15 H15 s15 R15 => ?_⟩
      refine ⟨_, _, rfl, R15.dp, R15.sh, R15.nd, R15.dep, R15.sz, R15.kd, ⟨rfl, ?_⟩⟩
      rw [decide_eq_true rfl]
      exact k _ (b5.trans (But.same s15)) (hd9.same s15)
    · refine ⟨_, rfl, d, 2, rfl, hd5, by decide, by decide, fun r H13 _ _ b13 hd13 => ⟨rfl, _, rfl, ?_⟩⟩
      replace cA := cA.but b13
      replace cB := cB.but b13
      replace nia := nia.but b13
      replace nib := nib.but b13
      replace b5 := b5.trans b13
      by_cases e0 : V.int r = V.int 0
      · rw [decide_eq_true e0]
        refine ⟨_, rfl, _, rfl, a, aia, za, _, rfl, SqT.of cA.at_, SqT.of nia.at_, fun t ht => ?_⟩
        have m1 : mergeK [] ((za.map Sum.inr).zip (ia.map V.int)) = kvOf za ia := kv_merge cA.asc nia.len
        rw [m1]
        have hT : upd H13 t (.dK (kvOf za ia)) t = some (.dK (kvOf za ia)) := upd_same
        have ntd : t ≠ d := (hd13.ne_none ht).symm
        replace cA := cA.but ((But.refl d _).new (o := .dK (kvOf za ia)) ht)
        replace cB := cB.but ((But.refl d _).new (o := .dK (kvOf za ia)) ht)
        replace nia := nia.but ((But.refl d _).new (o := .dK (kvOf za ia)) ht)
        replace nib := nib.but ((But.refl d _).new (o := .dK (kvOf za ia)) ht)
        replace b5 := b5.new (o := .dK (kvOf za ia)) ht
        have hd14 := hd13.new (o := .dK (kvOf za ia)) ht
        generalize upd H13 t (.dK (kvOf za ia)) = H14 at cA cB nia nib b5 hd14 hT ⊢
        have hzl : zb.length = min (zb.map V.str).length (ib.map V.int).length := by simp [nib.len]
        refine ⟨_, rfl, _, rfl, b, aib, _, _, rfl, .inr ⟨SqT.of cB.at_, SqT.of nib.at_, fun D hD => ?_⟩⟩
        refine lc_accB (d := d) (walk_zipT hzl) BigL ⟨[], rfl, rfl, by simp⟩ hD hd14 (fun i L hi hL => hL.len hi cB.wd.len) (fun H' b' _ => ⟨SqT.of (cB.but b').at_, SqT.of (nib.but b').at_⟩) (fun i L x H6 H7 N hi hL b6 hd6 y keep => ?_) (fun H9 L hL bH9 hdH9 hDL => ?_)
        · obtain ⟨T0, u, v, rfl, hT0, rfl, hu1, hv1⟩ := y
          have hu' : (zb.map V.str)[i]? = some u := hu1
          have hv' : (ib.map V.int)[i]? = some v := hv1
          rw [List.getElem?_map] at hu' hv'
          obtain ⟨z, e1, rfl⟩ := Option.map_eq_some_iff.mp hu'
          obtain ⟨j, e2, rfl⟩ := Option.map_eq_some_iff.mp hv'
          have bT := (But.refl d H6).new (o := .tup [.str z, .int j]) hT0
          have hT6 := bT _ _ ntd (b6 _ _ ntd hT)
          have g := DGet.k (k := Sum.inr z) hT6
          rw [val_kv] at g
          refine ⟨T0, _, rfl, SqT.of upd_same, rfl, _, _, rfl, _, _, rfl, rfl, rfl, _, rfl, t, rfl, .inl ⟨_, .inl hT6⟩, _, rfl, _, rfl, _, g, ?_⟩
          cases el : lookI za ia z with
          | none => exact keep _ _ bT (hd6.new hT0) (hL.snoc (nib.big j (List.mem_of_getElem? e2)))
          | some j0 => exact keep _ _ bT (hd6.new hT0) (hL.snoc (look_big cA.wd.mem nia.big el))
        · obtain ⟨ic, rfl, lic, gic⟩ := hL
          refine ⟨D, _, rfl, .inl ⟨SqL.of hDL, fun m qm => ?_⟩⟩
          have bm := bH9.new (o := .tup (ic.map V.int)) qm
          refine hn _ _ ⟨some (.ref t), m, ic, rfl, b5.trans bm, hdH9.new qm, cA.but bm, cB.but bm, nia.but bm, ⟨upd_same, lic, gic, (hdH9.ne_none qm).symm⟩⟩
      · rw [decide_eq_false e0]
        exact hn _ _ ⟨none, aib, ib, rfl, b5, hd13, cA, cB, nia, nib⟩
end
end K1

/-! ## K20 -/
set_option Elab.async false
set_option linter.all false
set_option maxRecDepth 100000
set_option maxHeartbeats 16000000
namespace K1
open PySem PySem.Spec PyProof.Rows L2
abbrev s_law : Stmt := topS 29
abbrev N_law : List Str := ["script", "spot", "dice", "turn", "value"]
theorem sc_law : FnScope N_law ["script"] (defScope s_law) := ⟨rfl, rfl, rfl, by decide +kernel, rfl, by decide +kernel, by decide +kernel⟩
theorem sql_butT {K : PySem.W.Frag} {H0 H' : Hp} {a d : Addr} {xs : List V} (h : SqL K H0 a xs) (hn : H0 d = none) (b : ButT d H0 H') : SqL K H' a xs := by
  rcases h with (h | ⟨o, h⟩) | h
  · exact .inl (.inl (b _ _ (ne_of_none h hn) (by intro _ z; cases z) h))
  · exact .inl (.inr ⟨o, b _ _ (ne_of_none h hn) (by intro _ z; cases z) h⟩)
  · exact .inr h
theorem tabs_but {T : List (Addr × Str)} {H H' : Hp} {d : Addr} (h : LamX.Tabs T H) (hd : Dice H d) (b : But d H H') : LamX.Tabs T H' := fun p hp => by
  obtain ⟨x, y, z, hz⟩ := hd
  obtain ⟨ps, h1, h2, h3⟩ := h p hp
  have ne : ∀ {c : Addr} {o : HO}, H c = some o → o ≠ .lst [.int x, .int y, .int z] → c ≠ d := fun e n q => by
    subst q
    rw [hz] at e
    exact n (Option.some.inj e).symm
  refine ⟨ps, b _ _ (ne h1 (by intro w; cases w)) h1, h2, fun pos cv hc => ?_⟩
  obtain ⟨c, e1, e2⟩ := h3 pos cv hc
  exact ⟨c, e1, b _ _ (ne e2 (by intro w; cases w)) e2⟩
def spLaw (qual : Str) (K : PySem.W.Frag) (PT : Addr) : Sp := fun vs H Q _ => ∃ (a : Addr) (ns : List Int), vs = [.ref a] ∧ SqL K H a (ns.map V.int) ∧ LamX.Tabs [(PT, qual)] H ∧ ∀ H', Q (.bl true) H'
def five : List Str := ["a", "abcdefgh", "abcdefghi", "", "a b"]
theorem joinedC {K : PySem.W.Frag} {CE : Addr} {H : Hp} {t1 t2 t3 t4 : Addr} {za zb : List Str} {ia ib : List Int} {Q : VK} (h1 : H t1 = some (.tup (za.map V.str))) (h2 : H t2 = some (.tup (ia.map V.int))) (h3 : H t3 = some (.tup (zb.map V.str))) (h4 : H t4 = some (.tup (ib.map V.int)))
    (wa : Wd za) (wb : Wd zb) (aa : ascB za = true) (ab : ascB zb = true) (la : ia.length = za.length) (lb : ib.length = zb.length) (k : spTail H Q za ia zb ib) : spJoined K CE [.ref t1, .ref t2, .ref t3, .ref t4] H Q E0 := by
  have ha := wa.len
  have hb := wb.len
  refine ⟨_, _, _, _, some za, rfl, ⟨t1, rfl, h1, by omega, wa.short, by rw [wa.cols]; exact aa⟩, some ia, ⟨t2, rfl, h2, la⟩, some zb, ⟨t3, rfl, h3, by omega, wb.short, by rw [wb.cols]; exact ab⟩, some ib, ⟨t4, rfl, h4, lb⟩, by omega, k⟩
theorem projectC {K : PySem.W.Frag} {CE : Addr} {H : Hp} {t1 t2 t3 : Addr} {za zb : List Str} {ia js : List Int} {Q : VK} (h1 : H t1 = some (.tup (za.map V.str))) (h2 : H t2 = some (.tup (ia.map V.int))) (h3 : H t3 = some (.tup (zb.map V.str)))
    (wa : Wd za) (wb : Wd zb) (aa : ascB za = true) (ab : ascB zb = true) (la : ia.length = za.length) (hj : zb.map (lookI za ia) = js.map some) (k : ∀ p H', H p = none → Same H H' → H' p = some (.tup (js.map V.int)) → Q (.ref p) H') : spProject K CE [.ref t1, .ref t2, .ref t3] H Q E0 := by
  have ha := wa.len
  have hb := wb.len
  exact ⟨_, _, _, some za, rfl, ⟨t1, rfl, h1, by omega, wa.short, by rw [wa.cols]; exact aa⟩, some ia, ⟨t2, rfl, h2, la⟩, some zb, ⟨t3, rfl, h3, by omega, wb.short, by rw [wb.cols]; exact ab⟩, .inr ⟨js, hj, k⟩⟩
theorem dp_pair {K : PySem.W.Frag} {H : Hp} {p q r : Addr} {ys : List Str} {js : List Int} (h : H p = some (.tup [.ref q, .ref r])) (hq : H q = some (.tup (ys.map V.str))) (hr : H r = some (.tup (js.map V.int))) : Dp K H (.ref p) (.tuple [.tuple (ys.map PyData.str), .tuple (js.map PyData.int)]) :=
  .tup (SqT.of h) (.cons (.tup (SqT.of hq) (dp_strs ys)) (.cons (.tup (SqT.of hr) (dp_ints js)) .nil))
theorem wd_0 : Wd [] := ⟨by decide, by simp, by decide⟩
theorem wd_a : Wd ["a"] := ⟨by decide +kernel, by decide +kernel, by decide⟩
theorem wd_b : Wd ["b"] := ⟨by decide +kernel, by decide +kernel, by decide⟩
theorem wd_ab : Wd ["a", "b"] := ⟨by decide +kernel, by decide +kernel, by decide⟩
theorem join_0 : JoinedIs (bothK [] [] [] []) [] [] := ⟨by decide, fun z => by simp [bothK, kvOf, mergeK], rfl, rfl⟩
theorem join_2 : JoinedIs (bothK ["b"] [1] ["a"] [2]) ["a", "b"] [2, 1] := by
  have e : (bothK ["b"] [1] ["a"] [2]).map (·.1) = [(Sum.inr "b" : Key), Sum.inr "a"] := by decide +kernel
  refine ⟨by decide +kernel, fun z => ?_, by decide +kernel, by decide +kernel⟩
  rw [e]
  simp only [List.mem_cons, List.not_mem_nil, or_false, Sum.inr.injEq]
  exact or_comm
section
variable {P : Program} {w : World} {K : PySem.W.Frag} {mg : Str → Option Value} {base : Heap}
theorem ok_law {f CE PT : Addr} {fd : FuncData} (F : Fun K "law" "law" s_law f fd) (T : Names4 mg)
    (CN : Callee P w K mg base CX0 1 "is_name" ["value"] (spName K)) (CC : Callee P w K mg base CX0 2 "is_columns" ["value"] (spCols K))
    (CP : Callee P w K mg base (L2.CX P w) 4 "project" ["columns", "integers", "some"] (spProject K CE)) (CJ : Callee P w K mg base (L2.CX P w) 4 "joined" ["columns", "integers", "others", "more"] (spJoined K CE))
    (CD : Callee P w K mg base CX0 1 "_law_dice" ["script", "spot"] (spDice K))
    (CT : CalleeG P w K mg base 5 "_law_told_right" ["dice"] spTr) (CR : CalleeG P w K mg base 5 "_law_rows_right" ["dice"] spTr)
    (CE' : Callee P w K mg base CX0 7 "_law_errors_right" ["dice"] (spEr ("_law_errors_right.<locals>." ++ "<lambda>") PT)) : FnOkG P w K mg base 8 f fd ["script"] (spLaw ("_law_errors_right.<locals>." ++ "<lambda>") K PT) := by
  have nd := sc_law.nd
  refine fn_ofG F sc_law (fun vs H Q E h => ?_) (fun cdv A outer s H vs Q hr quiet h => ?_)
  · obtain ⟨a, ns, rfl, _⟩ := h
    rfl
  · obtain ⟨a, ns, rfl, hs, hT, k⟩ := h
    have hr1 : Room 1 _ := hr.mono (by decide)
    have hr2 : Room 2 _ := hr.mono (by decide)
    have hr4 : Room 4 _ := hr.mono (by decide)
    have hr5 : Room 5 _ := hr.mono (by decide)
    have hu := hu_of hr
    have hu64 : (A.deeper (envOfC "law" (defScope s_law) s.heap.objs.size f cdv)).units + 64 < cLine := by have := hr.un; omega
    refine ⟨_, (pss_cons
    (ps_for PassesOwn.never rfl (pi_range1 (by rfl) T.range (pa_cons (pe_callB (call_max2 rfl) (by rfl) T.max (by decide +kernel) (pa_cons pe_int (pa_cons (pe_callB (call_min2 rfl) (by rfl) T.min (by decide +kernel) (pa_cons pe_int (pa_cons (pe_callB call_len_seq (by rfl) T.len (by decide +kernel) (pa_cons (pv 0) pa_nil)) pa_nil))) pa_nil))) pa_nil)) (pg_name (i := 1) nd rfl (Or.inl rfl)) (pss_cons
      (ps_set (i := 2) nd rfl (Or.inl rfl) (pe_use CD hr1 rfl pass0 (pa_cons (pv 0) (pa_cons (pv 1) pa_nil))))
      (pss_one
      (ps_for PassesOwn.never rfl (pi_range1 (by rfl) T.range (pa_cons pe_int pa_nil)) (pg_name (i := 3) nd rfl (Or.inl rfl)) (pss_one
        (ps_if (PW.pt (pw_or (pt_not (pt_val (pe_useG CT hr5 quiet rfl (pa_cons (pv 2) pa_nil)))) (pw_or (pt_not (pt_val (pe_useG CR hr5 quiet rfl (pa_cons (pv 2) pa_nil)))) (pw_or1 (pt_not (pt_val (pe_use CE' hr rfl pass0 (pa_cons (pv 2) pa_nil)))))))) (pss_one
          (ps_ret pe_bl)) pss_nil))))))
    (pss_cons
    (ps_if (pt_cmpR (op_neD hu64) (pe_lc (own := [("value", 4)]) (g := (gName 4)) rfl nd (pi_tup (pe_tup (pa_cons pe_str (pa_cons pe_str (pa_cons pe_str (pa_cons pe_str (pa_cons pe_str pa_nil))))))) (blkOk_by (N := N_law) (sc := defScope s_law) (by decide +kernel)) (fun _ _ _ _ _ => (pg_name (i := 4) nd rfl (Or.inl rfl))) (fun _ _ _ _ _ => pts_nil) (fun _ _ _ _ _ => (pe_use CN hr1 rfl pass0 (pa_cons (pv 4) pa_nil)))) (pe_lst (pa_cons pe_bl (pa_cons pe_bl (pa_cons pe_bl (pa_cons pe_bl (pa_cons pe_bl pa_nil)))))) (nomark _)) (pss_one
      (ps_ret pe_bl)) pss_nil)
    (pss_cons
    (ps_if (PW.pt (pw_or (pt_cmpR (op_neD hu64) (pe_use CJ hr4 rfl passE0 (pa_cons (pe_tup pa_nil) (pa_cons (pe_tup pa_nil) (pa_cons (pe_tup pa_nil) (pa_cons (pe_tup pa_nil) pa_nil))))) (pe_tup (pa_cons (pe_tup pa_nil) (pa_cons (pe_tup pa_nil) pa_nil))) (nomark _)) (pw_or (pt_cmpR (op_neD hu64) (pe_use CP hr4 rfl passE0 (pa_cons (pe_tup pa_nil) (pa_cons (pe_tup pa_nil) (pa_cons (pe_tup pa_nil) pa_nil)))) (pe_tup pa_nil) (nomark _)) (pw_or1 (pt_cmpR op_notBl (pe_use CC hr2 rfl pass0 (pa_cons (pe_tup (pa_cons pe_str (pa_cons pe_str pa_nil))) pa_nil)) pe_bl (nomark _)))))) (pss_one
      (ps_ret pe_bl)) pss_nil)
    (pss_cons
    (ps_if (PW.pt (pw_or (pt_cmpR (op_neD hu64) (pe_use CJ hr4 rfl passE0 (pa_cons (pe_tup (pa_cons pe_str pa_nil)) (pa_cons (pe_tup (pa_cons pe_int pa_nil)) (pa_cons (pe_tup (pa_cons pe_str pa_nil)) (pa_cons (pe_tup (pa_cons pe_int pa_nil)) pa_nil))))) (pe_tup (pa_cons (pe_tup (pa_cons pe_str (pa_cons pe_str pa_nil))) (pa_cons (pe_tup (pa_cons pe_int (pa_cons pe_int pa_nil))) pa_nil))) (nomark _)) (pw_or1 (pt_cmpR (op_neD hu64) (pe_use CP hr4 rfl passE0 (pa_cons (pe_tup (pa_cons pe_str (pa_cons pe_str pa_nil))) (pa_cons (pe_tup (pa_cons pe_int (pa_cons pe_int pa_nil))) (pa_cons (pe_tup (pa_cons pe_str pa_nil)) pa_nil)))) (pe_tup (pa_cons pe_int pa_nil)) (nomark _))))) (pss_one
      (ps_ret pe_bl)) pss_nil)
    (pss_one
    (ps_ret (pe_cmpR op_isN (pe_use CJ hr4 rfl passE0 (pa_cons (pe_tup (pa_cons pe_str pa_nil)) (pa_cons (pe_tup (pa_cons pe_int pa_nil)) (pa_cons (pe_tup (pa_cons pe_str pa_nil)) (pa_cons (pe_tup (pa_cons pe_int pa_nil)) pa_nil))))) pe_non (nomark _)))))))), ?_⟩
    refine ⟨_, rfl, a, _, rfl, .inl hs, _, _, rfl, _, _, rfl, ?_⟩
    refine ⟨_, rfl, ?_, ?_, for_range (fun i σ H' => ∃ v1 v2 v3 : Option V, σ = [some (.ref a), v1, v2, v3, none] ∧ SqL K H' a (ns.map V.int) ∧ LamX.Tabs [(PT, "_law_errors_right.<locals>." ++ "<lambda>")] H') ⟨none, none, none, rfl, hs, hT⟩ (fun i σ H1 hi ⟨v1, v2, v3, hσ, hs1, hT1⟩ => ?_) (fun σ H1 ⟨v1, v2, v3, hσ, hs1, hT1⟩ => ?_)⟩
    · repeat' split
      all_goals omega
    · repeat' split
      all_goals omega
    · subst hσ
      refine ⟨_, rfl, _, rfl, a, ns, i, by rw [Int.zero_add]; rfl, hs1, fun p H2 hp s2 hd2 => ?_⟩
      refine ⟨3, rfl, by decide, by decide, for_range (n := 3) (fun j σ H' => ∃ v3 : Option V, σ = [some (.ref a), some (.int (0 + (i : Int))), some (.ref p), v3, none] ∧ ButT p H1 H' ∧ Dice H' p ∧ LamX.Tabs [(PT, "_law_errors_right.<locals>." ++ "<lambda>")] H') ⟨v3, rfl, fun b o _ _ e => s2 _ _ e, hd2, hT1.ext s2⟩ (fun j σ H3 hj ⟨v4, hσ, b3, hd3, hT3⟩ => ?_) (fun σ H3 ⟨v4, hσ, b3, hd3, hT3⟩ => ?_)⟩
      · subst hσ
        refine ⟨_, rfl, p, rfl, hd3, fun H4 b4 hd4 => ⟨_, rfl, iteF ?_⟩⟩
        have hT4 := tabs_but hT3 hd3 b4
        refine ⟨_, rfl, p, rfl, hd4, fun H5 b5 hd5 => ⟨_, rfl, iteF ?_⟩⟩
        have hT5 := tabs_but hT4 hd4 b5
        refine ⟨_, rfl, p, rfl, hd5, hT5, fun H6 b6 hd6 hT6 => ⟨_, rfl, iteF ?_⟩⟩
        exact ⟨_, rfl, fun b o n t e => b6 b o n t (b5 b o n (b4 b o n (b3 b o n t e))), hd6, hT6⟩
      · subst hσ
        exact ⟨_, _, _, rfl, sql_butT hs1 hp b3, hT3⟩
    · subst hσ
      clear hs hT hs1 hT1
      refine ⟨Nat.le_of_ble_eq_true rfl, fun t1 ht1 => ⟨t1, rfl, ⟨_, SqT.of upd_same⟩, fun D hD => ?_⟩⟩
      refine lc_acc walk_tup (fun i => (five.take i).map fun z => V.bl (nameB z)) rfl hD (fun i hi => ?_) (fun H' s' => SqT.of (s' _ _ upd_same)) (fun i x H2 H3 N hi s2 y keep skip => ?_) (fun H2 s2 hL => ?_)
      · have : (5 : Nat) < sizeLine := by decide
        have hi' : i < 5 := hi
        rw [List.length_map, List.length_take]; omega
      · obtain ⟨rfl, hx⟩ := y
        have hx' : (five.map V.str)[i]? = some x := hx
        rw [List.getElem?_map] at hx'
        obtain ⟨z, e1, rfl⟩ := Option.map_eq_some_iff.mp hx'
        have hz : z.length ≤ sizeLine := (by decide +kernel : ∀ z ∈ five, z.length ≤ sizeLine) z (List.mem_of_getElem? e1)
        refine ⟨rfl, _, rfl, .str z, nameB z, rfl, .inl ⟨z, rfl, hz, rfl⟩, fun H4 s4 => keep _ _ s4 ?_⟩
        rw [take_snoc e1, List.map_append]; rfl
      refine ⟨Nat.le_of_ble_eq_true rfl, fun q1 hq1 => ?_⟩
      refine ⟨.list (([true, true, false, false, false] : List Bool).map PyData.bool), .list (([true, true, false, false, false] : List Bool).map PyData.bool), .lst (xs := ([true, true, false, false, false] : List Bool).map V.bl) (SqL.of ?_) (.cons (.bl _) (.cons (.bl _) (.cons (.bl _) (.cons (.bl _) (.cons (.bl _) .nil))))), .lst (SqL.of upd_same) (.cons (.bl _) (.cons (.bl _) (.cons (.bl _) (.cons (.bl _) (.cons (.bl _) .nil))))), rfl, rfl, _, rfl, ?_⟩
      · rw [upd_ne (ne_of_none hL hq1), hL]
        have e5 : ((five.take 5).map fun z => V.bl (nameB z)) = ([true, true, false, false, false] : List Bool).map V.bl := by
          have : (five.map nameB) = [true, true, false, false, false] := by decide +kernel
          rw [← this, List.map_map]; rfl
        exact congrArg (fun l => some (HO.lst l)) e5
      refine ite2 (fun h => absurd h (by decide +kernel)) fun _ => ?_
      clear hL hq1 s2 hD ht1
      generalize upd H2 q1 _ = H5
      -- nothing joined with nothing
      refine ⟨Nat.le_of_ble_eq_true rfl, fun t1 g1 => ⟨Nat.le_of_ble_eq_true rfl, fun t2 g2 => ⟨Nat.le_of_ble_eq_true rfl, fun t3 g3 => ⟨Nat.le_of_ble_eq_true rfl, fun t4 g4 => ?_⟩⟩⟩⟩
      have a1 := Same.new (o := .tup []) (Same.refl (upd H5 t1 (.tup []))) g2
      have a2 := Same.new (o := .tup []) (Same.refl (upd (upd H5 t1 (.tup [])) t2 (.tup []))) g3
      have a3 := Same.new (o := .tup []) (Same.refl (upd (upd (upd H5 t1 (.tup [])) t2 (.tup [])) t3 (.tup []))) g4
      refine joinedC (za := []) (zb := []) (ia := []) (ib := []) (a3 _ _ (a2 _ _ (a1 _ _ upd_same))) (a3 _ _ (a2 _ _ upd_same)) (a3 _ _ upd_same) upd_same wd_0 wd_0 rfl rfl rfl rfl (.inr ⟨rfl, fun ys js p q r H6 J s6 hp hq hr _ => ?_⟩)
      obtain ⟨rfl, rfl⟩ := joined_one join_0 J
      refine ⟨Nat.le_of_ble_eq_true rfl, fun u1 v1 => ⟨Nat.le_of_ble_eq_true rfl, fun u2 v2 => ⟨Nat.le_of_ble_eq_true rfl, fun u3 v3 => ?_⟩⟩⟩
      have b1 := Same.new (o := .tup []) (Same.refl H6) v1
      have b2 := Same.new (o := .tup []) (Same.refl (upd H6 u1 (.tup []))) v2
      have b3 := Same.new (o := .tup [.ref u1, .ref u2]) (Same.refl (upd (upd H6 u1 (.tup [])) u2 (.tup []))) v3
      have b4 := (b1.trans b2).trans b3
      refine ⟨_, _, dp_pair (b4 _ _ hp) (b4 _ _ hq) (b4 _ _ hr), dp_pair (ys := []) (js := []) upd_same (b3 _ _ (b2 _ _ upd_same)) (b3 _ _ upd_same), rfl, rfl, _, rfl, ?_⟩
      refine ite2 (fun h => absurd h (by decide +kernel)) fun _ => ?_
      clear b1 b2 b3 b4 v1 v2 v3 a1 a2 a3 g1 g2 g3 g4 s6 hp hq hr
      generalize upd _ u3 _ = H7
      -- nothing cut to nothing
      refine ⟨Nat.le_of_ble_eq_true rfl, fun t1 g1 => ⟨Nat.le_of_ble_eq_true rfl, fun t2 g2 => ⟨Nat.le_of_ble_eq_true rfl, fun t3 g3 => ?_⟩⟩⟩
      have a1 := Same.new (o := .tup []) (Same.refl (upd H7 t1 (.tup []))) g2
      have a2 := Same.new (o := .tup []) (Same.refl (upd (upd H7 t1 (.tup [])) t2 (.tup []))) g3
      dsimp only [tNil, List.append_nil]
      refine projectC (K := K) (CE := CE) (za := []) (zb := []) (ia := []) (js := []) (a2 _ _ (a1 _ _ upd_same)) (a2 _ _ upd_same) upd_same wd_0 wd_0 rfl rfl rfl rfl (fun p H8 _ s8 hp => ?_)
      refine ⟨Nat.le_of_ble_eq_true rfl, fun u1 v1 => ?_⟩
      refine ⟨_, _, .tup (SqT.of ((Same.new (o := .tup []) (Same.refl H8) v1) _ _ hp)) (dp_ints []), .tup (SqT.of upd_same) (dp_ints []), rfl, rfl, _, rfl, ?_⟩
      refine ite2 (fun h => absurd h (by decide +kernel)) fun _ => ?_
      clear a1 a2 g1 g2 g3 s8 hp
      generalize upd H8 u1 _ = H9
      refine ⟨Nat.le_of_ble_eq_true rfl, fun t1 g1 => ?_⟩
      refine ⟨.ref t1, false, rfl, .inr ⟨t1, _, (["a", "a"] : List Str).map some, rfl, upd_same, by decide, parts_some (zs := ["a", "a"]) (by decide +kernel), by decide +kernel⟩, fun H10 s10 => ⟨_, _, rfl, rfl, _, rfl, ?_⟩⟩
      rw [decide_eq_true rfl]
      refine iteF ?_
      clear s10 g1
      -- two rows joined
      refine ⟨Nat.le_of_ble_eq_true rfl, fun t1 g1 => ⟨Nat.le_of_ble_eq_true rfl, fun t2 g2 => ⟨Nat.le_of_ble_eq_true rfl, fun t3 g3 => ⟨Nat.le_of_ble_eq_true rfl, fun t4 g4 => ?_⟩⟩⟩⟩
      have a1 := Same.new (o := .tup [.int 1]) (Same.refl (upd H10 t1 (.tup [.str "b"]))) g2
      have a2 := Same.new (o := .tup [.str "a"]) (Same.refl (upd (upd H10 t1 (.tup [.str "b"])) t2 (.tup [.int 1]))) g3
      have a3 := Same.new (o := .tup [.int 2]) (Same.refl (upd (upd (upd H10 t1 (.tup [.str "b"])) t2 (.tup [.int 1])) t3 (.tup [.str "a"]))) g4
      dsimp only [tNil, List.append_nil]
      refine joinedC (K := K) (CE := CE) (za := ["b"]) (zb := ["a"]) (ia := [1]) (ib := [2]) (a3 _ _ (a2 _ _ (a1 _ _ upd_same))) (a3 _ _ (a2 _ _ upd_same)) (a3 _ _ upd_same) upd_same wd_b wd_a rfl rfl rfl rfl (.inr ⟨by decide +kernel, fun ys js p q r H6 J s6 hp hq hr _ => ?_⟩)
      obtain ⟨rfl, rfl⟩ := joined_one join_2 J
      refine ⟨Nat.le_of_ble_eq_true rfl, fun u1 w1 => ⟨Nat.le_of_ble_eq_true rfl, fun u2 w2 => ⟨Nat.le_of_ble_eq_true rfl, fun u3 w3 => ?_⟩⟩⟩
      have b1 := Same.new (o := .tup [.str "a", .str "b"]) (Same.refl H6) w1
      have b2 := Same.new (o := .tup [.int 2, .int 1]) (Same.refl (upd H6 u1 (.tup [.str "a", .str "b"]))) w2
      have b3 := Same.new (o := .tup [.ref u1, .ref u2]) (Same.refl (upd (upd H6 u1 (.tup [.str "a", .str "b"])) u2 (.tup [.int 2, .int 1]))) w3
      have b4 := (b1.trans b2).trans b3
      refine ⟨_, _, dp_pair (b4 _ _ hp) (b4 _ _ hq) (b4 _ _ hr), dp_pair (ys := ["a", "b"]) (js := [2, 1]) upd_same (b3 _ _ (b2 _ _ upd_same)) (b3 _ _ upd_same), by decide +kernel, by decide +kernel, _, rfl, ?_⟩
      refine ite2 (fun h => absurd h (by decide +kernel)) fun _ => ?_
      clear b1 b2 b3 b4 w1 w2 w3 a1 a2 a3 g1 g2 g3 g4 s6 hp hq hr
      generalize upd _ u3 _ = H11
      -- one row cut
      refine ⟨Nat.le_of_ble_eq_true rfl, fun t1 g1 => ⟨Nat.le_of_ble_eq_true rfl, fun t2 g2 => ⟨Nat.le_of_ble_eq_true rfl, fun t3 g3 => ?_⟩⟩⟩
      have a1 := Same.new (o := .tup [.int 1, .int 2]) (Same.refl (upd H11 t1 (.tup [.str "a", .str "b"]))) g2
      have a2 := Same.new (o := .tup [.str "b"]) (Same.refl (upd (upd H11 t1 (.tup [.str "a", .str "b"])) t2 (.tup [.int 1, .int 2]))) g3
      dsimp only [tNil, List.append_nil]
      refine projectC (K := K) (CE := CE) (za := ["a", "b"]) (zb := ["b"]) (ia := [1, 2]) (js := [2]) (a2 _ _ (a1 _ _ upd_same)) (a2 _ _ upd_same) upd_same wd_ab wd_b (by decide +kernel) rfl rfl (by decide +kernel) (fun p H12 _ s12 hp => ?_)
      refine ⟨Nat.le_of_ble_eq_true rfl, fun u1 w1 => ?_⟩
      refine ⟨_, _, .tup (SqT.of ((Same.new (o := .tup [.int 2]) (Same.refl H12) w1) _ _ hp)) (dp_ints [2]), .tup (SqT.of upd_same) (dp_ints [2]), rfl, rfl, _, rfl, ?_⟩
      refine ite2 (fun h => absurd h (by decide +kernel)) fun _ => ?_
      clear a1 a2 g1 g2 g3 s12 hp
      generalize upd H12 u1 _ = H13
      -- rows that differ
      refine ⟨Nat.le_of_ble_eq_true rfl, fun t1 g1 => ⟨Nat.le_of_ble_eq_true rfl, fun t2 g2 => ⟨Nat.le_of_ble_eq_true rfl, fun t3 g3 => ⟨Nat.le_of_ble_eq_true rfl, fun t4 g4 => ?_⟩⟩⟩⟩
      have a1 := Same.new (o := .tup [.int 1]) (Same.refl (upd H13 t1 (.tup [.str "a"]))) g2
      have a2 := Same.new (o := .tup [.str "a"]) (Same.refl (upd (upd H13 t1 (.tup [.str "a"])) t2 (.tup [.int 1]))) g3
      have a3 := Same.new (o := .tup [.int 2]) (Same.refl (upd (upd (upd H13 t1 (.tup [.str "a"])) t2 (.tup [.int 1])) t3 (.tup [.str "a"]))) g4
      dsimp only [tNil, List.append_nil]
      refine joinedC (K := K) (CE := CE) (za := ["a"]) (zb := ["a"]) (ia := [1]) (ib := [2]) (a3 _ _ (a2 _ _ (a1 _ _ upd_same))) (a3 _ _ (a2 _ _ upd_same)) (a3 _ _ upd_same) upd_same wd_a wd_a rfl rfl rfl rfl (.inl ⟨by decide +kernel, fun H14 _ => ?_⟩)
      exact ⟨rfl, by rw [decide_eq_true rfl]; exact k _⟩
end
end K1

/-! ## K21 -/
set_option Elab.async false
set_option linter.all false
set_option maxRecDepth 100000
set_option maxHeartbeats 8000000
namespace K1
open PySem PySem.Spec PyProof.Rows L2
/-! ### the law's call: no text is being written out when the law is asked; one table of inner code -/
def Keeps (s s' : Shared) : Prop := OldK s.heap s'.heap ∧ s'.os = s.os ∧ AllBare s'.gens
structure Start (K : PySem.W.Frag) (mg : Str → Option Value) (s : Shared) (c T a : Addr) (vs : List Value) (ns : List Int) : Prop where
  kin : K.In s.heap
  glob : s.heap.Ns mainGlobals mg
  built : ∃ mb, s.heap.Ns builtinsNs mb ∧
    ∀ x : Str, x ≠ "__name__" → mb x = bootBuiltins x
  calm : s.heap.NoLimit
  idle : s.gens = #[]
  tab : s.heap.get? T = some { cls := .none, data := .fields #[] }
  own : K.lookup T = none
  code : PySem.W.CodeHd s.heap c T
  bmod : ∃ (m : Addr) (o : Obj), mg "__builtins__" = some (.ref m) ∧
    m ≠ builtinsNs ∧ s.heap.get? m = some o ∧ o.cls = .type "module" ∧
    o.dict = some builtinsNs ∧ o.data = .plain
  arg : s.heap.get? a = some { cls := .type "list", data := .seq vs.toArray }
  ints_ : IntsAre vs ns
  few : ns.length ≤ sizeLine
/-- what is tracked when the law begins: the table, and the script unless it lies in the written part -/
def H0 (K : PySem.W.Frag) (T a : Addr) (vs : List Value) (ns : List Int) : Hp := fun b =>
  if b = T then some (.tbl #[])
  else if b = a ∧ K.lookup a = none then
    some (.frz { cls := .type "list", data := .seq vs.toArray } (.lst (ns.map V.int)))
  else none
section
variable {P : Program} {w : World} {K : PySem.W.Frag} {mg : Str → Option Value} {s : Shared} {c T a : Addr} {vs : List Value} {ns : List Int}
theorem Start.apart (S : Start K mg s c T a vs ns) : a ≠ T := fun e => by
  have h := S.arg
  rw [e, S.tab] at h
  cases h
theorem h0_tab : H0 K T a vs ns T = some (.tbl #[]) := if_pos rfl
theorem h0_cases {b : Addr} {u : HO} (h : H0 K T a vs ns b = some u) : (b = T ∧ u = .tbl #[]) ∨
    (b = a ∧ K.lookup a = none ∧ u = .frz { cls := .type "list", data := .seq vs.toArray } (.lst (ns.map V.int))) := by
  unfold H0 at h
  split at h
  · next e => exact .inl ⟨e, (Option.some.inj h).symm⟩
  · split at h
    · next e => exact .inr ⟨e.1, e.2, (Option.some.inj h).symm⟩
    · cases h
theorem Start.seq (S : Start K mg s c T a vs ns) : SqL K (H0 K T a vs ns) a (ns.map V.int) := by
  cases e : K.lookup a with
  | none =>
    refine .inl (.inr ⟨⟨.type "list", none, .seq vs.toArray, #[]⟩, ?_⟩)
    unfold H0
    rw [if_neg S.apart, if_pos ⟨rfl, e⟩]
  | some o =>
    have h := S.kin a o e
    rw [S.arg] at h
    cases h
    refine .inr ⟨_, vs.toArray, _, e, rfl, rfl, rfl, ?_, ?_⟩
    · rw [List.size_toArray, S.ints_.length]; exact S.few
    · simpa using vals_ints S.ints_
theorem Start.hok (S : Start K mg s c T a vs ns) : HOk P w (H0 K T a vs ns) s.heap := fun b u h => by
  rcases h0_cases h with ⟨rfl, rfl⟩ | ⟨rfl, _, rfl⟩
  · exact S.tab
  · exact ⟨S.arg, by rw [List.length_map]; exact S.few, vs, _, vals_ints S.ints_, S.arg⟩
/-- an object that is neither stays in the ground -/
theorem Start.rest (S : Start K mg s c T a vs ns) {b : Addr} {o : Obj} (e : s.heap.get? b = some o) (n : b ≠ T) (m : b = a → K.lookup a ≠ none) :
    H0 K T a vs ns b = none := by
  unfold H0
  rw [if_neg n, if_neg fun z => m z.1 z.2]
theorem Start.plain (S : Start K mg s c T a vs ns) {b : Addr} {o : Obj} (e : s.heap.get? b = some o) (n1 : o.data ≠ .fields #[]) (n2 : ∀ xs k, o.data ≠ .seq xs k) :
    (hidT s.heap (H0 K T a vs ns)).get? b = some o := by
  refine hidT_get e (S.rest e (fun z => ?_) fun z => ?_)
  · rw [z, S.tab] at e
    cases e
    exact absurd rfl n1
  · rw [z, S.arg] at e
    cases e
    exact absurd rfl (n2 _ _)
theorem Start.names (S : Start K mg s c T a vs ns) {b : Addr} {m : Str → Option Value} (h : s.heap.Ns b m) : (hidT s.heap (H0 K T a vs ns)).Ns b m := by
  obtain ⟨o, es, ep, e, d, r⟩ := h
  refine ⟨o, es, ep, S.plain e ?_ ?_, d, r⟩
  · intro z; rw [d] at z; cases z
  · intro xs k z; rw [d] at z; cases z
theorem Start.low (S : Start K mg s c T a vs ns) : K.In (hidT s.heap (H0 K T a vs ns)) := fun b o e => by
  refine hidT_get (S.kin b o e) (S.rest (S.kin b o e) (fun z => ?_) fun z => ?_)
  · rw [z, S.own] at e; cases e
  · rw [← z, e]; exact fun q => by cases q
theorem Start.table (S : Start K mg s c T a vs ns) : LamX.TabB (hidT s.heap (H0 K T a vs ns)) mg c T := by
  refine ⟨?_, ?_, ?_⟩
  · obtain ⟨o, us, fi, t1, fl, t2, nf, tx, t3, e, r1, r2, r3, r4⟩ := S.code
    refine ⟨o, us, fi, t1, fl, t2, nf, tx, t3, S.plain e ?_ ?_, r1, r2, r3, r4⟩
    · intro z
      rw [r2] at z
      cases z
      simp at r3
    · intro xs k z
      rw [r2] at z
      cases z
  · obtain ⟨m, o, g, h1, h2, h3, h4, h5⟩ := S.bmod
    refine ⟨m, o, g, h1, fun z => ?_, fun z => ?_, S.plain h2 ?_ ?_, h3, h4, h5⟩
    · obtain ⟨o', es, ep, e, d, _⟩ := S.glob
      rw [z, e] at h2
      cases h2
      rw [d] at h5
      cases h5
    · rw [z, S.tab] at h2
      cases h2
      cases h5
    · intro z; rw [h5] at z; cases z
    · intro xs k z; rw [h5] at z; cases z
  · intro z
    obtain ⟨o, es, ep, e, d, _⟩ := S.glob
    rw [z, S.tab] at e
    cases e
    cases d
theorem Start.env (S : Start K mg s c T a vs ns) : Env0 P w K mg (hidT s.heap (H0 K T a vs ns)) callerA [] s (H0 K T a vs ns) where
  frames := rfl
  mod := by
    obtain ⟨mb, b1, b2⟩ := S.built
    obtain ⟨mc, c1, c2⟩ := S.calm
    exact ⟨S.low, S.names S.glob, ⟨mb, S.names b1, b2⟩, ⟨mc, S.names c1, c2⟩⟩
  bs := fun _ _ e => of_hidT e
  bsz := Nat.le_of_eq (hidT_size _ _)
  funs := trivial
  frf := fun b hb => by cases hb
  hok := S.hok
  bare := .of_eq S.idle
theorem callG {k : Nat} {fa : Addr} {fd : FuncData} {x : Str} {sp : Sp} (S : Start K mg s c T a vs ns) (room : Room k callerA)
    (F : ∀ base : Heap, K.In base → base.Ns mainGlobals mg → LamX.TabB base mg c T → FnOkG P w K mg base k fa fd [x] sp) (bind : ∀ (s : Shared) (u : Value), BindsTo s fd ⟨[u], []⟩ [(x, u)])
    (goal : ∀ H : Hp, H T = some (.tbl #[]) → SqL K H a (ns.map V.int) → sp [.ref a] H (fun v _ => v = .bl true) E0) :
    codeAny (model P w) callerA (.call (.ref fa) ⟨[.ref a], []⟩) (fun r s' => r = .ok (.ret (.bool true)) ∧ Keeps s s') s := by
  have ran := (F _ S.low (S.names S.glob) S.table).run callerA [] s _ ⟨[.ref a], []⟩ [.ref a] [.ref a] _ room rfl S.env (bind s _) (.cons rfl .nil) (goal _ h0_tab S.seq)
  refine codeAny_mono ran fun r s' h => ?_
  match r, h with
  | .ok (.ret u), h =>
    obtain ⟨v, H', same, bare, un, ok', rel, q⟩ := h
    subst q
    obtain rfl : u = Value.bool true := rel
    obtain ⟨more, grown⟩ : ∃ m : Array Value, s'.heap.get? T = some { cls := .none, data := .fields m } := by
      obtain ⟨m, tm⟩ := un.tbls T #[] h0_tab
      exact ⟨_, ok' T _ tm⟩
    have kept : ∀ b o, b ≠ T → s.heap.get? b = some o → s'.heap.get? b = some o := fun b o n e => by
      cases q : H0 K T a vs ns b with
      | none => exact un.keep b o e q (fun z => by cases z) (fun z => by cases z)
      | some u =>
        rcases h0_cases q with ⟨z, _⟩ | ⟨rfl, _, rfl⟩
        · exact absurd z n
        · have e1 := (ok' _ _ (un.frzs _ _ _ q)).1
          rw [S.arg] at e
          cases e
          exact e1
    refine ⟨rfl, ⟨fun b o e => ?_, fun b o e => ?_⟩, same, bare⟩
    · by_cases z : b = T
      · rw [z, S.tab] at e
        cases e
        rw [z]
        exact .inr (.inl ⟨(S.code.tab S.tab).isCodeTable, rfl, #[], more, rfl, by rw [Array.empty_append]; exact grown⟩)
      · exact .inl (kept b o z e)
    · by_cases z : b = T
      · rw [z]; exact ⟨_, grown⟩
      · exact ⟨o, kept b o z e⟩
end
end K1

/-! ## K22 -/
set_option Elab.async false
set_option linter.all false
set_option maxRecDepth 100000
set_option maxHeartbeats 8000000
namespace K1
open PySem PySem.Spec PyProof.Rows L2
/-! ### what the top has written -/
structure At (K : PySem.W.Frag) (x : Str) (st : Stmt) (f : Addr) : Prop where
  g : PySem.W.nsIn K mainGlobals x = some (some (.ref f))
  fn : ∃ fd, Fun K x x st f fd
  keep : PySem.W.keepIn K (.ref f) = true
theorem at_mk {K : PySem.W.Frag} {x : Str} {st : Stmt} {f : Addr} {od an : Option Addr} {sl : Array (Option Value)} {oc kV dc pm cd ct : Value} (a : PySem.W.nsIn K mainGlobals x = some (some (.ref f)))
    (l : K.lookup f = some ⟨oc, od, .func (PySem.W.fnOf x x (defArgs st) (defBody st) (defScope st) .none kV dc pm an cd ct), sl⟩) (c : PySem.W.codeIn K cd x = true) (k : PySem.W.keepIn K (.ref f) = true) : At K x st f :=
  ⟨a, ⟨_, fun_mk l c k⟩, k⟩
section
variable {P : Program} {w : World} {K : PySem.W.Frag} {h : Heap} {mg : Str → Option Value} {base : Heap} {x : Str} {st : Stmt} {f : Addr}
theorem callee {CX : CXT} {k : Nat} {ps : List Str} {sp : Sp} (X : K.In h) (G : h.Ns mainGlobals mg) (A : At K x st f) (B : ∀ fd, Fun K x x st f fd → Binds K fd ps []) (O : ∀ fd, Fun K x x st f fd → FnOk P w K mg base CX k f fd ps sp) : Callee P w K mg base CX k x ps sp := by
  obtain ⟨fd, F⟩ := A.fn
  exact ⟨f, fd, PySem.W.mg_of X G A.g, A.keep, O fd F, B fd F⟩
theorem calleeG {k : Nat} {ps : List Str} {sp : Sp} (X : K.In h) (G : h.Ns mainGlobals mg) (A : At K x st f) (B : ∀ fd, Fun K x x st f fd → Binds K fd ps []) (O : ∀ fd, Fun K x x st f fd → FnOkG P w K mg base k f fd ps sp) : CalleeG P w K mg base k x ps sp := by
  obtain ⟨fd, F⟩ := A.fn
  exact ⟨f, fd, PySem.W.mg_of X G A.g, A.keep, O fd F, B fd F⟩
end
structure Tops (K : PySem.W.Frag) (f_roll f_pick f_mixed f_some f_words f_dice f_name f_cols f_whole f_fits f_by f_project f_joined f_due f_are f_sign f_string f_odd f_jd f_tr f_rr : Addr) : Prop where
  roll_ : At K "_law_roll" s_roll f_roll
  pick_ : At K "_law_pick" s_pick f_pick
  mixed_ : At K "_law_mixed" s_mixed f_mixed
  some_ : At K "_law_some" s_some f_some
  words_ : At K "_law_words" s_words f_words
  dice_ : At K "_law_dice" s_dice f_dice
  name_ : At K "is_name" s_is_name f_name
  cols_ : At K "is_columns" s_is_columns f_cols
  whole_ : At K "is_whole" s_is_whole f_whole
  fits_ : At K "fits" s_fits f_fits
  by_ : At K "_by_column" s_by f_by
  project_ : At K "project" s_project f_project
  joined_ : At K "joined" s_joined f_joined
  due_ : At K "_law_is_due" s_is_due f_due
  are_ : At K "_law_are_due" s_are_due f_are
  sign_ : At K "_law_sign" s_sign f_sign
  string_ : At K "_law_string" s_string f_string
  odd_ : At K "_law_odd" s_odd f_odd
  jd_ : At K "_law_joined_due" s_jd f_jd
  tr_ : At K "_law_told_right" s_tr f_tr
  rr_ : At K "_law_rows_right" s_rr f_rr
structure Blt (K : PySem.W.Frag) : Prop where
  z_int : PySem.W.nsIn K mainGlobals "int" = some none
  z_len : PySem.W.nsIn K mainGlobals "len" = some none
  z_abs : PySem.W.nsIn K mainGlobals "abs" = some none
  z_max : PySem.W.nsIn K mainGlobals "max" = some none
  z_min : PySem.W.nsIn K mainGlobals "min" = some none
  z_list : PySem.W.nsIn K mainGlobals "list" = some none
  z_isinstance : PySem.W.nsIn K mainGlobals "isinstance" = some none
  z_str : PySem.W.nsIn K mainGlobals "str" = some none
  z_tuple : PySem.W.nsIn K mainGlobals "tuple" = some none
  z_bool : PySem.W.nsIn K mainGlobals "bool" = some none
  z_all : PySem.W.nsIn K mainGlobals "all" = some none
  z_zip : PySem.W.nsIn K mainGlobals "zip" = some none
  z_range : PySem.W.nsIn K mainGlobals "range" = some none
  z_repr : PySem.W.nsIn K mainGlobals "repr" = some none
  z_sorted : PySem.W.nsIn K mainGlobals "sorted" = some none
  z_dict : PySem.W.nsIn K mainGlobals "dict" = some none
  z_enumerate : PySem.W.nsIn K mainGlobals "enumerate" = some none
  z_set : PySem.W.nsIn K mainGlobals "set" = some none
  z_letters : ∃ t, PySem.W.nsIn K mainGlobals "MOST_LETTERS" = some (some (.int 8 t))
theorem letters_mk {K : PySem.W.Frag} {t : Tok} (a : PySem.W.nsIn K mainGlobals "MOST_LETTERS" = some (some (.int 8 t))) : ∃ t, PySem.W.nsIn K mainGlobals "MOST_LETTERS" = some (some (.int 8 t)) := ⟨t, a⟩
structure ErrIn (K : PySem.W.Frag) (C : Addr) : Prop where
  g : PySem.W.nsIn K mainGlobals "InvalidOperation" = some (some (.ref C))
  x : PySem.W.excIn K C [.type "ValueError", .type "Exception", .type "BaseException", .type "object"] "ValueError.__new__" = true
  k : PySem.W.keepIn K (.ref C) = true
  b : PySem.W.subIn K (.ref C) (.type "BaseException") = some true
  t : PySem.W.typeIn K (.ref C) = some (.type "type")
  e : PySem.W.exmOne K (.ref C) (.ref C) = some true
abbrev lam1 : Str := "_law_errors_right.<locals>." ++ "<lambda>"
theorem all_mk {P : Program} {w : World} {K : PySem.W.Frag} {h : Heap} {mg : Str → Option Value} {fa f1 c PT CE g f_roll f_pick f_mixed f_some f_words f_dice f_name f_cols f_whole f_fits f_by f_project f_joined f_due f_are f_sign f_string f_odd f_jd f_tr f_rr : Addr} (X : K.In h) (G : h.Ns mainGlobals mg) (hfa : mg "law" = some (.ref fa))
    {od an : Option Addr} {sl : Array (Option Value)} {oc kV dc pm ct : Value} (L : At K "law" s_law f1) (U : Tops K f_roll f_pick f_mixed f_some f_words f_dice f_name f_cols f_whole f_fits f_by f_project f_joined f_due f_are f_sign f_string f_odd f_jd f_tr f_rr) (Z : Blt K) (R : ErrIn K CE) (W : At K "_law_refused" s_refused g)
    {fe : Addr} (aE : PySem.W.nsIn K mainGlobals "_law_errors_right" = some (some (.ref fe))) (lE : K.lookup fe = some ⟨oc, od, .func (PySem.W.fnOf "_law_errors_right" "_law_errors_right" (defArgs s_er) (defBody s_er) (defScope s_er) .none kV dc pm an (.ref c) ct), sl⟩)
    (cE : PySem.W.codeIn K (.ref c) "_law_errors_right" = true) (kE : PySem.W.keepIn K (.ref fe) = true) :
    ∃ fd : FuncData, (∀ (s : Shared) (v : Value), BindsTo s fd ⟨[v], []⟩ [("script", v)]) ∧ ∀ base : Heap, K.In base → base.Ns mainGlobals mg → LamX.TabB base mg c PT → FnOkG P w K mg base 8 fa fd ["script"] (spLaw lam1 K PT) := by
  have e := hfa.symm.trans (PySem.W.mg_of X G L.g)
  cases e
  obtain ⟨fdL, FL⟩ := L.fn
  obtain ⟨fdR, FR⟩ := W.fn
  have TE : Err1 K mg "InvalidOperation" CE := ⟨PySem.W.mg_of X G R.g, R.x, R.k, R.b, R.t, R.e⟩
  have T : Names4 mg :=
    { int := PySem.W.mg_none_of X G Z.z_int, len := PySem.W.mg_none_of X G Z.z_len, abs := PySem.W.mg_none_of X G Z.z_abs, max := PySem.W.mg_none_of X G Z.z_max, min := PySem.W.mg_none_of X G Z.z_min, list := PySem.W.mg_none_of X G Z.z_list,
      isinstance := PySem.W.mg_none_of X G Z.z_isinstance, str := PySem.W.mg_none_of X G Z.z_str, tuple := PySem.W.mg_none_of X G Z.z_tuple, bool := PySem.W.mg_none_of X G Z.z_bool, all := PySem.W.mg_none_of X G Z.z_all, zip := PySem.W.mg_none_of X G Z.z_zip,
      letters := (by obtain ⟨t, q⟩ := Z.z_letters; exact ⟨t, PySem.W.mg_of X G q⟩), range := PySem.W.mg_none_of X G Z.z_range, repr := PySem.W.mg_none_of X G Z.z_repr, sorted := PySem.W.mg_none_of X G Z.z_sorted, dict := PySem.W.mg_none_of X G Z.z_dict, enum := PySem.W.mg_none_of X G Z.z_enumerate }
  have Zset : mg "set" = none := PySem.W.mg_none_of X G Z.z_set
  have bindL := FL.binds (ps := ["script"]) fun _ _ _ _ _ _ us hl => match us, hl with | [_], _ => rfl
  refine ⟨fdL, fun s v => ?_, fun base K0 G0 TB => ?_⟩
  · obtain ⟨oc, od, kV, doc, pm, an, cdv, ct, osl, rfl, lk, hcd⟩ := FL.ex
    exact .of_eq rfl
  · have Croll : Callee P w K mg base CX0 1 "_law_roll" ["dice", "upto"] spRoll := callee X G U.roll_ (fun fd F => F.binds (ps := ["dice", "upto"]) fun _ _ _ _ _ _ us hl => match us, hl with | [_, _], _ => rfl) fun fd F => ok_roll F T.toNames3.toNames2.toNames
    have Cpick : Callee P w K mg base CX0 2 "_law_pick" ["dice", "items"] spPick := callee X G U.pick_ (fun fd F => F.binds (ps := ["dice", "items"]) fun _ _ _ _ _ _ us hl => match us, hl with | [_, _], _ => rfl) fun fd F => ok_pick F T.toNames3.toNames2.toNames Croll
    have Cmixed : Callee P w K mg base CX0 2 "_law_mixed" ["dice", "items"] spMixed := callee X G U.mixed_ (fun fd F => F.binds (ps := ["dice", "items"]) fun _ _ _ _ _ _ us hl => match us, hl with | [_, _], _ => rfl) fun fd F => ok_mixed F T.toNames3.toNames2.toNames Croll
    have Csome : Callee P w K mg base CX0 3 "_law_some" ["dice", "items", "least", "most"] spSome := callee X G U.some_ (fun fd F => F.binds (ps := ["dice", "items", "least", "most"]) fun _ _ _ _ _ _ us hl => match us, hl with | [_, _, _, _], _ => rfl) fun fd F => ok_some F T.toNames3.toNames2.toNames Croll Cmixed
    have Cwords : Callee P w K mg base CX0 3 "_law_words" ["dice", "upto"] spWords := callee X G U.words_ (fun fd F => F.binds (ps := ["dice", "upto"]) fun _ _ _ _ _ _ us hl => match us, hl with | [_, _], _ => rfl) fun fd F => ok_words F T.toNames3.toNames2.toNames Cmixed
    have Cdice : Callee P w K mg base CX0 1 "_law_dice" ["script", "spot"] (spDice K) := callee X G U.dice_ (fun fd F => F.binds (ps := ["script", "spot"]) fun _ _ _ _ _ _ us hl => match us, hl with | [_, _], _ => rfl) fun fd F => ok_dice F T.toNames3.toNames2.toNames
    have Cname : Callee P w K mg base CX0 1 "is_name" ["value"] (spName K) := callee X G U.name_ (fun fd F => F.binds (ps := ["value"]) fun _ _ _ _ _ _ us hl => match us, hl with | [_], _ => rfl) fun fd F => ok_name F T.toNames3.toNames2
    have Ccols : Callee P w K mg base CX0 2 "is_columns" ["value"] (spCols K) := callee X G U.cols_ (fun fd F => F.binds (ps := ["value"]) fun _ _ _ _ _ _ us hl => match us, hl with | [_], _ => rfl) fun fd F => ok_cols F T.toNames3.toNames2 Cname
    have Cwhole : Callee P w K mg base CX0 1 "is_whole" ["value"] (spWhole K) := callee X G U.whole_ (fun fd F => F.binds (ps := ["value"]) fun _ _ _ _ _ _ us hl => match us, hl with | [_], _ => rfl) fun fd F => ok_whole F T.toNames3.toNames2
    have Cfits : Callee P w K mg base CX0 2 "fits" ["columns", "value"] (spFits K) := callee X G U.fits_ (fun fd F => F.binds (ps := ["columns", "value"]) fun _ _ _ _ _ _ us hl => match us, hl with | [_, _], _ => rfl) fun fd F => ok_fits F T.toNames3.toNames2 Cwhole
    have Cby : Callee P w K mg base (L2.CX P w) 3 "_by_column" ["columns", "integers"] (spBy K CE) := callee X G U.by_ (fun fd F => F.binds (ps := ["columns", "integers"]) fun _ _ _ _ _ _ us hl => match us, hl with | [_, _], _ => rfl) fun fd F => ok_by F T.toNames3.toNames2 TE T.dict Ccols Cfits
    have Cproject : Callee P w K mg base (L2.CX P w) 4 "project" ["columns", "integers", "some"] (spProject K CE) := callee X G U.project_ (fun fd F => F.binds (ps := ["columns", "integers", "some"]) fun _ _ _ _ _ _ us hl => match us, hl with | [_, _, _], _ => rfl) fun fd F => ok_project F T.toNames3.toNames2 TE Ccols Cby
    have Cjoined : Callee P w K mg base (L2.CX P w) 4 "joined" ["columns", "integers", "others", "more"] (spJoined K CE) := callee X G U.joined_ (fun fd F => F.binds (ps := ["columns", "integers", "others", "more"]) fun _ _ _ _ _ _ us hl => match us, hl with | [_, _, _, _], _ => rfl) fun fd F => ok_joined F T.toNames3.toNames2 T.sorted Cby
    have Cdue : Callee P w K mg base CX0 1 "_law_is_due" ["value"] (spDue K) := callee X G U.due_ (fun fd F => F.binds (ps := ["value"]) fun _ _ _ _ _ _ us hl => match us, hl with | [_], _ => rfl) fun fd F => ok_due F T.toNames3.toNames2
    have Care : Callee P w K mg base CX0 2 "_law_are_due" ["value"] spAre := callee X G U.are_ (fun fd F => F.binds (ps := ["value"]) fun _ _ _ _ _ _ us hl => match us, hl with | [_], _ => rfl) fun fd F => ok_are F T.toNames3.toNames2 Zset T.sorted Cdue
    have Csign : Callee P w K mg base CX0 3 "_law_sign" ["dice"] spSign := callee X G U.sign_ (fun fd F => F.binds (ps := ["dice"]) fun _ _ _ _ _ _ us hl => match us, hl with | [_], _ => rfl) fun fd F => ok_sign F Cpick
    have Cstring : Callee P w K mg base CX0 4 "_law_string" ["dice"] spString := callee X G U.string_ (fun fd F => F.binds (ps := ["dice"]) fun _ _ _ _ _ _ us hl => match us, hl with | [_], _ => rfl) fun fd F => ok_string F T.range Cpick Csign
    have Codd : Callee P w K mg base CX0 3 "_law_odd" ["dice"] (spOdd K) := callee X G U.odd_ (fun fd F => F.binds (ps := ["dice"]) fun _ _ _ _ _ _ us hl => match us, hl with | [_], _ => rfl) fun fd F => ok_odd F Cpick
    have Cjd : Callee P w K mg base CX0 1 "_law_joined_due" ["columns", "integers", "others", "more"] spJD := callee X G U.jd_ (fun fd F => F.binds (ps := ["columns", "integers", "others", "more"]) fun _ _ _ _ _ _ us hl => match us, hl with | [_, _, _, _], _ => rfl) fun fd F => ok_jd F T.toNames3.toNames2 T.dict T.sorted
    have Ctr : CalleeG P w K mg base 5 "_law_told_right" ["dice"] spTr := calleeG X G U.tr_ (fun fd F => F.binds (ps := ["dice"]) fun _ _ _ _ _ _ us hl => match us, hl with | [_], _ => rfl) fun fd F => ok_tr F T.toNames3 Cstring Cname Ccols Cdue Care Croll Codd Cwords
    have Crr : CalleeG P w K mg base 5 "_law_rows_right" ["dice"] spTr := calleeG X G U.rr_ (fun fd F => F.binds (ps := ["dice"]) fun _ _ _ _ _ _ us hl => match us, hl with | [_], _ => rfl) fun fd F => ok_rr F T Cproject Cjoined Cjd Croll Cpick Csome Cwords
    have FE := fun_mk (st := s_er) lE cE kE
    have Cer : Callee P w K mg base CX0 7 "_law_errors_right" ["dice"] (spEr lam1 PT) := ⟨fe, _, PySem.W.mg_of X G aE, kE, ok_er lE cE TE (PySem.W.mg_of X G W.g) FR TB Codd Cpick Cproject Cjoined, FE.binds (ps := ["dice"]) fun _ _ _ _ _ _ us hl => match us, hl with | [_], _ => rfl⟩
    exact ok_law FL T Cname Ccols Cproject Cjoined Cdice Ctr Crr Cer
theorem parts_mk {P : Program} {w : World} {K : PySem.W.Frag} {h : Heap} {mg : Str → Option Value} {fa c PT : Addr} (t : h.get? PT = some { cls := .none, data := .fields #[] }) (own : K.lookup PT = none) (X : K.In h) (code : PySem.W.codeHdIn K c PT = true)
    (r : ∃ fd : FuncData, (∀ (s : Shared) (v : Value), BindsTo s fd ⟨[v], []⟩ [("script", v)]) ∧ ∀ base : Heap, K.In base → base.Ns mainGlobals mg → LamX.TabB base mg c PT → FnOkG P w K mg base 8 fa fd ["script"] (spLaw lam1 K PT)) :
    ∃ (c PT : Addr) (fd : FuncData), h.get? PT = some { cls := .none, data := .fields #[] } ∧ K.lookup PT = none ∧ PySem.W.CodeHd h c PT ∧ (∀ (s : Shared) (v : Value), BindsTo s fd ⟨[v], []⟩ [("script", v)]) ∧
      ∀ base : Heap, K.In base → base.Ns mainGlobals mg → LamX.TabB base mg c PT → FnOkG P w K mg base 8 fa fd ["script"] (spLaw lam1 K PT) := by
  obtain ⟨fd, b, F⟩ := r
  exact ⟨c, PT, fd, t, own, PySem.W.codeHd_of_K X code, b, F⟩
/-- the law's walk: where its parts lie, by the written part -/
theorem walkG {l : PySem.W.OpenLaw} {q : Program} {loose : List Str} {XP : (Str → Option Value) → Heap → Prop} {YP : World → Heap → Prop} {d : DefRec} {K : Params → PySem.W.Frag} (most : l.most = some 63) (plain : d.params.defaults = [])
    (low : ∀ (w : World) (h : Heap), YP w h → (K w.params).In h)
    (parts : ∀ (w : World) (mg : Str → Option Value) (fa : Addr) (h : Heap), YP w h → (K w.params).In h → h.Ns mainGlobals mg → mg d.name = some (.ref fa) →
      ∃ (c PT : Addr) (fd : FuncData), h.get? PT = some { cls := .none, data := .fields #[] } ∧ (K w.params).lookup PT = none ∧ PySem.W.CodeHd h c PT ∧ (∀ (s : Shared) (v : Value), BindsTo s fd ⟨[v], []⟩ [("script", v)]) ∧
        ∀ base : Heap, (K w.params).In base → base.Ns mainGlobals mg → LamX.TabB base mg c PT → FnOkG l.prog w (K w.params) mg base 8 fa fd ["script"] (spLaw lam1 (K w.params) PT)) :
    PySem.W.WalkO q loose XP YP l.row.toRowW d [] (fun f vs => PySem.call f vs) := by
  refine Att.attach_callB most plain fun w s₀ s₁ mg mb fa o pm cd doc a vs ns G Y _ _ _ named obj its short _ idle => ?_
  have X := low w _ Y
  obtain ⟨c, PT, fd, tab, own, code, bind, ok⟩ := parts w mg fa _ Y X G.T.g named
  have S : Start (K w.params) mg s₁ c PT a vs ns := ⟨X, G.T.g, ⟨mb, G.T.b, G.T.builtins⟩, G.T.nolimit, idle, tab, own, code, G.T.bmain, obj, its, Nat.le_trans short (by decide)⟩
  exact callG S ⟨rfl, by decide, by decide⟩ ok bind fun H hT hS => ⟨a, ns, rfl, hS, fun p hp => by
    rw [List.mem_singleton] at hp
    subst hp
    exact LamX.TabS.nil hT, fun _ => rfl⟩
end K1

/-! ## K30 -/
set_option Elab.async false
open PySem PySem.W PyProof.Rows
set_option maxRecDepth 100000 in
set_option maxHeartbeats 0 in
theorem PySem.Challenge.cw_fewtouched_k01_names_and_joined_integers_holds : PySem.Challenge.rw_fewtouched_k01_names_and_joined_integers.Holds := by
  w_on; o_law; k_head; (case hw => w_witness2)
  k_fill
  refine K1.walkG (l := PySem.Challenge.rw_fewtouched_k01_names_and_joined_integers) rfl rfl (fun w h Y => PySem.W.km_in_of Y) ?parts
  case parts =>
    intro w mg fa h Y KX G hmg
    have hT := PySem.W.km_tabs_of Y 173 (by first | decide | simp)
    refine' K1.parts_mk hT ?own KX ?hd (K1.all_mk KX G hmg (K1.at_mk ?a_law ?l_law ?c_law ?k_law) ⟨(K1.at_mk ?a_roll ?l_roll ?c_roll ?k_roll), (K1.at_mk ?a_pick ?l_pick ?c_pick ?k_pick), (K1.at_mk ?a_mixed ?l_mixed ?c_mixed ?k_mixed), (K1.at_mk ?a_some ?l_some ?c_some ?k_some), (K1.at_mk ?a_words ?l_words ?c_words ?k_words), (K1.at_mk ?a_dice ?l_dice ?c_dice ?k_dice), (K1.at_mk ?a_name ?l_name ?c_name ?k_name), (K1.at_mk ?a_cols ?l_cols ?c_cols ?k_cols), (K1.at_mk ?a_whole ?l_whole ?c_whole ?k_whole), (K1.at_mk ?a_fits ?l_fits ?c_fits ?k_fits), (K1.at_mk ?a_by ?l_by ?c_by ?k_by), (K1.at_mk ?a_project ?l_project ?c_project ?k_project), (K1.at_mk ?a_joined ?l_joined ?c_joined ?k_joined), (K1.at_mk ?a_due ?l_due ?c_due ?k_due), (K1.at_mk ?a_are ?l_are ?c_are ?k_are), (K1.at_mk ?a_sign ?l_sign ?c_sign ?k_sign), (K1.at_mk ?a_string ?l_string ?c_string ?k_string), (K1.at_mk ?a_odd ?l_odd ?c_odd ?k_odd), (K1.at_mk ?a_jd ?l_jd ?c_jd ?k_jd), (K1.at_mk ?a_tr ?l_tr ?c_tr ?k_tr), (K1.at_mk ?a_rr ?l_rr ?c_rr ?k_rr)⟩ ⟨?z_int, ?z_len, ?z_abs, ?z_max, ?z_min, ?z_list, ?z_isinstance, ?z_str, ?z_tuple, ?z_bool, ?z_all, ?z_zip, ?z_range, ?z_repr, ?z_sorted, ?z_dict, ?z_enumerate, ?z_set, K1.letters_mk ?z_letters⟩ ⟨?e_g, ?e_x, ?e_k, ?e_b, ?e_t, ?e_e⟩ (K1.at_mk ?a_ref ?l_ref ?c_ref ?k_ref) ?aE ?lE ?cE ?kE)
    (case a_law => k_is)
    (case l_law => k_is)
    (case c_law => k_is)
    (case k_law => k_is)
    (case a_roll => k_is)
    (case l_roll => k_is)
    (case c_roll => k_is)
    (case k_roll => k_is)
    (case a_pick => k_is)
    (case l_pick => k_is)
    (case c_pick => k_is)
    (case k_pick => k_is)
    (case a_mixed => k_is)
    (case l_mixed => k_is)
    (case c_mixed => k_is)
    (case k_mixed => k_is)
    (case a_some => k_is)
    (case l_some => k_is)
    (case c_some => k_is)
    (case k_some => k_is)
    (case a_words => k_is)
    (case l_words => k_is)
    (case c_words => k_is)
    (case k_words => k_is)
    (case a_dice => k_is)
    (case l_dice => k_is)
    (case c_dice => k_is)
    (case k_dice => k_is)
    (case a_name => k_is)
    (case l_name => k_is)
    (case c_name => k_is)
    (case k_name => k_is)
    (case a_cols => k_is)
    (case l_cols => k_is)
    (case c_cols => k_is)
    (case k_cols => k_is)
    (case a_whole => k_is)
    (case l_whole => k_is)
    (case c_whole => k_is)
    (case k_whole => k_is)
    (case a_fits => k_is)
    (case l_fits => k_is)
    (case c_fits => k_is)
    (case k_fits => k_is)
    (case a_by => k_is)
    (case l_by => k_is)
    (case c_by => k_is)
    (case k_by => k_is)
    (case a_project => k_is)
    (case l_project => k_is)
    (case c_project => k_is)
    (case k_project => k_is)
    (case a_joined => k_is)
    (case l_joined => k_is)
    (case c_joined => k_is)
    (case k_joined => k_is)
    (case a_due => k_is)
    (case l_due => k_is)
    (case c_due => k_is)
    (case k_due => k_is)
    (case a_are => k_is)
    (case l_are => k_is)
    (case c_are => k_is)
    (case k_are => k_is)
    (case a_sign => k_is)
    (case l_sign => k_is)
    (case c_sign => k_is)
    (case k_sign => k_is)
    (case a_string => k_is)
    (case l_string => k_is)
    (case c_string => k_is)
    (case k_string => k_is)
    (case a_odd => k_is)
    (case l_odd => k_is)
    (case c_odd => k_is)
    (case k_odd => k_is)
    (case a_jd => k_is)
    (case l_jd => k_is)
    (case c_jd => k_is)
    (case k_jd => k_is)
    (case a_tr => k_is)
    (case l_tr => k_is)
    (case c_tr => k_is)
    (case k_tr => k_is)
    (case a_rr => k_is)
    (case l_rr => k_is)
    (case c_rr => k_is)
    (case k_rr => k_is)
    (case a_ref => k_is)
    (case l_ref => k_is)
    (case c_ref => k_is)
    (case k_ref => k_is)
    (case aE => k_is)
    (case lE => k_is)
    (case cE => k_is)
    (case kE => k_is)
    (case z_int => k_is)
    (case z_len => k_is)
    (case z_abs => k_is)
    (case z_max => k_is)
    (case z_min => k_is)
    (case z_list => k_is)
    (case z_isinstance => k_is)
    (case z_str => k_is)
    (case z_tuple => k_is)
    (case z_bool => k_is)
    (case z_all => k_is)
    (case z_zip => k_is)
    (case z_range => k_is)
    (case z_repr => k_is)
    (case z_sorted => k_is)
    (case z_dict => k_is)
    (case z_enumerate => k_is)
    (case z_set => k_is)
    (case z_letters => first | k_is | rfl | kernel_rfl)
    (case e_g => first | k_is | kernel_rfl | decide +kernel)
    (case e_x => first | k_is | kernel_rfl | decide +kernel)
    (case e_k => first | k_is | kernel_rfl | decide +kernel)
    (case e_b => first | k_is | kernel_rfl | decide +kernel)
    (case e_t => first | k_is | kernel_rfl | decide +kernel)
    (case e_e => first | k_is | kernel_rfl | decide +kernel)
    (case own => first | k_is | kernel_rfl)
    (case hd => first | kernel_rfl | k_is)
#print axioms PySem.Challenge.cw_fewtouched_k01_names_and_joined_integers_holds
