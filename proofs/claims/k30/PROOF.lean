import PyProof.Rows.All
import Wide.All
import OpenK.AllK
import Wide.FinOn
import HandS.ForMost
import HandS.IsInst
import HandS.Lambda
import HandS.Style
import HandS.Zip
import HandS.Conv
import HandS.SetKeys
import HandS.Exc
import HandS.TryOnly
import HandS.ExcOwn
import HandS.WordsExc
import HandS.Wide
import PySem.Challenge.RW_fewtouched_k30_pieces
import HandS.Walk
import HandS.TupAny
import KE.KDictZip
import PyProof.ListNew
import PyProof.DictUpdate
import HandS.SetTxt0
import HandS.SetFor
import HandS.Strs
import PyProof.Rows.SortShellAny
import PyProof.TupleOfSeq
import HandS.ExcValue
import HandS.Comp
import HandS.SetBool
import PyProof.SetRoads
import HandS.DictComp
import HandS.Star
import HandS.MakeKwOnly
import HandS.ClsMeth
import HandS.OwnEq
import OpenK.KMeth
import OpenK.KOps
import KE.KCallOwn
import HandS.More
import HandS.IterNext
import PyProof.TupleIter
import HandS.OwnIter
import HandS.FStr
import HandS.Property
import HandS.Finally
import PyProof.ListStr
import HandS.EndTab
import HandS.HeadWalk
import KE.SortData
import HandS.Defaults
/-! ## B30_0 -/
set_option Elab.async false
set_option linter.all false
set_option maxRecDepth 100000
set_option maxHeartbeats 4000000
namespace B30_
open PySem PySem.Spec PyProof.Rows L2
def topS (i : Nat) : Stmt := PySem.Challenge.pw_fewtouched_k30_pieces.main.body.getD i (.Pass ⟨0, 0, 0, 0⟩)

/-! ### heaps: all is kept but what stands at d -/
def But (d : Addr) (H H' : Hp) : Prop := ∀ b o, b ≠ d → H b = some o → H' b = some o
theorem But.refl (d : Addr) (H : Hp) : But d H H := fun _ _ _ h => h
theorem But.trans {d : Addr} {H H1 H2 : Hp} (a : But d H H1) (b : But d H1 H2) : But d H H2 := fun c o n h => b c o n (a c o n h)
theorem But.same {d : Addr} {H H1 : Hp} (a : Same H H1) : But d H H1 := fun c o _ h => a c o h
theorem But.new {d p : Addr} {H H1 : Hp} {o : HO} (a : But d H H1) (h : H1 p = none) : But d H (upd H1 p o) := fun c u n e => by
  rw [upd_ne (ne_of_none (a c u n e) h)]
  exact a c u n e
theorem But.put {d : Addr} {H H1 : Hp} {o : HO} (a : But d H H1) : But d H (upd H1 d o) := fun c u n e => by
  rw [upd_ne n]
  exact a c u n e
theorem Same.new {p : Addr} {H H1 : Hp} {o : HO} (a : Same H H1) (h : H1 p = none) : Same H (upd H1 p o) := fun c u e => by
  rw [upd_ne (ne_of_none (a c u e) h)]
  exact a c u e
/-- the dice at d: a list of three ints -/
def Dice (H : Hp) (d : Addr) : Prop := ∃ a b c : Int, H d = some (.lst [.int a, .int b, .int c])
theorem Dice.new {d p : Addr} {H : Hp} {o : HO} (a : Dice H d) (h : H p = none) : Dice (upd H p o) d := by
  obtain ⟨x, y, z, e⟩ := a
  exact ⟨x, y, z, by rw [upd_ne (ne_of_none e h)]; exact e⟩
theorem Dice.same {d : Addr} {H H' : Hp} (a : Dice H d) (s : Same H H') : Dice H' d := by
  obtain ⟨x, y, z, e⟩ := a
  exact ⟨x, y, z, s _ _ e⟩

/-! ### the text of the dice -/
abbrev s_roll : Stmt := topS 46
abbrev N_roll : List Str := ["dice", "upto", "found", "one", "two"]
theorem sc_roll : FnScope N_roll ["dice", "upto"] (defScope s_roll) := ⟨rfl, rfl, rfl, by decide +kernel, rfl, by decide +kernel, by decide +kernel⟩
/-- the roll: an int below upto -/
def spRoll : Sp := fun vs H Q _ => ∃ (d : Addr) (n : Int), vs = [.ref d, .int n] ∧ Dice H d ∧ 0 < n ∧ n < 1073741824 ∧ ∀ r H', 0 ≤ r → r < n → But d H H' → Dice H' d → Q (.int r) H'

/-- a def of the text that may be called: where it stands, what it promises -/
structure Callee (P : Program) (w : World) (K : PySem.W.Frag) (mg : Str → Option Value) (base : Heap) (CX : CXT) (k : Nat) (x : Str) (ps : List Str) (sp : Sp) : Prop where
  ex : ∃ f fd, mg x = some (.ref f) ∧ PySem.W.keepIn K (.ref f) = true ∧ FnOk P w K mg base CX k f fd ps sp ∧ Binds K fd ps []
section
variable {X : Cx}
theorem pe_use {CX : CXT} {k : Nat} {x : Str} {ps : List Str} {sp : Sp} {e : Expr} {es : List Expr} {t : TA} {E : XK} {p pos : Pos} (C : Callee X.prog X.w X.K X.mg X.base CX k x ps sp) (hr : Room k X.A) (hg : Gl X x) (hx : Passes CX X E) (ha : PA X (e :: es) t)
    (hd : (x == ("__debug__" : Str)) = false := by decide) (he : starEach (e :: es) X.env = (false, eval e X.env) :: starEach es X.env := by rfl)
    (hpl : (backTo pos (starEach es X.env)).any (·.1) = false := by rfl) :
    PE X (.Call (.Name x p) (e :: es) [] pos) (tCall sp [] E t) := by
  obtain ⟨f, fd, hm, hk, F, hb⟩ := C.ex
  exact pe_call F hr hg hm hk hb .nil hx ha (by assumption) (by assumption) (by assumption)
end
/-- the built-in names that the text calls -/
structure Names (mg : Str → Option Value) : Prop where
  int : mg "int" = none
  len : mg "len" = none
  abs : mg "abs" = none
  max : mg "max" = none
  min : mg "min" = none
  list : mg "list" = none
section
variable {P : Program} {w : World} {K : PySem.W.Frag} {mg : Str → Option Value} {base : Heap}
theorem ok_roll {f : Addr} {fd : FuncData} (F : Fun K "_law_roll" "_law_roll" s_roll f fd) (T : Names mg) : FnOk P w K mg base CX0 1 f fd ["dice", "upto"] spRoll := by
  have nd := sc_roll.nd
  refine F.ok sc_roll (fun vs H Q E h => ?_) (fun cdv A outer s H vs Q E hr h => ?_)
  · obtain ⟨d, n, rfl, _⟩ := h
    rfl
  · obtain ⟨d, n, rfl, ⟨a, b, c, hd⟩, n0, n1, k⟩ := h
    refine ⟨_, (pss_cons
    (ps_if (pt_cmpR op_gt (pe_ix ix_list (pv 0) pe_int (fun _ _ => rfl)) pe_int (nomark _)) (pss_cons
      (ps_set (i := 2) nd rfl (Or.inl rfl) (pe_op op_mod (pe_callTy call_int1 (by rfl) T.int (by decide +kernel) (pa_cons (pe_ix ix_list (pv 0) pe_int (fun _ _ => rfl)) pa_nil)) (pv 1)))
      (pss_cons
      (ps_asg (pe_op op_fdiv (pe_ix ix_list (pv 0) pe_int (fun _ _ => rfl)) (pv 1)) (pg_sub (pv 0) pe_int set_list))
      (pss_one
      (ps_ret (pv 2))))) pss_nil)
    (pss_cons
    (ps_asg (pe_op op_add (pe_ix ix_list (pv 0) pe_int (fun _ _ => rfl)) pe_int) (pg_sub (pv 0) pe_int set_list))
    (pss_cons
    (ps_set (i := 3) nd rfl (Or.inl rfl) (pe_op op_mod (pe_callTy call_int1 (by rfl) T.int (by decide +kernel) (pa_cons (pe_op op_add (pe_ix ix_list (pv 0) pe_int (fun _ _ => rfl)) (pe_op op_mul pe_int (pe_ix ix_list (pv 0) pe_int (fun _ _ => rfl)))) pa_nil)) pe_int))
    (pss_cons
    (ps_set (i := 4) nd rfl (Or.inl rfl) (pe_op op_add (pe_op op_mul (pe_op op_mod (pe_callTy call_int1 (by rfl) T.int (by decide +kernel) (pa_cons (pe_op op_mul (pv 3) (pv 3)) pa_nil)) pe_int) (pv 3)) (pe_op op_mul pe_int (pe_ix ix_list (pv 0) pe_int (fun _ _ => rfl)))))
    (pss_one
    (ps_ret (pe_op op_mod (pe_callTy call_int1 (by rfl) T.int (by decide +kernel) (pa_cons (pe_op op_fdiv (pe_op op_mod (pe_callTy call_int1 (by rfl) T.int (by decide +kernel) (pa_cons (pe_op op_add (pv 4) (pe_ix ix_list (pv 0) pe_int (fun _ _ => rfl))) pa_nil)) pe_int) pe_int) pa_nil)) (pv 1)))))))), ?_⟩
    refine ⟨_, rfl, d, _, _, _, rfl, rfl, SqL.of hd, at_of (j := 0) rfl rfl, _, _, rfl, rfl, _, rfl, ite2 (fun h0 => ?_) (fun h0 => ?_)⟩
    · refine ⟨_, rfl, d, _, _, _, rfl, rfl, SqL.of hd, at_of (j := 0) rfl rfl, .inl ⟨_, rfl, ?_⟩⟩
      refine ⟨_, rfl, _, _, rfl, rfl, n0, ?_⟩
      refine ⟨_, rfl, d, _, _, _, rfl, rfl, SqL.of hd, at_of (j := 0) rfl rfl, _, rfl, _, _, rfl, rfl, ⟨n0, n1⟩, ?_⟩
      refine ⟨_, rfl, d, _, _, 0, rfl, rfl, hd, rfl, ?_⟩
      exact ⟨_, rfl, k _ _ (Int.emod_nonneg _ (by omega)) (Int.emod_lt_of_pos _ n0) (But.refl d H).put ⟨_, _, _, upd_same⟩⟩
    · refine ⟨_, rfl, d, _, _, _, rfl, rfl, SqL.of hd, at_of (j := 2) rfl rfl, _, _, rfl, rfl, ?_⟩
      refine ⟨_, rfl, d, _, _, 2, rfl, rfl, hd, rfl, ?_⟩
      refine ⟨_, rfl, d, _, _, _, rfl, rfl, SqL.of upd_same, at_of (j := 1) rfl rfl, ?_⟩
      refine ⟨_, rfl, d, _, _, _, rfl, rfl, SqL.of upd_same, at_of (j := 2) rfl rfl, _, _, rfl, rfl, .inl (by decide), _, _, rfl, rfl, .inl ⟨_, rfl, ?_⟩⟩
      refine ⟨_, _, rfl, rfl, (by show (0 : Int) < 67280421310679; decide), ?_⟩
      have o0 := Int.emod_nonneg (b + 961748941 * (c + 1)) (b := 67280421310679) (by decide)
      have o1 := Int.emod_lt_of_pos (b + 961748941 * (c + 1)) (b := 67280421310679) (by decide)
      have rng : -(2 ^ 64) < (b + 961748941 * (c + 1)) % 67280421310679 ∧ (b + 961748941 * (c + 1)) % 67280421310679 < 2 ^ 64 := ⟨by omega, by omega⟩
      refine ⟨_, rfl, _, rfl, _, _, rfl, rfl, .inl rng, .inl ⟨_, rfl, ?_⟩⟩
      refine ⟨_, _, rfl, rfl, (by show (0 : Int) < 576460752303423389; decide), ?_⟩
      refine ⟨_, rfl, _, _, rfl, rfl, .inr rng, ?_⟩
      refine ⟨_, rfl, d, _, _, _, rfl, rfl, SqL.of upd_same, at_of (j := 2) rfl rfl, _, _, rfl, rfl, .inl (by decide), _, _, rfl, rfl, ?_⟩
      refine ⟨_, rfl, _, rfl, d, _, _, _, rfl, rfl, SqL.of upd_same, at_of (j := 1) rfl rfl, _, _, rfl, rfl, .inl ⟨_, rfl, ?_⟩⟩
      refine ⟨_, _, rfl, rfl, (by show (0 : Int) < 2199023255579; decide), ?_⟩
      refine ⟨_, _, rfl, rfl, ⟨by decide, by decide⟩, .inl ⟨_, rfl, ?_⟩⟩
      refine ⟨_, rfl, _, _, rfl, rfl, n0, ?_⟩
      exact k _ _ (Int.emod_nonneg _ (by omega)) (Int.emod_lt_of_pos _ n0) (But.refl d H).put ⟨_, _, _, upd_same⟩
end
end B30_

/-! ## B30_1 -/
set_option Elab.async false
set_option linter.all false
set_option maxRecDepth 100000
set_option maxHeartbeats 4000000
namespace B30_
open PySem PySem.Spec PyProof.Rows L2
/-- a list or a tuple that stands in H -/
def Its (H : Hp) (b : Addr) (xs : List V) : Prop := H b = some (.lst xs) ∨ H b = some (.tup xs)
theorem Its.seq {K : PySem.W.Frag} {H : Hp} {b : Addr} {xs : List V} (h : Its H b xs) : SqL K H b xs ∨ SqT K H b xs := h.elim (fun q => .inl (SqL.of q)) (fun q => .inr (SqT.of q))
theorem Its.but {d b : Addr} {H H' : Hp} {xs : List V} (h : Its H b xs) (s : But d H H') (n : b ≠ d) : Its H' b xs := h.elim (fun q => .inl (s _ _ n q)) (fun q => .inr (s _ _ n q))
theorem Its.same {b : Addr} {H H' : Hp} {xs : List V} (h : Its H b xs) (s : Same H H') : Its H' b xs := h.elim (fun q => .inl (s _ _ q)) (fun q => .inr (s _ _ q))
theorem Its.new {b p : Addr} {H : Hp} {o : HO} {xs : List V} (h : Its H b xs) (n : H p = none) : Its (upd H p o) b xs := h.same (Same.new (Same.refl H) n)
theorem Its.ne_none {b p : Addr} {H : Hp} {xs : List V} (h : Its H b xs) (n : H p = none) : b ≠ p := h.elim (fun q => ne_of_none q n) (fun q => ne_of_none q n)
theorem Dice.but {d e : Addr} {H H' : Hp} (a : Dice H d) (s : But e H H') (n : d ≠ e) : Dice H' d := by
  obtain ⟨x, y, z, h⟩ := a
  exact ⟨x, y, z, s _ _ n h⟩
theorem Dice.ne_none {d p : Addr} {H : Hp} (h : Dice H d) (n : H p = none) : d ≠ p := by
  obtain ⟨x, y, z, e⟩ := h
  exact ne_of_none e n
theorem But.free {d p : Addr} {H H' : Hp} (s : But d H H') (n : p ≠ d) (e : H' p = none) : H p = none := by
  cases q : H p with
  | none => rfl
  | some o => rw [s _ _ n q] at e; cases e

/-! ### mixed -/
abbrev s_mixed : Stmt := topS 48
abbrev N_mixed : List Str := ["dice", "items", "left", "found"]
theorem sc_mixed : FnScope N_mixed ["dice", "items"] (defScope s_mixed) := ⟨rfl, rfl, rfl, by decide +kernel, rfl, by decide +kernel, by decide +kernel⟩
def spMixed : Sp := fun vs H Q _ => ∃ (d b : Addr) (xs : List Str), vs = [.ref d, .ref b] ∧ Dice H d ∧ Its H b (xs.map V.str) ∧ b ≠ d ∧ xs.length ≤ 1000 ∧ (∀ x ∈ xs, PyData.strOk x = true) ∧ ∀ (ys : List Str) (p : Addr) (H' : Hp), ys.Perm xs → H p = none → But d H H' → Dice H' d → H' p = some (.lst (ys.map V.str)) → Q (.ref p) H'
theorem dp_strs {K : PySem.W.Frag} {H : Hp} : ∀ xs : List Str, DpAll K H (xs.map V.str) (xs.map PyData.str)
  | [] => .nil
  | x :: r => .cons (.str x) (dp_strs r)
theorem canLay_strs : ∀ xs : List Str, (∀ x ∈ xs, PyData.strOk x = true) → PyData.canLayAll0 (xs.map PyData.str) = true
  | [], _ => rfl
  | x :: r, h => by
    show (PyData.canLay0 (.str x) && PyData.canLayAll0 (r.map PyData.str)) = true
    rw [canLay_strs r fun y hy => h y (List.mem_cons_of_mem _ hy), Bool.and_true]
    exact h x List.mem_cons_self
theorem depth_strs : ∀ xs : List Str, PyData.depthAll (xs.map PyData.str) = 0
  | [] => rfl
  | x :: r => by
    show max (PyData.depth (.str x)) (PyData.depthAll (r.map PyData.str)) = 0
    rw [depth_strs r]; rfl
theorem shaped_strs (xs : List Str) (h : ∀ x ∈ xs, PyData.strOk x = true) : SeqAt.shaped (.list (xs.map PyData.str)) = true := by
  unfold SeqAt.shaped
  have h1 : PyData.canLay0 (.list (xs.map PyData.str)) = true := canLay_strs xs h
  have h2 : PyData.depth (.list (xs.map PyData.str)) = 1 := by
    show PyData.depthAll (xs.map PyData.str) + 1 = 1
    rw [depth_strs]
  rw [h1, h2]
  rfl
theorem eqv_nil : ∀ xs : List Str, PyData.eqv (.list (xs.map PyData.str)) (.list []) = xs.isEmpty
  | [] => rfl
  | _ :: _ => rfl
theorem map_eraseIdx {α β : Type} (f : α → β) : ∀ (l : List α) (i : Nat), (l.map f).eraseIdx i = (l.eraseIdx i).map f
  | [], _ => rfl
  | _ :: _, 0 => rfl
  | a :: r, i + 1 => by
    show f a :: (r.map f).eraseIdx i = f a :: (r.eraseIdx i).map f
    rw [map_eraseIdx f r i]
theorem perm_erase {α : Type} : ∀ (l : List α) (i : Nat) (h : i < l.length), (l[i] :: l.eraseIdx i).Perm l
  | _ :: _, 0, _ => List.Perm.refl _
  | a :: r, i + 1, h => by
    have h' : i < r.length := by simpa using h
    have ih := perm_erase r i h'
    show (r[i] :: a :: r.eraseIdx i).Perm (a :: r)
    exact (List.Perm.swap _ _ _).trans (ih.cons a)
section
variable {P : Program} {w : World} {K : PySem.W.Frag} {mg : Str → Option Value} {base : Heap}
theorem ok_mixed {f : Addr} {fd : FuncData} (F : Fun K "_law_mixed" "_law_mixed" s_mixed f fd) (T : Names mg) (C1 : Callee P w K mg base CX0 1 "_law_roll" ["dice", "upto"] spRoll) : FnOk P w K mg base CX0 2 f fd ["dice", "items"] spMixed := by
  have nd := sc_mixed.nd
  refine F.ok sc_mixed (fun vs H Q E h => ?_) (fun cdv A outer s H vs Q E hr h => ?_)
  · obtain ⟨d, b, xs, rfl, _⟩ := h
    rfl
  · obtain ⟨d, b, xs, rfl, hd, hb, hne, hl, hok, k⟩ := h
    refine ⟨_, (pss_cons
    (ps_par (i := 2) (j := 3) (by rfl) nd rfl rfl (by decide) rfl rfl (pa_cons (pe_callTy call_list_of (by rfl) T.list (by decide +kernel) (pa_cons (pv 1) pa_nil)) (pa_cons (pe_lst pa_nil) pa_nil)) (by rfl))
    (pss_cons
    (ps_while PassesOwn.never (pt_cmpR (op_neD hr.units) (pv 2) (pe_lst pa_nil) (nomark _)) (pss_one
      (ps_expr (pe_bm PySem.F.plainAttrs_list PySem.F.slot_list_append PySem.F.type_list_append mt_append (pv 3) (pa_cons (pe_bm PySem.F.plainAttrs_list PySem.F.slot_list_pop PySem.F.type_list_pop mt_popAt (pv 2) (pa_cons (pe_use C1 hr rfl pass0 (pa_cons (pv 0) (pa_cons (pe_callB call_len_seq (by rfl) T.len (by decide +kernel) (pa_cons (pv 2) pa_nil)) pa_nil))) pa_nil)) pa_nil)))))
    (pss_one
    (ps_ret (pv 3))))), ?_⟩
    refine ⟨_, rfl, b, _, rfl, hb.seq, fun l hl0 => ⟨Nat.zero_le _, fun p hp => ⟨_, _, rfl, ?_⟩⟩⟩
    have npl : p ≠ l := fun e => by subst e; rw [upd_same] at hp; cases hp
    have hp0 : H p = none := by rw [upd_ne npl] at hp; exact hp
    have ndl : l ≠ d := (hd.ne_none hl0).symm
    have ndp : p ≠ d := (hd.ne_none hp0).symm
    refine while_by (fun σ H' => ∃ rest out : List Str, σ = [some (.ref d), some (.ref b), some (.ref l), some (.ref p)] ∧ (∀ c o, c ≠ d → c ≠ l → c ≠ p → H c = some o → H' c = some o) ∧ Dice H' d ∧ H' l = some (.lst (rest.map V.str)) ∧ H' p = some (.lst (out.map V.str)) ∧ (out ++ rest).Perm xs)
      (fun σ H' => match H' l with | some (.lst r) => r.length | _ => 0) ?_ ?_ ?_
    · refine ⟨xs, [], rfl, fun c o h1 h2 h3 e => ?_, (hd.new hl0).new hp, ?_, upd_same, List.Perm.refl _⟩
      · rw [upd_ne h3, upd_ne h2]; exact e
      · rw [upd_ne (Ne.symm npl)]; exact upd_same
    · rintro σ H' ⟨rest, out, rfl, s1, hd1, h1, h2, pm⟩
      have hlr : out.length + rest.length = xs.length := by rw [← pm.length_eq, List.length_append]
      refine ⟨_, rfl, Nat.zero_le _, fun q hq => ?_⟩
      have nql : l ≠ q := ne_of_none h1 hq
      have nqp : p ≠ q := ne_of_none h2 hq
      refine ⟨_, _, .lst (SqL.of (by rw [upd_ne nql]; exact h1)) (dp_strs rest), .lst (SqL.of upd_same) .nil, shaped_strs _ (fun x hx => hok x (pm.mem_iff.mp (List.mem_append_right _ hx))), shaped_strs [] (by simp), ?_⟩
      rw [eqv_nil]
      refine ⟨_, rfl, ?_⟩
      have fin : ∀ c o, c ≠ d → c ≠ l → c ≠ p → H c = some o → upd H' q (.lst []) c = some o := fun c o n1 n2 n3 e => by
        have e1 := s1 c o n1 n2 n3 e
        rw [upd_ne (ne_of_none e1 hq)]
        exact e1
      cases rest with
      | nil =>
        refine iteF ⟨_, rfl, ?_⟩
        refine k out p _ (by simpa using pm) hp0 (fun c o n e => fin c o n ?_ ?_ e) (hd1.new hq) (by rw [upd_ne nqp]; exact h2)
        · exact fun z => by subst z; rw [hl0] at e; cases e
        · exact fun z => by subst z; rw [hp0] at e; cases e
      | cons r0 rest =>
        refine iteT ⟨_, rfl, .inl ⟨rfl, _, SqL.of (by rw [upd_ne nqp]; exact h2)⟩, ?_⟩
        refine ⟨_, rfl, .inl ⟨rfl, _, SqL.of (by rw [upd_ne nql]; exact h1)⟩, ?_⟩
        refine ⟨_, rfl, _, rfl, l, _, rfl, .inl (SqL.of (by rw [upd_ne nql]; exact h1)), ?_⟩
        simp only [List.length_cons] at hlr
        refine ⟨d, _, rfl, hd1.new hq, by simp only [List.length_map, List.length_cons]; omega, by simp only [List.length_map, List.length_cons]; omega, fun z H2 z0 z1 b2 hd2 => ?_⟩
        simp only [List.length_map, List.length_cons] at z1
        have e1 : H2 l = some (.lst ((r0 :: rest).map V.str)) := b2 _ _ ndl (by rw [upd_ne nql]; exact h1)
        have e2 : H2 p = some (.lst (out.map V.str)) := b2 _ _ ndp (by rw [upd_ne nqp]; exact h2)
        have zlt : z.toNat < (r0 :: rest).length := by simp only [List.length_cons]; omega
        have hix : seqIndex? z ((r0 :: rest).map V.str).length = some z.toNat := seqIndex_of z0 (by rw [List.length_map, List.length_cons]; omega)
        refine ⟨l, _, z, z.toNat, V.str (r0 :: rest)[z.toNat], rfl, rfl, e1, by omega, by omega, hix, by rw [List.getElem?_map, List.getElem?_eq_getElem zlt]; rfl, ?_⟩
        refine ⟨p, _, _, rfl, rfl, by rw [upd_ne npl]; exact e2, by rw [List.length_map]; exact small1000 (by omega), ?_⟩
        refine ⟨⟨(r0 :: rest).eraseIdx z.toNat, out ++ [(r0 :: rest)[z.toNat]], rfl, fun c o n1 n2 n3 e => ?_, ?_, ?_, ?_, ?_⟩, ?_⟩
        · rw [upd_ne n3, upd_ne n2]
          exact b2 _ _ n1 (fin c o n1 n2 n3 e)
        · obtain ⟨x, y, t, e⟩ := hd2
          exact ⟨x, y, t, by rw [upd_ne ndp.symm, upd_ne ndl.symm]; exact e⟩
        · rw [upd_ne npl.symm, upd_same, map_eraseIdx]
        · rw [upd_same, List.map_append]
          rfl
        · refine List.Perm.trans ?_ pm
          rw [List.append_assoc]
          exact List.Perm.append_left out (perm_erase _ _ zlt)
        · rw [upd_ne npl.symm, upd_same, h1]
          show (((r0 :: rest).map V.str).eraseIdx z.toNat).length < ((r0 :: rest).map V.str).length
          rw [List.length_eraseIdx, if_pos (by rw [List.length_map]; exact zlt)]
          simp
    · rintro σ H1 Q1 Q2 hQ ⟨v, hv, h2, h3⟩
      refine ⟨v, hv, h2, fun q hq => ?_⟩
      obtain ⟨dd, ee, h4, h5, h6, h7, h8⟩ := h3 q hq
      obtain ⟨kk, h9, h10⟩ := h8
      exact ⟨dd, ee, h4, h5, h6, h7, kk, h9, hQ _ _ h10⟩
end
end B30_

/-! ## B30_2 -/
set_option Elab.async false
set_option linter.all false
set_option maxRecDepth 100000
set_option maxHeartbeats 4000000
namespace B30_
open PySem PySem.Spec PyProof.Rows L2
theorem op_powW {X : Cx} : OpR X (binaryOp .Pow) (rI (fun i j => 0 ≤ j ∧ (Builtin.Int.intBits i : Int) * j ≤ 2 ^ 27) fun i j => .int (i ^ j.toNat)) := opI fun _ _ _ _ _ _ _ hc q => pow_int hc.1 hc.2 q
/-! ### some -/
abbrev s_some : Stmt := topS 49
abbrev N_some : List Str := ["dice", "items", "least", "most", "low", "high"]
theorem sc_some : FnScope N_some ["dice", "items", "least", "most"] (defScope s_some) := ⟨rfl, rfl, rfl, by decide +kernel, rfl, by decide +kernel, by decide +kernel⟩
/-- some of the items, in any order: between least and most of them -/
def spSome : Sp := fun vs H Q _ => ∃ (d b : Addr) (xs : List Str) (lo hi : Nat), vs = [.ref d, .ref b, .int lo, .int hi] ∧ lo ≤ hi ∧ hi ≤ 1000 ∧ Dice H d ∧ Its H b (xs.map V.str) ∧ b ≠ d ∧ xs.length ≤ 1000 ∧ (∀ x ∈ xs, PyData.strOk x = true) ∧
  ∀ (ys : List Str) (n : Nat) (p : Addr) (H' : Hp), ys.Perm xs → min lo xs.length ≤ n → n ≤ min hi xs.length → H p = none → But d H H' → Dice H' d → H' p = some (.lst ((ys.take n).map V.str)) → Q (.ref p) H'
/-! ### words -/
abbrev s_words : Stmt := topS 50
abbrev N_words : List Str := ["dice", "upto", "some"]
theorem sc_words : FnScope N_words ["dice", "upto"] (defScope s_words) := ⟨rfl, rfl, rfl, by decide +kernel, rfl, by decide +kernel, by decide +kernel⟩
def words14 : List Str := ["a", "aa", "ab", "b", "ba", "changing", "door", "key", "r", "s", "self", "who", "x", "zzzzzzzz"]
def spWords : Sp := fun vs H Q _ => ∃ (d : Addr) (n : Nat), vs = [.ref d, .int n] ∧ n ≤ 14 ∧ Dice H d ∧ 
  ∀ (ys : List Str) (p : Addr) (H' : Hp), ys.Perm words14 → H p = none → But d H H' → Dice H' d → H' p = some (.lst ((ys.take n).map V.str)) → Q (.ref p) H'
section
variable {P : Program} {w : World} {K : PySem.W.Frag} {mg : Str → Option Value} {base : Heap}
theorem cutV_upto (xs : List V) (n : Nat) : cutV xs none (some (n : Int)) = xs.take n := by
  unfold cutV
  rw [HT.sIx_none, HT.sIx_nat]
  show xs.take (min n xs.length - 0) = xs.take n
  rw [Nat.sub_zero]
  exact (List.take_eq_take_min).symm
theorem min_cast (a b : Nat) : (if (b : Int) < (a : Int) then (b : Int) else (a : Int)) = ((min a b : Nat) : Int) := by
  split <;> omega
theorem ok_some {f : Addr} {fd : FuncData} (F : Fun K "_law_some" "_law_some" s_some f fd) (T : Names mg) (C1 : Callee P w K mg base CX0 1 "_law_roll" ["dice", "upto"] spRoll) (C2 : Callee P w K mg base CX0 2 "_law_mixed" ["dice", "items"] spMixed) : FnOk P w K mg base CX0 3 f fd ["dice", "items", "least", "most"] spSome := by
  have nd := sc_some.nd
  refine F.ok sc_some (fun vs H Q E h => ?_) (fun cdv A outer s H vs Q E hr h => ?_)
  · obtain ⟨d, b, xs, lo, hi, rfl, _⟩ := h
    rfl
  · obtain ⟨d, b, xs, lo, hi, rfl, hlh, hhi, hd, hb, hne, hl, hok, k⟩ := h
    have hr1 : Room 1 _ := hr.mono (by decide)
    refine ⟨_, (pss_cons
    (ps_par (i := 4) (j := 5) (by rfl) nd rfl rfl (by decide) rfl rfl (pa_cons (pe_callB (call_min2 rfl) (by rfl) T.min (by decide +kernel) (pa_cons (pv 2) (pa_cons (pe_callB call_len_seq (by rfl) T.len (by decide +kernel) (pa_cons (pv 1) pa_nil)) pa_nil))) (pa_cons (pe_callB (call_min2 rfl) (by rfl) T.min (by decide +kernel) (pa_cons (pv 3) (pa_cons (pe_callB call_len_seq (by rfl) T.len (by decide +kernel) (pa_cons (pv 1) pa_nil)) pa_nil))) pa_nil)) (by rfl))
    (pss_one
    (ps_ret (pe_slice sl_list (pe_use C2 hr rfl pass0 (pa_cons (pv 0) (pa_cons (pv 1) pa_nil))) po_none (po_some (pe_op op_add (pv 4) (pe_use C1 hr1 rfl pass0 (pa_cons (pv 0) (pa_cons (pe_op op_add (pe_op op_sub (pv 5) (pv 4)) pe_int) pa_nil))))))))), ?_⟩
    refine ⟨_, rfl, _, rfl, b, _, rfl, hb.seq, _, _, rfl, ?_⟩
    refine ⟨_, rfl, _, rfl, b, _, rfl, hb.seq, _, _, rfl, ?_⟩
    refine ⟨_, _, rfl, ?_⟩
    refine ⟨_, rfl, _, rfl, d, b, xs, rfl, hd, hb, hne, hl, hok, fun ys p H1 pm hp s1 hd1 h1 => ?_⟩
    have ndp : p ≠ d := (hd.ne_none hp).symm
    refine ⟨_, rfl, _, rfl, _, rfl, _, rfl, _, _, rfl, rfl, _, _, rfl, rfl, d, _, rfl, hd1, ?_, ?_, fun r H2 r0 r1 s2 hd2 => ?_⟩
    · rw [List.length_map, min_cast, min_cast]; omega
    · rw [List.length_map, min_cast, min_cast]; omega
    · rw [List.length_map, min_cast, min_cast] at r1
      refine ⟨_, _, rfl, rfl, _, rfl, p, _, rfl, SqL.of (s2 _ _ ndp h1), fun q hq => ?_⟩
      have ndq : q ≠ d := (hd2.ne_none hq).symm
      have hq1 : H1 q = none := s2.free ndq hq
      have e : (if ((xs.map V.str).length : Int) < (lo : Int) then ((xs.map V.str).length : Int) else (lo : Int)) + r = ((min lo xs.length + r.toNat : Nat) : Int) := by
        rw [List.length_map, min_cast]; omega
      show Q (V.ref q) (upd H2 q (HO.lst (cutV (List.map V.str ys) none (some ((if ((xs.map V.str).length : Int) < (lo : Int) then ((xs.map V.str).length : Int) else (lo : Int)) + r)))))
      rw [e, cutV_upto, ← List.map_take]
      exact k ys _ q _ pm (by omega) (by omega) (s1.free ndq hq1) ((s1.trans s2).new hq) (hd2.new hq) upd_same
theorem ok_words {f : Addr} {fd : FuncData} (F : Fun K "_law_words" "_law_words" s_words f fd) (T : Names mg) (C2 : Callee P w K mg base CX0 2 "_law_mixed" ["dice", "items"] spMixed) : FnOk P w K mg base CX0 3 f fd ["dice", "upto"] spWords := by
  have nd := sc_words.nd
  refine F.ok sc_words (fun vs H Q E h => ?_) (fun cdv A outer s H vs Q E hr h => ?_)
  · obtain ⟨d, n, rfl, _⟩ := h
    rfl
  · obtain ⟨d, n, rfl, hn, hd, k⟩ := h
    refine ⟨_, (pss_cons
    (ps_set (i := 2) nd rfl (Or.inl rfl) (pe_lst (pa_cons pe_str (pa_cons pe_str (pa_cons pe_str (pa_cons pe_str (pa_cons pe_str (pa_cons pe_str (pa_cons pe_str (pa_cons pe_str (pa_cons pe_str (pa_cons pe_str (pa_cons pe_str (pa_cons pe_str (pa_cons pe_str (pa_cons pe_str pa_nil))))))))))))))))
    (pss_one
    (ps_ret (pe_slice sl_list (pe_use C2 hr rfl pass0 (pa_cons (pv 0) (pa_cons (pv 2) pa_nil))) po_none (po_some (pv 1)))))), ?_⟩
    refine ⟨(by show 14 ≤ sizeLine; decide), fun l hl => ?_⟩
    refine ⟨_, rfl, _, rfl, d, l, words14, rfl, hd.new hl, .inl upd_same, (hd.ne_none hl).symm, by decide, by decide +kernel, fun ys p H1 pm hp s1 hd1 h1 => ?_⟩
    refine ⟨_, rfl, _, rfl, p, _, rfl, SqL.of h1, fun q hq => ?_⟩
    have hl1 : H1 l ≠ none := by
      rw [s1 l _ (hd.ne_none hl).symm upd_same]; simp
    have nlp : p ≠ l := fun e => by subst e; rw [upd_same] at hp; cases hp
    have hp0 : H p = none := by rw [upd_ne nlp] at hp; exact hp
    have nq : q ≠ d := (hd1.ne_none hq).symm
    have fin : But d H H1 := fun c o n e => s1 c o n (by rw [upd_ne (ne_of_none e hl)]; exact e)
    show Q (V.ref q) (upd H1 q (HO.lst (cutV (List.map V.str ys) none (some ↑n))))
    rw [cutV_upto, ← List.map_take]
    exact k ys q _ pm (fin.free nq hq) (fin.new hq) (hd1.new hq) upd_same
end
end B30_

/-! ## B30_3 -/
set_option Elab.async false
set_option linter.all false
set_option maxRecDepth 100000
set_option maxHeartbeats 4000000
namespace B30_
open PySem PySem.Spec PyProof.Rows L2
/-! ### dice -/
abbrev s_dice : Stmt := topS 45
abbrev N_dice : List Str := ["script", "spot", "cell", "great", "blend"]
theorem sc_dice : FnScope N_dice ["script", "spot"] (defScope s_dice) := ⟨rfl, rfl, rfl, by decide +kernel, rfl, by decide +kernel, by decide +kernel⟩
def spDice (K : PySem.W.Frag) : Sp := fun vs H Q _ => ∃ (a : Addr) (ns : List Int) (i : Nat), vs = [.ref a, .int i] ∧ SqL K H a (ns.map V.int) ∧ ∀ p H', H p = none → Same H H' → Dice H' p → Q (.ref p) H'
section
variable {P : Program} {w : World} {K : PySem.W.Frag} {mg : Str → Option Value} {base : Heap}
theorem ok_dice {f : Addr} {fd : FuncData} (F : Fun K "_law_dice" "_law_dice" s_dice f fd) (T : Names mg) : FnOk P w K mg base CX0 1 f fd ["script", "spot"] (spDice K) := by
  have nd := sc_dice.nd
  refine F.ok sc_dice (fun vs H Q E h => ?_) (fun cdv A outer s H vs Q E hr h => ?_)
  · obtain ⟨a, ns, i, rfl, _⟩ := h
    rfl
  · obtain ⟨a, ns, i, rfl, hs, k⟩ := h
    refine ⟨_, (pss_cons
    (ps_set (i := 2) nd rfl (Or.inl rfl) (pe_ifExp (pt_cmpR op_lt (pv 1) (pe_callB call_len_seq (by rfl) T.len (by decide +kernel) (pa_cons (pv 0) pa_nil)) (nomark _)) (pe_ix ix_list (pv 0) (pv 1) (fun _ _ => rfl)) (pe_op op_add (pe_op op_mul pe_int (pv 1)) pe_int)))
    (pss_cons
    (ps_set (i := 3) nd rfl (Or.inl rfl) (pe_op op_mod (pe_callTy call_int1 (by rfl) T.int (by decide +kernel) (pa_cons (pe_callB call_abs (by rfl) T.abs (by decide +kernel) (pa_cons (pv 2) pa_nil)) pa_nil)) (pe_op op_powW (pe_op op_pow pe_int pe_int) pe_int)))
    (pss_cons
    (ps_set (i := 4) nd rfl (Or.inl rfl) (pe_op op_add (pe_op op_add (pe_op op_add (pe_op op_mul (pv 3) pe_int) (pe_op op_mul pe_int (pv 1))) (pe_op op_mul pe_int (pe_callTy call_int1 (by rfl) T.int (by decide +kernel) (pa_cons (pe_cmpR op_lt (pv 2) pe_int (nomark _)) pa_nil)))) pe_int))
    (pss_one
    (ps_ret (pe_lst (pa_cons (pe_callB (call_max2 rfl) (by rfl) T.max (by decide +kernel) (pa_cons pe_int (pa_cons (pe_op op_sub (pv 3) (pe_op op_pow pe_int pe_int)) pa_nil))) (pa_cons (pe_op op_mod (pe_callTy call_int1 (by rfl) T.int (by decide +kernel) (pa_cons (pv 4) pa_nil)) pe_int) (pa_cons pe_int pa_nil))))))))), ?_⟩
    have big : (0 : Int) < ((10 : Int) ^ (59 : Int).toNat) ^ (11 : Int).toNat := by decide +kernel
    have bits : (0 : Int) ≤ 11 ∧ (Builtin.Int.intBits ((10 : Int) ^ (59 : Int).toNat) : Int) * 11 ≤ 2 ^ 27 := by decide +kernel
    refine ⟨_, rfl, _, rfl, a, _, rfl, .inl hs, _, _, rfl, rfl, _, rfl, ite2 (fun h0 => ?_) (fun h0 => ?_)⟩
    · have hi : i < ns.length := by
        have := of_decide_eq_true h0
        rw [List.length_map] at this
        omega
      refine ⟨_, rfl, _, rfl, a, _, _, _, rfl, rfl, hs, atI_nat (v := V.int ns[i]) (by rw [List.getElem?_map, List.getElem?_eq_getElem hi]; rfl), ?_⟩
      generalize ns[i] = c
      refine ⟨_, rfl, _, rfl, .inl ⟨_, rfl, ?_⟩⟩
      refine ⟨_, _, rfl, rfl, ⟨by decide, by decide, by decide⟩, _, _, rfl, rfl, bits, _, _, rfl, rfl, big, ?_⟩
      refine ⟨_, rfl, _, _, rfl, rfl, .inr (by decide), _, rfl, _, _, rfl, rfl, .inl (by decide), _, _, rfl, rfl, ?_⟩
      refine ⟨_, rfl, _, _, rfl, rfl, .inr ⟨_, rfl, _, _, rfl, rfl, .inl (by decide), _, _, rfl, rfl, _, _, rfl, rfl, ?_⟩⟩
      refine ⟨_, rfl, _, _, rfl, rfl, ⟨by decide, by decide, by decide⟩, _, _, rfl, rfl, _, _, rfl, ?_⟩
      refine ⟨_, rfl, .inl ⟨_, rfl, _, _, rfl, rfl, (by show (0 : Int) < 2305843009213693921; decide), ?_⟩⟩
      exact ⟨(by show 3 ≤ sizeLine; decide), fun p hp => k p _ hp (Same.new (Same.refl H) hp) ⟨_, _, _, upd_same⟩⟩
    · refine ⟨_, rfl, _, _, rfl, rfl, .inl (by decide), _, _, rfl, rfl, ?_⟩
      generalize 31 * (i : Int) + 14 = c
      refine ⟨_, rfl, _, rfl, .inl ⟨_, rfl, ?_⟩⟩
      refine ⟨_, _, rfl, rfl, ⟨by decide, by decide, by decide⟩, _, _, rfl, rfl, bits, _, _, rfl, rfl, big, ?_⟩
      refine ⟨_, rfl, _, _, rfl, rfl, .inr (by decide), _, rfl, _, _, rfl, rfl, .inl (by decide), _, _, rfl, rfl, ?_⟩
      refine ⟨_, rfl, _, _, rfl, rfl, .inr ⟨_, rfl, _, _, rfl, rfl, .inl (by decide), _, _, rfl, rfl, _, _, rfl, rfl, ?_⟩⟩
      refine ⟨_, rfl, _, _, rfl, rfl, ⟨by decide, by decide, by decide⟩, _, _, rfl, rfl, _, _, rfl, ?_⟩
      refine ⟨_, rfl, .inl ⟨_, rfl, _, _, rfl, rfl, (by show (0 : Int) < 2305843009213693921; decide), ?_⟩⟩
      exact ⟨(by show 3 ≤ sizeLine; decide), fun p hp => k p _ hp (Same.new (Same.refl H) hp) ⟨_, _, _, upd_same⟩⟩
end
end B30_

/-! ## B30_4 -/
set_option Elab.async false
set_option linter.all false
set_option maxRecDepth 100000
set_option maxHeartbeats 4000000
namespace B30_
open PySem PySem.Spec PyProof.Rows L2
/-- a comprehension that leaves all that was tracked: acc i is the list behind i turns -/
theorem lc_acc {J : It} {n : Nat} {G : Hp → Prop} {Y : Nat → Hp → V → Hp → Prop} (w : Walk J n G Y) {g : TG} {tt : TT} {te : TE} {vs : List Nat} {σ : L2.St} {H0 : Hp} {D : Addr} {Qd : Hp → Prop} (acc : Nat → List V) (a0 : acc 0 = []) (hD : H0 D = none)
    (hlen : ∀ i, i < n → (acc i).length < sizeLine) (hG : ∀ H, Same H0 H → G H)
    (hs : ∀ i x H H' (N : Hp → Prop), i < n → Same H0 H → Y i H x H' → (∀ H4 y, Same H H4 → acc (i + 1) = acc i ++ [y] → ∃ a, H4 D = some (.lst a) ∧ a.length < sizeLine ∧ N (upd H4 D (.lst (a ++ [y])))) → (∀ H4, Same H H4 → acc (i + 1) = acc i → N H4) →
      g x (wipe σ vs) H' fun σ2 H2 => wipe σ2 vs = wipe σ vs ∧ tt σ2 H2 fun b H3 => if b = true then te σ2 H3 fun y H4 => ∃ a, H4 D = some (.lst a) ∧ a.length < sizeLine ∧ N (upd H4 D (.lst (a ++ [y]))) else N H3)
    (hd : ∀ H, Same H0 H → H D = some (.lst (acc n)) → Qd H) :
    ∃ W : Nat → Nat → Hp → Prop, (∃ m, W 0 m (upd H0 D (.lst []))) ∧ ∀ i m H, W i m H →
      (J.stop i H ∧ Qd H) ∨ (J.go i H ∧ ∃ Nx : Hp → Prop, (∀ H', Nx H' → ∃ m', m' < m ∧ W (i + 1) m' H') ∧ ∀ x H', J.yld i H x H' → g x (wipe σ vs) H' fun σ2 H2 => wipe σ2 vs = wipe σ vs ∧ tt σ2 H2 fun b H3 =>
        if b = true then te σ2 H3 fun y H4 => ∃ a, H4 D = some (.lst a) ∧ a.length < sizeLine ∧ Nx (upd H4 D (.lst (a ++ [y]))) else Nx H3) := by
  refine lc_it w (fun i H => Same H0 H ∧ H D = some (.lst (acc i))) ⟨Same.new (Same.refl H0) hD, by rw [a0]; exact upd_same⟩ (fun i H _ p => hG H p.1) (fun i x H H' hi p y => ?_) (fun H p => hd H p.1 p.2)
  refine hs i x H H' _ hi p.1 y (fun H4 y' s e => ⟨acc i, s _ _ p.2, hlen i hi, fun c o q => ?_, by rw [upd_same, e]⟩) fun H4 s e => ⟨p.1.trans s, by rw [e]; exact s _ _ p.2⟩
  rw [upd_ne (ne_of_none q hD)]
  exact s _ _ (p.1 _ _ q)
theorem walk_zipT {K : PySem.W.Frag} {a b : Addr} {xs ys : List V} {n : Nat} (hn : n = min xs.length ys.length) : Walk (RZ.ItzT K a b) n (fun H => SqT K H a xs ∧ SqT K H b ys) (YPair (fun i => xs[i]?) (fun i => ys[i]?)) := by
  subst hn
  refine ⟨fun i _ hi q => ?_, fun _ q => ⟨xs, ys, q.1, q.2, by omega⟩, fun i H v H' _ q y => ?_⟩
  · have h1 : i < xs.length := by omega
    have h2 : i < ys.length := by omega
    exact ⟨xs, ys, xs[i], ys[i], q.1, q.2, by simp [h1], by simp [h2]⟩
  · obtain ⟨T, x, z, h1, h2, h3, h4, h5⟩ := y
    exact ⟨T, x, z, h1, h2, h3, h4 xs q.1, h5 ys q.2⟩
/-- the built-in names that the text of the names calls -/
structure Names2 (mg : Str → Option Value) : Prop extends Names mg where
  isinstance : mg "isinstance" = none
  str : mg "str" = none
  tuple : mg "tuple" = none
  bool : mg "bool" = none
  all : mg "all" = none
  zip : mg "zip" = none
  letters : ∃ t, mg "MOST_LETTERS" = some (.int 8 t)
/-- the type of a value is the built-in T or not -/
def IsTy (K : PySem.W.Frag) (H : Hp) (x : V) (T : String) (b : Bool) : Prop := ∃ t, TyX K H x t ∧ PySem.W.kitOne K t (.type T) = some b
/-! ### is_name -/
def nameB (z : Str) : Bool := decide (1 ≤ z.length) && decide (z.length ≤ 8) && z.cps.toList.all fun c => decide (97 ≤ c) && decide (c ≤ 122)
abbrev s_is_name : Stmt := topS 9
abbrev N_is_name : List Str := ["value", "letter"]
theorem sc_is_name : FnScope N_is_name ["value"] (defScope s_is_name) := ⟨rfl, rfl, rfl, by decide +kernel, rfl, by decide +kernel, by decide +kernel⟩
def spName (K : PySem.W.Frag) : Sp := fun vs H Q _ => ∃ (x : V) (b : Bool), vs = [x] ∧ ((∃ z, x = .str z ∧ z.length ≤ sizeLine ∧ b = nameB z) ∨ (IsTy K H x "str" false ∧ b = false)) ∧ ∀ H', Same H H' → Q (.bl b) H'
def okC (c : Nat) : Bool := decide (97 ≤ c) && decide (c ≤ 122)
theorem one_lt (a b : Nat) : decide (([a] : List Nat) < [b]) = decide (a < b) := by
  by_cases h : a < b
  · rw [decide_eq_true h, decide_eq_true (List.cons_lt_cons_iff.mpr (.inl h))]
  · rw [decide_eq_false h, decide_eq_false]
    intro q
    rcases List.cons_lt_cons_iff.mp q with z | ⟨_, z⟩
    · exact h z
    · exact absurd z (List.not_lt_nil _)
theorem take_snoc {α : Type} {l : List α} {i : Nat} {x : α} (h : l[i]? = some x) : l.take (i + 1) = l.take i ++ [x] := by
  rw [List.take_add_one, h]; rfl
section
variable {P : Program} {w : World} {K : PySem.W.Frag} {mg : Str → Option Value} {base : Heap}
theorem ok_name {f : Addr} {fd : FuncData} (F : Fun K "is_name" "is_name" s_is_name f fd) (T : Names2 mg) : FnOk P w K mg base CX0 1 f fd ["value"] (spName K) := by
  have nd := sc_is_name.nd
  refine F.ok sc_is_name (fun vs H Q E h => ?_) (fun cdv A outer s H vs Q E hr h => ?_)
  · obtain ⟨x, b, rfl, _⟩ := h
    rfl
  · obtain ⟨x, b, rfl, hx, k⟩ := h
    obtain ⟨tk, hML⟩ := T.letters
    refine ⟨_, (pss_cons
    (ps_if (PW.pt (pw_or (pt_not (pt_val (pe_callB call_isi (by rfl) T.isinstance (by decide +kernel) (pa_cons (pv 0) (pa_cons (pe_bltn (v := .ty "str") (by rfl) T.str (by decide +kernel) rfl) pa_nil))))) (pw_or1 (pt_not (pt_chain op_le op_le pe_int (pe_callB call_len_str (by rfl) T.len (by decide +kernel) (pa_cons (pv 0) pa_nil)) (pe_glob (v := .int 8) rfl hML ⟨_, rfl⟩)))))) (pss_one
      (ps_ret pe_bl)) pss_nil)
    (pss_one
    (ps_ret (pe_callB (cr_all rfl) (by rfl) T.all (by decide +kernel) (pa_cons (pe_lc (own := [("letter", 1)]) (g := (gName 1)) rfl nd (pi_str (pv 0)) (blkOk_by (N := N_is_name) (sc := defScope s_is_name) (by decide +kernel)) (fun _ _ _ _ _ => (pg_name (i := 1) nd rfl (Or.inl rfl))) (fun _ _ _ _ _ => pts_nil) (fun _ _ _ _ _ => (pe_chain op_le_str op_le_str pe_str (pv 1) pe_str))) pa_nil))))), ?_⟩
    rcases hx with ⟨z, rfl, hz, eb⟩ | ⟨⟨t, ty, e⟩, rfl⟩
    · refine ⟨_, rfl, _, _, _, _, true, rfl, .ty _, .base (.str z), kit_ty (by decide +kernel), _, rfl, iteF ?_⟩
      refine ⟨_, rfl, z, rfl, hz, _, _, rfl, rfl, _, rfl, ite2 (fun h1 => ?_) (fun h1 => ?_)⟩
      · refine ⟨_, _, rfl, rfl, _, rfl, ?_⟩
        by_cases h8 : ((z.length : Nat) : Int) ≤ 8
        · rw [decide_eq_true h8]
          refine iteF ⟨_, rfl, z, rfl, fun D hD => ?_⟩
          refine lc_acc walk_str (fun i => ((z.cps.toList.take i).map fun c => V.bl (okC c))) rfl hD (fun i hi => ?_) (fun _ _ => trivial) (fun i x H1 H2 N hi s1 y keep skip => ?_) (fun H1 s1 hL => ?_)
          · have h8' : z.cps.size ≤ 8 := by exact_mod_cast h8
            have : (8 : Nat) < sizeLine := by decide
            rw [List.length_map, List.length_take]; omega
          · obtain ⟨rfl, c, hc, rfl⟩ := y
            have hacc : (z.cps.toList.take (i + 1)).map (fun c => V.bl (okC c)) = (z.cps.toList.take i).map (fun c => V.bl (okC c)) ++ [V.bl (okC c)] := by
              rw [take_snoc (by rw [← hc]; simp), List.map_append]; rfl
            refine ⟨rfl, _, rfl, _, _, rfl, rfl, _, rfl, ite2 (fun g1 => ?_) (fun g1 => ?_)⟩
            · refine ⟨_, _, rfl, rfl, ?_⟩
              refine keep _ _ (Same.refl _) ?_
              rw [hacc]
              have q1 : (!decide (([c] : List Nat) < [97])) = true := g1
              have q2 : (!decide ((Str.ofString "z").cps.toList < (Str.mk #[c]).cps.toList)) = !decide (([122] : List Nat) < [c]) := rfl
              rw [q2, one_lt]
              rw [one_lt] at q1
              unfold okC
              have q3 : ¬ c < 97 := by simpa using q1
              rw [decide_eq_true (by omega : 97 ≤ c), Bool.true_and]
              congr 3
              by_cases q4 : c ≤ 122
              · rw [decide_eq_true q4, decide_eq_false (by omega)]; rfl
              · rw [decide_eq_false q4, decide_eq_true (by omega)]; rfl
            · refine keep _ _ (Same.refl _) ?_
              rw [hacc]
              have q1 : ¬ (!decide (([c] : List Nat) < [97])) = true := g1
              rw [one_lt] at q1
              unfold okC
              have q3 : c < 97 := by simpa using q1
              rw [decide_eq_false (by omega : ¬ 97 ≤ c), Bool.false_and]
          · refine ⟨D, z.cps.toList.map okC, rfl, SqL.of ?_, ?_⟩
            · rw [hL, List.map_map, List.take_of_length_le (by simp)]; rfl
            · have e : (z.cps.toList.map okC).all id = b := by
                rw [eb]
                unfold nameB
                have h1' : 1 ≤ z.length := by have := of_decide_eq_true h1; omega
                rw [decide_eq_true h1', decide_eq_true (by omega : z.length ≤ 8), List.all_map]
                rfl
              rw [e]
              exact k H1 s1
        · rw [decide_eq_false h8]
          have e : b = false := by
            rw [eb]; unfold nameB
            rw [decide_eq_false (by omega : ¬ z.length ≤ 8), Bool.and_false, Bool.false_and]
          subst e
          exact k H (Same.refl H)
      · have e : b = false := by
          rw [eb]; unfold nameB
          have h1' : ¬ 1 ≤ z.length := by intro q; exact h1 (decide_eq_true (by omega))
          rw [decide_eq_false h1', Bool.false_and, Bool.false_and]
        subst e
        exact ⟨_, rfl, k H (Same.refl H)⟩
    · refine ⟨_, rfl, _, _, t, _, false, rfl, .ty _, ty, e, _, rfl, iteT (iteT ?_)⟩
      exact k H (Same.refl H)
end
end B30_

/-! ## B30_5 -/
set_option Elab.async false
set_option linter.all false
set_option maxRecDepth 100000
set_option maxHeartbeats 4000000
namespace B30_
open PySem PySem.Spec PyProof.Rows L2
/-- a part of what may be columns: a text, or no text -/
def PartOk (K : PySem.W.Frag) (H : Hp) (p : V) (o : Option Str) : Prop := (∃ z, p = .str z ∧ z.length ≤ sizeLine ∧ o = some z) ∨ (IsTy K H p "str" false ∧ o = none)
def nameO : Option Str → Bool
  | some z => nameB z
  | none => false
def ltB (a b : Str) : Bool := decide (a.cps.toList < b.cps.toList)
def ascB (zs : List Str) : Bool := (zs.zip (zs.drop 1)).all fun p => ltB p.1 p.2
def colsB (os : List (Option Str)) : Bool := os.all nameO && ascB (os.filterMap id)
abbrev s_is_columns : Stmt := topS 10
abbrev N_is_columns : List Str := ["value", "part", "one", "following"]
theorem sc_is_columns : FnScope N_is_columns ["value"] (defScope s_is_columns) := ⟨rfl, rfl, rfl, by decide +kernel, rfl, by decide +kernel, by decide +kernel⟩
def spCols (K : PySem.W.Frag) : Sp := fun vs H Q _ => ∃ (x : V) (b : Bool), vs = [x] ∧ ((IsTy K H x "tuple" false ∧ b = false) ∨ (∃ a xs os, x = .ref a ∧ H a = some (.tup xs) ∧ xs.length ≤ 1000 ∧ Paired (PartOk K H) xs os ∧ b = colsB os)) ∧ ∀ H', Same H H' → Q (.bl b) H'
theorem IsTy.same {K : PySem.W.Frag} {H H' : Hp} {x : V} {T : String} {b : Bool} (h : IsTy K H x T b) (s : Same H H') : IsTy K H' x T b := by
  obtain ⟨t, ty, e⟩ := h
  refine ⟨t, ?_, e⟩
  cases ty with
  | base c =>
    refine .base ?_
    cases c with
    | non => exact .non
    | bl x => exact .bl x
    | int i => exact .int i
    | str x => exact .str x
    | flt x => exact .flt x
    | lst q => exact .lst (s _ _ q)
    | frz q => exact .frz (s _ _ q)
    | tup q => exact .tup (s _ _ q)
    | dK q => exact .dK (s _ _ q)
    | dT q => exact .dT (s _ _ q)
    | ins q cl ha hn htk hm => exact .ins (s _ _ q) cl ha hn htk hm
  | byt b => exact .byt b
  | set q => exact .set (s _ _ q)
  | kList q c => exact .kList q c
  | kTuple q c => exact .kTuple q c
  | kDict q c => exact .kDict q c
  | fTuple q => exact .fTuple (s _ _ q)
  | fDict q => exact .fDict (s _ _ q)
theorem PartOk.same {K : PySem.W.Frag} {H H' : Hp} {p : V} {o : Option Str} (h : PartOk K H p o) (s : Same H H') : PartOk K H' p o := h.imp id fun q => ⟨q.1.same s, q.2⟩
theorem paired_get {α β : Type} {R : α → β → Prop} : ∀ {xs : List α} {ys : List β}, Paired R xs ys → ∀ {i : Nat} {x : α}, xs[i]? = some x → ∃ y, ys[i]? = some y ∧ R x y
  | _, _, .nil, i, x, h => by simp at h
  | _, _, .cons r t, 0, x, h => by simp at h; subst h; exact ⟨_, rfl, r⟩
  | _, _, .cons r t, i + 1, x, h => by
    obtain ⟨y, e, q⟩ := paired_get t (i := i) (x := x) (by simpa using h)
    exact ⟨y, by simpa using e, q⟩
theorem cutV_from (xs : List V) (n : Nat) : cutV xs (some (n : Int)) none = xs.drop n := by
  unfold cutV
  rw [HT.sIx_none, HT.sIx_nat]
  by_cases h : n ≤ xs.length
  · rw [Nat.min_eq_left h, List.take_of_length_le (by simp)]
  · rw [Nat.min_eq_right (by omega), List.drop_of_length_le (Nat.le_refl _), List.drop_of_length_le (by omega)]; simp
def ascL (zs : List Str) : List Bool := (zs.zip (zs.drop 1)).map fun p => ltB p.1 p.2
theorem ascL_all (zs : List Str) : (ascL zs).all id = ascB zs := by
  unfold ascL ascB
  rw [List.all_map]; rfl
/-- [one < following for one, following in zip(value, value[1:])] -/
theorem asc_lc {K : PySem.W.Frag} {a p D : Addr} {H2 : Hp} {zs : List Str} (ha : H2 a = some (.tup (zs.map V.str))) (hp : H2 p = some (.tup ((zs.drop 1).map V.str))) (hl : zs.length ≤ 1000) {σ : L2.St} {x0 : V} (hσ : σ = [some x0, none, none, none]) (hD : H2 D = none) {Qd : Hp → Prop}
    (hq : ∀ H, Same H2 H → H D = some (.lst ((ascL zs).map V.bl)) → Qd H) :
    ∃ W : Nat → Nat → Hp → Prop, (∃ m, W 0 m (upd H2 D (.lst []))) ∧ ∀ i m H, W i m H →
      ((RZ.ItzT K a p).stop i H ∧ Qd H) ∨ ((RZ.ItzT K a p).go i H ∧ ∃ Nx : Hp → Prop, (∀ H', Nx H' → ∃ m', m' < m ∧ W (i + 1) m' H') ∧ ∀ x H', (RZ.ItzT K a p).yld i H x H' → gTup K 2 (gCons (gName 2) (gCons (gName 3) gNil)) x (wipe σ [2, 3]) H' fun σ2 H2 => wipe σ2 [2, 3] = wipe σ [2, 3] ∧ tYes σ2 H2 fun b H3 =>
        if b = true then tOp (fun x y H Q => ∃ i j, x = .str i ∧ y = .str j ∧ Q (.bl (decide (i.cps.toList < j.cps.toList))) H) (tVar 2) (tVar 3) σ2 H3 fun y H4 => ∃ a, H4 D = some (.lst a) ∧ a.length < sizeLine ∧ Nx (upd H4 D (.lst (a ++ [y]))) else Nx H3) := by
  subst hσ
  have hs : (1000 : Nat) < sizeLine := by decide
  have hzl : (zs.zip (zs.drop 1)).length = min (zs.map V.str).length ((zs.drop 1).map V.str).length := by simp
  refine lc_acc (walk_zipT hzl) (fun i => (((zs.zip (zs.drop 1)).take i).map fun q => V.bl (ltB q.1 q.2))) rfl hD (fun i hi => ?_) (fun H1 s1 => ⟨SqT.of (s1 _ _ ha), SqT.of (s1 _ _ hp)⟩) (fun i x H1 H3 N hi s1 y keep skip => ?_) (fun H1 s1 hL => ?_)
  · rw [List.length_map, List.length_take]
    have : (zs.zip (zs.drop 1)).length ≤ zs.length := by rw [List.length_zip]; omega
    omega
  · obtain ⟨T, u, v, rfl, hT, rfl, hu, hv⟩ := y
    have hu' : (zs.map V.str)[i]? = some u := hu
    have hv' : ((zs.drop 1).map V.str)[i]? = some v := hv
    rw [List.getElem?_map] at hu' hv'
    obtain ⟨zu, e1, rfl⟩ := Option.map_eq_some_iff.mp hu'
    obtain ⟨zv, e2, rfl⟩ := Option.map_eq_some_iff.mp hv'
    refine ⟨T, _, rfl, SqT.of upd_same, rfl, ?_⟩
    refine ⟨_, _, rfl, _, _, rfl, rfl, rfl, ?_⟩
    refine ⟨_, rfl, _, rfl, _, _, rfl, rfl, ?_⟩
    refine keep _ _ (Same.new (Same.refl _) hT) ?_
    have ez : (zs.zip (zs.drop 1))[i]? = some (zu, zv) := by
      rw [List.getElem?_zip_eq_some]; exact ⟨e1, e2⟩
    rw [take_snoc ez, List.map_append]; rfl
  · refine hq H1 s1 ?_
    rw [hL, List.take_of_length_le (Nat.le_refl _)]
    unfold ascL
    rw [List.map_map]; rfl
theorem parts_strs {K : PySem.W.Frag} {H : Hp} : ∀ {xs : List V} {os : List (Option Str)}, Paired (PartOk K H) xs os → os.all nameO = true → ∃ zs : List Str, xs = zs.map V.str ∧ os = zs.map some
  | _, _, .nil, _ => ⟨[], rfl, rfl⟩
  | _, _, .cons r t, h => by
    rw [List.all_cons, Bool.and_eq_true] at h
    obtain ⟨zs, e1, e2⟩ := parts_strs t h.2
    rcases r with ⟨z, rfl, _, rfl⟩ | ⟨_, rfl⟩
    · exact ⟨z :: zs, by rw [e1]; rfl, by rw [e2]; rfl⟩
    · exact absurd h.1 (by simp [nameO])
section
variable {P : Program} {w : World} {K : PySem.W.Frag} {mg : Str → Option Value} {base : Heap}
theorem ok_cols {f : Addr} {fd : FuncData} (F : Fun K "is_columns" "is_columns" s_is_columns f fd) (T : Names2 mg) (C1 : Callee P w K mg base CX0 1 "is_name" ["value"] (spName K)) : FnOk P w K mg base CX0 2 f fd ["value"] (spCols K) := by
  have nd := sc_is_columns.nd
  refine F.ok sc_is_columns (fun vs H Q E h => ?_) (fun cdv A outer s H vs Q E hr h => ?_)
  · obtain ⟨x, b, rfl, _⟩ := h
    rfl
  · obtain ⟨x, b, rfl, hx, k⟩ := h
    refine ⟨_, (pss_cons
    (ps_if (PW.pt (pw_or (pt_not (pt_val (pe_callB call_isi (by rfl) T.isinstance (by decide +kernel) (pa_cons (pv 0) (pa_cons (pe_bltn (v := .ty "tuple") (by rfl) T.tuple (by decide +kernel) rfl) pa_nil))))) (pw_or1 (pt_not (pt_val (pe_callB (cr_all rfl) (by rfl) T.all (by decide +kernel) (pa_cons (pe_lc (own := [("part", 1)]) (g := (gName 1)) rfl nd (pi_tup (pv 0)) (blkOk_by (N := N_is_columns) (sc := defScope s_is_columns) (by decide +kernel)) (fun _ _ _ _ _ => (pg_name (i := 1) nd rfl (Or.inl rfl))) (fun _ _ _ _ _ => pts_nil) (fun _ _ _ _ _ => (pe_use C1 hr rfl pass0 (pa_cons (pv 1) pa_nil)))) pa_nil))))))) (pss_one
      (ps_ret pe_bl)) pss_nil)
    (pss_one
    (ps_ret (pe_callB (cr_all rfl) (by rfl) T.all (by decide +kernel) (pa_cons (pe_lc (own := [("one", 2), ("following", 3)]) (g := gTup K 2 (gCons (gName 2) (gCons (gName 3) gNil))) rfl nd (RZ.pi_zipA (by rfl) T.zip (pa_cons (pv 0) (pa_cons (pe_slice sl_tupA (pv 0) (po_some pe_int) po_none) pa_nil))) (blkOk_by (N := N_is_columns) (sc := defScope s_is_columns) (by decide +kernel)) (fun _ _ _ _ _ => (pg_tup rfl (pgs_cons (pg_name (i := 2) nd rfl (Or.inl rfl)) (pgs_cons (pg_name (i := 3) nd rfl (Or.inl rfl)) pgs_nil)))) (fun _ _ _ _ _ => pts_nil) (fun _ _ _ _ _ => (pe_cmpR op_lt_str (pv 2) (pv 3) (nomark _)))) pa_nil))))), ?_⟩
    rcases hx with ⟨⟨t, ty, e⟩, rfl⟩ | ⟨a, xs, os, rfl, ha, hlen, hp, eb⟩
    · exact ⟨_, rfl, _, _, t, _, false, rfl, .ty _, ty, e, _, rfl, iteT (iteT (k H (Same.refl H)))⟩
    · refine ⟨_, rfl, _, _, _, _, true, rfl, .ty _, .base (.tup ha), kit_ty (by decide +kernel), _, rfl, iteF ?_⟩
      refine ⟨_, rfl, a, rfl, ⟨_, SqT.of ha⟩, fun D hD => ?_⟩
      refine lc_acc walk_tup (fun i => ((os.take i).map fun o => V.bl (nameO o))) rfl hD (fun i hi => ?_) (fun H1 s1 => SqT.of (s1 _ _ ha)) (fun i x H1 H2 N hi s1 y keep skip => ?_) (fun H1 s1 hL => ?_)
      · have : (1000 : Nat) < sizeLine := by decide
        rw [List.length_map, List.length_take]; omega
      · obtain ⟨rfl, hx⟩ := y
        obtain ⟨o, ho, po⟩ := paired_get hp hx
        refine ⟨rfl, _, rfl, x, nameO o, rfl, ?_, fun H3 s3 => keep _ _ s3 ?_⟩
        · rcases po.same s1 with ⟨z, rfl, hz, rfl⟩ | ⟨ht, rfl⟩
          · exact .inl ⟨z, rfl, hz, rfl⟩
          · exact .inr ⟨ht, rfl⟩
        · rw [take_snoc ho, List.map_append]; rfl
      · refine ⟨D, os.map nameO, rfl, SqL.of ?_, _, rfl, ?_⟩
        · rw [hL, List.take_of_length_le (by rw [← hp.length]; exact Nat.le_refl _), List.map_map]; rfl
        · cases ea : (os.map nameO).all id with
          | false =>
            have e : b = false := by
              rw [eb]; unfold colsB
              rw [List.all_map] at ea
              rw [show os.all nameO = false from ea, Bool.false_and]
            subst e
            exact k H1 s1
          | true =>
            have en : os.all nameO = true := by rw [List.all_map] at ea; exact ea
            obtain ⟨zs, rfl, rfl⟩ := parts_strs hp en
            have ez : b = ascB zs := by
              rw [eb]; unfold colsB
              rw [en, Bool.true_and]
              congr 1
              rw [List.filterMap_map]; exact List.filterMap_some
            subst ez
            rw [List.length_map] at hlen
            refine ⟨_, rfl, _, rfl, _, rfl, a, _, rfl, SqT.of (s1 _ _ ha), fun hw => ?_, fun hw p hp0 => ?_⟩
            · have hz : zs = [] := by
                have := hw.1
                rw [show (1 : Int) = ((1 : Nat) : Int) from rfl, HT.sIx_nat] at this
                rw [List.length_map] at this
                have : zs.length = 0 := by omega
                exact List.eq_nil_of_length_eq_zero this
              subst hz
              refine ⟨a, a, _, _, rfl, .inr ⟨SqT.of (s1 _ _ ha), SqT.of (s1 _ _ ha), fun D2 hD2 => ?_⟩⟩
              refine asc_lc (zs := []) (s1 _ _ ha) (s1 _ _ ha) hlen rfl hD2 fun H3 s3 hL3 => ?_
              exact ⟨D2, _, rfl, SqL.of hL3, by rw [ascL_all]; exact k H3 (s1.trans s3)⟩
            · have hc : cutV (zs.map V.str) (some 1) none = (zs.drop 1).map V.str := by
                rw [show (1 : Int) = ((1 : Nat) : Int) from rfl, cutV_from, List.map_drop]
              rw [hc]
              refine ⟨a, p, _, _, rfl, .inr ⟨SqT.of (by rw [upd_ne (ne_of_none (s1 _ _ ha) hp0)]; exact s1 _ _ ha), SqT.of upd_same, fun D2 hD2 => ?_⟩⟩
              refine asc_lc (zs := zs) (by rw [upd_ne (ne_of_none (s1 _ _ ha) hp0)]; exact s1 _ _ ha) upd_same hlen rfl hD2 fun H3 s3 hL3 => ?_
              exact ⟨D2, _, rfl, SqL.of hL3, by rw [ascL_all]; exact k H3 ((Same.new s1 hp0).trans s3)⟩
end
end B30_

/-! ## Z1 -/
set_option Elab.async false
set_option linter.all false
set_option maxRecDepth 100000
set_option maxHeartbeats 4000000
namespace K1
open PySem RZ
open PySem.Sem (wp)
section
variable {prog : Program} {w : World} {A : Around} {E : Value → Shared → Prop} {s : Shared}
/-! ### enumerate of a tuple -/
theorem enumT_step {e it l : Addr} {i : Nat} {xs : Array Value} {x old : Value} {Q : Value → Shared → Prop} (en : IsEnum s.heap e it i old) (at_ : s.heap.IsTupleIter it l i) (tp : s.heap.IsTuple l xs) (get : xs[i]? = some x) (ne : e ≠ it)
    (k : ∀ h', IsEnumOut h' e it ((i : Int) + 1) x s.heap.objs.size → h'.IsTupleIter it l (i + 1) → h'.get? s.heap.objs.size = some { cls := .type "tuple", data := .seq #[.int i s.toks, x] } →
      h'.objs.size = s.heap.objs.size + 1 → (∀ b o, b ≠ e → b ≠ it → s.heap.get? b = some o → h'.get? b = some o) → Q (.ref s.heap.objs.size) { s with heap := h', toks := s.toks + 1 }) :
    wpAny (model prog w) A (Builtin.«enumerate.__next__» ⟨[.ref e], []⟩) (fun fin s' => ∃ v, fin = .done (.ret v) ∧ Q v s') E s := by
  obtain ⟨h0, gens, drawn, tk, os⟩ := s
  have ne' := Ne.symm ne
  show wpAny _ _ (field (.ref e) 2 >>= _) _ _ _; refine wpAny_bind (wpAny_field en rfl (x := .ref it) rfl ?_)
  refine wpAny_bind (nextOf_tuple_item at_ tp get fun h1 at1 same1 => ?_)
  replace same1 : Heap.SameBut it h0 h1 := same1
  have en1 : IsEnum h1 e it i old := (same1.2 e ne).trans en
  show wpAny _ _ (field (.ref e) 3 >>= _) _ _ ⟨h1, gens, drawn, tk, os⟩; refine wpAny_bind (wpAny_field en1 rfl (x := rawInt i) rfl ?_)
  show wpAny _ _ (field (.ref e) 4 >>= _) _ _ ⟨h1, gens, drawn, tk, os⟩; refine wpAny_bind (wpAny_field en1 rfl (x := .none) rfl ?_)
  show wpAny _ _ (mkInt i >>= _) _ _ ⟨h1, gens, drawn, tk, os⟩; refine wpAny_bind (wpAny_mkInt ?_)
  show wpAny _ _ (setField (.ref e) 3 (rawInt ((i : Int) + 1)) >>= _) _ _ ⟨h1, gens, drawn, tk + 1, os⟩
  refine wpAny_bind (wpAny_setField_rec en1 (by simp) fun h2 en2 same2 => ?_)
  replace same2 : Heap.SameBut e h1 h2 := same2
  replace en2 : IsEnum h2 e it ((i : Int) + 1) old := en2
  show wpAny _ _ (setField (.ref e) 4 .none >>= _) _ _ ⟨h2, gens, drawn, tk + 1, os⟩
  refine wpAny_bind (wpAny_setField_rec en2 (by simp) fun h3 en3 same3 => ?_)
  replace same3 : Heap.SameBut e h2 h3 := same3
  replace en3 : IsEnum h3 e it ((i : Int) + 1) old := en3
  show wpAny _ _ (newTuple [.int i tk, x] >>= _) _ _ ⟨h3, gens, drawn, tk + 1, os⟩; refine wpAny_bind (wpAny_newTuple ?_)
  have len3 : h3.objs.size = h0.objs.size := by rw [same3.1, same2.1, same1.1]
  have below : e < h0.objs.size := Heap.lt_size en
  obtain ⟨h4, eq4⟩ : ∃ h4, h4 = h3.push { cls := .type "tuple", data := .seq #[.int i tk, x] } := ⟨_, rfl⟩
  have en4 : IsEnum h4 e it ((i : Int) + 1) old := by rw [eq4]; exact Heap.get?_push_of_some _ en3
  have new4 : h4.get? h0.objs.size = some { cls := .type "tuple", data := .seq #[.int i tk, x] } := by rw [eq4, ← len3]; exact Heap.get?_push_size _ rfl
  have len4 : h4.objs.size = h0.objs.size + 1 := by rw [eq4, Heap.size_push, len3]
  have keep4 : ∀ b o, b ≠ e → b ≠ it → h0.get? b = some o → h4.get? b = some o := fun b o n m q => by
    rw [eq4]
    exact Heap.get?_push_of_some _ (same3.extBut b o n (same2.extBut b o n (same1.extBut b o m q)))
  have at4 : h4.IsTupleIter it l (i + 1) := by
    obtain ⟨o, q, r⟩ := (at1.extBut same2.extBut ne').extBut same3.extBut ne'
    exact ⟨o, by rw [eq4]; exact Heap.get?_push_of_some _ q, r⟩
  rw [← eq4]
  show wpAny _ _ (Builtin.SmallTypes.ownedTupleIsFree (.ref e) >>= _) _ _ ⟨h4, gens, drawn, tk + 1, os⟩
  rw [len3]
  clear eq4 en3 same3 en2 same2 en1 same1 at1 len3
  refine wpAny_bind ?_
  unfold Builtin.SmallTypes.ownedTupleIsFree
  refine wpAny_bind (wpAny_field en4 rfl (x := .none) rfl (wpAny_pure ?_)); simp only [if_true]
  refine wpAny_bind (wpAny_rule ?_); refine wpAny_bind (wpAny_field en4 rfl (x := old) rfl ?_)
  refine wpAny_bind (wpAny_setField_rec en4 (by simp) fun h5 en5 same5 => ?_)
  replace same5 : Heap.SameBut e h4 h5 := same5
  replace en5 : IsEnum h5 e it ((i : Int) + 1) x := en5
  show wpAny _ _ (Builtin.SmallTypes.ownedTupleHandOut (.ref e) (.ref h0.objs.size) >>= _) _ _ ⟨h5, gens, drawn, tk + 1, os⟩
  refine wpAny_bind ?_
  unfold Builtin.SmallTypes.ownedTupleHandOut
  refine wpAny_bind (wpAny_setField_rec en5 (by simp) fun h6 en6 same6 => ?_)
  replace same6 : Heap.SameBut e h5 h6 := same6
  replace en6 : IsEnumOut h6 e it ((i : Int) + 1) x h0.objs.size := en6
  refine wpAny_setField_rec en6 (by simp) fun h7 en7 same7 => ?_
  replace same7 : Heap.SameBut e h6 h7 := same7
  replace en7 : IsEnumOut h7 e it ((i : Int) + 1) x h0.objs.size := en7
  have up : ∀ b o, b ≠ e → h4.get? b = some o → h7.get? b = some o := fun b o n q => same7.extBut b o n (same6.extBut b o n (same5.extBut b o n q))
  refine wpAny_bind (wpAny_letGo (wpAny_pure ⟨_, rfl, k h7 en7 (at4.at fun o q => up _ o ne' q) (up _ _ (Nat.ne_of_gt below) new4) ?_ fun b o n m q => up b o n (keep4 b o n m q)⟩))
  show h7.objs.size = h0.objs.size + 1
  rw [same7.1, same6.1, same5.1, len4]
theorem pyNext_enumT_item {e it l : Addr} {i : Nat} {xs : Array Value} {x old : Value} {Q : Option Value → Shared → Prop} (en : IsEnum s.heap e it i old) (at_ : s.heap.IsTupleIter it l i) (tp : s.heap.IsTuple l xs) (get : xs[i]? = some x) (ne : e ≠ it)
    (k : ∀ h', IsEnumOut h' e it ((i : Int) + 1) x s.heap.objs.size → h'.IsTupleIter it l (i + 1) → h'.get? s.heap.objs.size = some { cls := .type "tuple", data := .seq #[.int i s.toks, x] } →
      h'.objs.size = s.heap.objs.size + 1 → (∀ b o, b ≠ e → b ≠ it → s.heap.get? b = some o → h'.get? b = some o) → Q (some (.ref s.heap.objs.size)) { s with heap := h', toks := s.toks + 1 }) :
    wpAny (model prog w) A (pyNext (.ref e)) Q E s := by
  have ty : s.TypeIs (.ref e) "enumerate" := ⟨_, en, rfl⟩
  unfold pyNext
  refine wpAny_bind (wpAny_attempt (wpAny_callSpecial?_slot (name := Str.ofString "__next__") ty F.slot_enumerate_next (wpAny_call_entry F.slot_enumerate_next ty F.entry_enumerate_next ?_ (F.args_enumerate_next_1 _))))
  exact enumT_step en at_ tp get ne fun h' a b c d q => wpAny_pure (k h' a b c d q)
theorem pyNext_enumT_end {e it l : Addr} {i : Nat} {xs : Array Value} {old : Value} {Q : Option Value → Shared → Prop} (hh : A.handled = none) (en : IsEnum s.heap e it i old) (at_ : s.heap.IsTupleIter it l i) (tp : s.heap.IsTuple l xs) (get : xs[i]? = none)
    (k : ∀ h', Heap.ExtBut it s.heap h' → Q none { s with heap := h' }) : wpAny (model prog w) A (pyNext (.ref e)) Q E s := by
  have ty : s.TypeIs (.ref e) "enumerate" := ⟨_, en, rfl⟩
  unfold pyNext
  refine wpAny_bind (wpAny_attempt (wpAny_callSpecial?_slot (name := Str.ofString "__next__") ty F.slot_enumerate_next (wpAny_call_entry F.slot_enumerate_next ty F.entry_enumerate_next ?_ (F.args_enumerate_next_1 _))))
  show wpAny _ _ (field (.ref e) 2 >>= _) _ _ _; refine wpAny_bind (wpAny_field en rfl (x := .ref it) rfl ?_)
  refine wpAny_bind (nextOf_tuple_end hh at_ tp get fun h' z ext ⟨o, q, c⟩ => ?_)
  exact wpAny_bind (wpAny_isInstance (T := "StopIteration") (b := true) ⟨o, q, c⟩ isSubtype_stop (wpAny_pure (k _ ext)))
end
abbrev itTH (h : Heap) (l : Addr) : Heap := h.push { cls := .type "tuple_iterator", data := .fields #[.ref l, .int 0 0] }
theorem meets_enumT_new (l : Addr) (xs : Array Value) : Meets (Builtin.«enumerate.__new__» ⟨[.type "enumerate", .ref l], []⟩) (fun _ R s => s.heap.IsTuple l xs ∧
    R (.ok (.ret (.ref (itTH s.heap l).objs.size))) { s with heap := (itTH s.heap l).push { cls := .type "enumerate", data := .fields #[.none, .bool false, .ref s.heap.objs.size, rawInt 0, .none, .none] } }) :=
  .of_wp fun prog w A R s h => by
    obtain ⟨hp, gens, drawn, tk, os⟩ := s
    obtain ⟨tp, h⟩ := h
    have hsub := sub_enumerate
    have tL : Heap.IsTuple (Shared.heap ⟨hp, gens, drawn, tk, os⟩) l xs := tp
    obtain ⟨o, ho, _⟩ := id tp
    wp_walk using AutoSeq1.wpAny_loadPart' ho
    refine wpAny_stack_any fun st => wpAny_pure ?_
    split
    · rename_i c _ _ _ _ _
      cases (c == Value.type "enumerate")
      · wp_walk using AutoSeq1.wpAny_loadPart' ho, wpAny_pyIter_tuple tL
        exact ⟨_, rfl, h⟩
      · wp_walk using AutoSeq1.wpAny_loadPart' ho, wpAny_pyIter_tuple tL
        exact ⟨_, rfl, h⟩
    · wp_walk using AutoSeq1.wpAny_loadPart' ho, wpAny_pyIter_tuple tL
      exact ⟨_, rfl, h⟩
section
variable {prog : Program} {w : World} {A : Around} {E : Value → Shared → Prop} {s : Shared}
theorem call_enumT {l : Addr} {xs : Array Value} {Q : Value → Shared → Prop} (tp : s.heap.IsTuple l xs)
    (k : ∀ h', IsEnum h' (s.heap.objs.size + 1) s.heap.objs.size 0 .none → h'.IsTupleIter s.heap.objs.size l 0 → (∀ b o, s.heap.get? b = some o → h'.get? b = some o) → Q (.ref (s.heap.objs.size + 1)) { s with heap := h' }) :
    wpAny (model prog w) A (call (.type "enumerate") [.ref l]) Q E s := by
  refine callType_new F.called_enumerate (by decide) (F.typeCall_enumerate_1 _) (F.newCall_enumerate_1 _) (fun obj => F.args_object_init_2 obj _) F.entry_enumerate_new (meets_enumT_new l xs) ⟨tp, ?_⟩
  have z : (itTH s.heap l).objs.size = s.heap.objs.size + 1 := Heap.size_push ..
  have en : ((itTH s.heap l).push { cls := .type "enumerate", data := .fields #[.none, .bool false, .ref s.heap.objs.size, rawInt 0, .none, .none] }).get? (itTH s.heap l).objs.size = some _ := Heap.get?_push_size _ rfl
  show _ ∧ _
  rw [z] at en ⊢
  exact ⟨⟨_, en, rfl⟩, k _ en ⟨_, Heap.get?_push_of_some _ (Heap.get?_push_size _ rfl), rfl, rfl⟩ fun b o q => Heap.get?_push_of_some _ (Heap.get?_push_of_some _ q)⟩
end
end K1

/-! ## Z2 -/
set_option Elab.async false
set_option linter.all false
set_option maxRecDepth 100000
set_option maxHeartbeats 4000000
namespace K1
open PySem RZ
open PySem.Sem (wp)
section
variable {prog : Program} {w : World} {A : Around} {E : Value → Shared → Prop} {s : Shared}
/-! ### a zip of two tuples whose last pair is still in use -/
theorem zipH_step {z TI TO T i1 i2 l1 l2 : Addr} {f : Bool} {oT : Obj} {m n : Nat} {xs ys : Array Value} {x y : Value} {Q : Value → Shared → Prop} (D : ZipApart z TI TO i1 i2 l1 l2) (held : IsZipHeld s.heap z TI TO T f) (there : s.heap.get? T = some oT)
    (its : IsPair s.heap TI (.ref i1) (.ref i2)) (p1 : s.heap.IsTupleIter i1 l1 m) (p2 : s.heap.IsTupleIter i2 l2 n) (t1 : s.heap.IsTuple l1 xs) (t2 : s.heap.IsTuple l2 ys) (gx : xs[m]? = some x) (gy : ys[n]? = some y)
    (k : ∀ h', IsZipHeld h' z TI TO T true → h'.IsTupleIter i1 l1 (m + 1) → h'.IsTupleIter i2 l2 (n + 1) → IsPair h' s.heap.objs.size x y → h'.objs.size = s.heap.objs.size + 1 →
      (∀ c o, c ≠ z → c ≠ i1 → c ≠ i2 → s.heap.get? c = some o → h'.get? c = some o) → Q (.ref s.heap.objs.size) { s with heap := h' }) :
    wpAny (model prog w) A (Builtin.«zip.__next__» ⟨[.ref z], []⟩) (fun fin s' => ∃ v, fin = .done (.ret v) ∧ Q v s') E s := by
  show wpAny _ _ (field (.ref z) 2 >>= _) _ _ _; refine wpAny_bind (wpAny_field held rfl (x := .bool false) rfl ?_)
  show wpAny _ _ (field (.ref z) 3 >>= _) _ _ _; refine wpAny_bind (wpAny_field held rfl (x := .ref TI) rfl ?_)
  refine wpAny_bind (wpAny_seqItems its rfl ?_); show wpAny _ _ (Builtin.SmallTypes.ownedTupleIsFree (.ref z) >>= _) _ _ _
  refine wpAny_bind (wpAny_tupleHeld_zip held there fun ha za sa => ?_); simp only [Bool.false_eq_true, if_false]
  refine wpAny_bind ?_; rw [← Array.forIn_toList]
  simp only [List.forIn_cons, List.forIn_nil]; refine wpAny_bind (wpAny_bind (wpAny_holding ?_))
  show wpAny _ _ (Builtin.SmallTypes.nextOf (.ref i1) >>= _) _ _ _
  refine wpAny_bind (nextOf_tuple_item (s := { s with heap := ha }) (p1.extBut sa.extBut D.i1z) (t1.extBut sa.extBut D.l1z) gx fun hb pb sb => wpAny_pure ?_)
  refine wpAny_pure ?_; refine wpAny_bind (wpAny_bind (wpAny_holding ?_))
  show wpAny _ _ (Builtin.SmallTypes.nextOf (.ref i2) >>= _) _ _ _
  refine wpAny_bind (nextOf_tuple_item (s := { s with heap := hb }) ((p2.extBut sa.extBut D.i2z).extBut sb.extBut D.i12.symm) ((t2.extBut sa.extBut D.l2z).extBut sb.extBut D.l2i1) gy fun hc pc sc => wpAny_pure ?_)
  refine wpAny_pure (wpAny_pure ?_); show wpAny _ _ (newTuple [x, y] >>= _) _ _ _
  refine wpAny_bind (wpAny_newTuple (wpAny_pure ⟨_, rfl, ?_⟩))
  have len : hc.objs.size = s.heap.objs.size := by rw [sc.1, sb.1, sa.1]
  have keep : ∀ c o, c ≠ z → c ≠ i1 → c ≠ i2 → s.heap.get? c = some o → hc.get? c = some o := fun c o a b d q => sc.extBut _ _ d (sb.extBut _ _ b (sa.extBut _ _ a q))
  have zc : IsZipHeld hc z TI TO T true := sc.extBut _ _ D.i2z.symm (sb.extBut _ _ D.i1z.symm za)
  have pbc : hc.IsTupleIter i1 l1 (m + 1) := pb.extBut sc.extBut D.i12
  have new : IsPair (hc.push { cls := .type "tuple", data := .seq #[x, y] }) hc.objs.size x y := Heap.get?_push_size _ rfl
  show Q (.ref hc.objs.size) _
  rw [len] at new ⊢
  exact k _ (Heap.get?_push_of_some _ zc) (pbc.at fun o q => Heap.get?_push_of_some _ q) (pc.at fun o q => Heap.get?_push_of_some _ q) new (by rw [Heap.size_push, len]) fun c o a b d q => Heap.get?_push_of_some _ (keep c o a b d q)
theorem zipH_stop {z TI TO T i1 i2 l1 l2 : Addr} {f : Bool} {oT : Obj} {m n : Nat} {xs ys : Array Value} {Q : Fin → Shared → Prop} (hh : A.handled = none) (D : ZipApart z TI TO i1 i2 l1 l2) (held : IsZipHeld s.heap z TI TO T f) (there : s.heap.get? T = some oT)
    (its : IsPair s.heap TI (.ref i1) (.ref i2)) (p1 : s.heap.IsTupleIter i1 l1 m) (p2 : s.heap.IsTupleIter i2 l2 n) (t1 : s.heap.IsTuple l1 xs) (t2 : s.heap.IsTuple l2 ys) (none_ : xs[m]? = none ∨ ys[n]? = none)
    (k : ∀ h' e, (∀ c o, c ≠ z → c ≠ i1 → c ≠ i2 → s.heap.get? c = some o → h'.get? c = some o) → (∃ o, h'.get? e = some o ∧ o.cls = .type "StopIteration") → E (.ref e) { s with heap := h' }) :
    wpAny (model prog w) A (Builtin.«zip.__next__» ⟨[.ref z], []⟩) Q E s := by
  show wpAny _ _ (field (.ref z) 2 >>= _) _ _ _; refine wpAny_bind (wpAny_field held rfl (x := .bool false) rfl ?_)
  show wpAny _ _ (field (.ref z) 3 >>= _) _ _ _; refine wpAny_bind (wpAny_field held rfl (x := .ref TI) rfl ?_)
  refine wpAny_bind (wpAny_seqItems its rfl ?_); show wpAny _ _ (Builtin.SmallTypes.ownedTupleIsFree (.ref z) >>= _) _ _ _
  refine wpAny_bind (wpAny_tupleHeld_zip held there fun ha za sa => ?_); simp only [Bool.false_eq_true, if_false]
  refine wpAny_bind ?_; rw [← Array.forIn_toList]
  simp only [List.forIn_cons, List.forIn_nil]; refine wpAny_bind (wpAny_bind (wpAny_holding ?_))
  show wpAny _ _ (Builtin.SmallTypes.nextOf (.ref i1) >>= _) _ _ _
  have q1 := p1.extBut sa.extBut D.i1z
  have u1 := t1.extBut sa.extBut D.l1z
  cases gx : xs[m]? with
  | none => exact wpAny_bind (nextOf_tuple_end (s := { s with heap := ha }) hh q1 u1 gx fun hb e sb st => k hb e (fun c o a b _ q => sb _ _ b (sa.extBut _ _ a q)) st)
  | some x =>
    have gy : ys[n]? = none := none_.resolve_left (by rw [gx]; exact fun q => by cases q)
    refine wpAny_bind (nextOf_tuple_item (s := { s with heap := ha }) q1 u1 gx fun hb pb sb => wpAny_pure ?_)
    refine wpAny_pure ?_; refine wpAny_bind (wpAny_bind (wpAny_holding ?_))
    show wpAny _ _ (Builtin.SmallTypes.nextOf (.ref i2) >>= _) _ _ _
    exact wpAny_bind (nextOf_tuple_end (s := { s with heap := hb }) hh ((p2.extBut sa.extBut D.i2z).extBut sb.extBut D.i12.symm) ((t2.extBut sa.extBut D.l2z).extBut sb.extBut D.l2i1) gy fun hc e sc st =>
      k hc e (fun c o a b d q => sc _ _ d (sb.extBut _ _ b (sa.extBut _ _ a q))) st)
theorem pyNext_zipH_item {z TI TO T i1 i2 l1 l2 : Addr} {f : Bool} {oT : Obj} {m n : Nat} {xs ys : Array Value} {x y : Value} {Q : Option Value → Shared → Prop} (D : ZipApart z TI TO i1 i2 l1 l2) (held : IsZipHeld s.heap z TI TO T f) (there : s.heap.get? T = some oT)
    (its : IsPair s.heap TI (.ref i1) (.ref i2)) (p1 : s.heap.IsTupleIter i1 l1 m) (p2 : s.heap.IsTupleIter i2 l2 n) (t1 : s.heap.IsTuple l1 xs) (t2 : s.heap.IsTuple l2 ys) (gx : xs[m]? = some x) (gy : ys[n]? = some y)
    (k : ∀ h', IsZipHeld h' z TI TO T true → h'.IsTupleIter i1 l1 (m + 1) → h'.IsTupleIter i2 l2 (n + 1) → IsPair h' s.heap.objs.size x y → h'.objs.size = s.heap.objs.size + 1 →
      (∀ c o, c ≠ z → c ≠ i1 → c ≠ i2 → s.heap.get? c = some o → h'.get? c = some o) → Q (some (.ref s.heap.objs.size)) { s with heap := h' }) : wpAny (model prog w) A (pyNext (.ref z)) Q E s := by
  have ty : s.TypeIs (.ref z) "zip" := ⟨_, held, rfl⟩
  unfold pyNext
  refine wpAny_bind (wpAny_attempt (wpAny_callSpecial?_slot (name := Str.ofString "__next__") ty F.slot_zip_next (wpAny_call_entry F.slot_zip_next ty F.entry_zip_next ?_ (F.args_zip_next_1 _))))
  exact zipH_step D held there its p1 p2 t1 t2 gx gy fun h' a b c d e q => wpAny_pure (k h' a b c d e q)
theorem pyNext_zipH_end {z TI TO T i1 i2 l1 l2 : Addr} {f : Bool} {oT : Obj} {m n : Nat} {xs ys : Array Value} {Q : Option Value → Shared → Prop} (hh : A.handled = none) (D : ZipApart z TI TO i1 i2 l1 l2) (held : IsZipHeld s.heap z TI TO T f) (there : s.heap.get? T = some oT)
    (its : IsPair s.heap TI (.ref i1) (.ref i2)) (p1 : s.heap.IsTupleIter i1 l1 m) (p2 : s.heap.IsTupleIter i2 l2 n) (t1 : s.heap.IsTuple l1 xs) (t2 : s.heap.IsTuple l2 ys) (none_ : xs[m]? = none ∨ ys[n]? = none)
    (k : ∀ h', (∀ c o, c ≠ z → c ≠ i1 → c ≠ i2 → s.heap.get? c = some o → h'.get? c = some o) → Q none { s with heap := h' }) : wpAny (model prog w) A (pyNext (.ref z)) Q E s := by
  have ty : s.TypeIs (.ref z) "zip" := ⟨_, held, rfl⟩
  unfold pyNext
  refine wpAny_bind (wpAny_attempt (wpAny_callSpecial?_slot (name := Str.ofString "__next__") ty F.slot_zip_next (wpAny_call_entry F.slot_zip_next ty F.entry_zip_next (zipH_stop hh D held there its p1 p2 t1 t2 none_ fun h' e q st => ?_) (F.args_zip_next_1 _))))
  obtain ⟨o, ho, c⟩ := st
  exact wpAny_bind (wpAny_isInstance (T := "StopIteration") (b := true) ⟨o, ho, c⟩ isSubtype_stop (wpAny_pure (k _ q)))
end
/-! ### where a zip of two tuples stands, its pairs in use or not -/
structure ZipAt (z TI TO i1 i2 l1 l2 d : Addr) (xs ys : Array Value) (i : Nat) (h : Heap) : Prop where
  its : IsPair h TI (.ref i1) (.ref i2)
  p1 : h.IsTupleIter i1 l1 i
  p2 : h.IsTupleIter i2 l2 i
  t1 : h.IsTuple l1 xs
  t2 : h.IsTuple l2 ys
  st : (IsZip h z TI TO .none ∧ ∃ a b, IsPair h TO a b) ∨ ∃ T f oT, IsZipHeld h z TI TO T f ∧ h.get? T = some oT ∧ T ≠ z ∧ T ≠ i1 ∧ T ≠ i2 ∧ T ≠ d
theorem ZipAt.src {prog : Program} {w : World} {A : Around} {z TI TO i1 i2 l1 l2 d : Addr} {xs ys : Array Value} (hh : A.handled = none) (D : ZipApart z TI TO i1 i2 l1 l2) (ap : ∀ c ∈ [z, TI, TO, i1, i2, l1, l2], d ≠ c) :
    PairSrc prog w A z d [z, TO, i1, i2] (min xs.size ys.size) (fun i k v => xs[i]? = some k ∧ ys[i]? = some v) (ZipAt z TI TO i1 i2 l1 l2 d xs ys) where
  off := fun m => by
    simp only [List.mem_cons, List.not_mem_nil, or_false] at m
    rcases m with e | e | e | e <;> exact ap d (by simp [e]) rfl
  frame := fun i h h' Z k => by
    have o : ∀ c ∈ [z, TI, TO, i1, i2, l1, l2], ∀ u, h.get? c = some u → h'.get? c = some u := fun c m u q => k c u (Ne.symm (ap c m)) q
    refine ⟨o _ (by simp) _ Z.its, Z.p1.at fun u q => o i1 (by simp) u q, Z.p2.at fun u q => o i2 (by simp) u q, Z.t1.at fun u q => o l1 (by simp) u q, Z.t2.at fun u q => o l2 (by simp) u q, ?_⟩
    rcases Z.st with ⟨a, x, y, b⟩ | ⟨T, f, oT, a, b, n1, n2, n3, n4⟩
    · exact .inl ⟨o _ (by simp) _ a, x, y, o _ (by simp) _ b⟩
    · exact .inr ⟨T, f, oT, o _ (by simp) _ a, k _ _ n4 b, n1, n2, n3, n4⟩
  item := fun i s Q E hi Z lt k => by
    have e1 := Array.getElem?_eq_getElem (Nat.lt_of_lt_of_le hi (Nat.min_le_left xs.size ys.size))
    have e2 := Array.getElem?_eq_getElem (Nat.lt_of_lt_of_le hi (Nat.min_le_right xs.size ys.size))
    have off : ∀ {c o}, s.heap.get? c = some o → s.heap.objs.size ≠ c := fun e => Nat.ne_of_gt (Heap.lt_size e)
    have n1 : s.heap.objs.size ≠ i1 := by obtain ⟨_, e, _⟩ := Z.p1; exact off e
    have n2 : s.heap.objs.size ≠ i2 := by obtain ⟨_, e, _⟩ := Z.p2; exact off e
    rcases Z.st with ⟨a, x, y, b⟩ | ⟨T, f, oT, a, b, m1, m2, m3, m4⟩
    · refine pyNext_zipT_item D a Z.its b Z.p1 Z.p2 Z.t1 Z.t2 e1 e2 fun h' a1 a2 a3 a4 a5 _ kept => ?_
      refine k s.heap.objs.size _ _ h' s.toks ⟨e1, e2⟩ (.inl ⟨_, a5, rfl, _, rfl⟩) ⟨kept _ _ D.TIz D.TITO D.TIi1 D.TIi2 Z.its, a3, a4, Z.t1.at fun o q => kept _ o D.l1z D.l1TO D.l1i1 D.l1i2 q, Z.t2.at fun o q => kept _ o D.l2z D.l2TO D.l2i1 D.l2i2 q, .inr ⟨_, false, _, a1, a5, off a, n1, n2, Nat.ne_of_gt lt⟩⟩ fun c o m q => ?_
      simp only [List.mem_cons, List.not_mem_nil, or_false, not_or] at m
      exact kept c o m.1 m.2.1 m.2.2.1 m.2.2.2 q
    · refine pyNext_zipH_item D a b Z.its Z.p1 Z.p2 Z.t1 Z.t2 e1 e2 fun h' a1 a3 a4 a5 _ kept => ?_
      refine k s.heap.objs.size _ _ h' s.toks ⟨e1, e2⟩ (.inl ⟨_, a5, rfl, _, rfl⟩) ⟨kept _ _ D.TIz D.TIi1 D.TIi2 Z.its, a3, a4, Z.t1.at fun o q => kept _ o D.l1z D.l1i1 D.l1i2 q, Z.t2.at fun o q => kept _ o D.l2z D.l2i1 D.l2i2 q, .inr ⟨T, true, oT, a1, kept _ _ m1 m2 m3 b, m1, m2, m3, m4⟩⟩ fun c o m q => ?_
      simp only [List.mem_cons, List.not_mem_nil, or_false, not_or] at m
      exact kept c o m.1 m.2.2.1 m.2.2.2 q
  done := fun s Q E Z k => by
    have over : xs[min xs.size ys.size]? = none ∨ ys[min xs.size ys.size]? = none := by
      rcases Nat.le_total xs.size ys.size with h | h
      · rw [Nat.min_eq_left h]; exact .inl (Array.getElem?_eq_none (Nat.le_refl _))
      · rw [Nat.min_eq_right h]; exact .inr (Array.getElem?_eq_none (Nat.le_refl _))
    rcases Z.st with ⟨a, x, y, b⟩ | ⟨T, f, oT, a, b, _⟩
    · refine pyNext_zipT_end hh D a Z.its b Z.p1 Z.p2 Z.t1 Z.t2 over fun h' kept => k h' s.toks fun c o m q => ?_
      simp only [List.mem_cons, List.not_mem_nil, or_false, not_or] at m
      exact kept c o m.1 m.2.1 m.2.2.1 m.2.2.2 q
    · refine pyNext_zipH_end hh D a b Z.its Z.p1 Z.p2 Z.t1 Z.t2 over fun h' kept => k h' s.toks fun c o m q => ?_
      simp only [List.mem_cons, List.not_mem_nil, or_false, not_or] at m
      exact kept c o m.1 m.2.2.1 m.2.2.2 q
/-- a zip of two tuples that nobody has asked yet -/
structure ZipNew (z TI TO i1 i2 l1 l2 : Addr) (xs ys : Array Value) (h : Heap) : Prop where
  zip : IsZip h z TI TO .none
  its : IsPair h TI (.ref i1) (.ref i2)
  out : ∃ a b, IsPair h TO a b
  p1 : h.IsTupleIter i1 l1 0
  p2 : h.IsTupleIter i2 l2 0
  t1 : h.IsTuple l1 xs
  t2 : h.IsTuple l2 ys
theorem zipArg {prog : Program} {w : World} (z TI TO i1 i2 l1 l2 : Addr) (D : ZipApart z TI TO i1 i2 l1 l2) (xs ys : Array Value) :
    PairArg prog w "zip" z [z, TI, TO, i1, i2, l1, l2] [z, TO, i1, i2] (min xs.size ys.size) (fun i k v => xs[i]? = some k ∧ ys[i]? = some v) (ZipNew z TI TO i1 i2 l1 l2 xs ys) where
  type := fun s Z => ⟨_, Z.zip, rfl⟩
  notDict := by decide
  keep := fun h h' Z k => by
    obtain ⟨a, b, q⟩ := Z.out
    exact ⟨k _ _ Z.zip, k _ _ Z.its, ⟨a, b, k _ _ q⟩, Z.p1.at fun o q => k _ o q, Z.p2.at fun o q => k _ o q, Z.t1.at fun o q => k _ o q, Z.t2.at fun o q => k _ o q⟩
  there := fun h Z b m => by
    obtain ⟨_, _, q⟩ := Z.out
    obtain ⟨o1, h1, _⟩ := Z.p1
    obtain ⟨o2, h2, _⟩ := Z.p2
    obtain ⟨o3, h3, _⟩ := Z.t1
    obtain ⟨o4, h4, _⟩ := Z.t2
    simp only [List.mem_cons, List.not_mem_nil, or_false] at m
    rcases m with rfl | rfl | rfl | rfl | rfl | rfl | rfl
    · exact ⟨_, Z.zip⟩
    · exact ⟨_, Z.its⟩
    · exact ⟨_, q⟩
    · exact ⟨_, h1⟩
    · exact ⟨_, h2⟩
    · exact ⟨_, h3⟩
    · exact ⟨_, h4⟩
  sub := fun b m => by
    simp only [List.mem_cons, List.not_mem_nil, or_false] at m ⊢
    rcases m with e | e | e | e <;> simp [e]
  noKeys := fun A s Q E hA Z k => getAttrOr_miss_zip Z.zip rfl rfl rfl zip_no_keys (by decide +kernel) hA k
  iter := fun A s d Q E hA Z lt off k => by
    refine wpAny_pyIter_zip Z.zip (k z _ _ s.heap s.toks (ZipAt.src hA D fun c m e => off (by rw [e]; exact m)) ⟨Z.its, Z.p1, Z.p2, Z.t1, Z.t2, .inl ⟨Z.zip, Z.out⟩⟩ (fun _ _ q => q) fun b m => .inl m)
end K1

/-! ## Z3 -/
set_option Elab.async false
set_option linter.all false
set_option maxRecDepth 100000
set_option maxHeartbeats 4000000
namespace K1
open PySem PySem.Spec PyProof.Rows L2
/-! ### rules of our own: dict(zip(a, b)) of tuples -/
def tDZip (K : PySem.W.Frag) (ta : TA) : TE := fun σ H Q => ta σ H fun vs H1 => ∃ (a b : Addr) (zs : List Str) (ys : List V), vs = [.ref a, .ref b] ∧ SqT K H1 a (zs.map V.str) ∧ SqT K H1 b ys ∧ ∀ p, H1 p = none → Q (.ref p) (upd H1 p (.dK (mergeK [] ((zs.map Sum.inr).zip ys))))
theorem kv_zip {zs : List Str} : ∀ {ys : List V} {us : List Value}, Vals ys us → KV ((zs.map Sum.inr : List Key).zip ys) ((zs.map Sum.inr : List Key).zip us) := by
  induction zs with
  | nil => intro ys us r; exact .nil
  | cons z r ih =>
    intro ys us h
    cases h with
    | nil => exact .nil
    | cons a b => exact .cons ⟨rfl, a⟩ (ih b)
theorem pairs_zip {P : Program} {w : World} {zs : List Str} {its us : List Value} (r : Vals (zs.map V.str) its) :
    PairsHave (mixKind P w) (min its.toArray.size us.toArray.size) (fun i k v => its.toArray[i]? = some k ∧ us.toArray[i]? = some v) ((zs.map Sum.inr).zip us) := by
  have len : zs.length = its.length := by have := r.length; rwa [List.length_map] at this
  refine ⟨by rw [List.length_zip, List.length_map, len, List.size_toArray, List.size_toArray], fun i key v h => ?_⟩
  obtain ⟨h1, h2⟩ := h
  rw [List.getElem?_toArray] at h1 h2
  have hi : i < zs.length := by rw [len]; exact (List.getElem?_eq_some_iff.mp h1).1
  obtain ⟨u, e, ru⟩ := r.get (i := i) (x := V.str zs[i]) (by rw [List.getElem?_map, List.getElem?_eq_getElem hi]; rfl)
  rw [h1] at e
  cases e
  refine ⟨Sum.inr zs[i], ?_, kV_is (k := Sum.inr zs[i]) ru⟩
  rw [List.getElem?_zip_eq_some]
  exact ⟨by rw [List.getElem?_map, List.getElem?_eq_getElem hi]; rfl, h2⟩
section
variable {X : Cx}
theorem pe_dictZip {e1 e2 : Expr} {ta : TA} {p p2 pos pos2 : Pos} (hc : X.calm = true) (hg : Gl X "dict") (hm : X.mg "dict" = none) (hg2 : Gl X "zip") (hm2 : X.mg "zip" = none) (ha : PA X [e1, e2] ta)
    (hst : starEach [e1, e2] X.env = (false, eval e1 X.env) :: starEach [e2] X.env := by rfl) (hpl : (backTo pos2 (starEach [e2] X.env)).any (·.1) = false := by rfl) :
    PE X (.Call (.Name "dict" p) [.Call (.Name "zip" p2) [e1, e2] [] pos2] [] pos) (tDZip X.K ta) := by
  refine ⟨fun pins s σ H Q I h => ?_⟩
  refine Call_ (ld_blt I hg hm boot_dict (PyProof.Rows.callWith_type1 (PyProof.Rows.args_cons ?_ rfl) rfl rfl))
  refine Call_ (ld_blt I hg2 hm2 PyProof.Rows.boot_zip (PyProof.Rows.callWith_type1 (thn (ha.run pos2 pins s σ H _ I h) fun us s1 ⟨vs, H1, J, r, q⟩ => ?_) hst hpl))
  obtain ⟨a, b, zs, ys, rfl, t1, t2, q⟩ := q
  obtain ⟨u1, u2, rfl, r1, r2⟩ := vals2 r
  cases r1
  cases r2
  obtain ⟨its, rv, q1, _⟩ := J.tuple t1
  obtain ⟨jts, rw_, q2, small⟩ := J.tuple t2
  have w1 : s1.heap.IsTuple a its.toArray := q1
  have w2 : s1.heap.IsTuple b jts.toArray := q2
  obtain ⟨o1, g1, _⟩ := id w1
  obtain ⟨o2, g2, _⟩ := id w2
  refine RZ.call_zipT w1 w2 fun h' hz hTI hTO h1 h2 len kept => PyProof.Rows.args_nil ?_
  have ap := PySem.W.ktu_apart s1.heap.objs.size a b (Heap.lt_size g1) (Heap.lt_size g2)
  refine PySem.call_dict_pairs (s := { s1 with heap := h' }) (knd := mixKind X.prog X.w) (kvs := (zs.map Sum.inr).zip jts) (zipArg _ _ _ _ _ a b ap its.toArray jts.toArray) (J.ok.hd hc) ⟨hz, hTI, ⟨_, _, hTO⟩, h1, h2, w1.at fun o e => kept _ o e, w2.at fun o e => kept _ o e⟩ (pairs_zip rv) ?_ fun h'' tk dd kept2 => ?_
  · rw [List.size_toArray, List.size_toArray]
    exact Nat.le_trans (Nat.min_le_right _ _) (by rw [← rw_.length]; exact small)
  have le : s1.heap.objs.size ≤ h'.objs.size := by rw [len]; omega
  have all : ∀ c o, s1.heap.get? c = some o → h''.get? c = some o := fun c o e => by
    refine kept2 c o (fun m => ?_) (kept c o e)
    have lt := Heap.lt_size e
    simp only [List.mem_cons, List.not_mem_nil, or_false] at m
    have no : ∀ n : Nat, ¬ (s1.heap.objs.size + n < s1.heap.objs.size) := fun n z => Nat.lt_irrefl _ (Nat.lt_of_le_of_lt (Nat.le_add_right _ n) z)
    rcases m with z | z | z | z <;> rw [z] at lt
    · exact no 4 lt
    · exact no 3 lt
    · exact no 0 lt
    · exact no 1 lt
  have big := J.big
  have nsys : (h'.objs.size == sysModules) = false := beq_eq_false_iff_ne.mpr (Nat.ne_of_gt (Nat.lt_of_lt_of_le big le))
  have few : (mergeK [] ((zs.map Sum.inr).zip ys)).length ≤ sizeLine := by
    refine Nat.le_trans (length_mergeK _ _) ?_
    rw [List.length_nil, Nat.zero_add, List.length_zip]
    exact Nat.le_trans (Nat.min_le_right _ _) small
  exact ⟨.ref h'.objs.size, upd H1 h'.objs.size (.dK (mergeK [] ((zs.map Sum.inr).zip ys))), J.laid (t' := tk) all le (show ObjOk X.prog X.w _ _ _ (.dK (mergeK [] ((zs.map Sum.inr).zip ys))) from ⟨few, nsys, _, KV.merge (kv_zip rw_) .nil, dd⟩), rfl, q _ (J.hok.fresh le)⟩
end
end K1

/-! ## Z4 -/
set_option Elab.async false
set_option linter.all false
set_option maxRecDepth 100000
set_option maxHeartbeats 4000000
namespace K1
open PySem RZ
open PySem.Sem (wp)
/-! ### list(zip(a, b)) of tuples: pair j is the object b0 + j -/
structure Zl (b0 S z TI TO i1 i2 l1 l2 : Addr) (xs ys : Array Value) (i : Nat) (h : Heap) : Prop where
  pos : ZipAt z TI TO i1 i2 l1 l2 S xs ys i h
  size : h.objs.size = b0 + i
  made : ∀ (j : Nat) (x y : Value), j < i → xs[j]? = some x → ys[j]? = some y → IsPair h (b0 + j) x y
def Refs (b0 : Addr) (i : Nat) (acc : Array Value) : Prop := acc.size = i ∧ ∀ j : Nat, j < i → acc[j]? = some (.ref (b0 + j))
theorem Refs.push {b0 : Addr} {i : Nat} {acc : Array Value} (h : Refs b0 i acc) : Refs b0 (i + 1) (acc.push (.ref (b0 + i))) := by
  refine ⟨by rw [Array.size_push, h.1], fun j hj => ?_⟩
  rw [Array.getElem?_push, h.1]
  by_cases e : j = i
  · rw [if_pos e, e]
  · rw [if_neg e]; exact h.2 j (by omega)
abbrev lobj (acc : Array Value) (c : Nat) : Obj := { cls := .type "list", dict := none, data := .seq acc c, slots := #[] }
section
variable {prog : Program} {w : World} {A : Around} {R : Result → Shared → Prop} {b0 S z TI TO i1 i2 l1 l2 : Addr} {xs ys : Array Value}
theorem Zl.other {i : Nat} {h h' : Heap} (Z : Zl b0 S z TI TO i1 i2 l1 l2 xs ys i h) (ap : ∀ c ∈ [z, TI, TO, i1, i2, l1, l2], S ≠ c) (lowS : S < b0) (len : h'.objs.size = h.objs.size) (k : ∀ b o, b ≠ S → h.get? b = some o → h'.get? b = some o) : Zl b0 S z TI TO i1 i2 l1 l2 xs ys i h' := by
  have D : ∀ c ∈ [z, TI, TO, i1, i2, l1, l2], ∀ u, h.get? c = some u → h'.get? c = some u := fun c m u q => k c u (Ne.symm (ap c m)) q
  refine ⟨⟨D _ (by simp) _ Z.pos.its, Z.pos.p1.at fun u q => D i1 (by simp) u q, Z.pos.p2.at fun u q => D i2 (by simp) u q, Z.pos.t1.at fun u q => D l1 (by simp) u q, Z.pos.t2.at fun u q => D l2 (by simp) u q, ?_⟩, len.trans Z.size, fun j x y hj hx hy => ?_⟩
  · rcases Z.pos.st with ⟨a, x, y, b⟩ | ⟨T, f, oT, a, b, n1, n2, n3, n4⟩
    · exact .inl ⟨D _ (by simp) _ a, x, y, D _ (by simp) _ b⟩
    · exact .inr ⟨T, f, oT, D _ (by simp) _ a, k _ _ n4 b, n1, n2, n3, n4⟩
  · exact k _ _ (Nat.ne_of_gt (Nat.lt_of_lt_of_le lowS (Nat.le_add_right _ _))) (Z.made j x y hj hx hy)
/-- one more pair -/
theorem zl_next {A : Around} {E : Value → Shared → Prop} {s : Shared} {i : Nat} {x y : Value} {Q : Option Value → Shared → Prop} (D : ZipApart z TI TO i1 i2 l1 l2) (low : ∀ c ∈ [S, z, TO, i1, i2], c < b0) (Z : Zl b0 S z TI TO i1 i2 l1 l2 xs ys i s.heap) (gx : xs[i]? = some x) (gy : ys[i]? = some y)
    (k : ∀ h', Zl b0 S z TI TO i1 i2 l1 l2 xs ys (i + 1) h' → (∀ c o, c ∉ [z, TO, i1, i2] → s.heap.get? c = some o → h'.get? c = some o) → Q (some (.ref (b0 + i))) { s with heap := h' }) : wpAny (model prog w) A (pyNext (.ref z)) Q E s := by
  have off : ∀ c ∈ [S, z, TO, i1, i2], s.heap.objs.size ≠ c := fun c m => by
    rw [Z.size]
    exact Nat.ne_of_gt (Nat.lt_of_lt_of_le (low c m) (Nat.le_add_right _ _))
  have fin : ∀ h', IsPair h' TI (.ref i1) (.ref i2) → h'.IsTupleIter i1 l1 (i + 1) → h'.IsTupleIter i2 l2 (i + 1) → h'.IsTuple l1 xs → h'.IsTuple l2 ys →
      ((IsZip h' z TI TO .none ∧ ∃ a b, IsPair h' TO a b) ∨ ∃ T f oT, IsZipHeld h' z TI TO T f ∧ h'.get? T = some oT ∧ T ≠ z ∧ T ≠ i1 ∧ T ≠ i2 ∧ T ≠ S) → IsPair h' s.heap.objs.size x y → h'.objs.size = s.heap.objs.size + 1 →
      (∀ c o, c ∉ [z, TO, i1, i2] → s.heap.get? c = some o → h'.get? c = some o) → Q (some (.ref s.heap.objs.size)) { s with heap := h' } := fun h' c1 c2 c3 c4 c5 c6 new len kept => by
    rw [Z.size]
    refine k h' ⟨⟨c1, c2, c3, c4, c5, c6⟩, by rw [len, Z.size]; rfl, fun j u v hj hu hv => ?_⟩ kept
    by_cases e : j = i
    · subst e
      rw [gx] at hu
      rw [gy] at hv
      cases hu
      cases hv
      rw [← Z.size]
      exact new
    · refine kept _ _ (fun m => ?_) (Z.made j u v (by omega) hu hv)
      exact Nat.lt_irrefl _ (Nat.lt_of_le_of_lt (Nat.le_add_right b0 j) (low _ (List.mem_cons_of_mem _ m)))
  have mem : ∀ {c : Addr}, c ∉ [z, TO, i1, i2] → c ≠ z ∧ c ≠ TO ∧ c ≠ i1 ∧ c ≠ i2 := fun m => by
    simpa only [List.mem_cons, List.not_mem_nil, or_false, not_or] using m
  rcases Z.pos.st with ⟨a, p, q, b⟩ | ⟨T, f, oT, a, b, m1, m2, m3, m4⟩
  · refine pyNext_zipT_item D a Z.pos.its b Z.pos.p1 Z.pos.p2 Z.pos.t1 Z.pos.t2 gx gy fun h' a1 a2 a3 a4 a5 a6 kept => fin h' (kept _ _ D.TIz D.TITO D.TIi1 D.TIi2 Z.pos.its) a3 a4 (Z.pos.t1.at fun o q => kept _ o D.l1z D.l1TO D.l1i1 D.l1i2 q) (Z.pos.t2.at fun o q => kept _ o D.l2z D.l2TO D.l2i1 D.l2i2 q) (.inr ⟨_, false, _, a1, a5, off z (by simp), off i1 (by simp), off i2 (by simp), off S (by simp)⟩) a5 a6 fun c o m e => ?_
    obtain ⟨n1, n2, n3, n4⟩ := mem m
    exact kept c o n1 n2 n3 n4 e
  · refine pyNext_zipH_item D a b Z.pos.its Z.pos.p1 Z.pos.p2 Z.pos.t1 Z.pos.t2 gx gy fun h' a1 a3 a4 a5 a6 kept => fin h' (kept _ _ D.TIz D.TIi1 D.TIi2 Z.pos.its) a3 a4 (Z.pos.t1.at fun o q => kept _ o D.l1z D.l1i1 D.l1i2 q) (Z.pos.t2.at fun o q => kept _ o D.l2z D.l2i1 D.l2i2 q) (.inr ⟨T, true, oT, a1, kept _ _ m1 m2 m3 b, m1, m2, m3, m4⟩) a5 a6 fun c o m e => ?_
    obtain ⟨n1, n2, n3, n4⟩ := mem m
    exact kept c o n1 n3 n4 e
theorem zl_stop {A : Around} {E : Value → Shared → Prop} {s : Shared} {Q : Option Value → Shared → Prop} (hh : A.handled = none) (D : ZipApart z TI TO i1 i2 l1 l2) (ap : ∀ c ∈ [z, TI, TO, i1, i2, l1, l2], S ≠ c) (low : ∀ c ∈ [S, z, TO, i1, i2], c < b0) (Z : Zl b0 S z TI TO i1 i2 l1 l2 xs ys (min xs.size ys.size) s.heap)
    (k : ∀ h', (∀ (j : Nat) (x y : Value), j < min xs.size ys.size → xs[j]? = some x → ys[j]? = some y → IsPair h' (b0 + j) x y) → (∀ c o, c ∉ [z, TO, i1, i2] → s.heap.get? c = some o → h'.get? c = some o) → ∀ tk, Q none { s with heap := h', toks := tk }) : wpAny (model prog w) A (pyNext (.ref z)) Q E s := by
  refine (ZipAt.src hh D ap).done s Q E Z.pos fun h' tk kept => k h' (fun j x y hj hx hy => ?_) kept tk
  refine kept _ _ (fun m => ?_) (Z.made j x y hj hx hy)
  exact Nat.lt_irrefl _ (Nat.lt_of_le_of_lt (Nat.le_add_right b0 j) (low _ (List.mem_cons_of_mem _ m)))
/-- the list at S takes all pairs -/
theorem zl_loop (hh : A.in1.handled = none) (D : ZipApart z TI TO i1 i2 l1 l2) (ap : ∀ c ∈ [z, TI, TO, i1, i2, l1, l2], S ≠ c) (low : ∀ c ∈ [S, z, TO, i1, i2], c < b0) (few : min xs.size ys.size ≤ sizeLine) (res : Value) :
    ∀ (left i : Nat) (s : Shared) (acc : Array Value) (c : Nat), min xs.size ys.size - i = left → i ≤ min xs.size ys.size → Zl b0 S z TI TO i1 i2 l1 l2 xs ys i s.heap → s.heap.get? S = some (lobj acc c) → Refs b0 i acc →
    (∀ h' tk acc' c', h'.get? S = some (lobj acc' c') → Refs b0 (min xs.size ys.size) acc' → (∀ (j : Nat) (x y : Value), j < min xs.size ys.size → xs[j]? = some x → ys[j]? = some y → IsPair h' (b0 + j) x y) →
      (∀ b o, b ∉ [S, z, TO, i1, i2] → s.heap.get? b = some o → h'.get? b = some o) → R (.ok (.ret res)) { s with heap := h', toks := tk }) →
    codeAny (model prog w) A (.builtin "list.extend.loop" ⟨[.ref S, .ref z, res], []⟩) R s := by
  have lowS : S < b0 := low S (by simp)
  have nS : S ∉ [z, TO, i1, i2] := fun m => by
    refine ap S ?_ rfl
    simp only [List.mem_cons, List.not_mem_nil, or_false] at m ⊢
    rcases m with e | e | e | e <;> simp [← e]
  intro left
  induction left with
  | zero =>
    intro i s acc c e hi Z L r k
    obtain rfl : i = min xs.size ys.size := by omega
    refine codeAny_builtin F.entry_extend_loop ?_
    rw [Around.under_plainId F.plain_extend_loop _]; show wpAny _ A.in1 (pyNext (.ref z) >>= _) _ _ s
    refine wpAny_bind (zl_stop hh D ap low Z fun h' made kept tk => wpAny_pure (k h' tk acc c (kept S _ nS L) r made fun b o m q => kept b o (fun z => m (List.mem_cons_of_mem _ z)) q))
  | succ left ih =>
    intro i s acc c e hi Z L r k
    have hlt : i < min xs.size ys.size := by omega
    have gx := Array.getElem?_eq_getElem (Nat.lt_of_lt_of_le hlt (Nat.min_le_left xs.size ys.size))
    have gy := Array.getElem?_eq_getElem (Nat.lt_of_lt_of_le hlt (Nat.min_le_right xs.size ys.size))
    refine codeAny_builtin F.entry_extend_loop ?_
    rw [Around.under_plainId F.plain_extend_loop _]; show wpAny _ A.in1 (pyNext (.ref z) >>= _) _ _ s
    refine wpAny_bind (zl_next D low Z gx gy fun h' Z' kept => ?_)
    have L' := kept S _ nS L
    show wpAny _ A.in1 (updateSeq S (·.push (.ref (b0 + i))) >>= _) _ _ _
    refine wpAny_bind (wpAny_updateSeq L' rfl (wpAny_pure ⟨plainId_quiet F.plain_extend_loop _, ?_⟩) (by rw [r.1]; omega) (by show (acc.push _).size ≤ sizeLine + 1; rw [Array.size_push, r.1]; omega))
    have other : ∀ b o, b ≠ S → h'.get? b = some o → (h'.update S (Obj.mapSeq (·.push (.ref (b0 + i))))).get? b = some o := fun b o n q => (Heap.get?_update_other _ _ (Ne.symm n)).trans q
    refine ih (i + 1) { s with heap := h'.update S (Obj.mapSeq (·.push (.ref (b0 + i)))) } (acc.push (.ref (b0 + i))) _ (by omega) hlt (Z'.other ap lowS (by rw [Heap.size_update]) other) (Heap.get?_update_self _ L' rfl) r.push fun h2 tk acc' c' L2 r2 made kept2 => ?_
    refine k h2 tk acc' c' L2 r2 made fun b o m q => kept2 b o m (other b o (fun z => m (by rw [z]; exact List.mem_cons_self)) (kept b o (fun z => m (List.mem_cons_of_mem _ z)) q))
end
end K1

/-! ## Z5 -/
set_option Elab.async false
set_option linter.all false
set_option maxRecDepth 100000
set_option maxHeartbeats 4000000
namespace K1
open PySem RZ
open PySem.Sem (wp)
theorem zip_len0 : typeLookup (.type "zip") "__len__" = pure none := am_miss_of_fast (by decide +kernel)
theorem zip_hint0 : typeLookup (.type "zip") "__length_hint__" = pure none := am_miss_of_fast (by decide +kernel)
section
variable {prog : Program} {w : World} {A : Around} {R : Result → Shared → Prop} {S z TI TO i1 i2 l1 l2 : Addr} {xs ys : Array Value}
/-- what list() of such a zip leaves -/
abbrev ZlEnd (R : Result → Shared → Prop) (res : Value) (b0 S z TO i1 i2 : Addr) (xs ys : Array Value) (s : Shared) : Prop := ∀ h' tk acc' c', h'.get? S = some (lobj acc' c') → Refs b0 (min xs.size ys.size) acc' →
  (∀ (j : Nat) (x y : Value), j < min xs.size ys.size → xs[j]? = some x → ys[j]? = some y → IsPair h' (b0 + j) x y) → (∀ b o, b ∉ [S, z, TO, i1, i2] → s.heap.get? b = some o → h'.get? b = some o) → R (.ok (.ret res)) { s with heap := h', toks := tk }
theorem zl_extend {s : Shared} {c : Nat} (hh : A.in1.handled = none) (D : ZipApart z TI TO i1 i2 l1 l2) (ap : ∀ c ∈ [z, TI, TO, i1, i2, l1, l2], S ≠ c) (few : min xs.size ys.size ≤ sizeLine) (res : Value) (Z : ZipAt z TI TO i1 i2 l1 l2 S xs ys 0 s.heap) (zip : IsZip s.heap z TI TO .none)
    (low : ∀ c ∈ [S, z, TO, i1, i2], c < s.heap.objs.size) (L : s.heap.get? S = some (lobj #[] c)) (k : ZlEnd R res s.heap.objs.size S z TO i1 i2 xs ys s) :
    wpAny (model prog w) A.in1 (Builtin.List.listExtendWith (.ref S) (.ref z) res) (fun fin s' => match fin with | .done f => R (.ok f) s' | .again c' => c'.quiet = true ∧ codeAny (model prog w) A c' R s') (fun e s' => R (.error e) s') s := by
  have ty : s.TypeIs (.ref z) "zip" := ⟨_, zip, rfl⟩
  have nSz : S ≠ z := ap z (by simp)
  unfold Builtin.List.listExtendWith
  refine wpAny_bind (wpAny_typeOf ty ?_)
  simp only [show Builtin.List.listSameRef (.ref S) (.ref z) = false from by simp [Builtin.List.listSameRef, nSz], show (Value.type "zip" == Value.type "list") = false from by decide, show (Value.type "zip" == Value.type "tuple") = false from by decide, Bool.or_false, Bool.false_eq_true, if_false]
  refine wpAny_bind (wpAny_pyIter_zip zip (wpAny_bind (wpAny_holding ?_)))
  unfold Builtin.List.listLengthHint
  refine wpAny_bind (wpAny_specialOf ty zip_len0 ?_)
  show wpAny _ A.in1 (specialOf (.ref z) (Str.ofString "__length_hint__") >>= _) _ _ _
  refine wpAny_bind (wpAny_specialOf ty zip_hint0 (wpAny_pure ?_))
  show wpAny _ A.in1 (rule "list.extend.makes-room" >>= fun _ => Builtin.List.listTouch (.ref S) >>= fun _ => again (.builtin "list.extend.loop" ⟨[.ref S, .ref z, res], []⟩)) _ _ _
  refine wpAny_bind (wpAny_rule (wpAny_bind ?_))
  show wpAny _ A.in1 (updateSeq S (·.push .none) >>= fun _ => updateSeq S (·.pop)) _ _ _
  refine wpAny_bind (wpAny_updateSeq L rfl ?_)
  have L2 := Heap.get?_update_self (Obj.mapSeq (·.push Value.none)) L rfl
  refine wpAny_updateSeq (hz := by seq_fits) L2 rfl ?_
  have L3 := Heap.get?_update_self (Obj.mapSeq (·.pop)) L2 rfl
  obtain ⟨h2, eq2⟩ : ∃ h2, h2 = (s.heap.update S (Obj.mapSeq (·.push Value.none))).update S (Obj.mapSeq (·.pop)) := ⟨_, rfl⟩
  rw [← eq2] at L3 ⊢
  have other : ∀ b o, b ≠ S → s.heap.get? b = some o → h2.get? b = some o := fun b o n q => by
    rw [eq2]
    exact (Heap.get?_update_other _ _ (Ne.symm n)).trans ((Heap.get?_update_other _ _ (Ne.symm n)).trans q)
  have len : h2.objs.size = s.heap.objs.size := by rw [eq2, Heap.size_update, Heap.size_update]
  have Z0 : Zl s.heap.objs.size S z TI TO i1 i2 l1 l2 xs ys 0 s.heap := ⟨Z, rfl, fun j x y hj => absurd hj (Nat.not_lt_zero j)⟩
  refine wpAny_pure ⟨plainId_quiet F.plain_extend_loop _, zl_loop hh D ap low few res _ 0 { s with heap := h2 } #[] _ rfl (Nat.zero_le _) (Z0.other ap (low S (by simp)) len other) L3 ⟨rfl, fun j hj => absurd hj (Nat.not_lt_zero j)⟩ fun h' tk acc' c' a b d e => ?_⟩
  exact k h' tk acc' c' a b d fun c o m q => e c o m (other c o (fun z => m (by rw [z]; exact List.mem_cons_self)) q)
theorem zl_init {s : Shared} (hh : A.in1.handled = none) (D : ZipApart z TI TO i1 i2 l1 l2) (ap : ∀ c ∈ [z, TI, TO, i1, i2, l1, l2], S ≠ c) (few : min xs.size ys.size ≤ sizeLine) (Z : ZipAt z TI TO i1 i2 l1 l2 S xs ys 0 s.heap) (zip : IsZip s.heap z TI TO .none)
    (low : ∀ c ∈ [S, z, TO, i1, i2], c < s.heap.objs.size) (L : s.heap.get? S = some (lobj #[] 0)) (k : ZlEnd R .none s.heap.objs.size S z TO i1 i2 xs ys s) :
    wpAny (model prog w) A.in1 (Builtin.«list.__init__» ⟨[.ref S, .ref z], []⟩) (fun fin s' => match fin with | .done f => R (.ok f) s' | .again c' => c'.quiet = true ∧ codeAny (model prog w) A c' R s') (fun e s' => R (.error e) s') s := by
  show wpAny _ A.in1 (do let old ← Builtin.List.listItems (.ref S); Builtin.List.listUpdate (.ref S) (fun _ => #[]); letGo old.toList.reverse; Builtin.List.listExtendWith (.ref S) (.ref z) .none) _ _ s
  refine wpAny_bind ?_
  unfold Builtin.List.listItems
  refine wpAny_bind (wpAny_seqItems L rfl (wpAny_pure ?_))
  show wpAny _ A.in1 (updateSeq S (fun _ => #[]) >>= fun _ => letGo (#[] : Array Value).toList.reverse >>= fun _ => Builtin.List.listExtendWith (.ref S) (.ref z) .none) _ _ s
  refine wpAny_bind (wpAny_updateSeq L rfl (wpAny_bind (wpAny_letGo ?_)))
  have L2 := Heap.get?_update_self (Obj.mapSeq (fun _ => (#[] : Array Value))) L rfl
  obtain ⟨h2, eq2⟩ : ∃ h2, h2 = s.heap.update S (Obj.mapSeq (fun _ => (#[] : Array Value))) := ⟨_, rfl⟩
  rw [← eq2] at L2 ⊢
  have other : ∀ b o, b ≠ S → s.heap.get? b = some o → h2.get? b = some o := fun b o n q => by
    rw [eq2]
    exact (Heap.get?_update_other _ _ (Ne.symm n)).trans q
  have len : h2.objs.size = s.heap.objs.size := by rw [eq2, Heap.size_update]
  have Z0 : Zl s.heap.objs.size S z TI TO i1 i2 l1 l2 xs ys 0 s.heap := ⟨Z, rfl, fun j x y hj => absurd hj (Nat.not_lt_zero j)⟩
  refine zl_extend (s := { s with heap := h2 }) hh D ap few .none (Z0.other ap (low S (by simp)) len other).pos (other _ _ (Ne.symm (ap z (by simp))) zip) (fun c m => by show c < h2.objs.size; rw [len]; exact low c m) L2 fun h' tk acc' c' a b d e => ?_
  have b' : Refs s.heap.objs.size (min xs.size ys.size) acc' := by rw [← len]; exact b
  refine k h' tk acc' c' a b' (fun j x y hj hx hy => by rw [← len]; exact d j x y hj hx hy) fun c o m q => e c o m (other c o (fun z => m (by rw [z]; exact List.mem_cons_self)) q)
/-- list(z): the pairs in new tuples behind the list -/
theorem call_listZip {E : Value → Shared → Prop} {s : Shared} {Q : Value → Shared → Prop} (hh : A.handled = none) (D : ZipApart z TI TO i1 i2 l1 l2) (few : min xs.size ys.size ≤ sizeLine) (Z : ZipNew z TI TO i1 i2 l1 l2 xs ys s.heap)
    (k : ∀ h' tk acc' c', h'.get? s.heap.objs.size = some (lobj acc' c') → Refs (s.heap.objs.size + 1) (min xs.size ys.size) acc' → (∀ (j : Nat) (x y : Value), j < min xs.size ys.size → xs[j]? = some x → ys[j]? = some y → IsPair h' (s.heap.objs.size + 1 + j) x y) →
      (∀ b o, b ∉ [z, TO, i1, i2] → s.heap.get? b = some o → h'.get? b = some o) → Q (.ref s.heap.objs.size) { s with heap := h', toks := tk }) : wpAny (model prog w) A (call (.type "list") [.ref z]) Q E s := by
  have there : ∀ c ∈ [z, TI, TO, i1, i2, l1, l2], c < s.heap.objs.size := fun c m => by
    obtain ⟨o, q⟩ := (zipArg (prog := prog) (w := w) z TI TO i1 i2 l1 l2 D xs ys).there _ Z c m
    exact Heap.lt_size q
  refine callType_codes (Q₁ := fun obj s₁ => obj = .ref s.heap.objs.size ∧ s₁ = { s with heap := s.heap.push (lobj #[] 0) }) F.called_list (F.typeCall_list_1 _) F.entry_list_init (code_list_new _ ⟨rfl, rfl⟩) fun obj s₁ e => ?_
  obtain ⟨rfl, rfl⟩ := e
  have new : (s.heap.push (lobj #[] 0)).get? s.heap.objs.size = some (lobj #[] 0) := Heap.get?_push_size _ rfl
  have up : ∀ b o, s.heap.get? b = some o → (s.heap.push (lobj #[] 0)).get? b = some o := fun b o q => Heap.get?_push_of_some _ q
  have ap : ∀ c ∈ [z, TI, TO, i1, i2, l1, l2], s.heap.objs.size ≠ c := fun c m => Nat.ne_of_gt (there c m)
  have Z2 := (zipArg (prog := prog) (w := w) z TI TO i1 i2 l1 l2 D xs ys).keep _ _ Z up
  have len : (s.heap.push (lobj #[] 0)).objs.size = s.heap.objs.size + 1 := Heap.size_push ..
  refine ⟨⟨_, new, rfl⟩, F.args_list_init_2 _ _, zl_init (A := A.in1) (s := { s with heap := s.heap.push (lobj #[] 0) }) hh D ap few ⟨Z2.its, Z2.p1, Z2.p2, Z2.t1, Z2.t2, .inl ⟨Z2.zip, Z2.out⟩⟩ Z2.zip (fun c m => ?_) new fun h' tk acc' c' a b d e => ?_⟩
  · show c < (s.heap.push (lobj #[] 0)).objs.size
    rw [len]
    rcases List.mem_cons.mp m with rfl | m
    · exact Nat.lt_succ_self _
    · refine Nat.lt_succ_of_lt (there c ?_)
      simp only [List.mem_cons, List.not_mem_nil, or_false] at m ⊢
      rcases m with e | e | e | e <;> simp [e]
  · refine ⟨rfl, k h' tk acc' c' a (by rw [← len]; exact b) (fun j x y hj hx hy => by rw [← len]; exact d j x y hj hx hy) fun c o m q => e c o (fun n => ?_) (up c o q)⟩
    rcases List.mem_cons.mp n with rfl | n
    · exact Nat.lt_irrefl _ (Heap.lt_size q)
    · exact m n
end
end K1

/-! ## Z6 -/
set_option Elab.async false
set_option linter.all false
set_option maxRecDepth 100000
set_option maxHeartbeats 4000000
namespace K1
open PySem PySem.Spec PyProof.Rows L2
section
variable {X : Cx}
theorem pairs_list {P : Program} {w : World} {zs : List Str} {its us : List Value} (r : Vals (zs.map V.str) its) : PairsHave (mixKind P w) (its.zip us).length (PairRel (its.zip us)) ((zs.map Sum.inr).zip us) := by
  obtain ⟨h1, h2⟩ := pairs_zip (P := P) (w := w) (us := us) r
  refine ⟨by rw [h1, List.length_zip, List.size_toArray, List.size_toArray], fun i key v h => h2 i key v ?_⟩
  show its.toArray[i]? = some key ∧ us.toArray[i]? = some v
  rw [List.getElem?_toArray, List.getElem?_toArray]
  exact List.getElem?_zip_eq_some.mp h
theorem pe_dictListZip {e1 e2 : Expr} {ta : TA} {p p2 p3 pos pos2 pos3 : Pos} (hc : X.calm = true) (hg : Gl X "dict") (hm : X.mg "dict" = none) (hg3 : Gl X "list") (hm3 : X.mg "list" = none) (hg2 : Gl X "zip") (hm2 : X.mg "zip" = none) (ha : PA X [e1, e2] ta)
    (hst : starEach [e1, e2] X.env = (false, eval e1 X.env) :: starEach [e2] X.env := by rfl) (hpl : (backTo pos2 (starEach [e2] X.env)).any (·.1) = false := by rfl) :
    PE X (.Call (.Name "dict" p) [.Call (.Name "list" p3) [.Call (.Name "zip" p2) [e1, e2] [] pos2] [] pos3] [] pos) (tDZip X.K ta) := by
  refine ⟨fun pins s σ H Q I h => ?_⟩
  refine Call_ (ld_blt I hg hm boot_dict (PyProof.Rows.callWith_type1 (PyProof.Rows.args_cons ?_ rfl) rfl rfl))
  refine Call_ (ld_blt I hg3 hm3 boot_list (PyProof.Rows.callWith_type1 (PyProof.Rows.args_cons ?_ rfl) rfl rfl))
  refine Call_ (ld_blt I hg2 hm2 PyProof.Rows.boot_zip (PyProof.Rows.callWith_type1 (thn (ha.run pos2 pins s σ H _ I h) fun us s1 ⟨vs, H1, J, r, q⟩ => ?_) hst hpl))
  obtain ⟨a, b, zs, ys, rfl, t1, t2, q⟩ := q
  obtain ⟨u1, u2, rfl, r1, r2⟩ := vals2 r
  cases r1
  cases r2
  obtain ⟨its, rv, q1, _⟩ := J.tuple t1
  obtain ⟨jts, rw_, q2, small⟩ := J.tuple t2
  have w1 : s1.heap.IsTuple a its.toArray := q1
  have w2 : s1.heap.IsTuple b jts.toArray := q2
  obtain ⟨o1, g1, _⟩ := id w1
  obtain ⟨o2, g2, _⟩ := id w2
  have few : min its.toArray.size jts.toArray.size ≤ sizeLine := by
    rw [List.size_toArray, List.size_toArray]
    exact Nat.le_trans (Nat.min_le_right _ _) (by rw [← rw_.length]; exact small)
  refine RZ.call_zipT w1 w2 fun h' hz hTI hTO h1 h2 len kept => PyProof.Rows.args_nil ?_
  have ap := PySem.W.ktu_apart s1.heap.objs.size a b (Heap.lt_size g1) (Heap.lt_size g2)
  refine call_listZip (s := { s1 with heap := h' }) (xs := its.toArray) (ys := jts.toArray) (J.ok.hd hc) ap few ⟨hz, hTI, ⟨_, _, hTO⟩, h1, h2, w1.at fun o e => kept _ o e, w2.at fun o e => kept _ o e⟩ fun h3 tk3 acc c L refs made kept3 => PyProof.Rows.args_nil ?_
  have ml : (its.zip jts).length = min its.toArray.size jts.toArray.size := by rw [List.length_zip, List.size_toArray, List.size_toArray]
  refine PySem.call_dict_pairs (s := { s1 with heap := h3, toks := tk3 }) (knd := mixKind X.prog X.w) (kvs := (zs.map Sum.inr).zip jts) (PairArg.list h'.objs.size acc (fun j => h'.objs.size + 1 + j) (its.zip jts)) (J.ok.hd hc) ⟨⟨_, c, L, rfl, rfl, rfl⟩, refs.1.trans ml.symm, fun j k v e => ?_⟩ (pairs_list rv) (by rw [ml]; exact few) fun h'' tk dd kept2 => ?_
  · have lt : j < min its.toArray.size jts.toArray.size := by rw [← ml]; exact (List.getElem?_eq_some_iff.mp e).1
    obtain ⟨e1, e2⟩ := List.getElem?_zip_eq_some.mp e
    exact ⟨refs.2 j lt, .inl ⟨_, made j k v lt (by rw [List.getElem?_toArray]; exact e1) (by rw [List.getElem?_toArray]; exact e2), rfl, _, rfl⟩⟩
  have all3 : ∀ c o, s1.heap.get? c = some o → h3.get? c = some o := fun c o e => by
    refine kept3 c o (fun m => ?_) (kept c o e)
    have lt := Heap.lt_size e
    simp only [List.mem_cons, List.not_mem_nil, or_false] at m
    have no : ∀ n : Nat, ¬ (s1.heap.objs.size + n < s1.heap.objs.size) := fun n z => Nat.lt_irrefl _ (Nat.lt_of_le_of_lt (Nat.le_add_right _ n) z)
    rcases m with z | z | z | z <;> rw [z] at lt
    · exact no 4 lt
    · exact no 3 lt
    · exact no 0 lt
    · exact no 1 lt
  have all : ∀ c o, s1.heap.get? c = some o → h''.get? c = some o := fun c o e => kept2 c o (fun m => nomatch m) (all3 c o e)
  have le : s1.heap.objs.size ≤ h3.objs.size := by
    have : h'.objs.size < h3.objs.size := Heap.lt_size L
    rw [len] at this
    omega
  have big := J.big
  have nsys : (h3.objs.size == sysModules) = false := beq_eq_false_iff_ne.mpr (Nat.ne_of_gt (Nat.lt_of_lt_of_le big le))
  have short : (mergeK [] ((zs.map Sum.inr).zip ys)).length ≤ sizeLine := by
    refine Nat.le_trans (length_mergeK _ _) ?_
    rw [List.length_nil, Nat.zero_add, List.length_zip]
    exact Nat.le_trans (Nat.min_le_right _ _) small
  exact ⟨.ref h3.objs.size, upd H1 h3.objs.size (.dK (mergeK [] ((zs.map Sum.inr).zip ys))), J.laid (t' := tk) all le (show ObjOk X.prog X.w _ _ _ (.dK (mergeK [] ((zs.map Sum.inr).zip ys))) from ⟨short, nsys, _, KV.merge (kv_zip rw_) .nil, dd⟩), rfl, q _ (J.hok.fresh le)⟩
end
end K1

/-! ## Z7 -/
set_option Elab.async false
set_option linter.all false
set_option maxRecDepth 100000
set_option maxHeartbeats 4000000
namespace K1
open PySem
open PySem.Sem (wp)
section
variable {prog : Program} {w : World} {κ : Type} [DecidableEq κ] {knd : KeyKind prog w κ} {A : Around} {E : Value → Shared → Prop} {s : Shared}
theorem sub_dict_self : isSubtype (.type "dict") (.type "dict") = pure true := by rw [isSubtype_type]; kernel_rfl
/-- d[key] = v where the hash is known -/
theorem put_pairs {d : Addr} {kvs : List (κ × Value)} {k : κ} {key v : Value} {Q : Unit → Shared → Prop} (hk : knd.is k key = true) (D : s.heap.DictOf knd d kvs) (few : kvs.length ≤ sizeLine)
    (q : ∀ h', h'.DictOf knd d (stored kvs k v) → Heap.SameBut d s.heap h' → Q () { s with heap := h' }) : wpAny (model prog w) A (dictPut d (knd.hash k) key v) Q E s := by
  obtain ⟨o, es, ep, ho, hc, hd, ks, hp, hn⟩ := D
  have hes : es.size ≤ sizeLine := by
    have e1 := hp.length
    have e2 : es.toList.length = es.size := by simp
    omega
  unfold dictPut
  refine wpAny_bind (wpAny_dictFind_of hk ho hd ks ?_)
  have same : (es.findIdx? fun e => knd.is k e.key) = kvs.findIdx? fun kv => decide (kv.1 = k) := by
    rw [← hp.findIdx k]; obtain ⟨l⟩ := es; simp
  cases hi : es.findIdx? fun e => knd.is k e.key with
  | some i =>
    refine wpAny_updateDict ho hd (q _ ⟨_, _, ep, Heap.get?_update_self _ ho (Obj.isFreed_of_dict (Obj.data_mapDict hd _)), hc.mapDict _, Obj.data_mapDict hd _, ks.modify _ _, ?_, ?_⟩ (Heap.SameBut.update ..))
    · have hl : (es.toList.findIdx? fun e => knd.is k e.key) = some i := by rw [← hi]; obtain ⟨l⟩ := es; simp
      have m := hp.modify hn hl v
      rw [stored, if_pos (any_of_findIdx_some (same ▸ hi))]
      obtain ⟨l⟩ := es
      simpa using m
    · rw [stored, if_pos (any_of_findIdx_some (same ▸ hi)), keys_map_store]; exact hn
  | none =>
    have out : k ∉ kvs.map (·.1) := not_mem_of_findIdx_none (same ▸ hi)
    have none_ : ¬ (kvs.any fun kv => decide (kv.1 = k)) = true := fun z => by
      obtain ⟨kv, m, e⟩ := List.any_eq_true.mp z
      exact out (List.mem_map.mpr ⟨kv, m, of_decide_eq_true e⟩)
    refine wpAny_updateDictKeys (hz := hes) ho hd (q _ ⟨_, _, ep + 1, Heap.get?_update_self _ ho (Obj.isFreed_of_dict (Obj.data_mapDictKeys hd _)), hc.mapDictKeys _, Obj.data_mapDictKeys hd _, ks.push hk _, ?_, ?_⟩ (Heap.SameBut.update ..))
    · rw [stored, if_neg none_]
      have m := hp.append hk (knd.hash k) v
      obtain ⟨l⟩ := es
      simpa using m
    · rw [stored, if_neg none_, List.map_append, List.nodup_append]
      refine ⟨hn, by simp, fun a ha b hb e => ?_⟩
      rw [List.map_cons, List.map_nil, List.mem_singleton] at hb
      have : b = k := hb
      exact out (by rw [← this, ← e]; exact ha)
theorem empty_entries {d : Addr} {kvs : List (κ × Value)} {h : Heap} (D : h.DictOf knd d kvs) : ∃ o es ep, h.get? d = some o ∧ o.data = .dict es ep ∧ es.size = kvs.length ∧ ∀ e ∈ es, carriedByValue e.key = true := by
  obtain ⟨o, es, ep, ho, hc, hd, ks, hp, hn⟩ := D
  refine ⟨o, es, ep, ho, hd, by rw [← hp.length]; simp, fun e he => ?_⟩
  obtain ⟨k, hk, _⟩ := ks e he
  exact knd.byValue k _ hk
/-- {**d, **o}: all of o into d -/
theorem merge_pairs {d o : Addr} {kvs more : List (κ × Value)} {Q : Unit → Shared → Prop} (ne : d ≠ o) (nsys : (o == sysModules) = false) (D : s.heap.DictOf knd d kvs) (O : s.heap.DictOf knd o more) (few : kvs.length + more.length ≤ sizeLine)
    (q : ∀ h', h'.DictOf knd d (merged kvs more) → Heap.SameBut d s.heap h' → Q () { s with heap := h' }) : wpAny (model prog w) A (mergeMapping d (.ref o) false) Q E s := by
  obtain ⟨oo, eo, epo, ho, hco, hdo, kso, hpo, hno⟩ := id O
  obtain ⟨od, ed, epd, hd', hdd, _, _⟩ := empty_entries D
  have tyO : s.TypeIs (.ref o) "dict" := O.typeIs
  have len : more.length = eo.size := by rw [← hpo.length]; simp
  have byV : ∀ e ∈ eo.toList, carriedByValue e.key = true := fun e he => by
    obtain ⟨k, hk, _⟩ := kso e (by simpa using he)
    exact knd.byValue k _ hk
  have tail : wpAny (model prog w) A (do
      let l ← dictEntries o
      let epoch ← dictEpoch o
      forIn (List.range l.size) PUnit.unit fun i (_ : PUnit) => (do
          let l' ← dictEntries o
          match l'[i]? with
            | some e => do
              holding [e.key, e.val] (dictPut d e.hash e.key e.val)
              let ep' ← dictEpoch o
              if (ep' != epoch) = true then do
                  (unsupported "dict.changed-during-merge" : Sem PUnit)
                  pure (ForInStep.yield PUnit.unit)
                else pure (ForInStep.yield PUnit.unit)
            | _ => do
              (unsupported "dict.changed-during-merge" : Sem PUnit)
              pure (ForInStep.yield PUnit.unit) : Sem (ForInStep PUnit))
      pure ()) Q E s := by
    refine wpAny_bind (wpAny_dictEntries ho hdo (wpAny_bind (wpAny_dictEpoch ho hdo (wpAny_bind ?_))))
    rw [List.range_eq_range']
    refine wpAny_forIn_list _ (fun rest _ s' => ∃ h' i, s' = { s with heap := h' } ∧ rest = List.range' i (eo.size - i) ∧ i ≤ eo.size ∧ h'.DictOf knd d (merged kvs (more.take i)) ∧ h'.get? o = some oo ∧ Heap.SameBut d s.heap h') _ ?_ ?_ _ _
      ⟨s.heap, 0, rfl, by simp, Nat.zero_le _, by simpa [merged] using D, ho, Heap.SameBut.refl _ _⟩
    · rintro x rest b s' ⟨h', i, rfl, er, hi, D', ho', same⟩
      have lt : i < eo.size := by
        refine Nat.lt_of_not_le fun z => ?_
        rw [Nat.sub_eq_zero_of_le z] at er
        simp at er
      have step : eo.size - i = (eo.size - (i + 1)) + 1 := by omega
      rw [step, List.range'_succ] at er
      obtain ⟨rfl, rfl⟩ := List.cons.inj er
      refine wpAny_bind (wpAny_dictEntries ho' hdo ?_)
      rw [Array.getElem?_eq_getElem lt]
      have ltm : x < more.length := by rw [len]; exact lt
      have gm : more[x]? = some (more[x].1, more[x].2) := List.getElem?_eq_getElem ltm
      obtain ⟨hk, hv⟩ := hpo.get? (e := eo[x]) (by simp [lt]) gm
      obtain ⟨k', hk', hh⟩ := kso eo[x] (Array.getElem_mem lt)
      have ek : k' = more[x].1 := knd.inj _ _ _ hk' hk
      have fewx : (merged kvs (more.take x)).length ≤ sizeLine := by
        have e1 := merged_length_le kvs (more.take x)
        rw [List.length_take] at e1
        omega
      show wpAny _ _ (holding [eo[x].key, eo[x].val] (dictPut d eo[x].hash eo[x].key eo[x].val) >>= _) _ _ _
      rw [hh, hv, ek]
      refine wpAny_bind (wpAny_holding (put_pairs hk D' fewx fun h2 D2 same2 => ?_))
      have ho2 : h2.get? o = some oo := (same2.2 o (Ne.symm ne)).trans ho'
      refine wpAny_bind (wpAny_dictEpoch ho2 hdo ?_)
      rw [if_neg (by simp)]
      exact wpAny_pure ⟨h2, x + 1, rfl, rfl, lt, by rw [merged_take_succ kvs more x _ gm]; exact D2, ho2, same.trans same2⟩
    · rintro b s' ⟨h', i, rfl, er, hi, D', ho', same⟩
      have ei : i = eo.size := by
        refine Nat.le_antisymm hi (Nat.le_of_not_lt fun z => ?_)
        have step : eo.size - i = (eo.size - (i + 1)) + 1 := by omega
        rw [step, List.range'_succ] at er
        cases er
      rw [ei, ← len, List.take_length] at D'
      exact wpAny_pure (q h' D' same)
  unfold mergeMapping
  refine wpAny_bind (wpAny_bind (wpAny_typeOf tyO (wpAny_of_eq sub_dict_self ?_)))
  simp only [if_true]
  refine wpAny_bind (wpAny_specialOf tyO F.slot_dict_iter.lookup (wpAny_bind (wpAny_pure ?_)))
  simp only [show (some (Value.builtin "dict.__iter__") == some (Value.builtin "dict.__iter__")) = true from by decide, nsys, Bool.false_eq_true, if_false]
  refine wpAny_bind (wpAny_dictEntries hd' hdd ?_)
  split
  · refine wpAny_bind (wpAny_dictEntries ho hdo (wpAny_bind ?_))
    rw [← Array.forIn_toList]
    refine wpAny_forIn_list _ (fun rest _ s' => s' = s ∧ ∀ e ∈ rest, carriedByValue e.key = true) _ ?_ ?_ _ _ ⟨rfl, byV⟩
    · rintro ⟨hash, key, val⟩ rest b s' ⟨rfl, all⟩
      have mine := all _ List.mem_cons_self
      have others := fun e he => all e (List.mem_cons_of_mem _ he)
      cases key <;> first | (exact wpAny_pure ⟨rfl, others⟩) | (exact absurd mine (by decide)) | (cases mine)
    · rintro b s' ⟨rfl, _⟩
      exact tail
  · exact tail
end
end K1

/-! ## Z8 -/
set_option Elab.async false
set_option linter.all false
set_option maxRecDepth 100000
set_option maxHeartbeats 4000000
namespace K1
open PySem
open PySem.Sem (wp)
section
variable {prog : Program} {w : World} {A : Around} {E : Value → Shared → Prop} {s : Shared}
theorem display_star {m1 m2 : Sem Value} {Q : Value → Shared → Prop}
    (h : wpAny (model prog w) A m1 (fun v1 s1 => wpAny (model prog w) A (mergeMapping s.heap.objs.size v1 false) (fun _ s2 => wpAny (model prog w) A m2 (fun v2 s3 => wpAny (model prog w) A (mergeMapping s.heap.objs.size v2 false) (fun _ s4 => Q (.ref s.heap.objs.size) s4) (fun _ _ => False) s3) E s2) (fun _ _ => False) s1) E { s with heap := s.heap.push { cls := .type "dict", data := .dict #[] } }) :
    wpAny (model prog w) A (dictDisplay [(none, m1), (none, m2)]) Q E s := by
  unfold dictDisplay
  simp only [List.forIn_cons, List.forIn_nil, List.isEmpty_nil, if_true, pure_bind, bind_assoc]
  refine wpAny_bind (wpAny_alloc (wpAny_bind (wpAny_holding (wpAny_mono h (fun v1 s1 h1 => ?_) fun _ _ e => e))))
  refine wpAny_bind (wpAny_onRaise (wpAny_tryCatch (wpAny_onRaise (wpAny_holding (wpAny_mono h1 (fun _ s2 h2 => ?_) fun _ _ e => e.elim)))))
  refine wpAny_bind (wpAny_holding (wpAny_mono h2 (fun v2 s3 h3 => ?_) fun _ _ e => e))
  exact wpAny_bind (wpAny_onRaise (wpAny_tryCatch (wpAny_onRaise (wpAny_holding (wpAny_mono h3 (fun _ s4 h4 => wpAny_pure h4) fun _ _ e => e.elim)))))
end
end K1
namespace K1
open PySem PySem.Spec PyProof.Rows L2
def tDStar (ta tb : TE) : TE := fun σ H Q => ∀ p, H p = none → ta σ (upd H p (.dK [])) fun x H1 => ∃ (a : Addr) (kvs : List (Key × V)), x = .ref a ∧ H1 a = some (.dK kvs) ∧ a ≠ p ∧ H1 p = some (.dK []) ∧
  tb σ (upd H1 p (.dK (mergeK [] kvs))) fun y H2 => ∃ (b : Addr) (kvs2 : List (Key × V)), y = .ref b ∧ H2 b = some (.dK kvs2) ∧ b ≠ p ∧ H2 p = some (.dK (mergeK [] kvs)) ∧ (mergeK [] kvs).length + kvs2.length ≤ sizeLine ∧ Q (.ref p) (upd H2 p (.dK (mergeK (mergeK [] kvs) kvs2)))
section
variable {X : Cx}
/-- one dict merged into the new one -/
theorem merge_run {pins : List (Addr × Obj)} {σ : L2.St} {H : Hp} {s : Shared} {p a : Addr} {acc kvs : List (Key × V)} {R : Unit → Shared → Prop} {E : Value → Shared → Prop} (I : Inv X pins σ H s) (hp : H p = some (.dK acc)) (ha : H a = some (.dK kvs)) (ne : a ≠ p) (few : acc.length + kvs.length ≤ sizeLine)
    (k : ∀ s', Inv X pins σ (upd H p (.dK (mergeK acc kvs))) s' → R () s') : wpAny (model X.prog X.w) X.A (mergeMapping p (.ref a) false) R E s := by
  obtain ⟨_, hs, us, ru, du⟩ := dk_of I.hok hp
  obtain ⟨_, hsa, vs, rv, dv⟩ := dk_of I.hok ha
  refine merge_pairs (knd := mixKind X.prog X.w) (Ne.symm ne) hsa du dv (by rw [← ru.length, ← rv.length]; exact few) fun h' dd same => k _ ?_
  have z : (mergeK acc kvs).length ≤ sizeLine := Nat.le_trans (length_mergeK _ _) few
  exact I.write (t' := s.toks) (by rw [hp]; exact True.intro) (.inl rfl) (fun b u n e => same.extBut b u n e) (by obtain ⟨o, _, _, q, _⟩ := dd; exact ⟨o, q⟩) (show ObjOk X.prog X.w _ _ _ (.dK (mergeK acc kvs)) from ⟨z, hs, _, KV.merge rv ru, dd⟩)
theorem pe_dictStar {e1 e2 : Expr} {ta tb : TE} {pos : Pos} (hc : X.calm = true) (ha : PE X e1 ta) (hb : PE X e2 tb) : PE X (.Dict [none, none] [e1, e2] pos) (tDStar ta tb) := by
  refine ⟨fun pins s σ H Q I h => ?_⟩
  rw [arm_eval_Dict]
  refine wpAny_bind (wpAny_standAt ?_)
  show wpAny _ _ (dictDisplay [(none, eval e1 X.env >>= fun x => standAt pos >>= fun _ => pure x), (none, eval e2 X.env >>= fun x => standAt pos >>= fun _ => pure x)]) _ _ s
  have fresh : H s.heap.objs.size = none := I.hok.fresh (Nat.le_refl _)
  have big := I.big
  have nsys : (s.heap.objs.size == sysModules) = false := beq_eq_false_iff_ne.mpr (Nat.ne_of_gt big)
  have J : Inv X pins σ (upd H s.heap.objs.size (.dK [])) { s with heap := s.heap.push { cls := .type "dict", data := .dict #[] } } :=
    I.laid (t' := s.toks) (fun b u e => Heap.get?_push_of_some _ e) (Nat.le_refl _) (show ObjOk X.prog X.w _ _ _ (.dK []) from ⟨Nat.zero_le _, nsys, [], .nil, Heap.DictOf.new s.heap⟩)
  refine display_star (wpAny_bind (thn (ha.run pins _ σ _ _ J (h _ fresh)) fun v s1 ⟨x, H1, J1, r1, q1⟩ => wpAny_bind (wpAny_standAt (wpAny_pure ?_))))
  obtain ⟨a, kvs, rfl, h1, n1, hp1, q1⟩ := q1
  cases r1
  refine merge_run J1 hp1 h1 n1 (by rw [List.length_nil, Nat.zero_add]; exact (dk_of J1.hok h1).1) fun s2 J2 => ?_
  refine wpAny_bind (thn (hb.run pins _ σ _ _ J2 q1) fun v s3 ⟨y, H2, J3, r2, q2⟩ => wpAny_bind (wpAny_standAt (wpAny_pure ?_)))
  obtain ⟨b, kvs2, rfl, h2, n2, hp2, few, q2⟩ := q2
  cases r2
  exact merge_run J3 hp2 h2 n2 few fun s4 J4 => ⟨.ref _, _, J4, rfl, q2⟩
end
end K1

/-! ## S1 -/
set_option Elab.async false
set_option linter.all false
set_option maxRecDepth 100000
set_option maxHeartbeats 4000000
namespace K1
open PySem PySem.Spec PyProof.Rows L2
open PySem.Froz (SD sObj TxOk addTx tailTx)
/-! ### a set of texts: its texts l, each once; its table can be walked -/
def TxSet (P : Program) (w : World) (h : Heap) (a : Addr) (l : List Str) : Prop :=
  ∃ D : SD, h.get? a = some (sObj "set" D) ∧ TxOk P w D l ∧ l.Nodup ∧ Ris D.2.2.place.toList ∧ (w.params.followText "set-order" = true ∨ D.2.2.led = true)
theorem TxSet.at {P : Program} {w : World} {h h' : Heap} {a : Addr} {l : List Str} (T : TxSet P w h a l) (k : ∀ o, h.get? a = some o → h'.get? a = some o) : TxSet P w h' a l := by
  obtain ⟨D, g, r⟩ := T
  exact ⟨D, k _ g, r⟩
theorem tail_walk {w : World} {ep : Nat} {es : Array (Int × Value)} {t : SetTable} {b : Bool} (r : Ris t.place.toList) (l : w.params.followText "set-order" = true ∨ t.led = true) :
    Ris (tailTx ep es t b).2.2.place.toList ∧ (w.params.followText "set-order" = true ∨ (tailTx ep es t b).2.2.led = true) := by
  unfold tailTx
  by_cases c : (!b && t.tooFull) = true
  · rw [if_pos c]
    exact ⟨relayAll_ris _ _ _, l.imp id fun z => (relayAll_led t es _).trans z⟩
  · rw [if_neg c]
    exact ⟨r, l⟩
theorem add_walk {w : World} {x : Int} {v : Value} {D : SD} (r : Ris D.2.2.place.toList) (l : w.params.followText "set-order" = true ∨ D.2.2.led = true) :
    Ris (addTx x v D).2.2.place.toList ∧ (w.params.followText "set-order" = true ∨ (addTx x v D).2.2.led = true) := by
  have r1 := layNew_ris D.2.2 D.1 x v r
  have l1 := layNew_led D.2.2 D.1 x v
  refine tail_walk ?_ ?_
  · split
    · exact r1
    · exact r1
  · refine l.imp id fun z => ?_
    split
    · exact l1.trans z
    · exact l1.trans z
section
variable {P : Program} {w : World} {A : Around} {E : Value → Shared → Prop} {s : Shared} {a : Addr} {l : List Str}
theorem txset_put {k : Str} {u : Tok} {Q : Bool → Shared → Prop} (T : TxSet P w s.heap a l) (room : l.length + 1 < scanBound)
    (q : ∀ b h' l', Heap.SameBut a s.heap h' → TxSet P w h' a l' → (∀ z, z ∈ l' ↔ z ∈ l ∨ z = k) → l'.length ≤ l.length + 1 → Q b { s with heap := h' }) : wpAny (model P w) A (setAddHashed a (.str k u) (hashStr w k)) Q E s := by
  obtain ⟨D, g, F, nd, r, led⟩ := T
  by_cases m : k ∈ l
  · have done := q false s.heap l (Heap.SameBut.refl _ _) ⟨D, g, F, nd, r, led⟩ (fun z => ⟨.inl, fun x => x.elim id fun e => by rw [e]; exact m⟩) (Nat.le_succ _)
    obtain ⟨es, ep, t⟩ := D
    have el : ElemsOf (strKind P w) es.toList := F.el
    have few : es.size < scanBound := by
      have : es.size = l.length := F.sz
      omega
    have is : (strKind P w).is k (.str k u) = true := PySem.Froz.is_str k u
    unfold setAddHashed setAddHashedIn
    refine wpAny_holding (wpAny_bind (wpAny_setState_of g (rfl : (sObj "set" (es, ep, t)).data = .set es ep t) F.fit ?_))
    dsimp only
    rw [byScan_of rfl few el]; simp only [↓reduceIte]
    unfold setAddByScan
    refine wpAny_bind (wpAny_bind (wpAny_rule (wpAny_bind (wpAny_setScan_of (knd := strKind P w) (k := k) is g (rfl : (sObj "set" (es, ep, t)).data = .set es ep t) F.fit el ?_))))
    cases hf : List.findIdx? (fun e => (strKind P w).is k e.2) es.toList with
    | some j => exact wpAny_pure (wpAny_pure done)
    | none =>
      obtain ⟨e, he, z⟩ := (F.mem k).mp m
      have c := List.findIdx?_eq_none_iff.mp hf e he
      rw [z] at c
      cases c
  · obtain ⟨r2, l2⟩ := add_walk (x := hashStr w k) (v := .str k u) r led
    have F2 := PySem.Froz.add_ok (k := k) u F
    refine PySem.Froz.add_x g F m room (q true _ (k :: l) (Heap.SameBut.update ..) ⟨_, Heap.get?_update_self _ g rfl, F2, List.nodup_cons.mpr ⟨m, nd⟩, r2, l2⟩ (fun z => ?_) (Nat.le_refl _))
    rw [List.mem_cons]
    exact or_comm
end
end K1

/-! ## S2 -/
set_option Elab.async false
set_option linter.all false
set_option maxRecDepth 100000
set_option maxHeartbeats 4000000
namespace K1
open PySem PySem.Spec PyProof.Rows L2
open PySem.Froz (SD sObj TxOk addTx tailTx)
section
variable {P : Program} {w : World} {A : Around} {E : Value → Shared → Prop} {s : Shared}
/-- all texts of a walk put into the set at S -/
theorem tx_loop {I S : Addr} {fp wr : List Addr} {G : Array GenState → Array GenState → Prop} {n : Nat} {Pv : Nat → Value → Prop} {St : Nat → Shared → Prop} {R : Result → Shared → Prop} (W : WalksS P w A.in1 I fp wr G n Pv St) (out : S ∉ fp) (zs : List Str) (len : n = zs.length)
    (room : zs.length + 1 < scanBound) (val : ∀ i v, Pv i v → ∃ z t, zs[i]? = some z ∧ v = .str z t) :
    ∀ (left i : Nat) (s : Shared), n - i = left → i ≤ n → St i s → (∃ l, TxSet P w s.heap S l ∧ (∀ z, z ∈ l ↔ z ∈ zs.take i) ∧ l.length ≤ i) →
      (∀ s' l, Moved (S :: wr) G s s' → TxSet P w s'.heap S l → (∀ z, z ∈ l ↔ z ∈ zs) → l.length ≤ n → R (.ok (.ret .none)) s') → codeAny (model P w) A (.builtin "set.update.loop" ⟨[.ref S, .ref I], []⟩) R s := by
  have outw : S ∉ wr := fun m => out (W.sub _ m)
  have more : ∀ b ∈ wr, b ∈ S :: wr := fun b m => List.mem_cons_of_mem _ m
  intro left
  induction left with
  | zero =>
    intro i s e hi st ⟨l, T, mem, few⟩ k
    obtain rfl : i = n := by omega
    refine codeAny_builtin PyProof.Rows.F.entry_set_update_loop ?_
    rw [Around.under_plainId PyProof.Rows.F.plain_set_update_loop _]; show wpAny _ A.in1 (pyNext (.ref I) >>= _) _ _ s
    refine wpAny_bind (W.done s _ _ st fun s' mv => ?_); show wpAny _ A.in1 (ret Value.none) _ _ s'
    rw [List.take_of_length_le (by omega)] at mem
    exact wpAny_pure (k s' l (mv.mono more) (T.at fun o q => mv.heap S o outw q) mem few)
  | succ left ih =>
    intro i s e hi st ⟨l, T, mem, few⟩ k
    have lt : i < n := by omega
    refine codeAny_builtin PyProof.Rows.F.entry_set_update_loop ?_
    rw [Around.under_plainId PyProof.Rows.F.plain_set_update_loop _]; show wpAny _ A.in1 (pyNext (.ref I) >>= _) _ _ s
    refine wpAny_bind (W.item i s _ _ lt st fun v s' pv st' mv => ?_)
    obtain ⟨z, t, hz, rfl⟩ := val i v pv
    have T' := T.at (h' := s'.heap) fun o q => mv.heap S o outw q
    show wpAny _ A.in1 (holding [Value.str z t] (setAdd S (.str z t)) >>= _) _ _ s'
    unfold setAdd
    refine wpAny_bind (wpAny_holding (wpAny_holding (wpAny_bind ((strKind P w).pyHash (k := z) (PySem.Froz.is_str z t) ?_))))
    refine txset_put (s := { s' with toks := s'.toks + 1 }) T' (by omega) fun b h' l2 same T2 mem2 few2 => ?_
    have mem3 : ∀ y, y ∈ l2 ↔ y ∈ zs.take (i + 1) := fun y => by
      rw [mem2, mem, List.take_add_one, hz]
      simp [List.mem_append]
    have kept : ∀ b o, b ≠ S → s'.heap.get? b = some o → h'.get? b = some o := fun b o ne q => same.extBut b o ne q
    refine wpAny_pure ⟨plainId_quiet PyProof.Rows.F.plain_set_update_loop _, ih (i + 1) _ (by omega) lt (W.frame _ s' _ _ st' (Nat.le_succ _) fun b m o q => kept b o (fun e => out (by rw [← e]; exact m)) q) ⟨l2, T2, mem3, by omega⟩ fun s2 l3 mv2 T3 a b => ?_⟩
    refine k s2 l3 (Moved.trans W.gtrans ((mv.mono more).then_heap (Nat.le_succ _) fun b o m q => ?_) mv2) T3 a b
    exact kept b o (fun e => m (by rw [e]; exact List.mem_cons_self)) q
abbrev newSetObj (w : World) : Obj := { cls := .type "set", dict := none, data := .set #[] 0 (.fresh 0 0 (!w.params.followText "set-order")) }
theorem tx_new {h : Heap} {a : Addr} (g : h.get? a = some (newSetObj w)) : TxSet P w h a [] := by
  refine ⟨(#[], 0, .fresh 0 0 (!w.params.followText "set-order")), g, PySem.Froz.TxOk.nil (by rfl), List.nodup_nil, List.Pairwise.nil, ?_⟩
  show _ ∨ (!w.params.followText "set-order") = true
  cases w.params.followText "set-order"
  · exact .inr rfl
  · exact .inl rfl
/-- what set(t) of texts ends in -/
def SetDone (P : Program) (w : World) (s : Shared) (zs : List Str) (s2 : Shared) : Prop := ∃ h' tk l, s2 = { s with heap := h', toks := tk } ∧ TxSet P w h' s.heap.objs.size l ∧ (∀ z, z ∈ l ↔ z ∈ zs) ∧ l.length ≤ zs.length ∧ (∀ b o, s.heap.get? b = some o → h'.get? b = some o)
set_option maxHeartbeats 6400000 in
theorem call_set_texts {l : Addr} {items : Array Value} {zs : List Str} {Q : Value → Shared → Prop} (hh : A.handled = none) (tup : s.heap.IsTuple l items) (txts : StrsAre items.toList zs) (room : zs.length + 1 < scanBound) (k : ∀ s2, SetDone P w s zs s2 → Q (.ref s.heap.objs.size) s2) :
    wpAny (model P w) A (call (.type "set") [.ref l]) Q E s := by
  have isz : zs.length = items.size := by rw [← StrsAre.len_eq txts, Array.length_toList]
  obtain ⟨c, tl, hmro⟩ := PySem.F.called_set.mro
  have hmade := PySem.F.called_set.made
  have hsub := PySem.F.called_set.sub
  refine wpAny_call (codeAny_of_tree ?_); show wpAny _ _ (callAny (.type "set") _) _ _ _
  refine wpAny_pure ⟨Code.quiet_builtin _ (by decide +kernel), codeAny_builtin PySem.F.entry_type_call ?_⟩
  rw [Around.under_plain (weight_type_call_type "set" [.ref l] []) rfl]
  have h1 := PySem.F.called_set.notType
  have h2 := PySem.F.called_set.canCreate
  have hct := PySem.F.typeCall_set_1 (.ref l)
  repeat (any_goals (first | assumption | wp_step))
  refine codeAny_mono (code_set_led1 (.ref l) (E := E) (Q₁ := fun obj s₁ => obj = .ref s.heap.objs.size ∧ s₁ = { s with heap := s.heap.push (newSetObj w) }) ⟨rfl, rfl⟩) fun r s₁ hr => ?_
  cases r with
  | error e => exact hr
  | ok fl =>
    cases fl with
    | ret obj =>
      obtain ⟨rfl, rfl⟩ := hr
      have new : (s.heap.push (newSetObj w)).get? s.heap.objs.size = some (newSetObj w) := Heap.get?_push_size _ rfl
      have ty : Shared.TypeIs { s with heap := s.heap.push (newSetObj w) } (.ref s.heap.objs.size) "set" := ⟨_, new, rfl⟩
      have hli := PySem.F.called_set.init.lookup
      have hbi := PySem.F.called_set.init.bind (.ref s.heap.objs.size)
      repeat (any_goals (first | assumption | wp_step))
      refine codeAny_mono (codeAny_call_builtin (R := wants (fun r s₂ => r = .none ∧ SetDone P w s zs s₂) E) PySem.F.called_set.init.plain PySem.F.entry_set_init (check_set_init_1 ty ?_)) fun r₂ s₂ hr₂ => ?_
      · obtain ⟨⟨ocls, odict, odata, oslots⟩, hol, hcl, nl, hdl⟩ := tup
        simp only at hcl hdl
        subst hcl; subst hdl
        have hol' : (s.heap.push (newSetObj w)).get? l = some { cls := .type "tuple", dict := odict, data := .seq items nl, slots := oslots } := Heap.get?_push_of_some _ hol
        have hsls := PySem.F.sub_tuple_set
        have hslf := PySem.F.sub_tuple_frozenset
        have hne : (Value.type "tuple" == Value.type "dict") = false := by decide
        have tup1 : (s.heap.push (newSetObj w)).IsTuple l items := ⟨_, hol', rfl, nl, rfl⟩
        unfold Builtin.«set.__init__» noKeywords Builtin.Frozenset.updateFrom
        generalize hPI : pyIter = PI
        wp_walk
        subst hPI
        refine wpAny_pyIter_tuple tup1 (wpAny_bind (wpAny_runValue ?_))
        have below : l < s.heap.objs.size := Heap.lt_size hol
        have hh3 : A.in1.in1.in1.handled = none := by simp [hh]
        have len1 : (s.heap.push (newSetObj w)).objs.size = s.heap.objs.size + 1 := Heap.size_push ..
        have ne1 : l ≠ (s.heap.push (newSetObj w)).objs.size := by rw [len1]; exact Nat.ne_of_lt (Nat.lt_succ_of_lt below)
        have out : s.heap.objs.size ∉ [(s.heap.push (newSetObj w)).objs.size, l] := by
          rw [len1]; simp only [List.mem_cons, List.mem_singleton, List.not_mem_nil, or_false, not_or]
          exact ⟨Nat.ne_of_lt (Nat.lt_succ_self _), Nat.ne_of_gt below⟩
        refine tx_loop ((Walks.tuple hh3 _ l ne1 items).toS) out zs isz.symm room (fun i v hv => ?_) (items.size - 0) 0 _ (by omega) (Nat.zero_le _) ⟨⟨_, Heap.get?_push_size _ rfl, rfl, rfl⟩, tup1.push _⟩ ⟨[], tx_new (Heap.get?_push_of_some _ new), fun z => by simp, Nat.le_refl _⟩ fun s' l' mv T mem few => ?_
        · have hi : i < zs.length := by rw [isz]; exact (Array.getElem?_eq_some_iff.mp hv).1
          obtain ⟨t, e⟩ := SS.strs_at txts i v (by rw [Array.getElem?_toList]; exact hv)
          exact ⟨zs[i], t, List.getElem?_eq_getElem hi, by rw [e, List.getD_eq_getElem?_getD, List.getElem?_eq_getElem hi] <;> rfl⟩
        · obtain ⟨h', g2, d', tk', os'⟩ := s'
          obtain rfl : g2 = s.gens := mv.gens
          obtain rfl : d' = s.drawn := mv.drawn
          obtain rfl : os' = s.os := mv.os
          show wpAny _ _ _ _ _ _
          refine wpAny_pure ?_
          show wpAny _ _ (ret Value.none) _ _ _
          refine wpAny_pure ⟨rfl, h', tk', l', rfl, T, mem, by rw [isz]; exact few, fun b o q => mv.heap b o (fun m => ?_) (Heap.get?_push_of_some _ (Heap.get?_push_of_some _ q))⟩
          have lt := Heap.lt_size q
          rcases List.mem_cons.mp m with z | m
          · rw [z] at lt; exact Nat.lt_irrefl _ lt
          · rw [List.mem_singleton.mp m, len1] at lt; exact Nat.lt_irrefl _ (Nat.lt_of_succ_lt lt)
      · cases r₂ with
        | error e => exact hr₂
        | ok fl₂ =>
          cases fl₂ with
          | ret r =>
            obtain ⟨rfl, done⟩ := hr₂
            repeat (any_goals (first | assumption | wp_step))
            exact k _ done
          | _ => exact hr₂.elim
    | _ => exact hr.elim
end
end K1

/-! ## S3 -/
set_option Elab.async false
set_option linter.all false
set_option maxRecDepth 100000
set_option maxHeartbeats 4000000
namespace K1
open PySem PySem.Spec PyProof.Rows L2
open PySem.Froz (SD sObj TxOk addTx tailTx)
theorem perm_of_len : ∀ {l ks : List Str}, l.Nodup → (∀ z ∈ l, z ∈ ks) → ks.length ≤ l.length → l.Perm ks
  | [], ks, _, _, h => by
    have : ks = [] := List.length_eq_zero_iff.mp (Nat.le_zero.mp h)
    rw [this]
  | x :: r, ks, n, sub, h => by
    obtain ⟨n1, n2⟩ := List.nodup_cons.mp n
    have hx := sub x List.mem_cons_self
    have pm := perm_of_len (l := r) (ks := ks.erase x) n2 (fun z hz => (List.mem_erase_of_ne (fun e => n1 (by rw [← e]; exact hz))).mpr (sub z (List.mem_cons_of_mem _ hz))) (by
      rw [List.length_erase_of_mem hx]
      simp only [List.length_cons] at h
      omega)
    exact (pm.cons x).trans (List.perm_cons_erase hx).symm
section
variable {P : Program} {w : World} {A : Around} {E : Value → Shared → Prop} {s : Shared} {a : Addr} {l : List Str}
theorem texts_perm {D : SD} (F : TxOk P w D l) (nd : l.Nodup) : (∀ v ∈ D.1.toList.map (·.2), ∃ x t, v = Value.str x t) ∧ ((D.1.toList.map (·.2)).map strOf).Perm l := by
  have each : ∀ e ∈ D.1.toList, ∃ x t, e.2 = Value.str x t := fun e he => by
    obtain ⟨⟨k, hk, _⟩, _⟩ := F.el e he
    have hk' : Value.isStrOf k e.2 = true := hk
    cases h : e.2 with
    | str x t => exact ⟨x, t, rfl⟩
    | _ => rw [h] at hk'; cases hk'
  refine ⟨fun v hv => ?_, ?_⟩
  · obtain ⟨e, he, rfl⟩ := List.mem_map.mp hv
    exact each e he
  · refine (perm_of_len nd (fun z hz => ?_) ?_).symm
    · obtain ⟨e, he, is⟩ := (F.mem z).mp hz
      obtain ⟨x, t, ex⟩ := each e he
      have is' : Value.isStrOf z e.2 = true := is
      rw [ex] at is'
      have xz : x = z := by simpa [Value.isStrOf] using is'
      refine List.mem_map.mpr ⟨e.2, List.mem_map.mpr ⟨e, he, rfl⟩, ?_⟩
      rw [ex, ← xz]; rfl
    · rw [List.length_map, List.length_map, Array.length_toList, F.sz]
      exact Nat.le_refl _
/-- sorted(found): its texts, ascending -/
theorem sorted_texts {Q : Value → Shared → Prop} (T : TxSet P w s.heap a l) (hh : A.handled = none) (few : l.length < 64)
    (q : ∀ s' p (out : Array Value) (c : Nat) (ys : List Str), (∀ b o, s.heap.get? b = some o → s'.heap.get? b = some o) → s'.gens = s.gens → s'.os = s.os → s.heap.objs.size ≤ p → s'.heap.get? p = some (seqObj "list" out c) → StrsAre out.toList ys → ys.Perm l → sortedS ys = true → Q (.ref p) s') :
    wpAny (model P w) A (call (.builtin "sorted") [.ref a]) Q E s := by
  obtain ⟨D, g, F, nd, ris, led⟩ := T
  have bound : D.1.size < scanBound := by
    have := F.sz
    unfold scanBound
    omega
  obtain ⟨each, pmD⟩ := texts_perm F nd
  refine Calls.call_function_entry kind_sorted plain_sorted entry_sorted (args_sorted1 _) ?_
  unfold Builtin.«sorted»
  refine wpAny_bind (m := checkCount "sorted" 1 1 _) (wpAny_pure (wpAny_bind (collect_set (A := A.in1) hh ⟨_, g, rfl, rfl⟩ F.fit bound ris led fun s1 vs kept _ gens os pm => ?_)))
  have all : ∀ v ∈ vs, ∃ x t, v = Value.str x t := fun v hv => each v (pm.mem_iff.mp hv)
  have lenV : vs.length = l.length := by rw [pm.length_eq, List.length_map, Array.length_toList, F.sz]
  have small : vs.length ≤ sizeLine := by rw [lenV, sizeLine_eq]; omega
  have S := strsAre_map vs all
  refine wpAny_bind (wpAny_newList ?_ small)
  have new : (s1.heap.push (seqObj "list" vs.toArray 0)).get? s1.heap.objs.size = some (seqObj "list" vs.toArray 0) := Heap.get?_push_size _ rfl
  refine wpAny_bind (wpAny_holding (wpAny_call_entry slot_list_sort ⟨_, new, rfl⟩ entry_list_sort (list_sort_treeKAny strKind_oneLt new S.keysOf (fun v₁ v₂ rest e => keyKind_strs (by rw [← e]; exact S)) small fun st hp hs => ⟨_, rfl, ?_⟩) (args_list_sort _)))
  obtain ⟨ys, h1, h2, h3⟩ := sorted_out_str S hp hs
  obtain ⟨c, hc⟩ := sortedHeap_at (vs := vs) (out := (arrOf st).map (·.2)) new
  have le : s.heap.objs.size ≤ s1.heap.objs.size := by assumption
  refine wpAny_pure ⟨_, rfl, q _ s1.heap.objs.size _ c ys (fun b u e => ?_) gens os le hc h1 (h2.trans ((pm.map strOf).trans pmD)) h3⟩
  have k := kept b u e
  have lt := Heap.lt_size k
  show (sortedHeap (s1.heap.push (seqObj "list" vs.toArray 0)) s1.heap.objs.size vs ((arrOf st).map (·.2))).get? b = some u
  rw [sortedHeap_old (Nat.ne_of_lt lt) (by rw [Heap.size_push]; exact Nat.lt_succ_of_lt lt)]
  exact Heap.get?_push_of_some _ k
end
/-- the set of the texts zs at a -/
def SetS (P : Program) (w : World) (a : Addr) (zs : List Str) : HO := .ext fun h => ∃ l, TxSet P w h a l ∧ (∀ z, z ∈ l ↔ z ∈ zs) ∧ l.length ≤ zs.length
section
variable {X : Cx}
theorem cr_setS (hc : X.calm = true) : CallR X (.type "set") (fun xs H Q => ∃ (a : Addr) (zs : List Str), xs = [.ref a] ∧ SqT X.K H a (zs.map V.str) ∧ zs.length < 64 ∧ ∀ p, H p = none → Q (.ref p) (upd H p (SetS X.prog X.w p zs))) := by
  intro pins s σ H xs us Q I r h
  obtain ⟨a, zs, rfl, t, few, q⟩ := h
  obtain ⟨u, rfl, ru⟩ := vals1 r
  cases ru
  obtain ⟨its, rv, tup, _⟩ := I.tuple t
  refine call_set_texts (zs := zs) (I.ok.hd hc) (show s.heap.IsTuple a its.toArray from tup) (by simpa using rv.strs) (by unfold scanBound; omega) fun s2 done => ?_
  obtain ⟨h', tk, l, rfl, T, mem, short, kept⟩ := done
  have ok : ObjOk X.prog X.w (upd H s.heap.objs.size (SetS X.prog X.w s.heap.objs.size zs)) h' s.heap.objs.size (SetS X.prog X.w s.heap.objs.size zs) := by
    obtain ⟨D, g, _⟩ := id T
    exact ⟨⟨l, T, mem, short⟩, ⟨_, g⟩, fun h1 h2 p k => by
      obtain ⟨l', T', m, f⟩ := p
      exact ⟨l', T'.at k, m, f⟩⟩
  exact ⟨.ref _, _, I.laid (t' := tk) kept (Nat.le_refl _) ok, rfl, q _ (I.hok.fresh (Nat.le_refl _))⟩
theorem cr_sortedSS (hc : X.calm = true) : CallR X (.builtin "sorted") (fun xs H Q => ∃ (a : Addr) (zs : List Str), xs = [.ref a] ∧ H a = some (SetS X.prog X.w a zs) ∧ zs.length < 64 ∧
    ∀ (ys : List Str) p, ys.Nodup → (∀ z, z ∈ ys ↔ z ∈ zs) → sortedS ys = true → H p = none → Q (.ref p) (upd H p (.lst (ys.map V.str)))) := by
  intro pins s σ H xs us Q I r h
  obtain ⟨a, zs, rfl, ha, few, q⟩ := h
  obtain ⟨l, T, mem, short⟩ := (I.hok a _ ha).1
  rw [Vals.ref1 r]
  have nd : l.Nodup := by obtain ⟨_, _, _, n, _⟩ := T; exact n
  refine sorted_texts T (I.ok.hd hc) (by omega) fun s' p out c ys kept gens os le at_ strs_ pm st => ?_
  have small : (ys.map V.str).length ≤ sizeLine := by
    have e := pm.length_eq
    rw [List.length_map, sizeLine_eq]
    omega
  have free : H p = none := I.hok.fresh le
  have J : Inv X pins σ (upd H p (.lst (ys.map V.str))) { s with heap := s'.heap, gens := s'.gens, drawn := s'.drawn, toks := s'.toks } :=
    I.call (ch := []) (Un.laid kept le free) (I.hok.laid kept le ⟨small, out.toList, c, vals_of_strs strs_, at_⟩) (by rw [gens]; exact I.bare) (fun _ z => nomatch z)
  have e : s' = { s with heap := s'.heap, gens := s'.gens, drawn := s'.drawn, toks := s'.toks } := by
    cases s'
    cases s
    cases os
    rfl
  rw [e]
  exact ⟨.ref p, _, J, rfl, q ys p (pm.nodup_iff.mpr nd) (fun z => pm.mem_iff.trans (mem z)) st free⟩
end
end K1

/-! ## S4 -/
set_option Elab.async false
set_option linter.all false
set_option maxRecDepth 100000
set_option maxHeartbeats 4000000
namespace K1
open PySem PySem.Spec PyProof.Rows L2
/-! ### sorted(t) of a tuple of texts -/
section
variable {P : Program} {w : World} {A : Around} {E : Value → Shared → Prop} {s : Shared} {a : Addr}
theorem sorted_tupT {its : List Value} {xs : List Str} {Q : Value → Shared → Prop} (tp : s.heap.IsTuple a its.toArray) (S : StrsAre its xs) (small : its.length ≤ sizeLine)
    (q : ∀ h' p (out : Array Value) (c : Nat) (ys : List Str), (∀ b o, s.heap.get? b = some o → h'.get? b = some o) → s.heap.get? p = none → h'.get? p = some (seqObj "list" out c) → StrsAre out.toList ys → ys.Perm xs → sortedS ys = true → Q (.ref p) { s with heap := h' }) :
    wpAny (model P w) A (call (.builtin "sorted") [.ref a]) Q E s := by
  obtain ⟨o, ho, hc, n, hd⟩ := tp
  refine Calls.call_function_entry kind_sorted plain_sorted entry_sorted (args_sorted1 _) ?_
  unfold Builtin.«sorted»
  refine wpAny_bind (m := checkCount "sorted" 1 1 _) (wpAny_pure (wpAny_bind (wpAny_collect_seq (A := A.in1) a (.inr rfl) ho hc hd (fun h1 kept => ?_) (by simpa using small))))
  refine wpAny_bind (wpAny_newList ?_ (by simpa using small))
  have new : (h1.push (seqObj "list" its.toArray 0)).get? h1.objs.size = some (seqObj "list" its.toArray 0) := Heap.get?_push_size _ rfl
  have free : s.heap.get? h1.objs.size = none := by
    cases e : s.heap.get? h1.objs.size with
    | none => rfl
    | some o => exact absurd (Heap.lt_size (kept _ _ e)) (Nat.lt_irrefl _)
  refine wpAny_bind (wpAny_holding (wpAny_call_entry slot_list_sort ⟨_, new, rfl⟩ entry_list_sort (list_sort_treeKAny strKind_oneLt new S.keysOf (fun v₁ v₂ rest e => keyKind_strs (by rw [← e]; exact S)) small fun st hp hs => ⟨_, rfl, ?_⟩) (args_list_sort _)))
  obtain ⟨ys, e1, e2, e3⟩ := sorted_out_str S hp hs
  obtain ⟨c, hc2⟩ := sortedHeap_at (vs := its) (out := (arrOf st).map (·.2)) new
  refine wpAny_pure ⟨_, rfl, q _ h1.objs.size _ c ys (fun b u e => ?_) free hc2 e1 e2 e3⟩
  have k := kept b u e
  have lt := Heap.lt_size k
  show (sortedHeap (h1.push (seqObj "list" its.toArray 0)) h1.objs.size its ((arrOf st).map (·.2))).get? b = some u
  rw [sortedHeap_old (Nat.ne_of_lt lt) (by rw [Heap.size_push]; exact Nat.lt_succ_of_lt lt)]
  exact Heap.get?_push_of_some _ k
end
section
variable {X : Cx}
theorem cr_sortedTS : CallR X (.builtin "sorted") (fun xs H Q => ∃ (a : Addr) (zs : List Str), xs = [.ref a] ∧ SqT X.K H a (zs.map V.str) ∧ ∀ (ys : List Str) p, ys.Perm zs → sortedS ys = true → H p = none → Q (.ref p) (upd H p (.lst (ys.map V.str)))) := by
  intro pins s σ H xs us Q I r h
  obtain ⟨a, zs, rfl, t, q⟩ := h
  obtain ⟨u, rfl, ru⟩ := vals1 r
  cases ru
  obtain ⟨its, rv, tup, small⟩ := I.tuple t
  refine sorted_tupT (show s.heap.IsTuple a its.toArray from tup) rv.strs (by rw [← rv.length]; exact small) fun h' p out c ys kept free at_ txts pm st => ?_
  have gone := I.hok.gone free
  have few : (ys.map V.str).length ≤ sizeLine := by
    rw [List.length_map] at small ⊢
    rw [pm.length_eq]; exact small
  exact ⟨.ref p, upd H p (.lst (ys.map V.str)), I.laidN (t' := s.toks) kept free gone ⟨few, out.toList, c, vals_of_strs txts, at_⟩, rfl, q ys p pm st gone⟩
end
end K1

/-! ## B30_6 -/
set_option Elab.async false
set_option linter.all false
set_option maxRecDepth 100000
set_option maxHeartbeats 4000000
namespace B30_
open PySem PySem.Spec PyProof.Rows L2
/-! ### facts of ascending texts, as in k01 -/
theorem asc_tail {z : Str} {zs : List Str} (h : ascB (z :: zs) = true) : ascB zs = true := by
  cases zs with
  | nil => rfl
  | cons y r =>
    unfold ascB at h ⊢
    simp only [List.drop_succ_cons, List.drop_zero, List.zip_cons_cons, List.all_cons, Bool.and_eq_true] at h
    exact h.2
theorem asc_pair : ∀ {zs : List Str}, ascB zs = true → zs.Pairwise fun a b => a.cps.toList < b.cps.toList
  | [], _ => List.Pairwise.nil
  | [z], _ => List.pairwise_singleton _ _
  | z :: y :: r, h => by
    have ih := asc_pair (asc_tail h)
    have h1 : z.cps.toList < y.cps.toList := by
      unfold ascB at h
      simp only [List.drop_succ_cons, List.drop_zero, List.zip_cons_cons, List.all_cons, Bool.and_eq_true] at h
      exact of_decide_eq_true h.1
    refine List.pairwise_cons.mpr ⟨fun b hb => ?_, ih⟩
    rcases List.mem_cons.mp hb with rfl | hb
    · exact h1
    · exact List.lt_trans h1 ((List.pairwise_cons.mp ih).1 b hb)
theorem asc_nodup {zs : List Str} (h : ascB zs = true) : zs.Nodup := by
  refine List.Pairwise.imp (fun {a b} hab e => ?_) (asc_pair h)
  subst e
  exact List.lt_irrefl _ hab
theorem parts_some {K : PySem.W.Frag} {H : Hp} : ∀ {zs : List Str}, (∀ z ∈ zs, z.length ≤ sizeLine) → Paired (PartOk K H) (zs.map V.str) (zs.map some)
  | [], _ => .nil
  | z :: r, h => .cons (.inl ⟨z, rfl, h z List.mem_cons_self, rfl⟩) (parts_some fun y hy => h y (List.mem_cons_of_mem _ hy))
theorem rising_pair : ∀ (p : Str) (ys : List Str), risingS p ys = true → (p :: ys).Pairwise fun a b => ¬ b.cps.toList < a.cps.toList
  | p, [], _ => List.pairwise_singleton _ _
  | p, x :: r, h => by
    have h' : (!ltCps x.cps.toList p.cps.toList && risingS x r) = true := h
    rw [Bool.and_eq_true, ltCps_eq] at h'
    have ih := rising_pair x r h'.2
    have h1 : ¬ x.cps.toList < p.cps.toList := by simpa using h'.1
    refine List.pairwise_cons.mpr ⟨fun b hb => ?_, ih⟩
    rcases List.mem_cons.mp hb with rfl | hb
    · exact h1
    · have h2 := (List.pairwise_cons.mp ih).1 b hb
      exact List.not_lt.mpr (List.le_trans (List.not_lt.mp h1) (List.not_lt.mp h2))
theorem sorted_pair {ys : List Str} (h : sortedS ys = true) : ys.Pairwise fun a b => ¬ b.cps.toList < a.cps.toList := by
  cases ys with
  | nil => exact List.Pairwise.nil
  | cons p r => exact rising_pair p r h
theorem cps_ext {a b : Str} (h : a.cps.toList = b.cps.toList) : a = b := by
  cases a; cases b
  congr 1
  exact Array.toList_inj.mp h
theorem sorted_lt {ys : List Str} (h : sortedS ys = true) (n : ys.Nodup) : ys.Pairwise fun a b => a.cps.toList < b.cps.toList := by
  refine (List.Pairwise.and (sorted_pair h) n).imp fun {a b} ⟨h1, h2⟩ => ?_
  by_cases q : a.cps.toList < b.cps.toList
  · exact q
  · exact absurd (cps_ext (List.le_antisymm (List.not_lt.mp h1) (List.not_lt.mp q))) h2
theorem pair_asc : ∀ {zs : List Str}, (zs.Pairwise fun a b => a.cps.toList < b.cps.toList) → ascB zs = true
  | [], _ => rfl
  | [_], _ => rfl
  | z :: y :: r, h => by
    have ih := pair_asc (List.pairwise_cons.mp h).2
    unfold ascB at ih ⊢
    simp only [List.drop_succ_cons, List.drop_zero, List.zip_cons_cons, List.all_cons, Bool.and_eq_true]
    exact ⟨decide_eq_true ((List.pairwise_cons.mp h).1 y List.mem_cons_self), ih⟩

/-! ### _is_choice -/
def choiceB (os : List (Option Str)) : Bool := os.all nameO && decide (os.filterMap id).Nodup
theorem asc_of_sorted {ys : List Str} (h : sortedS ys = true) : ascB ys = decide ys.Nodup := by
  by_cases n : ys.Nodup
  · rw [decide_eq_true n]; exact pair_asc (sorted_lt h n)
  · rw [decide_eq_false n]
    cases e : ascB ys with
    | false => rfl
    | true => exact absurd (asc_nodup e) n
abbrev s_choice : Stmt := topS 24
abbrev N_choice : List Str := ["value", "part"]
theorem sc_choice : FnScope N_choice ["value"] (defScope s_choice) := ⟨rfl, rfl, rfl, by decide +kernel, rfl, by decide +kernel, by decide +kernel⟩
def spChoice (K : PySem.W.Frag) : Sp := fun vs H Q _ => ∃ (x : V) (b : Bool), vs = [x] ∧ ((IsTy K H x "tuple" false ∧ b = false) ∨ (∃ a xs os, x = .ref a ∧ H a = some (.tup xs) ∧ xs.length ≤ 1000 ∧ Paired (PartOk K H) xs os ∧ b = choiceB os)) ∧ ∀ H', Same H H' → Q (.bl b) H'
section
variable {P : Program} {w : World} {K : PySem.W.Frag} {mg : Str → Option Value} {base : Heap}
theorem ok_choice {f : Addr} {fd : FuncData} (F : Fun K "_is_choice" "_is_choice" s_choice f fd) (T : Names2 mg) (hsorted : mg "sorted" = none) (C1 : Callee P w K mg base CX0 1 "is_name" ["value"] (spName K)) (C2 : Callee P w K mg base CX0 2 "is_columns" ["value"] (spCols K)) : FnOk P w K mg base CX0 3 f fd ["value"] (spChoice K) := by
  have nd := sc_choice.nd
  refine F.ok sc_choice (fun vs H Q E h => ?_) (fun cdv A outer s H vs Q E hr h => ?_)
  · obtain ⟨x, b, rfl, _⟩ := h
    rfl
  · obtain ⟨x, b, rfl, hx, k⟩ := h
    have hr1 : Room 1 _ := hr.mono (by decide)
    refine ⟨_, (pss_cons
    (ps_if (PW.pt (pw_or (pt_not (pt_val (pe_callB call_isi (by rfl) T.isinstance (by decide +kernel) (pa_cons (pv 0) (pa_cons (pe_bltn (v := .ty "tuple") (by rfl) T.tuple (by decide +kernel) rfl) pa_nil))))) (pw_or1 (pt_not (pt_val (pe_callB (cr_all rfl) (by rfl) T.all (by decide +kernel) (pa_cons (pe_lc (own := [("part", 1)]) (g := (gName 1)) rfl nd (pi_tup (pv 0)) (blkOk_by (N := N_choice) (sc := defScope s_choice) (by decide +kernel)) (fun _ _ _ _ _ => (pg_name (i := 1) nd rfl (Or.inl rfl))) (fun _ _ _ _ _ => pts_nil) (fun _ _ _ _ _ => (pe_use C1 hr1 rfl pass0 (pa_cons (pv 1) pa_nil)))) pa_nil))))))) (pss_one
      (ps_ret pe_bl)) pss_nil)
    (pss_one
    (ps_ret (pe_use C2 hr rfl pass0 (pa_cons (pe_callTy call_tuple_of (by rfl) T.tuple (by decide +kernel) (pa_cons (pe_callB K1.cr_sortedTS (by rfl) hsorted (by decide +kernel) (pa_cons (pv 0) pa_nil)) pa_nil)) pa_nil))))), ?_⟩
    rcases hx with ⟨⟨t, ty, e⟩, rfl⟩ | ⟨a, xs, os, rfl, ha, hlen, hp, eb⟩
    · exact ⟨_, rfl, _, _, t, _, false, rfl, .ty _, ty, e, _, rfl, iteT (iteT (k H (Same.refl H)))⟩
    · refine ⟨_, rfl, _, _, _, _, true, rfl, .ty _, .base (.tup ha), kit_ty (by decide +kernel), _, rfl, iteF ?_⟩
      refine ⟨_, rfl, a, rfl, ⟨_, SqT.of ha⟩, fun D hD => ?_⟩
      refine lc_acc walk_tup (fun i => ((os.take i).map fun o => V.bl (nameO o))) rfl hD (fun i hi => ?_) (fun H1 s1 => SqT.of (s1 _ _ ha)) (fun i x H1 H2 N hi s1 y keep skip => ?_) (fun H1 s1 hL => ?_)
      · have : (1000 : Nat) < sizeLine := by decide
        rw [List.length_map, List.length_take]; omega
      · obtain ⟨rfl, hx⟩ := y
        obtain ⟨o, ho, po⟩ := paired_get hp hx
        refine ⟨rfl, _, rfl, x, nameO o, rfl, ?_, fun H3 s3 => keep _ _ s3 ?_⟩
        · rcases po.same s1 with ⟨z, rfl, hz, rfl⟩ | ⟨ht, rfl⟩
          · exact .inl ⟨z, rfl, hz, rfl⟩
          · exact .inr ⟨ht, rfl⟩
        · rw [take_snoc ho, List.map_append]; rfl
      · refine ⟨D, os.map nameO, rfl, SqL.of ?_, _, rfl, ?_⟩
        · rw [hL, List.take_of_length_le (by rw [← hp.length]; exact Nat.le_refl _), List.map_map]; rfl
        · cases ea : (os.map nameO).all id with
          | false =>
            have e : b = false := by
              rw [eb]; unfold choiceB
              rw [List.all_map] at ea
              rw [show os.all nameO = false from ea, Bool.false_and]
            subst e
            exact k H1 s1
          | true =>
            have en : os.all nameO = true := by rw [List.all_map] at ea; exact ea
            obtain ⟨zs, rfl, rfl⟩ := parts_strs hp en
            have short : ∀ z ∈ zs, z.length ≤ sizeLine := fun z hz => by
              have nz : nameB z = true := by
                rw [List.all_map, List.all_eq_true] at en
                exact en z hz
              unfold nameB at nz
              simp only [Bool.and_eq_true, decide_eq_true_eq] at nz
              exact Nat.le_trans nz.1.2 (by decide)
            rw [List.length_map] at hlen
            refine ⟨_, rfl, a, zs, rfl, SqT.of (s1 _ _ ha), fun ys p pm st hp0 => ?_⟩
            refine ⟨p, _, rfl, .inl ⟨SqL.of upd_same, fun q hq => ?_⟩⟩
            have sy : ∀ z ∈ ys, z.length ≤ sizeLine := fun z hz => short z (pm.mem_iff.mp hz)
            have len : (ys.map V.str).length ≤ 1000 := by rw [List.length_map, pm.length_eq]; exact hlen
            have eq : b = colsB (ys.map some) := by
              rw [eb]
              unfold choiceB colsB
              have all2 : (ys.map some).all nameO = true := by
                rw [List.all_map, List.all_eq_true] at en ⊢
                exact fun z hz => en z (pm.mem_iff.mp hz)
              rw [en, all2, Bool.true_and, Bool.true_and, List.filterMap_map, List.filterMap_map]
              have idy : ∀ l : List Str, List.filterMap (id ∘ some) l = l := fun l => List.filterMap_some
              rw [idy, idy, asc_of_sorted st]
              exact decide_eq_decide.mpr pm.nodup_iff.symm
            refine ⟨.ref q, b, rfl, .inr ⟨q, _, _, rfl, upd_same, len, parts_some sy, eq⟩, fun H3 s3 => k H3 (s1.trans ((Same.new (Same.new (Same.refl _) hp0) hq).trans s3))⟩
end
end B30_

/-! ## B30_7 -/
set_option Elab.async false
set_option linter.all false
set_option maxRecDepth 100000
set_option maxHeartbeats 4000000
namespace B30_
open PySem PySem.Spec PyProof.Rows L2
theorem in_texts (z : Str) (xs : List Str) : inV (.str z) (xs.map V.str) = decide (z ∈ xs) := by
  unfold inV
  induction xs with
  | nil => rfl
  | cons x r ih =>
    rw [List.map_cons, List.any_cons, ih]
    have e : eqV (.str x) (.str z) = (x == z) := rfl
    rw [e]
    by_cases h : x = z
    · subst h; simp
    · have h2 : (x == z) = false := by simpa using h
      have h3 : ¬ z = x := fun q => h q.symm
      rw [h2, Bool.false_or]
      simp [h3]
theorem flat_texts (xs : List Str) : (xs.map V.str).all flatV = true := by
  rw [List.all_map, List.all_eq_true]; exact fun _ _ => rfl
/-! ### _is_key -/
def keyB (cs : List Str) (os : List (Option Str)) : Bool := choiceB os && (os.filterMap id).all fun z => decide (z ∈ cs)
abbrev s_key : Stmt := topS 25
abbrev N_key : List Str := ["value", "columns", "column"]
theorem sc_key : FnScope N_key ["value", "columns"] (defScope s_key) := ⟨rfl, rfl, rfl, by decide +kernel, rfl, by decide +kernel, by decide +kernel⟩
def spKey (K : PySem.W.Frag) : Sp := fun vs H Q _ => ∃ (x : V) (c : Addr) (cs : List Str) (b : Bool), vs = [x, .ref c] ∧ H c = some (.tup (cs.map V.str)) ∧
  ((IsTy K H x "tuple" false ∧ b = false) ∨ (∃ a xs os, x = .ref a ∧ H a = some (.tup xs) ∧ xs.length ≤ 1000 ∧ Paired (PartOk K H) xs os ∧ b = keyB cs os)) ∧ ∀ H', Same H H' → Q (.bl b) H'
section
variable {P : Program} {w : World} {K : PySem.W.Frag} {mg : Str → Option Value} {base : Heap}
theorem ok_key {f : Addr} {fd : FuncData} (F : Fun K "_is_key" "_is_key" s_key f fd) (T : Names2 mg) (C3 : Callee P w K mg base CX0 3 "_is_choice" ["value"] (spChoice K)) : FnOk P w K mg base CX0 4 f fd ["value", "columns"] (spKey K) := by
  have nd := sc_key.nd
  refine F.ok sc_key (fun vs H Q E h => ?_) (fun cdv A outer s H vs Q E hr h => ?_)
  · obtain ⟨x, c, cs, b, rfl, _⟩ := h
    rfl
  · obtain ⟨x, c, cs, b, rfl, hc, hx, k⟩ := h
    refine ⟨_, (pss_one
    (ps_ret (pe_and (pe_use C3 hr rfl pass0 (pa_cons (pv 0) pa_nil)) (pe_one (pe_callB (cr_all rfl) (by rfl) T.all (by decide +kernel) (pa_cons (pe_lc (own := [("column", 2)]) (g := (gName 2)) rfl nd (pi_tup (pv 0)) (blkOk_by (N := N_key) (sc := defScope s_key) (by decide +kernel)) (fun _ _ _ _ _ => (pg_name (i := 2) nd rfl (Or.inl rfl))) (fun _ _ _ _ _ => pts_nil) (fun _ _ _ _ _ => (pe_cmpR (r := rIn K false) op_in_seq (pv 2) (pv 1) rfl))) pa_nil)))))), ?_⟩
    rcases hx with ⟨ht, rfl⟩ | ⟨a, xs, os, rfl, ha, hlen, hp, eb⟩
    · exact ⟨_, rfl, x, false, rfl, .inl ⟨ht, rfl⟩, fun H1 s1 => ⟨_, rfl, k H1 s1⟩⟩
    · refine ⟨_, rfl, .ref a, choiceB os, rfl, .inr ⟨a, xs, os, rfl, ha, hlen, hp, rfl⟩, fun H1 s1 => ⟨_, rfl, ?_⟩⟩
      cases ec : choiceB os with
      | false =>
        have e : b = false := by rw [eb]; unfold keyB; rw [ec, Bool.false_and]
        subst e
        exact k H1 s1
      | true =>
        have en : os.all nameO = true := by
          unfold choiceB at ec
          rw [Bool.and_eq_true] at ec
          exact ec.1
        obtain ⟨zs, rfl, rfl⟩ := parts_strs hp en
        have ha1 := s1 _ _ ha
        have hc1 := s1 _ _ hc
        refine ⟨_, rfl, a, rfl, ⟨_, SqT.of ha1⟩, fun D hD => ?_⟩
        refine lc_acc walk_tup (fun i => ((zs.take i).map fun z => V.bl (decide (z ∈ cs)))) rfl hD (fun i hi => ?_) (fun H2 s2 => SqT.of (s2 _ _ ha1)) (fun i x H2 H3 N hi s2 y keep skip => ?_) (fun H2 s2 hL => ?_)
        · have : (1000 : Nat) < sizeLine := by decide
          rw [List.length_map] at hlen hi
          rw [List.length_map, List.length_take]; omega
        · obtain ⟨rfl, hx⟩ := y
          rw [List.getElem?_map] at hx
          obtain ⟨z, ez, rfl⟩ := Option.map_eq_some_iff.mp hx
          refine ⟨rfl, _, rfl, _, rfl, c, _, rfl, .inr (SqT.of (s2 _ _ hc1)), rfl, flat_texts cs, keep _ _ (Same.refl _) ?_⟩
          rw [take_snoc ez, List.map_append]
          show _ ++ [V.bl (decide (z ∈ cs))] = _ ++ [V.bl (inV (.str z) (cs.map V.str))]
          rw [in_texts]
        · refine ⟨D, zs.map fun z => decide (z ∈ cs), rfl, SqL.of ?_, ?_⟩
          · rw [hL, List.length_map, List.take_length, List.map_map]; rfl
          · have e : ((zs.map fun z => decide (z ∈ cs)).all id) = b := by
              rw [eb]; unfold keyB
              rw [ec, Bool.true_and, List.filterMap_map, show List.filterMap (id ∘ some) zs = zs from List.filterMap_some, List.all_map]
              rfl
            rw [e]
            exact k H2 (s1.trans s2)
end
end B30_

/-! ## B30_8 -/
set_option Elab.async false
set_option linter.all false
set_option maxRecDepth 100000
set_option maxHeartbeats 4000000
namespace B30_
open PySem PySem.Spec PyProof.Rows L2
/-! ### texts in order -/
def leT (a b : Str) : Bool := !ltCps b.cps.toList a.cps.toList
def srtd (zs : List Str) : List Str := zs.mergeSort leT
theorem leT_iff {a b : Str} : leT a b = true ↔ ¬ b.cps.toList < a.cps.toList := by
  unfold leT; rw [ltCps_eq]; simp
theorem leT_trans (a b c : Str) (h1 : leT a b = true) (h2 : leT b c = true) : leT a c = true := by
  rw [leT_iff] at *
  exact List.not_lt.mpr (List.le_trans (List.not_lt.mp h1) (List.not_lt.mp h2))
theorem leT_total (a b : Str) : (leT a b || leT b a) = true := by
  rw [Bool.or_eq_true, leT_iff, leT_iff]
  rcases List.le_total b.cps.toList a.cps.toList with h | h
  · exact .inr (List.not_lt.mpr h)
  · exact .inl (List.not_lt.mpr h)
theorem leT_anti {a b : Str} (h1 : leT a b = true) (h2 : leT b a = true) : a = b := by
  rw [leT_iff] at h1 h2
  exact cps_ext (List.le_antisymm (List.not_lt.mp h1) (List.not_lt.mp h2))
theorem srtd_perm (zs : List Str) : (srtd zs).Perm zs := List.mergeSort_perm zs leT
theorem srtd_pair (zs : List Str) : (srtd zs).Pairwise fun a b => leT a b = true := List.pairwise_mergeSort leT_trans leT_total zs
theorem srtd_of {ys zs : List Str} (p : ys.Perm zs) (s : sortedS ys = true) : ys = srtd zs := by
  refine List.Perm.eq_of_pairwise (le := fun a b => leT a b = true) (fun a b _ _ h1 h2 => leT_anti h1 h2) ?_ (srtd_pair zs) (p.trans (srtd_perm zs).symm)
  exact (sorted_pair s).imp fun {a b} h => leT_iff.mpr h
theorem srtd_congr {ys zs : List Str} (p : ys.Perm zs) : srtd ys = srtd zs :=
  List.Perm.eq_of_pairwise (le := fun a b => leT a b = true) (fun a b _ _ h1 h2 => leT_anti h1 h2) (srtd_pair ys) (srtd_pair zs) (((srtd_perm ys).trans p).trans (srtd_perm zs).symm)
theorem srtd_idem (zs : List Str) : srtd (srtd zs) = srtd zs := srtd_congr (srtd_perm zs)
theorem mem_srtd {z : Str} {zs : List Str} : z ∈ srtd zs ↔ z ∈ zs := (srtd_perm zs).mem_iff
theorem srtd_len (zs : List Str) : (srtd zs).length = zs.length := (srtd_perm zs).length_eq
theorem srtd_lt {zs : List Str} (n : zs.Nodup) : (srtd zs).Pairwise fun a b => a.cps.toList < b.cps.toList := by
  have n' : (srtd zs).Nodup := (srtd_perm zs).nodup_iff.mpr n
  refine (List.Pairwise.and (srtd_pair zs) n').imp fun {a b} ⟨h1, h2⟩ => ?_
  by_cases q : a.cps.toList < b.cps.toList
  · exact q
  · exact absurd (cps_ext (List.le_antisymm (List.not_lt.mp (leT_iff.mp h1)) (List.not_lt.mp q))) h2
theorem srtd_asc {zs : List Str} (h : zs.Pairwise fun a b => a.cps.toList < b.cps.toList) : srtd zs = zs :=
  List.Perm.eq_of_pairwise (le := fun a b => leT a b = true) (fun a b _ _ h1 h2 => leT_anti h1 h2) (srtd_pair zs) (h.imp fun {a b} q => leT_iff.mpr (List.not_lt.mpr (List.le_of_lt q))) (srtd_perm zs)
/-! ### lines -/
/-- how a table is: it changes, it is fixed, it has a key -/
inductive Kd where
  | chg | fix
  | key (ks : List Str)
structure Ln where
  t : Str
  cs : List Str
  k : Kd
def KdAt (H : Hp) (v : V) : Kd → Prop
  | .chg => v = .str "changing"
  | .fix => v = .non
  | .key ks => ∃ q, v = .ref q ∧ H q = some (.tup (ks.map V.str))
def LnAt (H : Hp) (v : V) (l : Ln) : Prop := ∃ p c kv, v = .ref p ∧ H p = some (.tup [.str l.t, .ref c, kv]) ∧ H c = some (.tup (l.cs.map V.str)) ∧ KdAt H kv l.k
theorem KdAt.same {H H' : Hp} {v : V} {k : Kd} (h : KdAt H v k) (s : Same H H') : KdAt H' v k := by
  cases k with
  | chg => exact h
  | fix => exact h
  | key ks => exact h.imp fun q e => ⟨e.1, s _ _ e.2⟩
theorem LnAt.same {H H' : Hp} {v : V} {l : Ln} (h : LnAt H v l) (s : Same H H') : LnAt H' v l := by
  obtain ⟨p, c, kv, e, h1, h2, h3⟩ := h
  exact ⟨p, c, kv, e, s _ _ h1, s _ _ h2, h3.same s⟩
def Kd.Ok (cs : List Str) : Kd → Prop
  | .key ks => (∀ z ∈ ks, nameB z = true) ∧ ks.Nodup ∧ ∀ z ∈ ks, z ∈ cs
  | _ => True
structure Ln.Ok (l : Ln) : Prop where
  name : nameB l.t = true
  cols : ∀ z ∈ l.cs, nameB z = true
  nd : l.cs.Nodup
  few : l.cs.length ≤ 4
  key : l.k.Ok l.cs
def Kd.srt : Kd → Kd
  | .key ks => .key (srtd ks)
  | k => k
def Ln.srt (l : Ln) : Ln := ⟨l.t, srtd l.cs, l.k.srt⟩
theorem name_len {z : Str} (h : nameB z = true) : z.length ≤ 8 := by
  unfold nameB at h
  simp only [Bool.and_eq_true, decide_eq_true_eq] at h
  exact h.1.2
theorem name_size {z : Str} (h : nameB z = true) : z.length ≤ sizeLine := Nat.le_trans (name_len h) (by decide)
theorem name_strOk {z : Str} (h : nameB z = true) : PyData.strOk z = true := by
  unfold nameB at h
  simp only [Bool.and_eq_true, decide_eq_true_eq, List.all_eq_true] at h
  unfold PyData.strOk
  rw [Array.all_eq_true_iff_forall_mem]
  intro c hc
  have := (h.2 c (Array.mem_toList_iff.mpr hc)).2
  exact decide_eq_true (by omega)
theorem nameO_all {zs : List Str} (h : ∀ z ∈ zs, nameB z = true) : (zs.map some).all nameO = true := by
  rw [List.all_map, List.all_eq_true]
  exact h
theorem choice_ok {zs : List Str} (h : ∀ z ∈ zs, nameB z = true) (n : zs.Nodup) : choiceB (zs.map some) = true := by
  unfold choiceB
  rw [nameO_all h, Bool.true_and, List.filterMap_map, show List.filterMap (id ∘ some) zs = zs from List.filterMap_some]
  exact decide_eq_true n
theorem key_ok {cs ks : List Str} (h : Kd.Ok cs (.key ks)) : keyB cs (ks.map some) = true := by
  unfold keyB
  rw [choice_ok h.1 h.2.1, Bool.true_and, List.filterMap_map, show List.filterMap (id ∘ some) ks = ks from List.filterMap_some, List.all_eq_true]
  exact fun z hz => decide_eq_true (h.2.2 z hz)
theorem Ln.Ok.srt {l : Ln} (h : l.Ok) : l.srt.Ok := by
  refine ⟨h.name, fun z hz => h.cols z (mem_srtd.mp hz), (srtd_perm _).nodup_iff.mpr h.nd, by show (srtd l.cs).length ≤ 4; rw [srtd_len]; exact h.few, ?_⟩
  have hk := h.key
  unfold Ln.srt
  cases e : l.k with
  | chg => trivial
  | fix => trivial
  | key ks =>
    rw [e] at hk
    exact ⟨fun z hz => hk.1 z (mem_srtd.mp hz), (srtd_perm _).nodup_iff.mpr hk.2.1, fun z hz => mem_srtd.mpr (hk.2.2 z (mem_srtd.mp hz))⟩
theorem Ln.srt_srt (l : Ln) : l.srt.srt = l.srt := by
  unfold Ln.srt
  cases l.k <;> simp [Kd.srt, srtd_idem]
theorem shaped_tup (xs : List Str) (h : ∀ x ∈ xs, PyData.strOk x = true) : SeqAt.shaped (.tuple (xs.map PyData.str)) = true := by
  unfold SeqAt.shaped
  have h1 : PyData.canLay0 (.tuple (xs.map PyData.str)) = true := canLay_strs xs h
  have h2 : PyData.depth (.tuple (xs.map PyData.str)) = 1 := by
    show PyData.depthAll (xs.map PyData.str) + 1 = 1
    rw [depth_strs]
  rw [h1, h2]; rfl
/-! ### _checked_line, of a good line -/
abbrev s_cl : Stmt := topS 23
abbrev N_cl : List Str := ["line", "table", "columns", "key"]
theorem sc_cl : FnScope N_cl ["line"] (defScope s_cl) := ⟨rfl, rfl, rfl, by decide +kernel, rfl, by decide +kernel, by decide +kernel⟩
def spCL : Sp := fun vs H Q _ => ∃ (v : V) (l : Ln), vs = [v] ∧ LnAt H v l ∧ l.Ok ∧ ∀ r H', Same H H' → LnAt H' r l.srt → Q r H'
/-- the globals of the scenes' text -/
structure NamesS (mg : Str → Option Value) : Prop extends Names2 mg where
  sorted : mg "sorted" = none
  set : mg "set" = none
  dict : mg "dict" = none
  mtab : ∃ t, mg "MAX_TABLES" = some (.int 6 t)
  mcol : ∃ t, mg "MAX_COLUMNS" = some (.int 6 t)
  most : ∃ t, mg "MOST_COLUMNS" = some (.int 4 t)
  chg : ∃ t, mg "CHANGING" = some (.str "changing" t)
section
variable {P : Program} {w : World} {K : PySem.W.Frag} {mg : Str → Option Value} {base : Heap}
theorem ok_cl {f : Addr} {fd : FuncData} (F : Fun K "_checked_line" "_checked_line" s_cl f fd) (T : NamesS mg) (C1 : Callee P w K mg base CX0 1 "is_name" ["value"] (spName K)) (C3 : Callee P w K mg base CX0 3 "_is_choice" ["value"] (spChoice K)) (C4 : Callee P w K mg base CX0 4 "_is_key" ["value", "columns"] (spKey K)) : FnOk P w K mg base CX0 5 f fd ["line"] spCL := by
  have nd := sc_cl.nd
  refine F.ok sc_cl (fun vs H Q E h => ?_) (fun cdv A outer s H vs Q E hr h => ?_)
  · obtain ⟨v, l, rfl, _⟩ := h
    rfl
  · obtain ⟨v, l, rfl, ⟨p, c, kv, rfl, hp, hc, hk⟩, ok, k⟩ := h
    have hr1 : Room 1 _ := hr.mono (by decide)
    have hr3 : Room 3 _ := hr.mono (by decide)
    obtain ⟨tm, hmost⟩ := T.most
    obtain ⟨tc, hchg⟩ := T.chg
    have hu64 : (A.deeper (envOfC "_checked_line" (defScope s_cl) s.heap.objs.size f cdv)).units + 64 < cLine := by have := hr.un; omega
    refine ⟨_, (pss_cons
    (ps_if (PW.pt (pw_or (pt_not (pt_val (pe_callB call_isi (by rfl) T.isinstance (by decide +kernel) (pa_cons (pv 0) (pa_cons (pe_bltn (v := .ty "tuple") (by rfl) T.tuple (by decide +kernel) rfl) pa_nil))))) (pw_or1 (pt_cmpR op_ne (pe_callB call_len_seq (by rfl) T.len (by decide +kernel) (pa_cons (pv 0) pa_nil)) pe_int (nomark _))))) (pss_one ps_never) pss_nil)
    (pss_cons
    (ps_asg (pv 0) (pg_tup rfl (pgs_cons (pg_name (i := 1) nd rfl (Or.inl rfl)) (pgs_cons (pg_name (i := 2) nd rfl (Or.inl rfl)) (pgs_cons (pg_name (i := 3) nd rfl (Or.inl rfl)) pgs_nil)))))
    (pss_cons
    (ps_if (pt_not (pt_val (pe_use C1 hr1 rfl pass0 (pa_cons (pv 1) pa_nil)))) (pss_one ps_never) pss_nil)
    (pss_cons
    (ps_if (PW.pt (pw_or (pt_not (pt_val (pe_use C3 hr3 rfl pass0 (pa_cons (pv 2) pa_nil)))) (pw_or1 (pt_cmpR op_gt (pe_callB call_len_seq (by rfl) T.len (by decide +kernel) (pa_cons (pv 2) pa_nil)) (pe_glob (v := .int 4) rfl hmost ⟨_, rfl⟩) (nomark _))))) (pss_one ps_never) pss_nil)
    (pss_cons
    (ps_if (PW.pt (pw_or (pt_cmpR op_isN (pv 3) pe_non (nomark _)) (pw_or1 (pt_cmpR (op_eqD hu64) (pv 3) (pe_glob (v := .str "changing") rfl hchg ⟨_, rfl⟩) (nomark _))))) (pss_one
      (ps_ret (pe_tup (pa_cons (pv 1) (pa_cons (pe_callTy call_tuple_of (by rfl) T.tuple (by decide +kernel) (pa_cons (pe_callB K1.cr_sortedTS (by rfl) T.sorted (by decide +kernel) (pa_cons (pv 2) pa_nil)) pa_nil)) (pa_cons (pv 3) pa_nil)))))) pss_nil)
    (pss_cons
    (ps_if (pt_not (pt_val (pe_use C4 hr rfl pass0 (pa_cons (pv 3) (pa_cons (pv 2) pa_nil))))) (pss_one ps_never) pss_nil)
    (pss_one
    (ps_ret (pe_tup (pa_cons (pv 1) (pa_cons (pe_callTy call_tuple_of (by rfl) T.tuple (by decide +kernel) (pa_cons (pe_callB K1.cr_sortedTS (by rfl) T.sorted (by decide +kernel) (pa_cons (pv 2) pa_nil)) pa_nil)) (pa_cons (pe_callTy call_tuple_of (by rfl) T.tuple (by decide +kernel) (pa_cons (pe_callB K1.cr_sortedTS (by rfl) T.sorted (by decide +kernel) (pa_cons (pv 3) pa_nil)) pa_nil)) pa_nil)))))))))))), ?_⟩
    refine ⟨_, rfl, _, _, _, _, true, rfl, .ty _, .base (.tup hp), kit_ty (by decide +kernel), _, rfl, iteF ?_⟩
    refine ⟨_, rfl, p, _, rfl, .inr (SqT.of hp), rfl, _, rfl, iteF ?_⟩
    refine ⟨_, rfl, p, _, rfl, SqT.of hp, rfl, _, _, rfl, _, _, rfl, _, _, rfl, rfl, ?_⟩
    refine ⟨_, rfl, .str l.t, true, rfl, .inl ⟨_, rfl, name_size ok.name, ok.name.symm⟩, fun H1 s1 => ⟨_, rfl, iteF ?_⟩⟩
    have hc1 := s1 _ _ hc
    have hk1 := hk.same s1
    refine ⟨_, rfl, .ref c, true, rfl, .inr ⟨c, _, _, rfl, hc1, by rw [List.length_map]; have := ok.few; omega, parts_some fun z hz => name_size (ok.cols z hz), (choice_ok ok.cols ok.nd).symm⟩, fun H2 s2 => ⟨_, rfl, iteF ?_⟩⟩
    have hc2 := s2 _ _ hc1
    have hk2 := hk1.same s2
    refine ⟨_, rfl, c, _, rfl, .inr (SqT.of hc2), _, _, rfl, rfl, _, rfl, ?_⟩
    have few : decide ((((l.cs.map V.str).length : Nat) : Int) > 4) = false := decide_eq_false (by rw [List.length_map]; have := ok.few; omega)
    rw [few]
    refine iteF ?_
    have s12 : Same H H2 := s1.trans s2
    have tail : ∀ (kv' : V) (H3 : Hp), Same H2 H3 → KdAt H3 kv' l.k.srt → ∀ c2, H3 c2 = some (.tup ((srtd l.cs).map V.str)) → ∀ q, H3 q = none → Q (.ref q) (upd H3 q (.tup [.str l.t, .ref c2, kv'])) := fun kv' H3 s3 hk3 c2 h3 q hq =>
      k _ _ (Same.new (s12.trans s3) hq) ⟨q, c2, kv', rfl, upd_same, by rw [upd_ne (ne_of_none h3 hq)]; exact h3, hk3.same (Same.new (Same.refl _) hq)⟩
    cases e : l.k with
    | fix =>
      rw [e] at hk2 tail
      obtain rfl : kv = .non := hk2
      refine ⟨_, rfl, rfl, _, rfl, ?_⟩
      rw [decide_eq_true rfl]
      refine iteT (iteT ⟨_, rfl, ?_⟩)
      refine ⟨_, rfl, c, l.cs, rfl, SqT.of hc2, fun ys p1 pm st h1 => ?_⟩
      obtain rfl := srtd_of pm st
      refine ⟨p1, _, rfl, .inl ⟨SqL.of upd_same, fun c2 h2 => ?_⟩⟩
      refine ⟨_, rfl, Nat.le_of_ble_eq_true rfl, fun q hq => ?_⟩
      exact tail .non _ (Same.new (Same.new (Same.refl _) h1) h2) rfl c2 upd_same q hq
    | chg =>
      rw [e] at hk2 tail
      obtain rfl : kv = .str "changing" := hk2
      refine ⟨_, rfl, rfl, _, rfl, ?_⟩
      rw [decide_eq_false (by intro z; cases z)]
      refine iteF ⟨_, rfl, .str "changing", .str "changing", .str _, .str _, by decide +kernel, by decide +kernel, _, rfl, ?_⟩
      rw [show PyData.eqv (.str "changing") (.str "changing") = true by decide +kernel]
      refine iteT ⟨_, rfl, ?_⟩
      refine ⟨_, rfl, c, l.cs, rfl, SqT.of hc2, fun ys p1 pm st h1 => ?_⟩
      obtain rfl := srtd_of pm st
      refine ⟨p1, _, rfl, .inl ⟨SqL.of upd_same, fun c2 h2 => ?_⟩⟩
      refine ⟨_, rfl, Nat.le_of_ble_eq_true rfl, fun q hq => ?_⟩
      exact tail (.str "changing") _ (Same.new (Same.new (Same.refl _) h1) h2) rfl c2 upd_same q hq
    | key ks =>
      rw [e] at hk2 tail
      have hok : Kd.Ok l.cs (.key ks) := e ▸ ok.key
      obtain ⟨q0, rfl, hq0⟩ := hk2
      refine ⟨_, rfl, rfl, _, rfl, ?_⟩
      rw [decide_eq_false (by intro z; cases z)]
      refine iteF ⟨_, rfl, .tuple (ks.map PyData.str), .str "changing", .tup (SqT.of hq0) (dp_strs ks), .str _, ?_, by decide +kernel, _, rfl, ?_⟩
      · exact shaped_tup ks fun z hz => name_strOk (hok.1 z hz)
      rw [show PyData.eqv (.tuple (ks.map PyData.str)) (.str "changing") = false from rfl]
      refine iteF ?_
      have small : (ks.map V.str).length ≤ 1000 := by
        have h1 : ks.length ≤ l.cs.length := hok.2.1.length_le_of_subset fun z hz => hok.2.2 z hz
        have := ok.few
        rw [List.length_map]; omega
      refine ⟨_, rfl, _, rfl, .ref q0, c, l.cs, true, rfl, hc2, .inr ⟨q0, _, _, rfl, hq0, small, parts_some fun z hz => name_size (hok.1 z hz), (key_ok hok).symm⟩, fun H3 s3 => ⟨_, rfl, iteF ?_⟩⟩
      refine ⟨_, rfl, _, rfl, c, l.cs, rfl, SqT.of (s3 _ _ hc2), fun ys p1 pm st h1 => ?_⟩
      obtain rfl := srtd_of pm st
      refine ⟨p1, _, rfl, .inl ⟨SqL.of upd_same, fun c2 h2 => ?_⟩⟩
      have sa := (s3.trans (Same.new (Same.refl _) h1)).trans (Same.new (o := .tup ((srtd l.cs).map V.str)) (Same.refl _) h2)
      refine ⟨_, rfl, q0, ks, rfl, SqT.of (sa _ _ hq0), fun zs p2 pm2 st2 h3 => ?_⟩
      obtain rfl := srtd_of pm2 st2
      refine ⟨p2, _, rfl, .inl ⟨SqL.of upd_same, fun k2 h4 => ?_⟩⟩
      refine ⟨Nat.le_of_ble_eq_true rfl, fun q hq => ?_⟩
      have sb := (Same.new (o := .lst ((srtd ks).map V.str)) (Same.refl _) h3).trans (Same.new (o := .tup ((srtd ks).map V.str)) (Same.refl _) h4)
      exact tail (.ref k2) _ (sa.trans sb) ⟨k2, rfl, upd_same⟩ c2 (sb _ _ upd_same) q hq
end
end B30_

/-! ## C1 -/
set_option Elab.async false
set_option linter.all false
set_option maxRecDepth 100000
set_option maxHeartbeats 8000000
namespace K1
open PySem PySem.Spec PyProof.Rows L2
open PySem.Froz (SD sObj TxOk addTx tailTx)
/-! ### sets of texts that a comprehension of two clauses fills -/
theorem setS_ok {P : Program} {w : World} {H : Hp} {h : Heap} {a : Addr} {l zs : List Str} (T : TxSet P w h a l) (mem : ∀ z, z ∈ l ↔ z ∈ zs) (few : l.length ≤ zs.length) : ObjOk P w H h a (SetS P w a zs) := by
  obtain ⟨D, g, _⟩ := id T
  refine ⟨⟨l, T, mem, few⟩, ⟨_, g⟩, fun h1 h2 p k => ?_⟩
  obtain ⟨l', T', m, f⟩ := p
  exact ⟨l', T'.at k, m, f⟩
section
variable {X : Cx} {pins : List (Addr × Obj)} {σ : L2.St} {H : Hp} {s : Shared}
theorem addText {E : Value → Shared → Prop} {D : Addr} {zs : List Str} {y : Str} {u : Value} {Q : Value → Shared → Prop} (I : Inv X pins σ H s) (hD : H D = some (SetS X.prog X.w D zs)) (room : zs.length + 1 < scanBound) (ry : RelV (.str y) u)
    (done : ∀ s', Inv X pins σ (upd H D (SetS X.prog X.w D (zs ++ [y]))) s' → Q .none s') : wpAny (model X.prog X.w) X.A (call (.builtin "set.add") [.ref D, u]) Q E s := by
  obtain ⟨l, T, mem, few⟩ := (I.hok D _ hD).1
  obtain ⟨t, rfl⟩ : ∃ t, u = .str y t := ry
  obtain ⟨es, g, _⟩ := id T
  have ty : s.TypeIs (.ref D) "set" := ⟨_, g, rfl⟩
  refine wpAny_call_entry F.slot_set_add ty F.entry_set_add ?_ (F.args_set_add_2 _ _)
  unfold Builtin.«set.add» Builtin.Frozenset.oneOther
  simp only [List.isEmpty_nil, bind_assoc]
  unfold Builtin.Frozenset.addrOf setAdd
  refine wpAny_bind (wpAny_pure ?_); try dsimp only
  refine wpAny_bind (wpAny_pure ?_); try dsimp only
  refine wpAny_bind (wpAny_holding ?_)
  refine wpAny_bind ((strKind X.prog X.w).pyHash (k := y) (PySem.Froz.is_str y t) ?_)
  refine txset_put (s := { s with toks := s.toks + 1 }) T (by omega) fun b h' l2 same T2 mem2 few2 => ?_
  show wpAny _ _ (ret Value.none) _ _ _
  have ok : ObjOk X.prog X.w (upd H D (SetS X.prog X.w D (zs ++ [y]))) h' D (SetS X.prog X.w D (zs ++ [y])) := setS_ok T2 (fun z => by rw [mem2, mem, List.mem_append, List.mem_singleton]) (by rw [List.length_append, List.length_singleton]; omega)
  exact wpAny_pure ⟨_, rfl, done _ (I.write (e := D) (t' := s.toks + 1) (by rw [hD]; trivial) (.inl rfl) (fun b u hb hu => (same.2 b hb).trans hu) ok.2.1 ok)⟩
end
/-- the shape of {elt for tg in iter .. for tg1 in iter1 ..} -/
abbrev setOf2 (elt tg iter tg1 iter1 : Expr) (ifs ifs1 : List Expr) (scope : Scope) (pos : Pos) : Expr := .SetComp elt [⟨tg, iter, ifs, 0⟩, ⟨tg1, iter1, ifs1, 0⟩] scope pos
section
variable {elt tg iter tg1 iter1 : Expr} {ifs ifs1 : List Expr} {scope : Scope} {pos : Pos}
/-- one turn of the first clause -/
theorem turn_out (it acc : Value) (env : Env) : compTurn (setOf2 elt tg iter tg1 iter1 ifs ifs1 scope pos) 0 it acc env = (do
      standAt iter.pos
      match ← pyNext it with
      | none => pure (.done .next)
      | some item =>
        letOwnedTupleGo tg it item
        assign tg env item
        let mut good := true
        for t in ifs do
          if good then good ← isTrue t env (eval t env)
        if good then
          let src ← eval iter1 env
          standAt iter1.pos
          let src ← foldedSetIterable iter1 env src
          let _ ← runOwn (.compStart (setOf2 elt tg iter tg1 iter1 ifs ifs1 scope pos) 1 (← holding [src] (pyIter src)) acc env) env
        again (.compLoop (setOf2 elt tg iter tg1 iter1 ifs ifs1 scope pos) 0 it acc env)) := by rfl
/-- one turn of the second -/
theorem turn_in (it acc : Value) (env : Env) : compTurn (setOf2 elt tg iter tg1 iter1 ifs ifs1 scope pos) 1 it acc env = (do
      standAt iter1.pos
      match ← pyNext it with
      | none => pure (.done .next)
      | some item =>
        letOwnedTupleGo tg1 it item
        assign tg1 env item
        let mut good := true
        for t in ifs1 do
          if good then good ← isTrue t env (eval t env)
        if good then
          (do let new ← eval elt env; standAt elt.pos; let _ ← call (.builtin "set.add") [acc, new])
        again (.compLoop (setOf2 elt tg iter tg1 iter1 ifs ifs1 scope pos) 1 it acc env)) := by rfl
end
end K1

/-! ## C2 -/
set_option Elab.async false
set_option linter.all false
set_option maxRecDepth 100000
set_option maxHeartbeats 8000000
namespace K1
open PySem PySem.Spec PyProof.Rows L2
/-- the texts of the first n turns -/
def flatT (tx : Nat → List Str) : Nat → List Str
  | 0 => []
  | n + 1 => flatT tx n ++ tx n
theorem flatT_le {tx : Nat → List Str} {i n : Nat} (h : i ≤ n) : (flatT tx i).length ≤ (flatT tx n).length := by
  induction n with
  | zero => obtain rfl : i = 0 := by omega
            exact Nat.le_refl _
  | succ n ih =>
    by_cases e : i = n + 1
    · rw [e]; exact Nat.le_refl _
    · have := ih (by omega)
      rw [flatT, List.length_append]; omega
theorem mem_flatT {tx : Nat → List Str} {z : Str} : ∀ {n : Nat}, z ∈ flatT tx n ↔ ∃ i, i < n ∧ z ∈ tx i
  | 0 => by simp [flatT]
  | n + 1 => by
    rw [flatT, List.mem_append, mem_flatT]
    refine ⟨fun h => ?_, fun ⟨i, h, m⟩ => ?_⟩
    · rcases h with ⟨i, h, m⟩ | m
      · exact ⟨i, by omega, m⟩
      · exact ⟨n, by omega, m⟩
    · by_cases e : i = n
      · subst e; exact .inr m
      · exact .inl ⟨i, by omega, m⟩
/-- all that is tracked stays, but for D -/
def Off (D : Addr) (H H' : Hp) : Prop := ∀ b o, b ≠ D → H b = some o → H' b = some o
theorem Off.refl (D : Addr) (H : Hp) : Off D H H := fun _ _ _ e => e
theorem Off.trans {D : Addr} {H H1 H2 : Hp} (a : Off D H H1) (b : Off D H1 H2) : Off D H H2 := fun c o n e => b c o n (a c o n e)
theorem Off.same {D : Addr} {H H1 : Hp} (a : Same H H1) : Off D H H1 := fun c o _ e => a c o e
theorem Off.full {D : Addr} {H H1 : Hp} (a : Off D H H1) (n : H D = none) : Same H H1 := fun c o e => a c o (ne_of_none e n) e
theorem Off.put {D : Addr} {H H1 : Hp} {o : HO} (a : Off D H H1) : Off D H (upd H1 D o) := fun c u n e => by rw [upd_ne n]; exact a c u n e
/-- {elt for tg in iter for tg1 in iter1}: all that is tracked stays, the i-th item of the first walk gives the texts tx i -/
def tTexts2 (P : Program) (w : World) (wi : TI) (g : TG) (wi1 : TI) (g1 : TG) (te : TE) (vs vs1 : List Nat) : TE := fun σ H Q => wi σ H fun J H1 =>
  ∃ (n : Nat) (G : Hp → Prop) (Y : Nat → Hp → V → Hp → Prop) (tx : Nat → List Str), Walk J n G Y ∧ (flatT tx n).length + 1 < scanBound ∧ ∀ D, H1 D = none → (∀ H', Off D H1 H' → G H') ∧
    (∀ i x H2 H3, i < n → Off D H1 H2 → Y i H2 x H3 → g x (wipe σ vs) H3 fun σ2 H4 => wipe σ2 vs = wipe σ vs ∧ wi1 σ2 H4 fun J1 H5 => Off D H2 H5 ∧ H5 D = H2 D ∧ ∃ (G1 : Hp → Prop) (Y1 : Nat → Hp → V → Hp → Prop), Walk J1 (tx i).length G1 Y1 ∧ (∀ H', Off D H5 H' → G1 H') ∧
      ∀ j y H6 H7, j < (tx i).length → Off D H5 H6 → Y1 j H6 y H7 → g1 y (wipe σ2 vs1) H7 fun σ3 H8 => wipe σ3 vs1 = wipe σ2 vs1 ∧ te σ3 H8 fun v H9 => Off D H6 H9 ∧ H9 D = H6 D ∧ ∃ z, v = .str z ∧ (tx i)[j]? = some z) ∧
    ∀ H', Same H1 H' → H' D = some (SetS P w D (flatT tx n)) → Q (.ref D) H'
section
variable {prog : Program} {w : World} {A : Around} {R : Result → Shared → Prop} {s : Shared} {elt tg iter tg1 iter1 : Expr} {ifs ifs1 : List Expr} {scope : Scope} {pos : Pos} {it acc : Value} {env : Env}
/-- the second clause begins -/
theorem start_in (h0 : codeAny (model prog w) A (.compLoop (setOf2 elt tg iter tg1 iter1 ifs ifs1 scope pos) 1 it acc env) R s)
    (h : wpAny (model prog w) A (pyIter it) (fun new s' => codeAny (model prog w) A (.compLoop (setOf2 elt tg iter tg1 iter1 ifs ifs1 scope pos) 1 new acc env) R s') (notedBy (model prog w) A env fun x s' => R (.error x) s') s) :
    codeAny (model prog w) A (.compStart (setOf2 elt tg iter tg1 iter1 ifs ifs1 scope pos) 1 it acc env) R s := by
  refine codeAny_of_tree ?_
  show wpAny _ _ ((compStart (setOf2 elt tg iter tg1 iter1 ifs ifs1 scope pos) 1 it acc env).onRaise (fun x => do noteFrame x env; standAt theWindowsPlace)) _ _ s
  refine wpAny_notedAt ?_
  unfold compStart
  show wpAny _ _ (ask >>= _) _ _ s
  refine wpAny_bind (wpAny_askSetting (wpAny_ite ?_))
  split
  · first
      | exact wpAny_bind (wpAny_pure (wpAny_pure (And.intro rfl h0)))
      | exact wpAny_pure (And.intro rfl h0)
  · first
      | exact wpAny_bind (wpAny_rule (wpAny_bind (wpAny_standAt (wpAny_bind (wpAny_mono h (fun new s' q => wpAny_pure (And.intro rfl q)) fun _ _ x => x)))))
      | (refine wpAny_bind (wpAny_rule ?_); show wpAny _ _ (standAt iter1.pos >>= _) _ _ s; exact wpAny_bind (wpAny_standAt (wpAny_bind (wpAny_mono h (fun new s' q => wpAny_pure (And.intro rfl q)) fun _ _ x => x))))
end
section
variable {X : Cx}
theorem setD_new {H : Hp} {D : Addr} {o : HO} (h : H D = none) : Same H (upd H D o) := fun b u e => by rw [upd_ne (ne_of_none e h)]; exact e
theorem sc2_texts {pins : List (Addr × Obj)} {s : Shared} {σ : L2.St} {H : Hp} {Q : VK} {elt tg iter tg1 iter1 : Expr} {scope : Scope} {own : List (Str × Nat)} {vs1 : List Nat} {pos pos' : Pos} {wi wi1 : TI} {g g1 : TG} {te : TE}
    (calm : X.calm = true) (nod : X.N.Nodup) (I : Inv X pins σ H s) (hi : PI X tg iter wi) (ok : BlkOk X.N X.env.scope scope own) (sub1 : ∀ i ∈ vs1, i ∈ own.map (·.2))
    (hg : ∀ s0 H0 C cl fp, PG (X.blk s0 H0 scope (compEnvC scope cl C X.env) fp) tg g) (hi1 : ∀ s0 H0 C cl fp, PI (X.blk s0 H0 scope (compEnvC scope cl C X.env) fp) tg1 iter1 wi1) (hg1 : ∀ s0 H0 C cl fp, PG (X.blk s0 H0 scope (compEnvC scope cl C X.env) fp) tg1 g1)
    (he : ∀ s0 H0 C cl fp, PE (X.blk s0 H0 scope (compEnvC scope cl C X.env) fp) elt te) (fold : ∀ x, foldedSetIterable iter X.env x = pure x) (fold1 : ∀ env x, foldedSetIterable iter1 env x = pure x) (h : tTexts2 X.prog X.w wi g wi1 g1 te (own.map (·.2)) vs1 σ H Q) :
    wpAny (model X.prog X.w) X.A (comprehension (setOf2 elt tg iter tg1 iter1 [] [] scope pos) scope X.env pos' (newSet (.type "set")) false (eval iter X.env)) (EP X pins σ Q) X.xe s := by
  have cellsThere : ∀ y ∈ scope.names, y.2 = .free → ∃ c, X.env.cells.lookup y.1 = some c := fun y hy e => (ok.free y hy e).elim (fun k => I.ok.has _ (.inl k)) fun k => I.ok.has _ (.inr k)
  refine wpAny_comprehension_free rfl fold (closure_ok cellsThere) ok.kind (fun y hy e => by rw [ok.uniq y hy, e]) (thn (hi.run pins s σ H _ I h) fun src s1 hx => thn hx fun itv s2 came => ?_)
  obtain ⟨it, fp, tn, J, H1, rfl, I2, T, st2, far2, n, G, Y, tx, wk, room, rest⟩ := came
  refine PpSet.newSet_ok (newEnv_comp ?_)
  generalize eD : s2.heap.objs.size = D
  have nD : H1 D = none := I2.hok.fresh (Nat.le_of_eq eD)
  obtain ⟨hG, body, fin⟩ := rest D nD
  generalize es3 : ({ s2 with heap := s2.heap.push (newSetObj X.w) } : Shared) = s3
  have heap3 : s3.heap = s2.heap.push (newSetObj X.w) := by rw [← es3]
  have up3 : ∀ b o, s2.heap.get? b = some o → s3.heap.get? b = some o := fun b o e => by rw [heap3]; exact Heap.get?_push_of_some _ e
  generalize eH2 : upd H1 D (SetS X.prog X.w D []) = H2
  have I3 : Inv X pins σ H2 s3 := by
    rw [← es3, ← eH2]
    refine I2.laid (t' := s2.toks) (fun b o e => Heap.get?_push_of_some _ e) (Nat.le_of_eq eD) ?_
    exact setS_ok (tx_new (by rw [← eD]; exact Heap.get?_push_size _ rfl)) (fun _ => Iff.rfl) (Nat.le_refl _)
  have D2 : H2 D = some (SetS X.prog X.w D []) := by rw [← eH2]; exact upd_same
  have same12 : Same H1 H2 := by rw [← eH2]; exact setD_new nD
  have young : ∀ b ∈ fp, b < s2.heap.objs.size := fun b hb => let ⟨_, e, _⟩ := T.obj _ _ st2 b hb; Heap.lt_size e
  have far3 : ∀ b ∈ fp, FpOk X pins H2 b ∧ b < s3.heap.objs.size := fun b hb => by
    have lt := young b hb
    refine ⟨⟨?_, (far2 b hb).2⟩, by rw [heap3, Heap.size_push]; exact Nat.lt_succ_of_lt lt⟩
    rw [← eH2, upd_ne (by rw [← eD]; exact Nat.ne_of_lt lt)]
    exact (far2 b hb).1
  have st3 : tn 0 s3.heap := T.keep _ _ _ st2 fun b _ o e => up3 b o e
  have I4 := block_start I3 ok nod far3
  have G0 := hg s3 H2 s3.heap.objs.size (cellsFrom (s3.heap.objs.size + 1) scope.names (cloFrom X.env.cells scope.names [])) fp
  have E0' := he s3 H2 s3.heap.objs.size (cellsFrom (s3.heap.objs.size + 1) scope.names (cloFrom X.env.cells scope.names [])) fp
  have W1 := hi1 s3 H2 s3.heap.objs.size (cellsFrom (s3.heap.objs.size + 1) scope.names (cloFrom X.env.cells scope.names [])) fp
  have G1' := hg1 s3 H2 s3.heap.objs.size (cellsFrom (s3.heap.objs.size + 1) scope.names (cloFrom X.env.cells scope.names [])) fp
  show codeAny _ _ (.compStart (setOf2 elt tg iter tg1 iter1 [] [] scope pos) 0 (.ref it) (.ref D) (compEnvC scope (cellsFrom (s3.heap.objs.size + 1) scope.names (cloFrom X.env.cells scope.names [])) s3.heap.objs.size X.env)) _ { s3 with heap := pushCells (s3.heap.push { cls := .type "dict", data := .dict #[] }) scope.names }
  generalize ece : compEnvC scope (cellsFrom (s3.heap.objs.size + 1) scope.names (cloFrom X.env.cells scope.names [])) s3.heap.objs.size X.env = ce at I4 G0 E0' W1 G1' ⊢
  have home : ce.locals = s3.heap.objs.size := by rw [← ece]; rfl
  generalize es4 : ({ s3 with heap := pushCells (s3.heap.push { cls := .type "dict", data := .dict #[] }) scope.names } : Shared) = s4 at I4 ⊢
  have st4 : tn 0 s4.heap := T.keep _ _ _ st3 fun b _ o e => by rw [← es4]; exact pushCells_keeps _ _ _ _ (Heap.get?_push_of_some _ e)
  have nfp : ∀ b ∈ fp, H2 b = none := fun b hb => (far3 b hb).1.1
  have stay : ∀ {σ' : L2.St} {H' : Hp} {s' : Shared}, Inv (X.blk s3 H2 scope ce fp) [] σ' H' s' → (∀ b ∈ fp, H' b = none) → ∀ b ∈ fp, FpOk (X.blk s3 H2 scope ce fp) [] H' b := fun {σ' H' s'} I' hn b hb =>
    ⟨hn b hb, (I'.ok.exf b hb).1, I'.ok.exfs b hb, .inl hb, fun x c => (I'.ok.exf b hb).2 x c, fun p hp => absurd (show p ∈ ([] : List (Addr × Obj)) ++ [] from hp) (by simp)⟩
  -- what holds ahead of each turn of the first clause
  generalize eV : (fun (k : Nat) (s' : Shared) => ∃ (i : Nat) (H' : Hp), k = n - i ∧ i ≤ n ∧ Inv (X.blk s3 H2 scope ce fp) [] (wipe σ (own.map (·.2))) H' s' ∧ tn i s'.heap ∧ (∀ b ∈ fp, H' b = none) ∧ Off D H1 H' ∧ H' D = some (SetS X.prog X.w D (flatT tx i))) = V
  have OUT : codeAny (model X.prog X.w) X.A (.compLoop (setOf2 elt tg iter tg1 iter1 [] [] scope pos) 0 (.ref it) (.ref D) ce) (compPost (model X.prog X.w) X.A X.xe none (EP X pins σ Q) (.ref D) s3.heap.objs.size) s4 := by
    refine codeAny_loop rfl V (fun k s5 at5 => ?_) n (by rw [← eV]; exact ⟨0, H2, rfl, Nat.zero_le _, I4, st4, nfp, Off.same same12, D2⟩)
    have at5' := at5
    rw [← eV] at at5'
    obtain ⟨i, H5, rfl, le, I5, st5, n5, sm5, d5⟩ := at5'
    show wpAny _ X.A ((compTurn (setOf2 elt tg iter tg1 iter1 [] [] scope pos) 0 (.ref it) (.ref D) ce).onRaise (fun x => do noteFrame x ce; theTreesLotGoes x)) _ _ s5
    refine wpAny_noted ?_
    rw [turn_out]
    refine wpAny_bind (wpAny_standAt (wpAny_bind ?_))
    by_cases lt : i < n
    · refine thnF (T.item (X.blk s3 H2 scope ce fp) rfl rfl rfl calm i [] s5 _ H5 (fun _ _ => False) I5 (stay I5 n5) st5 (wk.goes i H5 lt (hG _ sm5))) fun r s6 got => ?_
      obtain ⟨u, rfl, q6⟩ := got
      refine wpAny_bind (thnF q6 fun _ s7 stored => ?_)
      obtain ⟨x, H7, I7, r7, y7, st7, n7⟩ := stored
      have I7p := I7.pinned (stay I7 n7) (T.obj _ _ st7)
      refine wpAny_bind (thnF (G0.run _ s7 _ H7 x u _ I7p r7 (body i x H5 H7 lt sm5 (wk.yields i H5 x H7 lt (hG _ sm5) y7))) fun _ s8 named => ?_)
      obtain ⟨σ8, H8, I8, hw8, q8⟩ := named
      refine wpAny_bind (wpAny_tests_nil ?_)
      simp only [if_true]
      refine wpAny_bind (thnF (W1.run _ s8 σ8 H8 _ I8 q8) fun src s9 hx => ?_)
      refine wpAny_bind (wpAny_standAt (wpAny_bind (wpAny_of_eq (fold1 ce src) (wpAny_bind (wpAny_holding (thnF hx fun itv s10 came1 => ?_))))))
      obtain ⟨it1, fp1, tn1, J1, H10, rfl, I10, T1, st10, far10, sm10, dd10, G1, Y1, wk1, hG1, body1⟩ := came1
      have stay1 : ∀ {H' : Hp}, (∀ b ∈ fp1, H' b = none) → ∀ b ∈ fp1, FpOk (X.blk s3 H2 scope ce fp) ([] ++ pinsAt fp s7.heap) H' b := fun hn b hb => ⟨hn b hb, (far10 b hb).2⟩
      have d10 : H10 D = some (SetS X.prog X.w D (flatT tx i)) := dd10.trans d5
      have long8 : (wipe σ (own.map (·.2))).length = (wipe σ8 vs1).length := by rw [← hw8, wipe_length, wipe_length]
      have kept8 : ∀ (j : Nat) v, (wipe σ (own.map (·.2)))[j]? = some (some v) → (wipe σ8 vs1)[j]? = some (some v) := fun j v e => by
        rw [← hw8] at e
        obtain ⟨e1, e2⟩ := wipe_some e
        rw [wipe_out fun z => e2 (sub1 j z)]
        exact e1
      generalize eV1 : (fun (k : Nat) (s' : Shared) => ∃ (j : Nat) (H' : Hp), k = (tx i).length - j ∧ j ≤ (tx i).length ∧ Inv (X.blk s3 H2 scope ce fp) ([] ++ pinsAt fp s7.heap) (wipe σ8 vs1) H' s' ∧ tn1 j s'.heap ∧ (∀ b ∈ fp1, H' b = none) ∧
        Off D H10 H' ∧ H' D = some (SetS X.prog X.w D (flatT tx i ++ (tx i).take j))) = V1
      have IN : codeAny (model X.prog X.w) X.A (.compLoop (setOf2 elt tg iter tg1 iter1 [] [] scope pos) 1 (.ref it1) (.ref D) ce) (fun r s' => match r with
          | .ok _ => ∃ m, m < n - i ∧ V m s'
          | .error _ => False) s10 := by
        refine codeAny_loop rfl V1 (fun k s11 at11 => ?_) (tx i).length (by
          rw [← eV1]
          exact ⟨0, H10, rfl, Nat.zero_le _, I10.weak (wipe_length _ _) (fun j v e => (wipe_some e).1), st10, fun b hb => (far10 b hb).1, Off.refl D H10, by rw [List.take_zero, List.append_nil]; exact d10⟩)
        have at11' := at11
        rw [← eV1] at at11'
        obtain ⟨j, H11, rfl, lej, I11, st11, n11, sm11, d11⟩ := at11'
        show wpAny _ X.A ((compTurn (setOf2 elt tg iter tg1 iter1 [] [] scope pos) 1 (.ref it1) (.ref D) ce).onRaise (fun x => do noteFrame x ce; theTreesLotGoes x)) _ _ s11
        refine wpAny_noted ?_
        rw [turn_in]
        refine wpAny_bind (wpAny_standAt (wpAny_bind ?_))
        by_cases ltj : j < (tx i).length
        · refine thnF (T1.item (X.blk s3 H2 scope ce fp) rfl rfl rfl calm j _ s11 (wipe σ8 vs1) H11 (fun _ _ => False) I11 (stay1 n11) st11 (wk1.goes j H11 ltj (hG1 _ sm11))) fun r s12 got => ?_
          obtain ⟨u1, rfl, q12⟩ := got
          refine wpAny_bind (thnF q12 fun _ s13 stored => ?_)
          obtain ⟨x1, H13, I13, r13, y13, st13, n13⟩ := stored
          have I13p := I13.pinned (stay1 n13) (T1.obj _ _ st13)
          refine wpAny_bind (thnF (G1'.run _ s13 (wipe σ8 vs1) H13 x1 u1 _ I13p r13 (body1 j x1 H11 H13 ltj sm11 (wk1.yields j H11 x1 H13 ltj (hG1 _ sm11) y13))) fun _ s14 named => ?_)
          obtain ⟨σ14, H14, I14, hw14, q14⟩ := named
          refine wpAny_bind (wpAny_tests_nil ?_)
          simp only [if_true]
          refine wpAny_bind (wpAny_bind (thnF (E0'.run _ s14 σ14 H14 _ I14 q14) fun val s15 told => ?_))
          obtain ⟨yv, H15, I15, r15, sm15, dd15, z, rfl, hz⟩ := told
          have d15 : H15 D = some (SetS X.prog X.w D (flatT tx i ++ (tx i).take j)) := dd15.trans d11
          have few : (flatT tx i ++ (tx i).take j).length + 1 < scanBound := by
            have h1 : (flatT tx (i + 1)).length ≤ (flatT tx n).length := flatT_le lt
            rw [flatT, List.length_append] at h1
            rw [List.length_append, List.length_take]; omega
          refine wpAny_bind (wpAny_standAt (wpAny_bind ?_))
          refine addText (X := X.blk s3 H2 scope ce fp) I15 d15 few r15 fun s16 I16 => ?_
          refine wpAny_pure (wpAny_pure ⟨rfl, (tx i).length - (j + 1), by omega, ?_⟩)
          rw [← eV1]
          have pin' : ∀ b ∈ fp1, ∀ o, s13.heap.get? b = some o → s16.heap.get? b = some o ∧ (upd H15 D (SetS X.prog X.w D (flatT tx i ++ (tx i).take j ++ [z]))) b = none := fun b hb o e =>
            let q := I16.pin (b, o) (List.mem_append_right _ (List.mem_append_right _ (mem_pinsAt hb e)))
            ⟨q.1, q.2.1⟩
          refine ⟨j + 1, _, rfl, ltj, I16.unpinned.weak (by rw [← hw14, wipe_length]) (fun j v e => by rw [← hw14] at e; exact (wipe_some e).1), T1.keep _ _ _ st13 fun b hb o e => (pin' b hb o e).1, fun b hb => ?_, (sm11.trans sm15).put, ?_⟩
          · obtain ⟨o, e, _⟩ := T1.obj _ _ st13 b hb
            exact (pin' b hb o e).2
          · rw [upd_same, List.append_assoc, List.take_add_one, hz]; rfl
        · obtain rfl : j = (tx i).length := by omega
          refine thnF (T1.done (X.blk s3 H2 scope ce fp) rfl rfl rfl calm _ _ s11 (wipe σ8 vs1) H11 (fun _ _ => False) I11 (stay1 n11) st11 (wk1.stops H11 (hG1 _ sm11))) fun r s12 got => ?_
          obtain ⟨rfl, I12⟩ := got
          refine wpAny_pure ⟨n - (i + 1), by omega, ?_⟩
          rw [← eV]
          have pin' : ∀ b ∈ fp, ∀ o, s7.heap.get? b = some o → s12.heap.get? b = some o ∧ H11 b = none := fun b hb o e =>
            let q := I12.pin (b, o) (List.mem_append_right _ (List.mem_append_right _ (mem_pinsAt hb e)))
            ⟨q.1, q.2.1⟩
          refine ⟨i + 1, H11, rfl, lt, (I12.unpinned (pins := [])).weak long8 kept8, T.keep _ _ _ st7 fun b hb o e => (pin' b hb o e).1, fun b hb => ?_, (sm5.trans sm10).trans sm11, ?_⟩
          · obtain ⟨o, e, _⟩ := T.obj _ _ st7 b hb
            exact (pin' b hb o e).2
          · rw [d11, List.take_length]; rfl
      refine wpAny_bind (wpAny_runOwn ?_)
      rw [Around.mark_none]
      refine codeAny_mono (start_in IN (T1.self X.A 0 _ _ _ st10 IN)) fun r s' hr => ?_
      cases r with
      | ok f => first | exact wpAny_pure ⟨rfl, hr⟩ | exact wpAny_bind (wpAny_pure (wpAny_pure ⟨rfl, hr⟩))
      | error e => exact hr.elim
    · obtain rfl : i = n := by omega
      refine thnF (T.done (X.blk s3 H2 scope ce fp) rfl rfl rfl calm i [] s5 _ H5 (fun _ _ => False) I5 (stay I5 n5) st5 (wk.stops H5 (hG _ sm5))) fun r s6 got => ?_
      obtain ⟨rfl, I6⟩ := got
      have back : Inv X pins σ H5 s6 := I3.call' (ch := fp) I6.os I6.base I6.hok I6.bare fun b hb => ⟨(far3 b hb).1.2.2.2.1, (far3 b hb).1.2.1, (far3 b hb).1.2.2.2.2.1, (far3 b hb).1.2.2.2.2.2⟩
      have nC : H5 s3.heap.objs.size = none := by
        have z : H5 ce.locals = none := I6.free
        rwa [home] at z
      obtain ⟨m, hn, _⟩ := I6.loc
      have hn : s6.heap.Ns ce.locals m := hn
      rw [home] at hn
      obtain ⟨f0, f1, f2, f3, f4, f5⟩ := I3.fpOk (Nat.le_refl _) nC
      refine wpAny_pure ⟨m, hn, fun h'' sb => ?_⟩
      exact ⟨.ref D, H5, back.turned (t' := s6.toks) (fun b o hb e => (sb.2 b hb).trans e) f0 f1 f3 f4 f5, rfl, fin H5 (sm5.full nD) d5⟩
  exact PpSet.codeAny_compStart_set OUT (T.self X.A 0 _ _ _ st4 OUT)
/-- {elt for tg in iter for tg1 in iter1} as a value -/
theorem pe_texts2 {elt tg iter tg1 iter1 : Expr} {scope : Scope} {own : List (Str × Nat)} {vs1 : List Nat} {pos : Pos} {wi wi1 : TI} {g g1 : TG} {te : TE} (calm : X.calm = true) (nod : X.N.Nodup) (hi : PI X tg iter wi) (ok : BlkOk X.N X.env.scope scope own) (sub1 : ∀ i ∈ vs1, i ∈ own.map (·.2))
    (hg : ∀ s0 H0 C cl fp, PG (X.blk s0 H0 scope (compEnvC scope cl C X.env) fp) tg g) (hi1 : ∀ s0 H0 C cl fp, PI (X.blk s0 H0 scope (compEnvC scope cl C X.env) fp) tg1 iter1 wi1) (hg1 : ∀ s0 H0 C cl fp, PG (X.blk s0 H0 scope (compEnvC scope cl C X.env) fp) tg1 g1)
    (he : ∀ s0 H0 C cl fp, PE (X.blk s0 H0 scope (compEnvC scope cl C X.env) fp) elt te) (fold : ∀ x, foldedSetIterable iter X.env x = pure x := by intro _; rfl) (fold1 : ∀ env x, foldedSetIterable iter1 env x = pure x := by intro _ _; rfl) :
    PE X (.SetComp elt [⟨tg, iter, [], 0⟩, ⟨tg1, iter1, [], 0⟩] scope pos) (tTexts2 X.prog X.w wi g wi1 g1 te (own.map (·.2)) vs1) := by
  refine ⟨fun pins s σ H Q I h => ?_⟩
  rw [PpSet.eval_SetComp]
  exact sc2_texts calm nod I hi ok sub1 hg hi1 hg1 he fold fold1 h
end
end K1

/-! ## C3 -/
set_option Elab.async false
set_option linter.all false
set_option maxRecDepth 100000
set_option maxHeartbeats 4000000
namespace K1
open PySem PySem.Spec PyProof.Rows L2
section
variable {X : Cx} {tg : Expr}
/-- a list or a tuple that stands in H is walked -/
def iIts (te : TE) : TI := fun σ H R => te σ H fun x H1 => ∃ a xs, x = .ref a ∧ (H1 a = some (.lst xs) ∨ H1 a = some (.tup xs)) ∧ ∀ (J : It) (G : Hp → Prop), Walk J xs.length G (YAt xs) → (∀ H', H' a = H1 a → G H') → R J H1
theorem pi_its {e : Expr} {te : TE} (he : PE X e te) : PI X tg e (iIts te) := by
  refine ⟨fun pins s σ H R I h => thn (he.run pins s σ H _ I h) fun v s1 got => ?_⟩
  obtain ⟨x, H1, I1, r1, a, xs, rfl, way, q⟩ := got
  cases r1
  have far : ∀ b ∈ [s1.heap.objs.size], FpOk X pins H1 b := fun b hb => by
    obtain rfl : b = s1.heap.objs.size := by simpa using hb
    exact I1.fpOk (Nat.le_refl _) (I1.hok.fresh (Nat.le_refl _))
  rcases way with hq | hq
  · obtain ⟨its, rv, p, hz⟩ := I1.list (SqL.of hq)
    exact wpAny_pyIter_list p.isList ⟨s1.heap.objs.size, [s1.heap.objs.size], _, _, H1, rfl, I1.kept (t' := s1.toks) fun b o e => Heap.get?_push_of_some _ e, turn_list a _, ⟨_, Heap.get?_push_size _ rfl, rfl, rfl⟩, far, q _ _ walk_list fun H' e => SqL.of (e.trans hq)⟩
  · obtain ⟨its, rv, p, hz⟩ := I1.tuple (SqT.of hq)
    exact wpAny_pyIter_tuple (show s1.heap.IsTuple a its.toArray from p) ⟨s1.heap.objs.size, [s1.heap.objs.size], _, _, H1, rfl, I1.kept (t' := s1.toks) fun b o e => Heap.get?_push_of_some _ e, turn_tuple a _, ⟨_, Heap.get?_push_size _ rfl, rfl, rfl⟩, far, q _ _ walk_tup fun H' e => SqT.of (e.trans hq)⟩
/-- len of a set of texts: n, as many as there are different ones -/
theorem call_lenSS : CallR X (.builtin "len") (fun xs H Q => ∃ (a : Addr) (zs : List Str), xs = [.ref a] ∧ H a = some (SetS X.prog X.w a zs) ∧ zs.length < 4096 ∧ ∀ l : List Str, l.Nodup → (∀ z, z ∈ l ↔ z ∈ zs) → Q (.int l.length) H) := by
  intro pins s σ H xs us Q I r h
  obtain ⟨a, zs, rfl, ha, few, q⟩ := h
  obtain ⟨l, T, mem, short⟩ := (I.hok a _ ha).1
  obtain ⟨⟨es, ep, t⟩, g, F, nd, _, _⟩ := T
  rw [Vals.ref1 r]
  have sz : es.size = l.length := F.sz
  exact call_len_set g (show (PySem.Froz.sObj "set" (es, ep, t)).ExactSet from ⟨rfl, rfl, rfl⟩) rfl F.fit (by show ((es.size : Nat) : Int) < 2 ^ 63; omega) ⟨.int l.length, H, I.tok _, ⟨s.toks + 1, by rw [sz]⟩, q l nd mem⟩
end
end K1

/-! ## B30_9 -/
set_option Elab.async false
set_option linter.all false
set_option maxRecDepth 100000
set_option maxHeartbeats 8000000
namespace B30_
open PySem PySem.Spec PyProof.Rows L2
/-! ### lines, checked -/
structure LnsOk (ls : List Ln) : Prop where
  good : ∀ l ∈ ls, l.Ok
  nd : (ls.map (·.t)).Nodup
  one : 1 ≤ ls.length
  six : ls.length ≤ 6
  cols : ∃ C : List Str, C.length ≤ 6 ∧ ∀ l ∈ ls, ∀ z ∈ l.cs, z ∈ C
def ordL (ls : List Ln) : List Ln := (ls.map Ln.srt).mergeSort fun a b => leT a.t b.t
theorem ordL_perm (ls : List Ln) : (ordL ls).Perm (ls.map Ln.srt) := List.mergeSort_perm _ _
theorem ordL_pair (ls : List Ln) : (ordL ls).Pairwise fun a b => leT a.t b.t = true := List.pairwise_mergeSort (fun a b c => leT_trans a.t b.t c.t) (fun a b => leT_total a.t b.t) _
theorem nodup_t {ls : List Ln} (n : (ls.map (·.t)).Nodup) {a b : Ln} (ha : a ∈ ls) (hb : b ∈ ls) (e : a.t = b.t) : a = b := by
  induction ls with
  | nil => cases ha
  | cons l r ih =>
    rw [List.map_cons, List.nodup_cons] at n
    have out : ∀ x ∈ r, x.t ≠ l.t := fun x hx q => n.1 (List.mem_map.mpr ⟨x, hx, q⟩)
    rcases List.mem_cons.mp ha with ea | ha2
    · rcases List.mem_cons.mp hb with eb | hb2
      · rw [ea, eb]
      · exact absurd (by rw [← e, ea]) (out b hb2)
    · rcases List.mem_cons.mp hb with eb | hb2
      · exact absurd (by rw [e, eb]) (out a ha2)
      · exact ih n.2 ha2 hb2
theorem srt_t (ls : List Ln) : (ls.map Ln.srt).map (·.t) = ls.map (·.t) := by rw [List.map_map]; rfl
theorem ordL_of {ls Ls : List Ln} (n : (ls.map (·.t)).Nodup) (p : Ls.Perm (ls.map Ln.srt)) (s : Ls.Pairwise fun a b => leT a.t b.t = true) : Ls = ordL ls := by
  refine List.Perm.eq_of_pairwise (le := fun a b => leT a.t b.t = true) (fun a b ha hb h1 h2 => ?_) s (ordL_pair ls) (p.trans (ordL_perm ls).symm)
  exact nodup_t (ls := ls.map Ln.srt) (by rw [srt_t]; exact n) (p.mem_iff.mp ha) ((ordL_perm ls).mem_iff.mp hb) (leT_anti h1 h2)
theorem ordL_congr {ls ms : List Ln} (n : (ls.map (·.t)).Nodup) (p : (ls.map Ln.srt).Perm (ms.map Ln.srt)) : ordL ls = ordL ms := by
  have n2 : (ms.map (·.t)).Nodup := by
    rw [← srt_t, ← (p.map (·.t)).nodup_iff, srt_t]; exact n
  exact ordL_of n2 ((ordL_perm ls).trans p) (ordL_pair ls)
theorem ordL_ts (ls : List Ln) : (ordL ls).map (·.t) = srtd (ls.map (·.t)) := by
  refine List.Perm.eq_of_pairwise (le := fun a b => leT a b = true) (fun a b _ _ h1 h2 => leT_anti h1 h2) (List.pairwise_map.mpr (ordL_pair ls)) (srtd_pair _) ?_
  refine ((ordL_perm ls).map (·.t)).trans ?_
  rw [srt_t]
  exact (srtd_perm _).symm
/-- what stands in by_table behind some of the lines -/
def Tabled (H : Hp) (kv : Key × V) (l : Ln) : Prop := kv.1 = Sum.inr l.t ∧ LnAt H kv.2 l.srt
theorem LnAt.off {d : Addr} {H H' : Hp} {v : V} {l : Ln} (h : LnAt H v l) (s : K1.Off d H H') (hd : ∀ xs, H d ≠ some (.tup xs)) : LnAt H' v l := by
  obtain ⟨p, c, kv, e, h1, h2, h3⟩ := h
  have ne : ∀ {a : Addr} {xs : List V}, H a = some (.tup xs) → a ≠ d := fun q z => hd _ (z ▸ q)
  refine ⟨p, c, kv, e, s _ _ (ne h1) h1, s _ _ (ne h2) h2, ?_⟩
  cases ek : l.k with
  | chg => rw [ek] at h3; exact h3
  | fix => rw [ek] at h3; exact h3
  | key ks =>
    rw [ek] at h3
    obtain ⟨q, e1, e2⟩ := h3
    exact ⟨q, e1, s _ _ (ne e2) e2⟩
theorem LnAt.off' {d : Addr} {H H' : Hp} {v : V} {l : Ln} (h : LnAt H v l) (s : K1.Off d H H') (hd : ∀ xs, H d ≠ some (.tup xs)) : LnAt H' v l := h.off s hd
theorem tabled_keys {H : Hp} : ∀ {kvs : List (Key × V)} {ls : List Ln}, Paired (Tabled H) kvs ls → kvs.map (·.1) = (ls.map (·.t)).map Sum.inr
  | _, _, .nil => rfl
  | _, _, .cons h t => by rw [List.map_cons, List.map_cons, List.map_cons, h.1, tabled_keys t]
theorem tabled_val {H : Hp} : ∀ {kvs : List (Key × V)} {ls : List Ln}, Paired (Tabled H) kvs ls → ∀ {z : Str}, z ∈ ls.map (·.t) → ∃ v l, valV kvs (Sum.inr z) = some v ∧ l ∈ ls ∧ l.t = z ∧ LnAt H v l.srt
  | _, _, .nil, z, h => by cases h
  | _, _, .cons (a := kv) (b := l) (l₁ := kvs) (l₂ := ls) h t, z, m => by
    by_cases e : l.t = z
    · refine ⟨kv.2, l, valV_pos (by rw [h.1, e]), List.mem_cons_self, e, h.2⟩
    · rw [List.map_cons, List.mem_cons] at m
      obtain ⟨v, l2, e1, e2, e3, e4⟩ := tabled_val t (m.resolve_left fun q => e q.symm)
      exact ⟨v, l2, by rw [valV_neg (by rw [h.1]; intro q; exact e (Sum.inr.inj q)), e1], List.mem_cons_of_mem _ e2, e3, e4⟩
theorem tabled_none {H : Hp} {kvs : List (Key × V)} {ls : List Ln} (h : Paired (Tabled H) kvs ls) {z : Str} (n : z ∉ ls.map (·.t)) : valV kvs (Sum.inr z) = none := by
  cases e : valV kvs (Sum.inr z) with
  | none => rfl
  | some v =>
    have m := valV_in e
    rw [tabled_keys h] at m
    obtain ⟨y, hy, q⟩ := List.mem_map.mp m
    exact absurd (Sum.inr.inj q ▸ hy) n
theorem vals_ord {H : Hp} {kvs : List (Key × V)} {ls : List Ln} (tb : Paired (Tabled H) kvs ls) (n : (ls.map (·.t)).Nodup) : ∀ {Ms : List Ln}, (∀ m ∈ Ms, ∃ l ∈ ls, m = l.srt) → Paired (LnAt H) ((Ms.map (·.t)).map fun z => (valV kvs (Sum.inr z)).getD .non) Ms
  | [], _ => .nil
  | m :: r, h => by
    obtain ⟨l, hl, rfl⟩ := h m List.mem_cons_self
    obtain ⟨v, l2, e1, e2, e3, e4⟩ := tabled_val tb (z := l.srt.t) (List.mem_map.mpr ⟨l, hl, rfl⟩)
    obtain rfl := nodup_t n e2 hl e3
    rw [List.map_cons, List.map_cons]
    refine .cons ?_ (vals_ord tb n fun y hy => h y (List.mem_cons_of_mem _ hy))
    rw [e1]
    exact e4
theorem vals_all {H : Hp} {kvs : List (Key × V)} {ls : List Ln} (tb : Paired (Tabled H) kvs ls) (n : (ls.map (·.t)).Nodup) : Paired (LnAt H) ((srtd (ls.map (·.t))).map fun z => (valV kvs (Sum.inr z)).getD .non) (ordL ls) := by
  rw [← ordL_ts]
  refine vals_ord tb n fun m hm => ?_
  obtain ⟨l, hl, e⟩ := List.mem_map.mp ((ordL_perm ls).mem_iff.mp hm)
  exact ⟨l, hl, e.symm⟩
abbrev s_chk : Stmt := topS 22
abbrev N_chk : List Str := ["lines", "by_table", "line", "checked", "column", "table"]
theorem sc_chk : FnScope N_chk ["lines"] (defScope s_chk) := ⟨rfl, rfl, rfl, by decide +kernel, rfl, by decide +kernel, by decide +kernel⟩
def LinesAt (H : Hp) (a : Addr) (ls : List Ln) : Prop := ∃ xs, Its H a xs ∧ Paired (LnAt H) xs ls
def spChk : Sp := fun vs H Q _ => ∃ (a : Addr) (ls : List Ln), vs = [.ref a] ∧ LinesAt H a ls ∧ LnsOk ls ∧ ∀ p rs H', Same H H' → H p = none → H' p = some (.tup rs) → Paired (LnAt H') rs (ordL ls) → Q (.ref p) H'
section
variable {P : Program} {w : World} {K : PySem.W.Frag} {mg : Str → Option Value} {base : Heap}
theorem ok_chk {f : Addr} {fd : FuncData} (F : Fun K "_checked" "_checked" s_chk f fd) (T : NamesS mg) (C5 : Callee P w K mg base CX0 5 "_checked_line" ["line"] spCL) : FnOk P w K mg base CX0 6 f fd ["lines"] spChk := by
  have nd := sc_chk.nd
  refine F.ok sc_chk (fun vs H Q E h => ?_) (fun cdv A outer s H vs Q E hr h => ?_)
  · obtain ⟨a, ls, rfl, _⟩ := h
    rfl
  · obtain ⟨a, ls, rfl, ⟨xs, hxs, hp⟩, ok, k⟩ := h
    have hu := hu_of hr
    obtain ⟨tt, hmtab⟩ := T.mtab
    obtain ⟨tc, hmcol⟩ := T.mcol
    refine ⟨_, (pss_cons
    (ps_set (i := 1) nd rfl (Or.inr rfl) pe_dnewK)
    (pss_cons
    (ps_for PassesOwn.never rfl (K1.pi_its (pv 0)) (pg_name (i := 2) nd rfl (Or.inl rfl)) (pss_cons
      (ps_set (i := 3) nd rfl (Or.inl rfl) (pe_use C5 hr rfl pass0 (pa_cons (pv 2) pa_nil)))
      (pss_cons
      (ps_if (pt_cmp (pc_din hu (pe_ix ix_tup (pv 3) pe_int (fun _ _ => rfl)) (pv 1))) (pss_one ps_never) pss_nil)
      (pss_one
      (ps_dput hu (pv 1) (pe_ix ix_tup (pv 3) pe_int (fun _ _ => rfl)) (pv 3) rfl)))))
    (pss_cons
    (ps_if (pt_not (pt_chain op_le op_le pe_int (pe_callB call_lenD (by rfl) T.len (by decide +kernel) (pa_cons (pv 1) pa_nil)) (pe_glob (v := .int 6) rfl hmtab ⟨_, rfl⟩))) (pss_one ps_never) pss_nil)
    (pss_cons
    (ps_if (pt_cmpR op_gt (pe_callB K1.call_lenSS (by rfl) T.len (by decide +kernel) (pa_cons (pe_lock (K1.pe_texts2 (own := [("column", 4), ("line", 2)]) (vs1 := [4]) (te := tVar 4) (g := gName 2) (g1 := gName 4) (wi1 := iTup K (tOp (rIxT K) (tVar 2) (tC (.int 1)))) rfl nd (pi_values (pv 1)) (blkOk_by (N := N_chk) (sc := defScope s_chk) (by decide +kernel)) (by decide) (fun _ _ _ _ _ => pg_name (i := 2) nd rfl (Or.inl rfl)) (fun _ _ _ _ _ => pi_tup (pe_ix ix_tup (pv 2) pe_int (fun _ _ => rfl))) (fun _ _ _ _ _ => pg_name (i := 4) nd rfl (Or.inl rfl)) (fun _ _ _ _ _ => pv 4))) pa_nil)) (pe_glob (v := .int 6) rfl hmcol ⟨_, rfl⟩) (nomark _)) (pss_one ps_never) pss_nil)
    (pss_one
    (ps_ret (pe_callTy call_tuple_of (by rfl) T.tuple (by decide +kernel) (pa_cons (pe_lc (own := [("table", 5)]) (g := (gName 5)) rfl nd (pi_list (pe_callB (call_sortedD rfl) (by rfl) T.sorted (by decide +kernel) (pa_cons (pv 1) pa_nil))) (blkOk_by (N := N_chk) (sc := defScope s_chk) (by decide +kernel)) (fun _ _ _ _ _ => (pg_name (i := 5) nd rfl (Or.inl rfl))) (fun _ _ _ _ _ => pts_nil) (fun _ _ _ _ _ => (pe_dget hu (pv 1) (pv 5) (fun _ _ => rfl)))) pa_nil)))))))), ?_⟩
    refine fun d hd => ?_
    have nad : a ≠ d := hxs.ne_none hd
    have len : xs.length = ls.length := hp.length
    refine ⟨_, rfl, a, xs, rfl, (hxs.new hd), fun J G wk hG => ?_⟩
    refine for_it wk (fun i σ H' => ∃ (v2 v3 : Option V) (kvs : List (Key × V)), σ = [some (.ref a), some (.ref d), v2, v3, none, none] ∧ K1.Off d H H' ∧ H' d = some (.dK kvs) ∧ Paired (Tabled H') kvs (ls.take i)) ⟨none, none, [], rfl, (K1.Off.refl d H).put, upd_same, .nil⟩ (fun i σ H1 _ p => ?_) (fun i x σ HA H1 hi p y => ?_) (fun σ H1 p => ?_)
    · obtain ⟨v2, v3, kvs, _, off, _, _⟩ := p
      refine hG H1 ?_
      rw [upd_ne nad]
      rcases hxs with q | q
      · rw [off _ _ nad q, q]
      · rw [off _ _ nad q, q]
    · obtain ⟨v2, v3, kvs, rfl, off, hkv, pr⟩ := p
      obtain ⟨rfl, hx⟩ := y
      obtain ⟨l, hl, la⟩ := paired_get hp hx
      have ml : l ∈ ls := List.mem_of_getElem? hl
      have nd1 : ∀ ys, H1 d ≠ some (.tup ys) := fun ys q => by rw [hkv] at q; cases q
      have la1 : LnAt H1 x l := la.off' off fun ys q => by rw [hd] at q; cases q
      refine ⟨_, rfl, x, l, rfl, la1, ok.good l ml, fun r H2 s2 lr => ?_⟩
      obtain ⟨p, c, kv, rfl, e1, e2, e3⟩ := id lr
      have hkv2 := s2 _ _ hkv
      have nt : valV kvs (Sum.inr l.t) = none := by
        refine tabled_none pr fun m => ?_
        obtain ⟨l2, m2, et⟩ := List.mem_map.mp m
        have n := ok.nd
        rw [← List.take_append_drop i ls, List.map_append, List.nodup_append] at n
        refine n.2.2 _ (List.mem_map.mpr ⟨l2, m2, rfl⟩) _ (List.mem_map.mpr ⟨l, ?_, rfl⟩) et
        rw [List.drop_eq_getElem_cons (by rw [← len]; exact hi)]
        rw [List.getElem?_eq_getElem (by rw [← len]; exact hi)] at hl
        rw [Option.some.inj hl]
        exact List.mem_cons_self
      refine ⟨_, rfl, p, _, _, _, rfl, rfl, SqT.of e1, at_of (j := 0) rfl rfl, _, rfl, d, _, rfl, DGet.k (k := Sum.inr l.t) hkv2, ?_⟩
      rw [nt]
      refine ⟨_, rfl, iteF ?_⟩
      have short : kvs.length ≤ 6 := by
        have h1 := pr.length
        rw [List.length_take] at h1
        have := ok.six
        omega
      refine ⟨_, rfl, _, rfl, _, rfl, p, _, _, _, rfl, rfl, SqT.of e1, at_of (j := 0) rfl rfl, d, _, rfl, DPut.k (k := Sum.inr l.t) hkv2 (Nat.lt_of_le_of_lt short (by decide)), ?_⟩
      rw [putK_new _ nt]
      refine ⟨_, _, _, rfl, (off.trans (K1.Off.same s2)).put, upd_same, ?_⟩
      have nd2 : ∀ ys, H2 d ≠ some (.tup ys) := fun ys z => by rw [hkv2] at z; cases z
      have put : ∀ (kv : Key × V) (l : Ln), Tabled H1 kv l → Tabled (upd H2 d (.dK (kvs ++ [(Sum.inr l.t, .ref p)]))) kv l := fun kv l q => ⟨q.1, (q.2.same s2).off (K1.Off.refl d H2).put nd2⟩
      rw [take_snoc hl]
      refine Paired.snoc (Paired.mapP pr fun kv l q => ⟨q.1, (q.2.same s2).off (K1.Off.refl d H2).put nd2⟩) ⟨rfl, lr.off (K1.Off.refl d H2).put nd2⟩
    · obtain ⟨v2, v3, kvs, rfl, off, hkv, pr⟩ := p
      rw [len, List.take_length] at pr
      have kl : kvs.length = ls.length := pr.length
      have one := ok.one
      have six := ok.six
      clear hp hxs nad
      refine ⟨_, rfl, d, _, rfl, hkv, _, _, rfl, rfl, _, rfl, ?_⟩
      rw [decide_eq_true (by omega : (1 : Int) ≤ ((kvs.length : Nat) : Int))]
      refine iteT ⟨_, _, rfl, rfl, _, rfl, ?_⟩
      rw [decide_eq_true (by omega : ((kvs.length : Nat) : Int) ≤ 6)]
      refine iteF ?_
      have atKv : ∀ {i : Nat} {kv : Key × V}, kvs[i]? = some kv → ∃ l, ls[i]? = some l ∧ Tabled H1 kv l := fun e => paired_get pr e
      refine ⟨d, .dK kvs, hkv, trivial, fun od => ⟨_, rfl, d, od, kvs, rfl, upd_same, ?_⟩⟩
      obtain ⟨C, few, inC⟩ := ok.cols
      have bound : ∀ (ms : List Ln), (∀ l ∈ ms, l ∈ ls) → (ms.flatMap fun l => srtd l.cs).length ≤ 4 * ms.length := fun ms => by
        induction ms with
        | nil => intro _; simp
        | cons m r ih =>
          intro hm
          have h1 := ih fun l hl => hm l (List.mem_cons_of_mem _ hl)
          have h2 := (ok.good m (hm m List.mem_cons_self)).few
          rw [List.flatMap_cons, List.length_append, srtd_len, List.length_cons]
          omega
      have flat : ∀ n, n ≤ ls.length → K1.flatT (fun i => match ls[i]? with | some l => srtd l.cs | none => []) n = (ls.take n).flatMap fun l => srtd l.cs := fun n => by
        induction n with
        | zero => intro _; rfl
        | succ n ih =>
          intro hn
          have e : ls[n]? = some ls[n] := List.getElem?_eq_getElem (by omega)
          rw [K1.flatT, ih (by omega), take_snoc e, List.flatMap_append, e]
          simp
      refine ⟨kvs.length, _, _, fun i => match ls[i]? with | some l => srtd l.cs | none => [], walk_values, ?_, fun D nD => ⟨fun H' off' => ?_, fun i x H2 H3 hi off' y => ?_, fun H' same hS => ?_⟩⟩
      · rw [kl, flat _ (Nat.le_refl _), List.take_length]
        have := bound ls fun _ h => h
        have : (4096 : Nat) = scanBound := rfl
        omega
      · exact off' _ _ (ne_of_none upd_same nD) upd_same
      · obtain ⟨rfl, kk, hk⟩ := y
        obtain ⟨l, hl, tb⟩ := atKv hk
        simp only [hl]
        have hx : LnAt (upd H1 d (.frz od (.dK kvs))) x l.srt := tb.2.off (K1.Off.refl d H1).put fun ys z => by rw [hkv] at z; cases z
        obtain ⟨p, c, kv', rfl, f1, f2, f3⟩ := hx
        have cD : c ≠ D := ne_of_none f2 nD
        have e1 := off' _ _ (ne_of_none f1 nD) f1
        have e2 := off' _ _ cD f2
        have wk1 : Walk (Itt K c) (srtd l.cs).length (fun H => SqT K H c ((srtd l.cs).map V.str)) (YAt ((srtd l.cs).map V.str)) := by
          have w1 := walk_tup (K := K) (a := c) (xs := (srtd l.cs).map V.str)
          rwa [List.length_map] at w1
        refine ⟨rfl, _, rfl, p, _, _, _, rfl, rfl, SqT.of e1, at_of (j := 1) rfl rfl, c, rfl, ⟨_, SqT.of e2⟩, K1.Off.refl _ _, rfl, _, _, wk1, fun H' o2 => SqT.of (o2 _ _ cD e2), fun j y H6 H7 hj o2 y1 => ?_⟩
        obtain ⟨rfl, hy⟩ := y1
        rw [List.getElem?_map] at hy
        obtain ⟨z, ez, rfl⟩ := Option.map_eq_some_iff.mp hy
        exact ⟨rfl, _, rfl, K1.Off.refl _ _, rfl, z, rfl, ez⟩
      · rw [kl, flat _ (Nat.le_refl _), List.take_length] at hS
        have nDd : D ≠ d := (ne_of_none upd_same nD).symm
        have off2 : K1.Off d H1 (upd H' d (.dK kvs)) := fun b o n e => by
          rw [upd_ne n]
          exact same _ _ (by rw [upd_ne n]; exact e)
        refine ⟨same _ _ upd_same, D, _, rfl, by rw [upd_ne nDd]; exact hS, ?_, fun l nl ml => ⟨_, _, rfl, rfl, _, rfl, ?_⟩⟩
        · have := bound ls fun _ h => h
          omega
        · have lz : l.length ≤ C.length := nl.length_le_of_subset fun z hz => by
            obtain ⟨m, hm, h2⟩ := List.mem_flatMap.mp ((ml z).mp hz)
            exact inC m hm z (mem_srtd.mp h2)
          rw [decide_eq_false (by omega : ¬ (6 : Int) < ((l.length : Nat) : Int))]
          refine iteF ?_
          have hd2 : (upd H' d (.dK kvs)) d = some (.dK kvs) := upd_same
          have tb2 : Paired (Tabled (upd H' d (.dK kvs))) kvs ls := Paired.mapP pr fun kv m q => ⟨q.1, q.2.off off2 fun ys z => by rw [hkv] at z; cases z⟩
          have off3 : K1.Off d H (upd H' d (.dK kvs)) := off.trans off2
          generalize upd H' d (.dK kvs) = H2 at hd2 tb2 off3
          clear same hS off2 pr nD nDd ml nl lz flat bound
          have keys := tabled_keys tb2
          refine ⟨_, rfl, d, kvs, ls.map (·.t), rfl, Rd.of hd2, keys, by rw [List.length_map]; omega, fun ys p pm st hp => ?_⟩
          obtain rfl := srtd_of pm st
          refine ⟨p, rfl, ⟨_, SqL.of upd_same⟩, fun D2 hD2 => ?_⟩
          have hd3 : (upd H2 p (.lst ((srtd (ls.map (·.t))).map V.str))) d = some (.dK kvs) := by rw [upd_ne (ne_of_none hd2 hp)]; exact hd2
          refine lc_acc walk_list (fun i => (((srtd (ls.map (·.t))).take i).map fun z => (valV kvs (Sum.inr z)).getD .non)) rfl hD2 (fun i hi => ?_) (fun H3 s3 => SqL.of (s3 _ _ upd_same)) (fun i x H3 H4 N hi s3 y keep skip => ?_) (fun H3 s3 hL => ?_)
          · have : (6 : Nat) < sizeLine := by decide
            rw [List.length_map, srtd_len, List.length_map] at hi
            rw [List.length_map, List.length_take]; omega
          · obtain ⟨rfl, hx⟩ := y
            rw [List.getElem?_map] at hx
            obtain ⟨z, ez, rfl⟩ := Option.map_eq_some_iff.mp hx
            obtain ⟨v, l2, e1, e2, e3, e4⟩ := tabled_val tb2 (z := z) (mem_srtd.mp (List.mem_of_getElem? ez))
            refine ⟨rfl, _, rfl, _, rfl, d, v, rfl, ?_, ?_⟩
            · have g := DGet.k (k := Sum.inr z) (s3 _ _ hd3)
              rw [e1] at g
              exact g
            · refine keep _ _ (Same.refl _) ?_
              rw [take_snoc ez, List.map_append]
              simp [e1]
          · refine ⟨D2, _, rfl, .inl ⟨SqL.of hL, fun q hq => ?_⟩⟩
            have s4 := Same.new (o := .tup ((((srtd (ls.map (·.t))).take ((srtd (ls.map (·.t))).map V.str).length).map fun z => (valV kvs (Sum.inr z)).getD .non))) ((Same.new (o := .lst ((srtd (ls.map (·.t))).map V.str)) (Same.refl H2) hp).trans s3) hq
            have tb4 := vals_all (Paired.mapP tb2 fun kv m r => (⟨r.1, r.2.same s4⟩ : Tabled _ kv m)) ok.nd
            have s5 := (off3.full hd).trans s4
            refine k q _ _ s5 ?_ upd_same ?_
            · exact (off3.full hd).free (((Same.new (Same.refl H2) hp).trans s3).free hq)
            · rw [List.length_map, List.take_length]
              rw [List.length_map, List.take_length] at tb4
              exact tb4
end
end B30_

/-! ## C4 -/
set_option Elab.async false
set_option linter.all false
set_option maxRecDepth 100000
set_option maxHeartbeats 4000000
namespace K1
open PySem PySem.Spec PyProof.Rows L2
/-! ### comprehensions whose items are new things, told by a relation -/
def pickT {β : Type} (ch : Nat → Option β) : Nat → List β
  | 0 => []
  | n + 1 => pickT ch n ++ (ch n).toList
theorem pickT_map {β : Type} (ys : List β) : ∀ n, n ≤ ys.length → pickT (fun i => ys[i]?) n = ys.take n
  | 0, _ => rfl
  | n + 1, h => by
    rw [pickT, pickT_map ys n (by omega), List.take_add_one]
theorem pickT_all {β : Type} (ys : List β) : pickT (fun i => ys[i]?) ys.length = ys := by rw [pickT_map ys _ (Nat.le_refl _), List.take_length]
theorem pickT_filter {α β : Type} (f : α → Option β) (xs : List α) : ∀ n, n ≤ xs.length → pickT (fun i => xs[i]?.bind f) n = (xs.take n).filterMap f
  | 0, _ => rfl
  | n + 1, h => by
    have e : xs[n]? = some xs[n] := List.getElem?_eq_getElem (by omega)
    rw [pickT, pickT_filter f xs n (by omega), List.take_add_one, List.filterMap_append, e]
    simp [List.filterMap_cons]
    cases f xs[n] <;> rfl
theorem pickT_filter_all {α β : Type} (f : α → Option β) (xs : List α) : pickT (fun i => xs[i]?.bind f) xs.length = xs.filterMap f := by rw [pickT_filter f xs _ (Nat.le_refl _), List.take_length]
theorem pickT_le {β : Type} (ch : Nat → Option β) : ∀ n, (pickT ch n).length ≤ n
  | 0 => Nat.le_refl _
  | n + 1 => by
    have := pickT_le ch n
    rw [pickT, List.length_append]
    cases ch n <;> simp <;> omega
theorem pickT_pre {β : Type} (ch : Nat → Option β) : ∀ {n i : Nat}, i ≤ n → ∃ more, pickT ch n = pickT ch i ++ more
  | 0, i, h => ⟨[], by rw [show i = 0 by omega, List.append_nil]⟩
  | n + 1, i, h => by
    by_cases e : i = n + 1
    · exact ⟨[], by rw [e, List.append_nil]⟩
    · obtain ⟨more, em⟩ := pickT_pre ch (n := n) (i := i) (by omega)
      exact ⟨more ++ (ch n).toList, by rw [pickT, em, List.append_assoc]⟩
theorem Paired.snocO {α β : Type} {R : α → β → Prop} {xs : List α} {ys : List β} {x : α} {o : Option β} {y : β} (h : Paired R xs ys) (e : o = some y) (r : R x y) : Paired R (xs ++ [x]) (ys ++ o.toList) := by
  rw [e]; exact h.snoc r
theorem lc_rel {β : Type} {J : It} {n : Nat} {G : Hp → Prop} {Y : Nat → Hp → V → Hp → Prop} (w : Walk J n G Y) {g : TG} {tt : TT} {te : TE} {vs : List Nat} {σ : L2.St} {H0 : Hp} {D : Addr} {Qd : Hp → Prop} (R : Hp → V → β → Prop) (ch : Nat → Option β) (hD : H0 D = none) (few : n < sizeLine)
    (stab : ∀ H H' v y, R H v y → (∃ a, H D = some (.lst a)) → Off D H H' → R H' v y) (hG : ∀ H, Same H0 H → G H)
    (hs : ∀ i x H H' (N : Hp → Prop), i < n → Same H0 H → (∃ a, H D = some (.lst a)) → Y i H x H' → (∀ H4 v y, Same H H4 → ch i = some y → R H4 v y → ∃ a, H4 D = some (.lst a) ∧ a.length < sizeLine ∧ N (upd H4 D (.lst (a ++ [v])))) → (∀ H4, Same H H4 → ch i = none → N H4) →
      g x (wipe σ vs) H' fun σ2 H2 => wipe σ2 vs = wipe σ vs ∧ tt σ2 H2 fun b H3 => if b = true then te σ2 H3 fun v H4 => ∃ a, H4 D = some (.lst a) ∧ a.length < sizeLine ∧ N (upd H4 D (.lst (a ++ [v]))) else N H3)
    (hd : ∀ H acc, Same H0 H → H D = some (.lst acc) → Paired (R H) acc (pickT ch n) → Qd H) :
    ∃ W : Nat → Nat → Hp → Prop, (∃ m, W 0 m (upd H0 D (.lst []))) ∧ ∀ i m H, W i m H →
      (J.stop i H ∧ Qd H) ∨ (J.go i H ∧ ∃ Nx : Hp → Prop, (∀ H', Nx H' → ∃ m', m' < m ∧ W (i + 1) m' H') ∧ ∀ x H', J.yld i H x H' → g x (wipe σ vs) H' fun σ2 H2 => wipe σ2 vs = wipe σ vs ∧ tt σ2 H2 fun b H3 =>
        if b = true then te σ2 H3 fun v H4 => ∃ a, H4 D = some (.lst a) ∧ a.length < sizeLine ∧ Nx (upd H4 D (.lst (a ++ [v]))) else Nx H3) := by
  refine lc_it w (fun i H => i ≤ n ∧ Same H0 H ∧ ∃ acc, H D = some (.lst acc) ∧ Paired (R H) acc (pickT ch i)) ⟨Nat.zero_le _, (Off.refl D H0).put.full hD, [], upd_same, .nil⟩ (fun i H _ p => hG H p.2.1) (fun i x H H' hi p y => ?_) (fun H p => ?_)
  · obtain ⟨_, sm, acc, hacc, pr⟩ := p
    refine hs i x H H' _ hi sm ⟨acc, hacc⟩ y (fun H4 v y' s e r => ?_) fun H4 s e => ?_
    · have h4 := s _ _ hacc
      refine ⟨acc, h4, ?_, hi, ?_, _, upd_same, ?_⟩
      · have h1 := pr.length
        have h2 := pickT_le ch i
        omega
      · exact ((Off.same (sm.trans s)).put.full hD)
      · exact Paired.snocO (Paired.mapP pr fun v y r => stab _ _ _ _ r ⟨acc, hacc⟩ ((Off.same s).put)) e (stab _ _ _ _ r ⟨acc, h4⟩ (Off.refl D H4).put)
    · refine ⟨hi, sm.trans s, acc, s _ _ hacc, ?_⟩
      rw [pickT, e]
      show Paired _ _ (pickT ch i ++ [])
      rw [List.append_nil]
      exact Paired.mapP pr fun v y r => stab _ _ _ _ r ⟨acc, hacc⟩ (Off.same s)
  · obtain ⟨_, sm, acc, hacc, pr⟩ := p
    exact hd H acc sm hacc pr
/-- a dict comprehension likewise: its keys differ -/
theorem dc_rel {β : Type} {J : It} {n : Nat} {G : Hp → Prop} {Y : Nat → Hp → V → Hp → Prop} (w : Walk J n G Y) {g : TG} {tt : TT} {tk tv : TE} {vs : List Nat} {σ : L2.St} {H0 : Hp} {D : Addr} {Qd : Hp → Prop} (R : Hp → V → β → Prop) (key : β → Key) (ch : Nat → Option β) (hD : H0 D = none) (few : n < sizeLine)
    (nod : ((pickT ch n).map key).Nodup) (stab : ∀ H H' v y, R H v y → (∃ a, H D = some (.dK a)) → Off D H H' → R H' v y) (hG : ∀ H, Same H0 H → G H)
    (hs : ∀ i x H H' (N : Hp → Prop), i < n → Same H0 H → (∃ a, H D = some (.dK a)) → Y i H x H' → (∀ H4 v y, Same H H4 → ch i = some y → R H4 v y → ∃ a k, kV (key y) = kV k ∧ H4 D = some (.dK a) ∧ a.length < sizeLine ∧ N (upd H4 D (.dK (putK a k v)))) → (∀ H4, Same H H4 → ch i = none → N H4) →
      g x (wipe σ vs) H' fun σ2 H2 => wipe σ2 vs = wipe σ vs ∧ tt σ2 H2 fun b H3 => if b = true then tk σ2 H3 fun y H4 => tv σ2 H4 fun z H5 => ∃ a k, y = kV k ∧ H5 D = some (.dK a) ∧ a.length < sizeLine ∧ N (upd H5 D (.dK (putK a k z))) else N H3)
    (hd : ∀ H kvs, Same H0 H → H D = some (.dK kvs) → Paired (fun kv y => kv.1 = key y ∧ R H kv.2 y) kvs (pickT ch n) → Qd H) :
    ∃ W : Nat → Nat → Hp → Prop, (∃ m, W 0 m (upd H0 D (.dK []))) ∧ ∀ i m H, W i m H →
      (J.stop i H ∧ Qd H) ∨ (J.go i H ∧ ∃ Nx : Hp → Prop, (∀ H', Nx H' → ∃ m', m' < m ∧ W (i + 1) m' H') ∧ ∀ x H', J.yld i H x H' → g x (wipe σ vs) H' fun σ2 H2 => wipe σ2 vs = wipe σ vs ∧ tt σ2 H2 fun b H3 =>
        if b = true then tk σ2 H3 fun y H4 => tv σ2 H4 fun z H5 => ∃ a k, y = kV k ∧ H5 D = some (.dK a) ∧ a.length < sizeLine ∧ Nx (upd H5 D (.dK (putK a k z))) else Nx H3) := by
  refine ⟨fun i m H => m = n - i ∧ i ≤ n ∧ Same H0 H ∧ ∃ kvs, H D = some (.dK kvs) ∧ Paired (fun kv y => kv.1 = key y ∧ R H kv.2 y) kvs (pickT ch i), ⟨n, by simp, Nat.zero_le _, (Off.refl D H0).put.full hD, [], upd_same, .nil⟩, ?_⟩
  rintro i m H ⟨rfl, hi, sm, kvs, hk, pr⟩
  by_cases lt : i < n
  · refine .inr ⟨w.goes i H lt (hG H sm), fun H' => i + 1 ≤ n ∧ Same H0 H' ∧ ∃ kvs, H' D = some (.dK kvs) ∧ Paired (fun kv y => kv.1 = key y ∧ R H' kv.2 y) kvs (pickT ch (i + 1)), fun H' p => ⟨n - (i + 1), by omega, rfl, p⟩, fun x H' y => ?_⟩
    refine hs i x H H' _ lt sm ⟨kvs, hk⟩ (w.yields i H x H' lt (hG H sm) y) (fun H4 v y' s e r => ?_) fun H4 s e => ?_
    · have h4 := s _ _ hk
      have pl : kvs.length = (pickT ch i).length := pr.length
      have new : valV kvs (key y') = none := by
        cases q : valV kvs (key y') with
        | none => rfl
        | some v =>
          have m := valV_in q
          have ks : kvs.map (·.1) = (pickT ch i).map key := by
            clear pl hk
            generalize pickT ch i = ys at pr
            clear q m h4
            induction pr with
            | nil => rfl
            | cons r t ih => rw [List.map_cons, List.map_cons, r.1, ih]
          rw [ks] at m
          obtain ⟨more, em⟩ := pickT_pre ch (n := n) (i := i + 1) lt
          rw [em, pickT, e] at nod
          simp only [Option.toList_some, List.map_append, List.map_cons, List.map_nil] at nod
          have := (List.nodup_append.mp (List.nodup_append.mp nod).1).2.2 _ m _ List.mem_cons_self
          exact absurd rfl this
      refine ⟨kvs, key y', rfl, h4, ?_, lt, (Off.same (sm.trans s)).put.full hD, _, upd_same, ?_⟩
      · have h2 := pickT_le ch i
        omega
      · rw [putK_new v new]
        exact Paired.snocO (Paired.mapP pr fun kv y r => ⟨r.1, stab _ _ _ _ r.2 ⟨kvs, hk⟩ ((Off.same s).put)⟩) e ⟨rfl, stab _ _ _ _ r ⟨kvs, h4⟩ (Off.refl D H4).put⟩
    · refine ⟨lt, sm.trans s, kvs, s _ _ hk, ?_⟩
      rw [pickT, e]
      show Paired _ _ (pickT ch i ++ [])
      rw [List.append_nil]
      exact Paired.mapP pr fun kv y r => ⟨r.1, stab _ _ _ _ r.2 ⟨kvs, hk⟩ (Off.same s)⟩
  · obtain rfl : i = n := by omega
    exact .inl ⟨w.stops H (hG H sm), hd H kvs sm hk pr⟩
end K1

/-! ## B30_10 -/
set_option Elab.async false
set_option linter.all false
set_option maxRecDepth 100000
set_option maxHeartbeats 8000000
namespace B30_
open PySem PySem.Spec PyProof.Rows L2
/-! ### dicts of tables -/
/-- a dict from names to tuples of texts -/
def ColsOf (H : Hp) (v : V) (e : Str × List Str) : Prop := ∃ c, v = .ref c ∧ H c = some (.tup (e.2.map V.str))
def TupD (H : Hp) (d : Addr) (m : List (Str × List Str)) : Prop := ∃ kvs, H d = some (.dK kvs) ∧ Paired (fun kv e => kv.1 = Sum.inr e.1 ∧ ColsOf H kv.2 e) kvs m
def OptD (H : Hp) (v : V) (m : List (Str × List Str)) : Prop := (v = .non ∧ m = []) ∨ ∃ d, v = .ref d ∧ TupD H d m
theorem ColsOf.off {D : Addr} {H H' : Hp} {v : V} {e : Str × List Str} (h : ColsOf H v e) (s : K1.Off D H H') (hd : ∀ xs, H D ≠ some (.tup xs)) : ColsOf H' v e := by
  obtain ⟨c, rfl, h⟩ := h
  exact ⟨c, rfl, s _ _ (fun z => hd _ (z ▸ h)) h⟩
theorem ColsOf.same {H H' : Hp} {v : V} {e : Str × List Str} (h : ColsOf H v e) (s : Same H H') : ColsOf H' v e := h.imp fun c q => ⟨q.1, s _ _ q.2⟩
theorem TupD.same {H H' : Hp} {d : Addr} {m : List (Str × List Str)} (h : TupD H d m) (s : Same H H') : TupD H' d m := by
  obtain ⟨kvs, h1, h2⟩ := h
  exact ⟨kvs, s _ _ h1, Paired.mapP h2 fun kv e q => ⟨q.1, q.2.same s⟩⟩
theorem TupD.off {D d : Addr} {H H' : Hp} {m : List (Str × List Str)} (h : TupD H d m) (s : K1.Off D H H') (n : d ≠ D) (hd : ∀ xs, H D ≠ some (.tup xs)) : TupD H' d m := by
  obtain ⟨kvs, h1, h2⟩ := h
  exact ⟨kvs, s _ _ n h1, Paired.mapP h2 fun kv e q => ⟨q.1, q.2.off s hd⟩⟩
theorem OptD.same {H H' : Hp} {v : V} {m : List (Str × List Str)} (h : OptD H v m) (s : Same H H') : OptD H' v m := h.imp id fun ⟨d, e, q⟩ => ⟨d, e, q.same s⟩
theorem keysOf {H : Hp} : ∀ {kvs : List (Key × V)} {m : List (Str × List Str)}, Paired (fun kv e => kv.1 = Sum.inr e.1 ∧ ColsOf H kv.2 e) kvs m → kvs.map (·.1) = (m.map (·.1)).map Sum.inr
  | _, _, .nil => rfl
  | _, _, .cons r t => by rw [List.map_cons, List.map_cons, List.map_cons, r.1, keysOf t]
theorem valOf {H : Hp} : ∀ {kvs : List (Key × V)} {m : List (Str × List Str)}, Paired (fun kv e => kv.1 = Sum.inr e.1 ∧ ColsOf H kv.2 e) kvs m → ∀ (z : Str), match m.lookup z with
    | none => valV kvs (Sum.inr z) = none
    | some cs => ∃ c, valV kvs (Sum.inr z) = some (.ref c) ∧ H c = some (.tup (cs.map V.str))
  | _, _, .nil, z => rfl
  | _, _, .cons (a := kv) (b := e) r t, z => by
    rw [List.lookup_cons]
    by_cases q : e.1 = z
    · have q2 : (z == e.1) = true := by simpa using q.symm
      rw [q2]
      obtain ⟨c, e1, e2⟩ := r.2
      exact ⟨c, by rw [valV_pos (by rw [r.1, q]), e1], e2⟩
    · have q2 : (z == e.1) = false := by simpa using fun w => q w.symm
      rw [q2]
      have ih := valOf t z
      rw [valV_neg (by rw [r.1]; intro w; exact q (Sum.inr.inj w))]
      exact ih
/-! ### _dict_told -/
abbrev s_dt : Stmt := topS 21
abbrev N_dt : List Str := ["value", "table"]
theorem sc_dt : FnScope N_dt ["value"] (defScope s_dt) := ⟨rfl, rfl, rfl, by decide +kernel, rfl, by decide +kernel, by decide +kernel⟩
def spDT : Sp := fun vs H Q _ => ∃ (v : V) (m : List (Str × List Str)), vs = [v] ∧ OptD H v m ∧ (∀ e ∈ m, nameB e.1 = true) ∧ m.length ≤ 1000 ∧ ∀ d H', (H d = none ∨ v = .ref d) → Same H H' → TupD H' d m → Q (.ref d) H'
section
variable {P : Program} {w : World} {K : PySem.W.Frag} {mg : Str → Option Value} {base : Heap}
theorem ok_dt {f : Addr} {fd : FuncData} (F : Fun K "_dict_told" "_dict_told" s_dt f fd) (T : NamesS mg) (C1 : Callee P w K mg base CX0 1 "is_name" ["value"] (spName K)) : FnOk P w K mg base CX0 2 f fd ["value"] spDT := by
  have nd := sc_dt.nd
  refine F.ok sc_dt (fun vs H Q E h => ?_) (fun cdv A outer s H vs Q E hr h => ?_)
  · obtain ⟨v, m, rfl, _⟩ := h
    rfl
  · obtain ⟨v, m, rfl, hv, nm, few, k⟩ := h
    refine ⟨_, (pss_cons
    (ps_if (pt_cmpR op_isN (pv 0) pe_non (nomark _)) (pss_one
      (ps_ret pe_dnewK)) pss_nil)
    (pss_cons
    (ps_if (PW.pt (pw_or (pt_not (pt_val (pe_callB call_isi (by rfl) T.isinstance (by decide +kernel) (pa_cons (pv 0) (pa_cons (pe_bltn (v := .ty "dict") (by rfl) T.dict (by decide +kernel) rfl) pa_nil))))) (pw_or1 (pt_not (pt_val (pe_callB (cr_all rfl) (by rfl) T.all (by decide +kernel) (pa_cons (pe_lock (pe_lc (own := [("table", 1)]) (g := (gName 1)) rfl nd (pi_keys (pv 0)) (blkOk_by (N := N_dt) (sc := defScope s_dt) (by decide +kernel)) (fun _ _ _ _ _ => (pg_name (i := 1) nd rfl (Or.inl rfl))) (fun _ _ _ _ _ => pts_nil) (fun _ _ _ _ _ => (pe_use C1 hr rfl pass0 (pa_cons (pv 1) pa_nil))))) pa_nil))))))) (pss_one ps_never) pss_nil)
    (pss_one
    (ps_ret (pv 0))))), ?_⟩
    rcases hv with ⟨rfl, rfl⟩ | ⟨d, rfl, kvs, hd, pr⟩
    · refine ⟨_, rfl, rfl, _, rfl, ?_⟩
      rw [decide_eq_true rfl]
      refine iteT fun d hd => ?_
      exact k d _ (.inl hd) (Same.new (Same.refl H) hd) ⟨[], upd_same, .nil⟩
    · refine ⟨_, rfl, rfl, _, rfl, ?_⟩
      rw [decide_eq_false (by intro z; cases z)]
      refine iteF ?_
      refine ⟨_, rfl, _, _, _, _, true, rfl, .ty _, .base (.dK hd), kit_ty (by decide +kernel), _, rfl, iteF ?_⟩
      refine ⟨d, .dK kvs, hd, trivial, fun od => ⟨_, rfl, d, od, rfl, .inl ⟨kvs, upd_same, fun D hD => ?_⟩⟩⟩
      have kl : kvs.length = m.length := pr.length
      refine lc_acc walk_keys (fun i => (m.take i).map fun _ => V.bl true) rfl hD (fun i hi => ?_) (fun H1 s1 => s1 _ _ upd_same) (fun i x H1 H2 N hi s1 y keep skip => ?_) (fun H1 s1 hL => ?_)
      · have : (1000 : Nat) < sizeLine := by decide
        rw [List.length_map, List.length_take]; omega
      · obtain ⟨rfl, kk, vv, hk, rfl⟩ := y
        obtain ⟨e, he, r1, r2⟩ := paired_get pr hk
        obtain rfl : kk = Sum.inr e.1 := r1
        have ne := nm e (List.mem_of_getElem? he)
        refine ⟨rfl, _, rfl, .str e.1, true, rfl, .inl ⟨_, rfl, name_size ne, ne.symm⟩, fun H3 s3 => keep _ _ s3 ?_⟩
        rw [take_snoc he, List.map_append]; rfl
      · have off : K1.Off d H (upd H1 d (.dK kvs)) := fun b o n e => by
          rw [upd_ne n]
          exact s1 _ _ (by rw [upd_ne n]; exact e)
        have same : Same H (upd H1 d (.dK kvs)) := fun b o e => by
          by_cases q : b = d
          · subst q; rw [upd_same]; rw [hd] at e; exact e
          · exact off b o q e
        have nDd : D ≠ d := (ne_of_none upd_same hD).symm
        refine ⟨s1 _ _ upd_same, D, m.map fun _ => true, rfl, SqL.of ?_, ?_⟩
        · rw [upd_ne nDd, hL, kl, List.take_length, List.map_map]; rfl
        · have e : (m.map fun _ => true).all id = true := by rw [List.all_map, List.all_eq_true]; exact fun _ _ => rfl
          rw [e]
          exact ⟨_, rfl, iteF ⟨_, rfl, k d _ (.inr rfl) same ⟨kvs, upd_same, Paired.mapP pr fun kv e q => ⟨q.1, q.2.same same⟩⟩⟩⟩
end
end B30_

/-! ## B30_11 -/
set_option Elab.async false
set_option linter.all false
set_option maxRecDepth 100000
set_option maxHeartbeats 8000000
namespace B30_
open PySem PySem.Spec PyProof.Rows L2
/-! ### _lines_told, of three dicts that tell a scene -/
abbrev Told := List (Str × List Str)
def kdOf (gv : Told) (z : Str) : Kd := match gv.lookup z with
  | some ks => .key ks
  | none => .fix
def lnsOf (mv st gv : Told) : List Ln := mv.map (fun e => ⟨e.1, e.2, .chg⟩) ++ st.map fun e => ⟨e.1, e.2, kdOf gv e.1⟩
structure ToldOk (mv st gv : Told) : Prop where
  ok : LnsOk (lnsOf mv st gv)
  sub : ∀ e ∈ gv, e.1 ∈ st.map (·.1)
theorem lnsOf_len (mv st gv : Told) : (lnsOf mv st gv).length = mv.length + st.length := by simp [lnsOf]
theorem ToldOk.mv {mv st gv : Told} (h : ToldOk mv st gv) : mv.length ≤ 6 := by
  have := h.ok.six
  rw [lnsOf_len] at this; omega
theorem ToldOk.st {mv st gv : Told} (h : ToldOk mv st gv) : st.length ≤ 6 := by
  have := h.ok.six
  rw [lnsOf_len] at this; omega
theorem ToldOk.nmv {mv st gv : Told} (h : ToldOk mv st gv) : ∀ e ∈ mv, nameB e.1 = true := fun e he => (h.ok.good ⟨e.1, e.2, .chg⟩ (List.mem_append_left _ (List.mem_map.mpr ⟨e, he, rfl⟩))).name
theorem ToldOk.nst {mv st gv : Told} (h : ToldOk mv st gv) : ∀ e ∈ st, nameB e.1 = true := fun e he => (h.ok.good ⟨e.1, e.2, kdOf gv e.1⟩ (List.mem_append_right _ (List.mem_map.mpr ⟨e, he, rfl⟩))).name
theorem ToldOk.ngv {mv st gv : Told} (h : ToldOk mv st gv) : ∀ e ∈ gv, nameB e.1 = true := fun e he => by
  obtain ⟨x, hx, e1⟩ := List.mem_map.mp (h.sub e he)
  rw [← e1]; exact h.nst x hx
abbrev s_lt : Stmt := topS 20
abbrev N_lt : List Str := ["changing", "fixed", "keyed", "moving", "still", "chosen", "first", "more", "table", "key", "columns"]
theorem sc_lt : FnScope N_lt ["changing", "fixed", "keyed"] (defScope s_lt) := ⟨rfl, rfl, rfl, by decide +kernel, rfl, by decide +kernel, by decide +kernel⟩
def spLT : Sp := fun vs H Q _ => ∃ (a b c : V) (mv st gv : Told), vs = [a, b, c] ∧ OptD H a mv ∧ OptD H b st ∧ OptD H c gv ∧ gv.length ≤ 1000 ∧ (∀ d, b = .ref d → c ≠ .ref d) ∧ ToldOk mv st gv ∧ ∀ p rs H', Same H H' → H p = none → H' p = some (.tup rs) → Paired (LnAt H') rs (ordL (lnsOf mv st gv)) → Q (.ref p) H'
theorem unlock {H H1 : Hp} {d : Addr} {u : HO} {o : Obj} (hd : H d = some u) (s : Same (upd H d (.frz o u)) H1) : Same H (upd H1 d u) := fun b z e => by
  by_cases q : b = d
  · subst q; rw [upd_same]; rw [hd] at e; exact e
  · rw [upd_ne q]; exact s _ _ (by rw [upd_ne q]; exact e)
theorem paired_app {α β : Type} {R : α → β → Prop} : ∀ {xs xs' : List α} {ys ys' : List β}, Paired R xs ys → Paired R xs' ys' → Paired R (xs ++ xs') (ys ++ ys')
  | _, _, _, _, .nil, h => h
  | _, _, _, _, .cons r t, h => .cons r (paired_app t h)
section
variable {P : Program} {w : World} {K : PySem.W.Frag} {mg : Str → Option Value} {base : Heap}
theorem ok_lt {f : Addr} {fd : FuncData} (F : Fun K "_lines_told" "_lines_told" s_lt f fd) (T : NamesS mg) (CD : Callee P w K mg base CX0 2 "_dict_told" ["value"] spDT) (C6 : Callee P w K mg base CX0 6 "_checked" ["lines"] spChk) : FnOk P w K mg base CX0 7 f fd ["changing", "fixed", "keyed"] spLT := by
  have nd := sc_lt.nd
  refine F.ok sc_lt (fun vs H Q E h => ?_) (fun cdv A outer s H vs Q E hr h => ?_)
  · obtain ⟨a, b, c, mv, st, gv, rfl, _⟩ := h
    rfl
  · obtain ⟨a, b, c, mv, st, gv, rfl, ha, hb, hc, gl, hne, ok, k⟩ := h
    have hr2 : Room 2 _ := hr.mono (by decide)
    have hu := hu_of hr
    obtain ⟨tc, hchg⟩ := T.chg
    refine ⟨_, (pss_cons
    (ps_asg (pe_tup (pa_cons (pe_use CD hr2 rfl pass0 (pa_cons (pv 0) pa_nil)) (pa_cons (pe_use CD hr2 rfl pass0 (pa_cons (pv 1) pa_nil)) (pa_cons (pe_use CD hr2 rfl pass0 (pa_cons (pv 2) pa_nil)) pa_nil)))) (pg_tup rfl (pgs_cons (pg_name (i := 3) nd rfl (Or.inl rfl)) (pgs_cons (pg_name (i := 4) nd rfl (Or.inr rfl)) (pgs_cons (pg_name (i := 5) nd rfl (Or.inr rfl)) pgs_nil)))))
    (pss_cons
    (ps_if (pt_not (pt_val (pe_callB (cr_all rfl) (by rfl) T.all (by decide +kernel) (pa_cons (pe_lock (pe_lc (own := [("table", 8)]) (g := (gName 8)) rfl nd (pi_keys (pv 5)) (blkOk_by (N := N_lt) (sc := defScope s_lt) (by decide +kernel)) (fun _ _ _ _ _ => (pg_name (i := 8) nd rfl (Or.inl rfl))) (fun _ _ _ _ _ => pts_nil) (fun _ _ _ _ _ => (pe_cmp (pc_din hu (pv 8) (pv 4)) rfl)))) pa_nil)))) (pss_one ps_never) pss_nil)
    (pss_cons
    (ps_if (pt_not (pt_val (pe_callB (cr_all rfl) (by rfl) T.all (by decide +kernel) (pa_cons (pe_lock (pe_lc (own := [("key", 9)]) (g := (gName 9)) rfl nd (pi_values (pv 5)) (blkOk_by (N := N_lt) (sc := defScope s_lt) (by decide +kernel)) (fun _ _ _ _ _ => (pg_name (i := 9) nd rfl (Or.inl rfl))) (fun _ _ _ _ _ => pts_nil) (fun _ _ _ _ _ => (pe_callB (r := rIsi K) call_isi (by rfl) T.isinstance (by decide +kernel) (pa_cons (pv 9) (pa_cons (pe_bltn (v := .ty "tuple") (by rfl) T.tuple (by decide +kernel) rfl) pa_nil)))))) pa_nil)))) (pss_one ps_never) pss_nil)
    (pss_cons
    (ps_lock (ps_setLc (i := 6) (own := [("table", 8), ("columns", 10)]) (g := gTup K 2 (gCons (gName 8) (gCons (gName 10) gNil))) rfl nd rfl rfl (sw_true rfl rfl rfl (by decide +kernel)) (pi_items (pv 3)) (blkOk_by (N := N_lt) (sc := defScope s_lt) (by decide +kernel)) (fun _ _ _ _ _ => (pg_tup rfl (pgs_cons (pg_name (i := 8) nd rfl (Or.inl rfl)) (pgs_cons (pg_name (i := 10) nd rfl (Or.inl rfl)) pgs_nil)))) (fun _ _ _ _ _ => pts_nil) (fun _ _ _ _ _ => (pe_tup (pa_cons (pv 8) (pa_cons (pv 10) (pa_cons (pe_glob (v := .str "changing") rfl hchg ⟨_, rfl⟩) pa_nil)))))))
    (pss_cons
    (ps_lock (ps_setLc (i := 7) (own := [("table", 8), ("columns", 10)]) (g := gTup K 2 (gCons (gName 8) (gCons (gName 10) gNil))) rfl nd rfl rfl (sw_true rfl rfl rfl (by decide +kernel)) (pi_items (pv 4)) (blkOk_by (N := N_lt) (sc := defScope s_lt) (by decide +kernel)) (fun _ _ _ _ _ => (pg_tup rfl (pgs_cons (pg_name (i := 8) nd rfl (Or.inl rfl)) (pgs_cons (pg_name (i := 10) nd rfl (Or.inl rfl)) pgs_nil)))) (fun _ _ _ _ _ => pts_nil) (fun _ _ _ _ _ => (pe_tup (pa_cons (pv 8) (pa_cons (pv 10) (pa_cons (pe_dget1 hu (pv 5) (pv 8) ⟨rfl, rfl, rfl, rfl⟩) pa_nil)))))))
    (pss_one
    (ps_ret (pe_use C6 hr rfl pass0 (pa_cons (pe_lst (StX.pa_star (pv 6) (StX.pa_star (pv 7) pa_nil))) pa_nil))))))))), ?_⟩
    have six : (1000 : Nat) < sizeLine := by decide
    have m6 := ok.mv
    have s6 := ok.st
    refine ⟨_, rfl, a, mv, rfl, ha, ok.nmv, by omega, fun d1 H1 w1 s1 t1 => ⟨_, rfl, b, st, rfl, hb.same s1, ok.nst, by omega, fun d2 H2 w2 s2 t2 => ⟨_, rfl, c, gv, rfl, (hc.same s1).same s2, ok.ngv, gl, fun d3 H3 w3 s3 t3 => ⟨Nat.le_of_ble_eq_true rfl, fun p0 hp0 => ⟨p0, _, rfl, SqT.of upd_same, rfl, _, _, rfl, _, _, rfl, _, _, rfl, rfl, ?_⟩⟩⟩⟩⟩
    have ne23 : d2 ≠ d3 := fun e => by
      subst e
      obtain ⟨kv2, h2, _⟩ := t2
      rcases w3 with w3 | rfl
      · rw [h2] at w3; cases w3
      · rcases w2 with w2 | w2
        · rcases hc with ⟨z, _⟩ | ⟨d, z, kv3, h3, _⟩
          · cases z
          · cases z
            rw [s1 _ _ h3] at w2; cases w2
        · exact hne d2 w2 rfl
    have s4 := Same.new (o := .tup [.ref d1, .ref d2, .ref d3]) (Same.refl H3) hp0
    have t1' := ((t1.same s2).same s3).same s4
    have t2' := (t2.same s3).same s4
    have t3' := t3.same s4
    have sH := ((s1.trans s2).trans s3).trans s4
    clear s4 t1 t2 t3 hp0 w1 w2 w3 s1 s2 s3 ha hb hc
    generalize upd H3 p0 _ = H4 at t1' t2' t3' sH
    obtain ⟨kv1, h1, pr1⟩ := t1'
    obtain ⟨kv2, h2, pr2⟩ := t2'
    obtain ⟨kv3, h3, pr3⟩ := t3'
    have l1 : kv1.length = mv.length := pr1.length
    have l2 : kv2.length = st.length := pr2.length
    have l3 : kv3.length = gv.length := pr3.length
    -- each key is a fixed table's
    refine ⟨d3, .dK kv3, h3, trivial, fun od => ⟨_, rfl, d3, od, rfl, .inl ⟨kv3, upd_same, fun D hD => ?_⟩⟩⟩
    refine lc_acc walk_keys (fun i => (gv.take i).map fun _ => V.bl true) rfl hD (fun i hi => ?_) (fun H1 s1 => s1 _ _ upd_same) (fun i x H1 H2 N hi s1 y keep skip => ?_) (fun H5 s5 hL => ?_)
    · rw [List.length_map, List.length_take]; omega
    · obtain ⟨rfl, kk, vv, hk, rfl⟩ := y
      obtain ⟨e, he, r1, r2⟩ := paired_get pr3 hk
      obtain rfl : kk = Sum.inr e.1 := r1
      refine ⟨rfl, _, rfl, _, rfl, d2, _, rfl, DGet.k (k := Sum.inr e.1) (s1 _ _ (by rw [upd_ne ne23]; exact h2)), keep _ _ (Same.refl _) ?_⟩
      have some_ : (valV kv2 (Sum.inr e.1)).isSome = true := by
        have v := valOf pr2 e.1
        cases q : st.lookup e.1 with
        | none =>
          rw [q] at v
          obtain ⟨x, hx, ex⟩ := List.mem_map.mp (ok.sub e (List.mem_of_getElem? he))
          rw [List.lookup_eq_none_iff] at q
          exact absurd (q x hx) (by simp [ex])
        | some cs =>
          rw [q] at v
          obtain ⟨c, v, _⟩ := v
          rw [v]; rfl
      rw [take_snoc he, List.map_append, some_]; rfl
    have same5 := unlock h3 s5
    have nD3 : D ≠ d3 := (ne_of_none upd_same hD).symm
    refine ⟨s5 _ _ upd_same, D, gv.map fun _ => true, rfl, SqL.of ?_, ?_⟩
    · rw [upd_ne nD3, hL, l3, List.take_length, List.map_map]; rfl
    rw [show (gv.map fun _ => true).all id = true by rw [List.all_map, List.all_eq_true]; exact fun _ _ => rfl]
    refine ⟨_, rfl, iteF ?_⟩
    have sH5 := sH.trans same5
    replace h1 := same5 _ _ h1
    replace h2 := same5 _ _ h2
    replace h3 := same5 _ _ h3
    replace pr1 := Paired.mapP pr1 fun kv e q => (⟨q.1, q.2.same same5⟩ : kv.1 = Sum.inr e.1 ∧ ColsOf _ kv.2 e)
    replace pr2 := Paired.mapP pr2 fun kv e q => (⟨q.1, q.2.same same5⟩ : kv.1 = Sum.inr e.1 ∧ ColsOf _ kv.2 e)
    replace pr3 := Paired.mapP pr3 fun kv e q => (⟨q.1, q.2.same same5⟩ : kv.1 = Sum.inr e.1 ∧ ColsOf _ kv.2 e)
    clear same5 s5 hL hD nD3 sH
    generalize upd H5 d3 _ = H6 at *
    -- each key is a tuple
    refine ⟨d3, .dK kv3, h3, trivial, fun od => ⟨_, rfl, d3, od, kv3, rfl, upd_same, fun D hD => ?_⟩⟩
    refine lc_acc walk_values (fun i => (gv.take i).map fun _ => V.bl true) rfl hD (fun i hi => ?_) (fun H1 s1 => s1 _ _ upd_same) (fun i x H1 H2 N hi s1 y keep skip => ?_) (fun H7 s7 hL => ?_)
    · rw [List.length_map, List.length_take]; omega
    · obtain ⟨rfl, kk, hk⟩ := y
      obtain ⟨e, he, r1, c, rfl, hc⟩ := paired_get pr3 hk
      have hc2 := s1 _ _ (show (upd H6 d3 (.frz od (.dK kv3))) c = _ from by rw [upd_ne (fun z => by rw [z, h3] at hc; cases hc)]; exact hc)
      refine ⟨rfl, _, rfl, _, _, _, _, true, rfl, .ty _, .base (.tup hc2), kit_ty (by decide +kernel), keep _ _ (Same.refl _) ?_⟩
      rw [take_snoc he, List.map_append]; rfl
    have same7 := unlock h3 s7
    have nD3 : D ≠ d3 := (ne_of_none upd_same hD).symm
    refine ⟨s7 _ _ upd_same, D, gv.map fun _ => true, rfl, SqL.of ?_, ?_⟩
    · rw [upd_ne nD3, hL, l3, List.take_length, List.map_map]; rfl
    rw [show (gv.map fun _ => true).all id = true by rw [List.all_map, List.all_eq_true]; exact fun _ _ => rfl]
    refine ⟨_, rfl, iteF ?_⟩
    have sH7 := sH5.trans same7
    replace h1 := same7 _ _ h1
    replace h2 := same7 _ _ h2
    replace h3 := same7 _ _ h3
    replace pr1 := Paired.mapP pr1 fun kv e q => (⟨q.1, q.2.same same7⟩ : kv.1 = Sum.inr e.1 ∧ ColsOf _ kv.2 e)
    replace pr2 := Paired.mapP pr2 fun kv e q => (⟨q.1, q.2.same same7⟩ : kv.1 = Sum.inr e.1 ∧ ColsOf _ kv.2 e)
    replace pr3 := Paired.mapP pr3 fun kv e q => (⟨q.1, q.2.same same7⟩ : kv.1 = Sum.inr e.1 ∧ ColsOf _ kv.2 e)
    clear same7 s7 hL hD nD3 sH5
    generalize upd H7 d3 _ = H8 at *
    -- the lines of the tables that change
    refine ⟨d1, .dK kv1, h1, trivial, fun od => ⟨_, rfl, d1, od, kv1, rfl, upd_same, fun D hD => ?_⟩⟩
    have lst_tup : ∀ {H : Hp} {D : Addr}, (∃ a, H D = some (.lst a)) → ∀ xs, H D ≠ some (.tup xs) := fun ⟨a, e⟩ xs z => by rw [e] at z; cases z
    refine K1.lc_rel walk_items LnAt (fun i => (mv.map fun e => (⟨e.1, e.2, .chg⟩ : Ln))[i]?) hD (by omega) (fun H H' v l r e o => r.off o (lst_tup e)) (fun H1 s1 => s1 _ _ upd_same) (fun i x H1 H2 N hi s1 lD y keep skip => ?_) (fun H9 acc1 s9 hL pL => ?_)
    · obtain ⟨T, x, y, rfl, hT, rfl, hx, hy⟩ := y
      obtain ⟨kv, hkv, rfl⟩ := Option.map_eq_some_iff.mp hx
      have hy : kv1[i]?.map Prod.snd = some y := hy
      rw [hkv] at hy
      obtain ⟨e, he, r1, c, rc, hc⟩ := paired_get pr1 hkv
      obtain rfl : kv.2 = y := Option.some.inj hy
      have hc2 := s1 _ _ (show (upd H8 d1 (.frz od (.dK kv1))) c = _ from by rw [upd_ne (fun z => by rw [z, h1] at hc; cases hc)]; exact hc)
      refine ⟨T, _, rfl, SqT.of upd_same, rfl, _, _, rfl, _, _, rfl, rfl, rfl, _, rfl, _, rfl, Nat.le_of_ble_eq_true rfl, fun q hq => ?_⟩
      refine keep _ (.ref q) ⟨e.1, e.2, .chg⟩ (Same.new (Same.new (Same.refl _) hT) hq) (by rw [List.getElem?_map, he]; rfl) ⟨q, c, .str "changing", rfl, ?_, ?_, rfl⟩
      · rw [upd_same, r1, rc]; rfl
      · exact (Same.new (Same.new (Same.refl _) hT) hq) _ _ hc2
    refine ⟨s9 _ _ upd_same, ?_⟩
    have nDd : D ≠ d1 := (ne_of_none upd_same hD).symm
    have same9 := unlock h1 s9
    have hL1 : (upd H9 d1 (.dK kv1)) D = some (.lst acc1) := by rw [upd_ne nDd]; exact hL
    have pL1 : Paired (LnAt (upd H9 d1 (.dK kv1))) acc1 (mv.map fun e => (⟨e.1, e.2, .chg⟩ : Ln)) := by
      rw [l1, ← List.length_map (fun e : Str × List Str => (⟨e.1, e.2, .chg⟩ : Ln)), K1.pickT_all] at pL
      exact Paired.mapP pL fun v l r => r.off (K1.Off.refl d1 H9).put fun ys z => by rw [s9 _ _ upd_same] at z; cases z
    have sH9 := sH7.trans same9
    replace h2 := same9 _ _ h2
    replace h3 := same9 _ _ h3
    replace pr2 := Paired.mapP pr2 fun kv e q => (⟨q.1, q.2.same same9⟩ : kv.1 = Sum.inr e.1 ∧ ColsOf _ kv.2 e)
    replace pr3 := Paired.mapP pr3 fun kv e q => (⟨q.1, q.2.same same9⟩ : kv.1 = Sum.inr e.1 ∧ ColsOf _ kv.2 e)
    clear same9 s9 hL hD nDd sH7 h1 pr1 pL
    generalize upd H9 d1 _ = HA at *
    -- the lines of the fixed tables
    refine ⟨d2, .dK kv2, h2, trivial, fun od => ⟨_, rfl, d2, od, kv2, rfl, upd_same, fun D2 hD2 => ?_⟩⟩
    refine K1.lc_rel walk_items LnAt (fun i => (st.map fun e => (⟨e.1, e.2, kdOf gv e.1⟩ : Ln))[i]?) hD2 (by omega) (fun H H' v l r e o => r.off o (lst_tup e)) (fun H1 s1 => s1 _ _ upd_same) (fun i x H1 H2 N hi s1 lD y keep skip => ?_) (fun HB acc2 sB hL pL => ?_)
    · obtain ⟨T, x, y, rfl, hT, rfl, hx, hy⟩ := y
      obtain ⟨kv, hkv, rfl⟩ := Option.map_eq_some_iff.mp hx
      have hy : kv2[i]?.map Prod.snd = some y := hy
      rw [hkv] at hy
      obtain ⟨e, he, r1, c, rc, hc⟩ := paired_get pr2 hkv
      obtain rfl : kv.2 = y := Option.some.inj hy
      have tup : ∀ {c : Addr} {xs : List V}, HA c = some (.tup xs) → H1 c = some (.tup xs) := fun {c xs} hc => s1 _ _ (show (upd HA d2 (.frz od (.dK kv2))) c = _ from by rw [upd_ne (fun z => by rw [z, h2] at hc; cases hc)]; exact hc)
      have hd3 : H1 d3 = some (.dK kv3) := s1 _ _ (show (upd HA d2 (.frz od (.dK kv2))) d3 = _ from by rw [upd_ne (Ne.symm ne23)]; exact h3)
      have hc2 := tup hc
      have sT := Same.new (o := .tup [kV kv.1, kv.2]) (Same.refl H1) hT
      refine ⟨T, _, rfl, SqT.of upd_same, rfl, _, _, rfl, _, _, rfl, rfl, rfl, _, rfl, _, rfl, _, rfl, d3, rfl, .inl ⟨kv3, Rd.of (sT _ _ hd3)⟩, _, rfl, valV kv3 (Sum.inr e.1), ?_, Nat.le_of_ble_eq_true rfl, fun q hq => ?_⟩
      · have g := DGet.k (k := Sum.inr e.1) (sT _ _ hd3)
        have hk : kV kv.1 = kV (Sum.inr e.1) := by rw [r1]
        rw [hk] at g ⊢
        exact g
      have s2 := Same.new (o := .tup [kV kv.1, kv.2, (valV kv3 (Sum.inr e.1)).getD .non]) sT hq
      refine keep _ (.ref q) ⟨e.1, e.2, kdOf gv e.1⟩ s2 (by rw [List.getElem?_map, he]; rfl) ⟨q, c, (valV kv3 (Sum.inr e.1)).getD .non, rfl, ?_, s2 _ _ hc2, ?_⟩
      · rw [upd_same, r1, rc]; rfl
      · have v := valOf pr3 e.1
        unfold kdOf
        cases ql : gv.lookup e.1 with
        | none =>
          rw [ql] at v
          rw [v]
          exact rfl
        | some ks =>
          rw [ql] at v
          obtain ⟨kc, v, hk⟩ := v
          have z := s2 _ _ (tup hk)
          rw [v] at z ⊢
          exact ⟨kc, rfl, z⟩
    refine ⟨sB _ _ upd_same, ?_⟩
    have nDd : D2 ≠ d2 := (ne_of_none upd_same hD2).symm
    have sameB := unlock h2 sB
    have hL2 : (upd HB d2 (.dK kv2)) D2 = some (.lst acc2) := by rw [upd_ne nDd]; exact hL
    have pL2 : Paired (LnAt (upd HB d2 (.dK kv2))) acc2 (st.map fun e => (⟨e.1, e.2, kdOf gv e.1⟩ : Ln)) := by
      rw [l2, ← List.length_map (fun e : Str × List Str => (⟨e.1, e.2, kdOf gv e.1⟩ : Ln)), K1.pickT_all] at pL
      exact Paired.mapP pL fun v l r => r.off (K1.Off.refl d2 HB).put fun ys z => by rw [sB _ _ upd_same] at z; cases z
    replace hL1 := sameB _ _ hL1
    replace pL1 := Paired.mapP pL1 fun v l r => LnAt.same r sameB
    have sHB := sH9.trans sameB
    clear sameB sB hL hD2 nDd h2 h3 pr2 pr3 pL sH9
    generalize upd HB d2 _ = HC at *
    have la : (acc1 ++ acc2).length ≤ 12 := by
      have e1 := pL1.length
      have e2 := pL2.length
      rw [List.length_map] at e1 e2
      rw [List.length_append]; omega
    refine ⟨_, rfl, D, acc1, rfl, .inr (SqL.of hL1), _, rfl, D2, acc2, rfl, .inr (SqL.of hL2), ?_, fun l hl => ?_⟩
    · rw [List.append_nil]; exact Nat.le_trans la (by decide)
    refine ⟨l, lnsOf mv st gv, rfl, ⟨_, .inl upd_same, ?_⟩, ok.ok, fun p rs H' s' hp hr' pr' => k p rs H' ((sHB.trans (Same.new (Same.refl HC) hl)).trans s') ((sHB.trans (Same.new (Same.refl HC) hl)).free hp) hr' pr'⟩
    rw [List.append_nil]
    have sl := Same.new (o := .lst (acc1 ++ acc2)) (Same.refl HC) hl
    exact paired_app (Paired.mapP pL1 fun v l r => r.same sl) (Paired.mapP pL2 fun v l r => r.same sl)
end
end B30_

/-! ## B30_12 -/
set_option Elab.async false
set_option linter.all false
set_option maxRecDepth 100000
set_option maxHeartbeats 8000000
namespace B30_
open PySem PySem.Spec PyProof.Rows L2
/-! ### a scene as it stands -/
def isC : Kd → Bool
  | .chg => true
  | _ => false
def isChg (l : Ln) : Bool := isC l.k
def dedupS : List Str → List Str
  | [] => []
  | x :: r => if x ∈ r then dedupS r else x :: dedupS r
theorem mem_dedupS {z : Str} : ∀ {l : List Str}, z ∈ dedupS l ↔ z ∈ l
  | [] => Iff.rfl
  | x :: r => by
    unfold dedupS
    split
    · rename_i h
      rw [mem_dedupS, List.mem_cons]
      exact ⟨.inr, fun q => q.elim (fun e => e ▸ h) id⟩
    · rw [List.mem_cons, List.mem_cons, mem_dedupS]
theorem nodup_dedupS : ∀ l : List Str, (dedupS l).Nodup
  | [] => List.nodup_nil
  | x :: r => by
    unfold dedupS
    split
    · exact nodup_dedupS r
    · rename_i h
      exact List.nodup_cons.mpr ⟨fun m => h (mem_dedupS.mp m), nodup_dedupS r⟩
def uniqS (l : List Str) : List Str := srtd (dedupS l)
theorem uniqS_of {ys l : List Str} (n : ys.Nodup) (m : ∀ z, z ∈ ys ↔ z ∈ l) (s : sortedS ys = true) : ys = uniqS l :=
  srtd_of (K1.perm_of_len n (fun z hz => mem_dedupS.mpr ((m z).mp hz)) ((nodup_dedupS l).length_le_of_subset fun z hz => (m z).mpr (mem_dedupS.mp hz))) s
def colsOf (Ls : List Ln) : List Str := uniqS (Ls.flatMap (·.cs))
def tabsOf (Ls : List Ln) : List Str := Ls.map (·.t)
def chgOf (Ls : List Ln) : List Str := (Ls.filter isChg).map (·.t)
def fixOf (Ls : List Ln) : List Str := (Ls.filter fun l => !isChg l).map (·.t)
abbrev Texts (H : Hp) (p : Addr) (zs : List Str) : Prop := H p = some (.tup (zs.map V.str))
def ColR (H : Hp) (v : V) (l : Ln) : Prop := ∃ c, v = .ref c ∧ H c = some (.tup (l.cs.map V.str))
def KeyR (H : Hp) (v : V) (l : Ln) : Prop := KdAt H v l.k
structure SceneIs (H : Hp) (Ls : List Ln) (pl pt pc pg pf dc dk : Addr) : Prop where
  lines : ∃ rs, H pl = some (.tup rs) ∧ Paired (LnAt H) rs Ls
  tabs : Texts H pt (tabsOf Ls)
  cols : Texts H pc (colsOf Ls)
  chg : Texts H pg (chgOf Ls)
  fix : Texts H pf (fixOf Ls)
  cby : ∃ kvs, H dc = some (.dK kvs) ∧ Paired (fun kv l => kv.1 = Sum.inr l.t ∧ ColR H kv.2 l) kvs Ls
  kby : ∃ kvs, H dk = some (.dK kvs) ∧ Paired (fun kv l => kv.1 = Sum.inr l.t ∧ KeyR H kv.2 l) kvs (Ls.filter fun l => !isChg l)
abbrev flds (pl pt pc pg pf dc dk : Addr) : List (Str × V) := [("_lines", .ref pl), ("_tables", .ref pt), ("_columns", .ref pc), ("_changing", .ref pg), ("_fixed", .ref pf), ("_columns_by_table", .ref dc), ("_key_by_table", .ref dk)]
/-- a scene with the lines Ls stands at x -/
def SceneAt (C : Addr) (H : Hp) (x : Addr) (Ls : List Ln) : Prop := ∃ dx pl pt pc pg pf dc dk, H x = some (.ins C dx (flds pl pt pc pg pf dc dk)) ∧ SceneIs H Ls pl pt pc pg pf dc dk
/-- .., whose own dicts are not among what H0 has -/
def SceneAtN (C : Addr) (H0 H : Hp) (x : Addr) (Ls : List Ln) : Prop := ∃ dx pl pt pc pg pf dc dk, H x = some (.ins C dx (flds pl pt pc pg pf dc dk)) ∧ SceneIs H Ls pl pt pc pg pf dc dk ∧ H0 dc = none ∧ H0 dk = none
theorem SceneAtN.at {C : Addr} {H0 H : Hp} {x : Addr} {Ls : List Ln} (h : SceneAtN C H0 H x Ls) : SceneAt C H x Ls := by
  obtain ⟨dx, pl, pt, pc, pg, pf, dc, dk, h1, h2, _⟩ := h
  exact ⟨dx, pl, pt, pc, pg, pf, dc, dk, h1, h2⟩
theorem SceneAtN.back {C : Addr} {H0 H1 H : Hp} {x : Addr} {Ls : List Ln} (h : SceneAtN C H1 H x Ls) (s : Same H0 H1) : SceneAtN C H0 H x Ls := by
  obtain ⟨dx, pl, pt, pc, pg, pf, dc, dk, h1, h2, h3, h4⟩ := h
  have f : ∀ {e : Addr}, H1 e = none → H0 e = none := fun {e} z => by
    cases q : H0 e with
    | none => rfl
    | some o => rw [s _ _ q] at z; cases z
  exact ⟨dx, pl, pt, pc, pg, pf, dc, dk, h1, h2, f h3, f h4⟩
theorem ColR.off {D : Addr} {H H' : Hp} {v : V} {l : Ln} (h : ColR H v l) (s : K1.Off D H H') (hd : ∀ xs, H D ≠ some (.tup xs)) : ColR H' v l := by
  obtain ⟨c, e, h⟩ := h
  exact ⟨c, e, s _ _ (fun z => hd _ (z ▸ h)) h⟩
theorem KdAt.off {D : Addr} {H H' : Hp} {v : V} {k : Kd} (h : KdAt H v k) (s : K1.Off D H H') (hd : ∀ xs, H D ≠ some (.tup xs)) : KdAt H' v k := by
  cases k with
  | chg => exact h
  | fix => exact h
  | key ks => exact h.imp fun q e => ⟨e.1, s _ _ (fun z => hd _ (z ▸ e.2)) e.2⟩
theorem SceneIs.same {H H' : Hp} {Ls : List Ln} {pl pt pc pg pf dc dk : Addr} (h : SceneIs H Ls pl pt pc pg pf dc dk) (s : Same H H') : SceneIs H' Ls pl pt pc pg pf dc dk where
  lines := h.lines.imp fun rs q => ⟨s _ _ q.1, Paired.mapP q.2 fun v l r => r.same s⟩
  tabs := s _ _ h.tabs
  cols := s _ _ h.cols
  chg := s _ _ h.chg
  fix := s _ _ h.fix
  cby := h.cby.imp fun kvs q => ⟨s _ _ q.1, Paired.mapP q.2 fun kv l r => ⟨r.1, r.2.imp fun c e => ⟨e.1, s _ _ e.2⟩⟩⟩
  kby := h.kby.imp fun kvs q => ⟨s _ _ q.1, Paired.mapP q.2 fun kv l r => ⟨r.1, KdAt.same r.2 s⟩⟩
theorem SceneAt.same {C x : Addr} {H H' : Hp} {Ls : List Ln} (h : SceneAt C H x Ls) (s : Same H H') : SceneAt C H' x Ls := by
  obtain ⟨dx, pl, pt, pc, pg, pf, dc, dk, h1, h2⟩ := h
  exact ⟨dx, pl, pt, pc, pg, pf, dc, dk, s _ _ h1, h2.same s⟩
/-! ### Scene.__init__ -/
abbrev s_ini : Stmt := inClass (topS 17) 0
abbrev N_ini : List Str := ["self", "changing", "fixed", "keyed", "lines", "line", "column"]
theorem sc_ini : FnScope N_ini ["self", "changing", "fixed", "keyed"] (defScope s_ini) := ⟨rfl, rfl, rfl, by decide +kernel, rfl, by decide +kernel, by decide +kernel⟩
/-! what is read off a line in slot 5 -/
section
variable {K : PySem.W.Frag} {σ : L2.St} {H : Hp} {v : V} {l : Ln}
theorem rd_t {Q : VK} (h5 : σ[5]? = some (some v)) (la : LnAt H v l) (q : Q (.str l.t) H) : (tOp (rIxT K) (tVar 5) (tC (.int 0))) σ H Q := by
  obtain ⟨p, c, kv, rfl, e1, e2, e3⟩ := la
  exact ⟨_, h5, p, _, _, _, rfl, rfl, SqT.of e1, at_of (j := 0) rfl rfl, q⟩
theorem rd_c {Q : VK} (h5 : σ[5]? = some (some v)) (la : LnAt H v l) (q : ∀ c, H c = some (.tup (l.cs.map V.str)) → Q (.ref c) H) : (tOp (rIxT K) (tVar 5) (tC (.int 1))) σ H Q := by
  obtain ⟨p, c, kv, rfl, e1, e2, e3⟩ := la
  exact ⟨_, h5, p, _, _, _, rfl, rfl, SqT.of e1, at_of (j := 1) rfl rfl, q c e2⟩
theorem rd_k {Q : VK} (h5 : σ[5]? = some (some v)) (la : LnAt H v l) (q : ∀ kv, KdAt H kv l.k → Q kv H) : (tOp (rIxT K) (tVar 5) (tC (.int 2))) σ H Q := by
  obtain ⟨p, c, kv, rfl, e1, e2, e3⟩ := la
  exact ⟨_, h5, p, _, _, _, rfl, rfl, SqT.of e1, at_of (j := 2) rfl rfl, q kv e3⟩
theorem kd_dp {kv : V} {cs : List Str} {k : Kd} (h : KdAt H kv k) (ok : k.Ok cs) : ∃ d, Dp K H kv d ∧ SeqAt.shaped d = true ∧ PyData.eqv d (.str "changing") = isC k := by
  cases k with
  | chg =>
    obtain rfl : kv = .str "changing" := h
    exact ⟨.str "changing", .str _, by decide +kernel, (by decide +kernel : PyData.eqv (.str "changing") (.str "changing") = true)⟩
  | fix =>
    obtain rfl : kv = .non := h
    exact ⟨.none, .non, by decide +kernel, rfl⟩
  | key ks =>
    obtain ⟨q, rfl, hq⟩ := h
    exact ⟨.tuple (ks.map PyData.str), .tup (SqT.of hq) (dp_strs ks), shaped_tup ks fun z hz => name_strOk (ok.1 z hz), rfl⟩
theorem rd_eq {Q : Bool → Hp → Prop} (h5 : σ[5]? = some (some v)) (la : LnAt H v l) (ok : l.k.Ok l.cs) (q : Q (isChg l) H) : (tTest (tOp (rEqD K) (tOp (rIxT K) (tVar 5) (tC (.int 2))) (tC (.str "changing")))) σ H Q := by
  refine rd_k h5 la fun kv hk => ?_
  obtain ⟨d, d1, d2, d3⟩ := kd_dp (K := K) hk ok
  exact ⟨d, .str "changing", d1, .str _, d2, by decide +kernel, _, rfl, by rw [d3]; exact q⟩
theorem rd_ne {Q : Bool → Hp → Prop} (h5 : σ[5]? = some (some v)) (la : LnAt H v l) (ok : l.k.Ok l.cs) (q : Q (!isChg l) H) : (tTest (tOp (rNeD K) (tOp (rIxT K) (tVar 5) (tC (.int 2))) (tC (.str "changing")))) σ H Q := by
  refine rd_k h5 la fun kv hk => ?_
  obtain ⟨d, d1, d2, d3⟩ := kd_dp (K := K) hk ok
  exact ⟨d, .str "changing", d1, .str _, d2, by decide +kernel, _, rfl, by rw [d3]; exact q⟩
/-- [line[0] for line in lines if ..] -/
theorem lc_lines {tt : TT} {σ : L2.St} {pl : Addr} {rs : List V} {Ls : List Ln} {Q : VK} (f : Ln → Bool) (hσ : σ[4]? = some (some (.ref pl))) (hl : σ.length = 7) (hp : H pl = some (.tup rs)) (pr : Paired (LnAt H) rs Ls) (few : rs.length ≤ 6)
    (test : ∀ {σ' : L2.St} {H' : Hp} {v : V} {l : Ln} {R : Bool → Hp → Prop}, σ'[5]? = some (some v) → LnAt H' v l → l ∈ Ls → R (f l) H' → tt σ' H' R)
    (q : ∀ D H', H D = none → Same H H' → H' D = some (.lst (((Ls.filter f).map (·.t)).map V.str)) → Q (.ref D) H') : (tLc (iTup K (tVar 4)) (gName 5) tt (tOp (rIxT K) (tVar 5) (tC (.int 0))) [5]) σ H Q := by
  refine ⟨_, hσ, pl, rfl, ⟨_, SqT.of hp⟩, fun D hD => ?_⟩
  refine lc_acc walk_tup (fun i => ((((Ls.take i).filter f).map (·.t)).map V.str)) rfl hD (fun i hi => ?_) (fun H1 s1 => SqT.of (s1 _ _ hp)) (fun i x H1 H2 N hi s1 y keep skip => ?_) (fun H1 s1 hL => ?_)
  · have h1 : (1000 : Nat) < sizeLine := by decide
    have h2 := List.length_filter_le f (Ls.take i)
    have h3 := pr.length
    rw [List.length_map, List.length_map]
    rw [List.length_take] at h2
    omega
  · obtain ⟨rfl, hx⟩ := y
    obtain ⟨l, hl2, la⟩ := paired_get pr hx
    have la2 := la.same s1
    have g5 : ((wipe σ [5]).set 5 (some x))[5]? = some (some x) := List.getElem?_set_self (by rw [wipe_length, hl]; decide)
    refine ⟨?_, test g5 la2 (List.mem_of_getElem? hl2) ?_⟩
    · unfold wipe; simp [wipe]
    · cases e : f l with
      | true =>
        refine iteT (rd_t g5 la2 (keep _ _ (Same.refl _) ?_))
        rw [take_snoc hl2, List.filter_append, List.map_append, List.map_append]
        simp [e]
      | false =>
        refine iteF (skip _ (Same.refl _) ?_)
        rw [take_snoc hl2, List.filter_append]
        simp [e]
  · refine q D H1 hD s1 ?_
    rw [hL, pr.length, List.take_length]
/-- {column for line in lines for column in line[1]} -/
theorem sc_lines {P : Program} {w : World} {σ : L2.St} {pl : Addr} {rs : List V} {Ls : List Ln} {Q : VK} (hσ : σ[4]? = some (some (.ref pl))) (hl : σ.length = 7) (hp : H pl = some (.tup rs)) (pr : Paired (LnAt H) rs Ls) (few : rs.length ≤ 6) (small : ∀ l ∈ Ls, l.cs.length ≤ 4)
    (q : ∀ D H', H D = none → Same H H' → H' D = some (K1.SetS P w D (Ls.flatMap (·.cs))) → Q (.ref D) H') : (K1.tTexts2 P w (iTup K (tVar 4)) (gName 5) (iTup K (tOp (rIxT K) (tVar 5) (tC (.int 1)))) (gName 6) (tVar 6) [6, 5] [6]) σ H Q := by
  have pl' := pr.length
  have flat : ∀ n, n ≤ Ls.length → K1.flatT (fun i => match Ls[i]? with | some l => l.cs | none => []) n = (Ls.take n).flatMap (·.cs) := fun n => by
    induction n with
    | zero => intro _; rfl
    | succ n ih =>
      intro hn
      have e : Ls[n]? = some Ls[n] := List.getElem?_eq_getElem (by omega)
      rw [K1.flatT, ih (by omega), take_snoc e, List.flatMap_append, e]
      simp
  have bound : ∀ ms : List Ln, (∀ l ∈ ms, l.cs.length ≤ 4) → (ms.flatMap (·.cs)).length ≤ 4 * ms.length := fun ms => by
    induction ms with
    | nil => intro _; simp
    | cons m r ih =>
      intro hm
      have h1 := ih fun l hl => hm l (List.mem_cons_of_mem _ hl)
      have h2 := hm m List.mem_cons_self
      rw [List.flatMap_cons, List.length_append, List.length_cons]
      omega
  have hs : (4096 : Nat) = scanBound := rfl
  refine ⟨_, hσ, pl, rfl, ⟨_, SqT.of hp⟩, rs.length, _, _, fun i => match Ls[i]? with | some l => l.cs | none => [], walk_tup, ?_, fun D nD => ⟨fun H' off => SqT.of (off _ _ (ne_of_none hp nD) hp), fun i x H2 H3 hi off y => ?_, fun H' same hS => ?_⟩⟩
  · rw [pl', flat _ (Nat.le_refl _), List.take_length]
    have := bound Ls small
    omega
  · obtain ⟨rfl, hx⟩ := y
    obtain ⟨l, hl2, p, c, kv, rfl, f1, f2, f3⟩ := paired_get pr hx
    simp only [hl2]
    have cD : c ≠ D := ne_of_none f2 nD
    have e1 := off _ _ (ne_of_none f1 nD) f1
    have e2 := off _ _ cD f2
    have wk1 : Walk (Itt K c) l.cs.length (fun H => SqT K H c (l.cs.map V.str)) (YAt (l.cs.map V.str)) := by
      have w1 := walk_tup (K := K) (a := c) (xs := l.cs.map V.str)
      rwa [List.length_map] at w1
    have g5 : ((wipe σ [6, 5]).set 5 (some (V.ref p)))[5]? = some (some (V.ref p)) := List.getElem?_set_self (by rw [wipe_length, hl]; decide)
    refine ⟨by simp [wipe, List.set_comm], _, g5, p, _, _, _, rfl, rfl, SqT.of e1, at_of (j := 1) rfl rfl, c, rfl, ⟨_, SqT.of e2⟩, K1.Off.refl _ _, rfl, _, _, wk1, fun H' o2 => SqT.of (o2 _ _ cD e2), fun j y H6 H7 hj o2 y1 => ?_⟩
    obtain ⟨rfl, hy⟩ := y1
    rw [List.getElem?_map] at hy
    obtain ⟨z, ez, rfl⟩ := Option.map_eq_some_iff.mp hy
    refine ⟨by simp [wipe], _, List.getElem?_set_self ?_, K1.Off.refl _ _, rfl, z, rfl, ez⟩
    simp [wipe, hl]
  · rw [pl', flat _ (Nat.le_refl _), List.take_length] at hS
    exact q D H' nD same hS
theorem filt_eq {α : Type} (f : α → Bool) : ∀ xs : List α, xs.filterMap (fun l => if f l = true then some l else none) = xs.filter f
  | [] => rfl
  | x :: r => by
    rw [List.filterMap_cons, List.filter_cons, filt_eq f r]
    cases f x <;> rfl
/-- {line[0]: .. for line in lines if ..} -/
theorem dc_lines {tt : TT} {tv : TE} {σ : L2.St} {pl : Addr} {rs : List V} {Ls : List Ln} {Q : VK} (f : Ln → Bool) (R : Hp → V → Ln → Prop) (hσ : σ[4]? = some (some (.ref pl))) (hl : σ.length = 7) (hp : H pl = some (.tup rs)) (pr : Paired (LnAt H) rs Ls) (few : rs.length ≤ 6) (nod : (Ls.map (·.t)).Nodup)
    (stab : ∀ {D : Addr} {H H' : Hp} {v : V} {l : Ln}, R H v l → K1.Off D H H' → (∀ xs, H D ≠ some (.tup xs)) → R H' v l)
    (test : ∀ {σ' : L2.St} {H' : Hp} {v : V} {l : Ln} {R : Bool → Hp → Prop}, σ'[5]? = some (some v) → LnAt H' v l → l ∈ Ls → R (f l) H' → tt σ' H' R)
    (val : ∀ {σ' : L2.St} {H' : Hp} {v : V} {l : Ln} {Q' : VK}, σ'[5]? = some (some v) → LnAt H' v l → (∀ u, R H' u l → Q' u H') → tv σ' H' Q')
    (q : ∀ D H' kvs, H D = none → Same H H' → H' D = some (.dK kvs) → Paired (fun kv l => kv.1 = Sum.inr l.t ∧ R H' kv.2 l) kvs (Ls.filter f) → Q (.ref D) H') : (tDc (iTup K (tVar 4)) (gName 5) tt (tOp (rIxT K) (tVar 5) (tC (.int 0))) tv [5]) σ H Q := by
  have pl' := pr.length
  have all : K1.pickT (fun i => Ls[i]?.bind fun l => if f l = true then some l else none) rs.length = Ls.filter f := by
    rw [pl', K1.pickT_filter_all, filt_eq]
  refine ⟨_, hσ, pl, rfl, ⟨_, SqT.of hp⟩, fun D hD => ?_⟩
  refine K1.dc_rel walk_tup R (fun l => Sum.inr l.t) (fun i => Ls[i]?.bind fun l => if f l = true then some l else none) hD (Nat.lt_of_le_of_lt few (by decide)) ?_ (fun H H' v y r e o => stab r o fun xs z => by obtain ⟨a, e⟩ := e; rw [e] at z; cases z) (fun H1 s1 => SqT.of (s1 _ _ hp)) (fun i x H1 H2 N hi s1 lD y keep skip => ?_) (fun H1 kvs s1 hk pk => ?_)
  · rw [all, show (fun l : Ln => (Sum.inr l.t : Key)) = Sum.inr ∘ (fun l => l.t) from rfl, ← List.map_map]
    have n2 : ((Ls.filter f).map (·.t)).Nodup := List.Nodup.sublist (List.Sublist.map _ List.filter_sublist) nod
    exact List.pairwise_map.mpr (n2.imp fun h q => h (Sum.inr.inj q))
  · obtain ⟨rfl, hx⟩ := y
    obtain ⟨l, hl2, la⟩ := paired_get pr hx
    have la2 := la.same s1
    have g5 : ((wipe σ [5]).set 5 (some x))[5]? = some (some x) := List.getElem?_set_self (by rw [wipe_length, hl]; decide)
    refine ⟨by simp [wipe], test g5 la2 (List.mem_of_getElem? hl2) ?_⟩
    cases e : f l with
    | true => exact iteT (rd_t g5 la2 (val g5 la2 fun u hu => keep _ _ l (Same.refl _) (by rw [hl2]; simp [e]) hu))
    | false => exact iteF (skip _ (Same.refl _) (by rw [hl2]; simp [e]))
  · rw [all] at pk
    exact q D H1 kvs hD s1 hk pk
end
/-- self.f = an expression whose reading is told -/
theorem fld_seq {K : PySem.W.Frag} {ta tv : TE} {f : Str} {b : TS} {D : Ends} {σ : L2.St} {H : Hp} (h : tv σ H fun y H1 => ta σ H1 fun x H2 => ∃ a C dx fs, x = .ref a ∧ H2 a = some (.ins C dx fs) ∧ Cls K C ∧ NoAttr K C f ∧ fs.length < 1000 ∧ b D σ (upd H2 a (.ins C dx (putF f y fs)))) : (tSeq (sFld K ta tv f) b) D σ H := h
theorem fld_last {K : PySem.W.Frag} {ta tv : TE} {f : Str} {D : Ends} {σ : L2.St} {H : Hp} (h : tv σ H fun y H1 => ta σ H1 fun x H2 => ∃ a C dx fs, x = .ref a ∧ H2 a = some (.ins C dx fs) ∧ Cls K C ∧ NoAttr K C f ∧ fs.length < 1000 ∧ D.nx σ (upd H2 a (.ins C dx (putF f y fs)))) : (sFld K ta tv f) D σ H := h
theorem cb_one {r : List V → Hp → VK → Prop} {te : TE} {σ : L2.St} {H : Hp} {Q : VK} (h : te σ H fun x H1 => r [x] H1 Q) : (tCB r (tCons te tNil)) σ H Q := h
structure ClsS (K : PySem.W.Frag) (mg : Str → Option Value) (C : Addr) : Prop where
  cl : Cls K C
  nl : NoAttr K C "_lines"
  nt : NoAttr K C "_tables"
  nc : NoAttr K C "_columns"
  ng : NoAttr K C "_changing"
  nf : NoAttr K C "_fixed"
  ncb : NoAttr K C "_columns_by_table"
  nkb : NoAttr K C "_key_by_table"
  mgC : mg "Scene" = some (.ref C)
def spIni (C : Addr) : Sp := fun vs H Q _ => ∃ (x dx : Addr) (a b c : V) (mv st gv : Told), vs = [.ref x, a, b, c] ∧ H x = some (.ins C dx []) ∧ OptD H a mv ∧ OptD H b st ∧ OptD H c gv ∧ gv.length ≤ 1000 ∧ (∀ d, b = .ref d → c ≠ .ref d) ∧ ToldOk mv st gv ∧
  ∀ H', K1.Off x H H' → SceneAtN C H H' x (ordL (lnsOf mv st gv)) → Q .non H'
section
variable {P : Program} {w : World} {K : PySem.W.Frag} {mg : Str → Option Value} {base : Heap}
theorem ok_ini {f C : Addr} {fd : FuncData} (F : Fun K "__init__" "Scene.__init__" s_ini f fd) (T : NamesS mg) (TC : ClsS K mg C) (CL : Callee P w K mg base CX0 7 "_lines_told" ["changing", "fixed", "keyed"] spLT) : FnOk P w K mg base CX0 8 f fd ["self", "changing", "fixed", "keyed"] (spIni C) := by
  have nd := sc_ini.nd
  refine F.ok sc_ini (fun vs H Q E h => ?_) (fun cdv A outer s H vs Q E hr h => ?_)
  · obtain ⟨x, dx, a, b, c, mv, st, gv, rfl, _⟩ := h
    rfl
  · obtain ⟨x, dx, a, b, c, mv, st, gv, rfl, hx, ha, hb, hc, gl, hne, ok, k⟩ := h
    obtain ⟨tc, hchg⟩ := T.chg
    have hu64 : (A.deeper (envOfC "Scene.__init__" (defScope s_ini) s.heap.objs.size f cdv)).units + 64 < cLine := by have := hr.un; omega
    refine ⟨_, (pss_cons
    (ps_set (i := 4) nd rfl (Or.inl rfl) (pe_use CL hr rfl pass0 (pa_cons (pv 1) (pa_cons (pv 2) (pa_cons (pv 3) pa_nil)))))
    (pss_cons
    (ps_fld (pv 0) (pv 4) rfl)
    (pss_cons
    (ps_fld (pv 0) (pe_callTy call_tuple_of (by rfl) T.tuple (by decide +kernel) (pa_cons (pe_lc (own := [("line", 5)]) (g := gName 5) (te := tOp (rIxT K) (tVar 5) (tC (.int 0))) rfl nd (pi_tup (pv 4)) (blkOk_by (N := N_ini) (sc := defScope s_ini) (by decide +kernel)) (fun _ _ _ _ _ => (pg_name (i := 5) nd rfl (Or.inl rfl))) (fun _ _ _ _ _ => pts_nil) (fun _ _ _ _ _ => pe_ix ix_tup (pv 5) pe_int (fun _ _ => rfl))) pa_nil)) rfl)
    (pss_cons
    (ps_fld (pv 0) (pe_callTy call_tuple_of (by rfl) T.tuple (by decide +kernel) (pa_cons (pe_callB (K1.cr_sortedSS rfl) (by rfl) T.sorted (by decide +kernel) (pa_cons (K1.pe_texts2 (own := [("column", 6), ("line", 5)]) (vs1 := [6]) (te := tVar 6) (g := gName 5) (g1 := gName 6) (wi1 := iTup K (tOp (rIxT K) (tVar 5) (tC (.int 1)))) rfl nd (pi_tup (pv 4)) (blkOk_by (N := N_ini) (sc := defScope s_ini) (by decide +kernel)) (by decide) (fun _ _ _ _ _ => pg_name (i := 5) nd rfl (Or.inl rfl)) (fun _ _ _ _ _ => pi_tup (pe_ix ix_tup (pv 5) pe_int (fun _ _ => rfl))) (fun _ _ _ _ _ => pg_name (i := 6) nd rfl (Or.inl rfl)) (fun _ _ _ _ _ => pv 6)) pa_nil)) pa_nil)) rfl)
    (pss_cons
    (ps_fld (pv 0) (pe_callTy call_tuple_of (by rfl) T.tuple (by decide +kernel) (pa_cons (pe_lc (own := [("line", 5)]) (g := gName 5) (tt := tTest (tOp (rEqD K) (tOp (rIxT K) (tVar 5) (tC (.int 2))) (tC (.str "changing")))) (te := tOp (rIxT K) (tVar 5) (tC (.int 0))) rfl nd (pi_tup (pv 4)) (blkOk_by (N := N_ini) (sc := defScope s_ini) (by decide +kernel)) (fun _ _ _ _ _ => (pg_name (i := 5) nd rfl (Or.inl rfl))) (fun _ _ _ _ _ => pts_one (pt_cmpR (op_eqD hu64) (pe_ix ix_tup (pv 5) pe_int (fun _ _ => rfl)) (pe_glob (v := .str "changing") rfl hchg ⟨_, rfl⟩) (nomark _))) (fun _ _ _ _ _ => pe_ix ix_tup (pv 5) pe_int (fun _ _ => rfl))) pa_nil)) rfl)
    (pss_cons
    (ps_fld (pv 0) (pe_callTy call_tuple_of (by rfl) T.tuple (by decide +kernel) (pa_cons (pe_lc (own := [("line", 5)]) (g := gName 5) (tt := tTest (tOp (rNeD K) (tOp (rIxT K) (tVar 5) (tC (.int 2))) (tC (.str "changing")))) (te := tOp (rIxT K) (tVar 5) (tC (.int 0))) rfl nd (pi_tup (pv 4)) (blkOk_by (N := N_ini) (sc := defScope s_ini) (by decide +kernel)) (fun _ _ _ _ _ => (pg_name (i := 5) nd rfl (Or.inl rfl))) (fun _ _ _ _ _ => pts_one (pt_cmpR (op_neD hu64) (pe_ix ix_tup (pv 5) pe_int (fun _ _ => rfl)) (pe_glob (v := .str "changing") rfl hchg ⟨_, rfl⟩) (nomark _))) (fun _ _ _ _ _ => pe_ix ix_tup (pv 5) pe_int (fun _ _ => rfl))) pa_nil)) rfl)
    (pss_cons
    (ps_fld (pv 0) (pe_dc (own := [("line", 5)]) (g := gName 5) (tk := tOp (rIxT K) (tVar 5) (tC (.int 0))) (tv := tOp (rIxT K) (tVar 5) (tC (.int 1))) rfl nd (pi_tup (pv 4)) (blkOk_by (N := N_ini) (sc := defScope s_ini) (by decide +kernel)) (fun _ _ _ _ _ => (pg_name (i := 5) nd rfl (Or.inl rfl))) (fun _ _ _ _ _ => pts_nil) (fun _ _ _ _ _ => pe_ix ix_tup (pv 5) pe_int (fun _ _ => rfl)) (fun _ _ _ _ _ => pe_ix ix_tup (pv 5) pe_int (fun _ _ => rfl))) rfl)
    (pss_one
    (ps_fld (pv 0) (pe_dc (own := [("line", 5)]) (g := gName 5) (tt := tTest (tOp (rNeD K) (tOp (rIxT K) (tVar 5) (tC (.int 2))) (tC (.str "changing")))) (tk := tOp (rIxT K) (tVar 5) (tC (.int 0))) (tv := tOp (rIxT K) (tVar 5) (tC (.int 2))) rfl nd (pi_tup (pv 4)) (blkOk_by (N := N_ini) (sc := defScope s_ini) (by decide +kernel)) (fun _ _ _ _ _ => (pg_name (i := 5) nd rfl (Or.inl rfl))) (fun _ _ _ _ _ => pts_one (pt_cmpR (op_neD hu64) (pe_ix ix_tup (pv 5) pe_int (fun _ _ => rfl)) (pe_glob (v := .str "changing") rfl hchg ⟨_, rfl⟩) (nomark _))) (fun _ _ _ _ _ => pe_ix ix_tup (pv 5) pe_int (fun _ _ => rfl)) (fun _ _ _ _ _ => pe_ix ix_tup (pv 5) pe_int (fun _ _ => rfl))) rfl))))))))), ?_⟩
    have six := ok.ok.six
    have goodL : ∀ l ∈ ordL (lnsOf mv st gv), l.Ok := fun l hl => by
      obtain ⟨m, hm, rfl⟩ := List.mem_map.mp ((ordL_perm _).mem_iff.mp hl)
      exact (ok.ok.good m hm).srt
    have lenL : (ordL (lnsOf mv st gv)).length ≤ 6 := by rw [(ordL_perm _).length_eq, List.length_map]; exact six
    have nodL : ((ordL (lnsOf mv st gv)).map (·.t)).Nodup := by rw [ordL_ts]; exact (srtd_perm _).nodup_iff.mpr ok.ok.nd
    refine ⟨_, rfl, _, rfl, _, rfl, a, b, c, mv, st, gv, rfl, ha, hb, hc, gl, hne, ok, fun pl rs H1 s1 npl hpl pr => ?_⟩
    generalize ordL (lnsOf mv st gv) = Ls at pr goodL lenL nodL k
    have few : rs.length ≤ 6 := by rw [pr.length]; exact lenL
    have hx1 := s1 _ _ hx
    have o1 : K1.Off x H H1 := K1.Off.same s1
    have few64 : (Ls.flatMap (·.cs)).length < 64 := by
      have bound : ∀ ms : List Ln, (∀ l ∈ ms, l.cs.length ≤ 4) → (ms.flatMap (·.cs)).length ≤ 4 * ms.length := fun ms => by
        induction ms with
        | nil => intro _; simp
        | cons m r ih =>
          intro hm
          have h1 := ih fun l hl => hm l (List.mem_cons_of_mem _ hl)
          have h2 := hm m List.mem_cons_self
          rw [List.flatMap_cons, List.length_append, List.length_cons]
          omega
      have := bound Ls fun l hl => (goodL l hl).few
      omega
    clear ha hb hc gl hne ok six s1
    -- what stands is kept by a store at x
    have tup : ∀ {fs : List (Str × V)} {H H' : Hp} {p : Addr} {xs : List V}, H x = some (.ins C dx fs) → K1.Off x H H' → H p = some (.tup xs) → H' p = some (.tup xs) := fun h o e => o _ _ (fun z => by rw [z, h] at e; cases e) e
    have dik : ∀ {fs : List (Str × V)} {H H' : Hp} {p : Addr} {kvs : List (Key × V)}, H x = some (.ins C dx fs) → K1.Off x H H' → H p = some (.dK kvs) → H' p = some (.dK kvs) := fun h o e => o _ _ (fun z => by rw [z, h] at e; cases e) e
    have notup : ∀ {fs : List (Str × V)} {H : Hp}, H x = some (.ins C dx fs) → ∀ xs, H x ≠ some (.tup xs) := fun h xs z => by rw [h] at z; cases z
    -- self._lines
    refine ⟨_, rfl, _, rfl, x, C, dx, _, rfl, hx1, TC.cl, TC.nl, (by show 0 < 1000; decide), ?_⟩
    have o2 : K1.Off x H1 (upd H1 x (.ins C dx (putF "_lines" (.ref pl) []))) := (K1.Off.refl x H1).put
    have hx2 : (upd H1 x (.ins C dx (putF "_lines" (.ref pl) []))) x = some (.ins C dx (putF "_lines" (.ref pl) [])) := upd_same
    replace hpl := tup hx1 o2 hpl
    replace pr := Paired.mapP pr fun v l r => r.off o2 (notup hx1)
    replace o1 := o1.trans o2
    clear hx1 o2
    generalize upd H1 x _ = H2 at *
    -- self._tables
    try dsimp only
    refine fld_seq (cb_one ?_)
    refine lc_lines (K := K) (tt := tYes) (σ := [some (.ref x), some a, some b, some c, some (.ref pl), none, none]) (fun _ => true) rfl rfl hpl pr few (fun _ _ _ r => r) fun D G nD sG hD => ?_
    refine ⟨D, _, rfl, .inl ⟨SqL.of hD, fun pt np => ⟨_, rfl, x, C, dx, _, rfl, by rw [upd_ne (ne_of_none (sG _ _ hx2) np)]; exact sG _ _ hx2, TC.cl, TC.nt, (by show 1 < 1000; decide), ?_⟩⟩⟩
    have npx : pt ≠ x := (ne_of_none (sG _ _ hx2) np).symm
    have ox : K1.Off x H2 (upd (upd G pt (.tup (((Ls.filter fun _ => true).map (·.t)).map V.str))) x (.ins C dx (putF "_tables" (.ref pt) (putF "_lines" (.ref pl) [])))) := (K1.Off.same (Same.new sG np)).put
    have hx' : (upd (upd G pt (.tup (((Ls.filter fun _ => true).map (·.t)).map V.str))) x (.ins C dx (putF "_tables" (.ref pt) (putF "_lines" (.ref pl) [])))) x = some (.ins C dx (putF "_tables" (.ref pt) (putF "_lines" (.ref pl) []))) := upd_same
    replace hpl := tup hx2 ox hpl
    replace pr := Paired.mapP pr fun v l r => r.off ox (notup hx2)
    replace o1 := o1.trans ox
    have ht : (upd (upd G pt (.tup (((Ls.filter fun _ => true).map (·.t)).map V.str))) x (.ins C dx (putF "_tables" (.ref pt) (putF "_lines" (.ref pl) [])))) pt = some (.tup (((Ls.filter fun _ => true).map (·.t)).map V.str)) := (upd_ne npx).trans upd_same
    clear npx np nD hD sG
    clear ox hx2
    generalize upd (upd G pt (.tup (((Ls.filter fun _ => true).map (·.t)).map V.str))) x (.ins C dx (putF "_tables" (.ref pt) (putF "_lines" (.ref pl) []))) = H3 at *
    have hx3 := hx'
    clear hx'
    -- self._columns
    try dsimp only
    refine fld_seq (cb_one (cb_one ?_))
    refine sc_lines (P := P) (w := w) (K := K) (σ := [some (.ref x), some a, some b, some c, some (.ref pl), none, none]) rfl rfl hpl pr few (fun l hl => (goodL l hl).few) fun D G nD sG hD => ?_
    refine ⟨D, _, rfl, hD, few64, fun ys p0 ndy memy sty np0 => ?_⟩
    obtain rfl := uniqS_of ndy memy sty
    refine ⟨p0, _, rfl, .inl ⟨SqL.of upd_same, fun pc np => ?_⟩⟩
    have hxp : (upd G p0 (.lst ((uniqS (Ls.flatMap (·.cs))).map V.str))) x = _ := (show (upd G p0 (.lst ((uniqS (Ls.flatMap (·.cs))).map V.str))) x = G x from upd_ne (ne_of_none (sG _ _ hx3) np0)).trans (sG _ _ hx3)
    refine ⟨_, rfl, x, C, dx, _, rfl, (upd_ne (ne_of_none hxp np)).trans hxp, TC.cl, TC.nc, (by show 2 < 1000; decide), ?_⟩
    have npx : pc ≠ x := (ne_of_none hxp np).symm
    have ox : K1.Off x H3 (upd (upd (upd G p0 (.lst ((uniqS (Ls.flatMap (·.cs))).map V.str))) pc (.tup ((uniqS (Ls.flatMap (·.cs))).map V.str))) x (.ins C dx (putF "_columns" (.ref pc) (putF "_tables" (.ref pt) (putF "_lines" (.ref pl) []))))) := (K1.Off.same (Same.new (Same.new sG np0) np)).put
    have hx' : (upd (upd (upd G p0 (.lst ((uniqS (Ls.flatMap (·.cs))).map V.str))) pc (.tup ((uniqS (Ls.flatMap (·.cs))).map V.str))) x (.ins C dx (putF "_columns" (.ref pc) (putF "_tables" (.ref pt) (putF "_lines" (.ref pl) []))))) x = some (.ins C dx (putF "_columns" (.ref pc) (putF "_tables" (.ref pt) (putF "_lines" (.ref pl) [])))) := upd_same
    replace ht := tup hx3 ox ht
    replace hpl := tup hx3 ox hpl
    replace pr := Paired.mapP pr fun v l r => r.off ox (notup hx3)
    replace o1 := o1.trans ox
    have hc : (upd (upd (upd G p0 (.lst ((uniqS (Ls.flatMap (·.cs))).map V.str))) pc (.tup ((uniqS (Ls.flatMap (·.cs))).map V.str))) x (.ins C dx (putF "_columns" (.ref pc) (putF "_tables" (.ref pt) (putF "_lines" (.ref pl) []))))) pc = some (.tup ((colsOf Ls).map V.str)) := (upd_ne npx).trans upd_same
    clear npx np nD hD sG np0 ndy memy sty
    clear ox hx3
    generalize upd (upd (upd G p0 (.lst ((uniqS (Ls.flatMap (·.cs))).map V.str))) pc (.tup ((uniqS (Ls.flatMap (·.cs))).map V.str))) x (.ins C dx (putF "_columns" (.ref pc) (putF "_tables" (.ref pt) (putF "_lines" (.ref pl) [])))) = H4 at *
    have hx4 := hx'
    clear hx'
    -- self._changing
    try dsimp only
    refine fld_seq (cb_one ?_)
    refine lc_lines (K := K) (tt := (tTest (tOp (rEqD K) (tOp (rIxT K) (tVar 5) (tC (.int 2))) (tC (.str "changing"))))) (σ := [some (.ref x), some a, some b, some c, some (.ref pl), none, none]) isChg rfl rfl hpl pr few (fun h5 la ml q => rd_eq h5 la (goodL _ ml).key q) fun D G nD sG hD => ?_
    refine ⟨D, _, rfl, .inl ⟨SqL.of hD, fun pg np => ⟨_, rfl, x, C, dx, _, rfl, by rw [upd_ne (ne_of_none (sG _ _ hx4) np)]; exact sG _ _ hx4, TC.cl, TC.ng, (by show 3 < 1000; decide), ?_⟩⟩⟩
    have npx : pg ≠ x := (ne_of_none (sG _ _ hx4) np).symm
    have ox : K1.Off x H4 (upd (upd G pg (.tup (((Ls.filter isChg).map (·.t)).map V.str))) x (.ins C dx (putF "_changing" (.ref pg) (putF "_columns" (.ref pc) (putF "_tables" (.ref pt) (putF "_lines" (.ref pl) [])))))) := (K1.Off.same (Same.new sG np)).put
    have hx' : (upd (upd G pg (.tup (((Ls.filter isChg).map (·.t)).map V.str))) x (.ins C dx (putF "_changing" (.ref pg) (putF "_columns" (.ref pc) (putF "_tables" (.ref pt) (putF "_lines" (.ref pl) [])))))) x = some (.ins C dx (putF "_changing" (.ref pg) (putF "_columns" (.ref pc) (putF "_tables" (.ref pt) (putF "_lines" (.ref pl) []))))) := upd_same
    replace ht := tup hx4 ox ht
    replace hc := tup hx4 ox hc
    replace hpl := tup hx4 ox hpl
    replace pr := Paired.mapP pr fun v l r => r.off ox (notup hx4)
    replace o1 := o1.trans ox
    have hg : (upd (upd G pg (.tup (((Ls.filter isChg).map (·.t)).map V.str))) x (.ins C dx (putF "_changing" (.ref pg) (putF "_columns" (.ref pc) (putF "_tables" (.ref pt) (putF "_lines" (.ref pl) [])))))) pg = some (.tup ((chgOf Ls).map V.str)) := (upd_ne npx).trans upd_same
    clear npx np nD hD sG
    clear ox hx4
    generalize upd (upd G pg (.tup (((Ls.filter isChg).map (·.t)).map V.str))) x (.ins C dx (putF "_changing" (.ref pg) (putF "_columns" (.ref pc) (putF "_tables" (.ref pt) (putF "_lines" (.ref pl) []))))) = H5 at *
    have hx5 := hx'
    clear hx'
    -- self._fixed
    try dsimp only
    refine fld_seq (cb_one ?_)
    refine lc_lines (K := K) (tt := (tTest (tOp (rNeD K) (tOp (rIxT K) (tVar 5) (tC (.int 2))) (tC (.str "changing"))))) (σ := [some (.ref x), some a, some b, some c, some (.ref pl), none, none]) (fun l => !isChg l) rfl rfl hpl pr few (fun h5 la ml q => rd_ne h5 la (goodL _ ml).key q) fun D G nD sG hD => ?_
    refine ⟨D, _, rfl, .inl ⟨SqL.of hD, fun pf np => ⟨_, rfl, x, C, dx, _, rfl, by rw [upd_ne (ne_of_none (sG _ _ hx5) np)]; exact sG _ _ hx5, TC.cl, TC.nf, (by show 4 < 1000; decide), ?_⟩⟩⟩
    have npx : pf ≠ x := (ne_of_none (sG _ _ hx5) np).symm
    have ox : K1.Off x H5 (upd (upd G pf (.tup (((Ls.filter fun l => !isChg l).map (·.t)).map V.str))) x (.ins C dx (putF "_fixed" (.ref pf) (putF "_changing" (.ref pg) (putF "_columns" (.ref pc) (putF "_tables" (.ref pt) (putF "_lines" (.ref pl) []))))))) := (K1.Off.same (Same.new sG np)).put
    have hx' : (upd (upd G pf (.tup (((Ls.filter fun l => !isChg l).map (·.t)).map V.str))) x (.ins C dx (putF "_fixed" (.ref pf) (putF "_changing" (.ref pg) (putF "_columns" (.ref pc) (putF "_tables" (.ref pt) (putF "_lines" (.ref pl) []))))))) x = some (.ins C dx (putF "_fixed" (.ref pf) (putF "_changing" (.ref pg) (putF "_columns" (.ref pc) (putF "_tables" (.ref pt) (putF "_lines" (.ref pl) [])))))) := upd_same
    replace ht := tup hx5 ox ht
    replace hc := tup hx5 ox hc
    replace hg := tup hx5 ox hg
    replace hpl := tup hx5 ox hpl
    replace pr := Paired.mapP pr fun v l r => r.off ox (notup hx5)
    replace o1 := o1.trans ox
    have hf : (upd (upd G pf (.tup (((Ls.filter fun l => !isChg l).map (·.t)).map V.str))) x (.ins C dx (putF "_fixed" (.ref pf) (putF "_changing" (.ref pg) (putF "_columns" (.ref pc) (putF "_tables" (.ref pt) (putF "_lines" (.ref pl) []))))))) pf = some (.tup ((fixOf Ls).map V.str)) := (upd_ne npx).trans upd_same
    clear npx np nD hD sG
    clear ox hx5
    generalize upd (upd G pf (.tup (((Ls.filter fun l => !isChg l).map (·.t)).map V.str))) x (.ins C dx (putF "_fixed" (.ref pf) (putF "_changing" (.ref pg) (putF "_columns" (.ref pc) (putF "_tables" (.ref pt) (putF "_lines" (.ref pl) [])))))) = H6 at *
    have hx6 := hx'
    clear hx'
    -- self._columns_by_table
    try dsimp only
    refine fld_seq ?_
    refine dc_lines (K := K) (tt := tYes) (tv := (tOp (rIxT K) (tVar 5) (tC (.int 1)))) (σ := [some (.ref x), some a, some b, some c, some (.ref pl), none, none]) (fun _ => true) ColR rfl rfl hpl pr few nodL (fun r o h => ColR.off r o h) (fun _ _ _ r => r) (fun h5 la q => rd_c h5 la fun c hc => q _ ⟨c, rfl, hc⟩) fun dc G kvs nD sG hD pk => ?_
    refine ⟨_, rfl, x, C, dx, _, rfl, sG _ _ hx6, TC.cl, TC.ncb, (by show 5 < 1000; decide), ?_⟩
    have ndx : dc ≠ x := fun z => by rw [z, sG _ _ hx6] at hD; cases hD
    have fdc : H dc = none := by
      cases e : H dc with
      | none => rfl
      | some o => rw [o1 _ _ ndx e] at nD; cases nD
    have ox : K1.Off x H6 (upd G x (.ins C dx (putF "_columns_by_table" (.ref dc) (putF "_fixed" (.ref pf) (putF "_changing" (.ref pg) (putF "_columns" (.ref pc) (putF "_tables" (.ref pt) (putF "_lines" (.ref pl) [])))))))) := (K1.Off.same sG).put
    have hx' : (upd G x (.ins C dx (putF "_columns_by_table" (.ref dc) (putF "_fixed" (.ref pf) (putF "_changing" (.ref pg) (putF "_columns" (.ref pc) (putF "_tables" (.ref pt) (putF "_lines" (.ref pl) [])))))))) x = some (.ins C dx (putF "_columns_by_table" (.ref dc) (putF "_fixed" (.ref pf) (putF "_changing" (.ref pg) (putF "_columns" (.ref pc) (putF "_tables" (.ref pt) (putF "_lines" (.ref pl) []))))))) := upd_same
    replace ht := tup hx6 ox ht
    replace hc := tup hx6 ox hc
    replace hg := tup hx6 ox hg
    replace hf := tup hx6 ox hf
    replace hpl := tup hx6 ox hpl
    replace pr := Paired.mapP pr fun v l r => r.off ox (notup hx6)
    replace o1 := o1.trans ox
    have hb : ∃ kvs, (upd G x (.ins C dx (putF "_columns_by_table" (.ref dc) (putF "_fixed" (.ref pf) (putF "_changing" (.ref pg) (putF "_columns" (.ref pc) (putF "_tables" (.ref pt) (putF "_lines" (.ref pl) [])))))))) dc = some (.dK kvs) ∧ Paired (fun kv l => kv.1 = Sum.inr l.t ∧ ColR (upd G x (.ins C dx (putF "_columns_by_table" (.ref dc) (putF "_fixed" (.ref pf) (putF "_changing" (.ref pg) (putF "_columns" (.ref pc) (putF "_tables" (.ref pt) (putF "_lines" (.ref pl) [])))))))) kv.2 l) kvs (Ls.filter fun _ => true) := ⟨kvs, by rw [upd_ne ndx]; exact hD, Paired.mapP pk fun kv l r => ⟨r.1, ColR.off r.2 (K1.Off.refl x G).put (notup (sG _ _ hx6))⟩⟩
    clear ndx nD hD pk
    clear ox hx6
    generalize upd G x (.ins C dx (putF "_columns_by_table" (.ref dc) (putF "_fixed" (.ref pf) (putF "_changing" (.ref pg) (putF "_columns" (.ref pc) (putF "_tables" (.ref pt) (putF "_lines" (.ref pl) []))))))) = H7 at *
    have hx7 := hx'
    clear hx'
    -- self._key_by_table
    try dsimp only
    refine fld_last ?_
    refine dc_lines (K := K) (tt := (tTest (tOp (rNeD K) (tOp (rIxT K) (tVar 5) (tC (.int 2))) (tC (.str "changing"))))) (tv := (tOp (rIxT K) (tVar 5) (tC (.int 2)))) (σ := [some (.ref x), some a, some b, some c, some (.ref pl), none, none]) (fun l => !isChg l) KeyR rfl rfl hpl pr few nodL (fun r o h => KdAt.off r o h) (fun h5 la ml q => rd_ne h5 la (goodL _ ml).key q) (fun h5 la q => rd_k h5 la fun kv hk => q _ hk) fun dk G kvs nD sG hD pk => ?_
    refine ⟨_, rfl, x, C, dx, _, rfl, sG _ _ hx7, TC.cl, TC.nkb, (by show 6 < 1000; decide), ?_⟩
    have ndx : dk ≠ x := fun z => by rw [z, sG _ _ hx7] at hD; cases hD
    have fdk : H dk = none := by
      cases e : H dk with
      | none => rfl
      | some o => rw [o1 _ _ ndx e] at nD; cases nD
    have ox : K1.Off x H7 (upd G x (.ins C dx (putF "_key_by_table" (.ref dk) (putF "_columns_by_table" (.ref dc) (putF "_fixed" (.ref pf) (putF "_changing" (.ref pg) (putF "_columns" (.ref pc) (putF "_tables" (.ref pt) (putF "_lines" (.ref pl) []))))))))) := (K1.Off.same sG).put
    have hx' : (upd G x (.ins C dx (putF "_key_by_table" (.ref dk) (putF "_columns_by_table" (.ref dc) (putF "_fixed" (.ref pf) (putF "_changing" (.ref pg) (putF "_columns" (.ref pc) (putF "_tables" (.ref pt) (putF "_lines" (.ref pl) []))))))))) x = some (.ins C dx (putF "_key_by_table" (.ref dk) (putF "_columns_by_table" (.ref dc) (putF "_fixed" (.ref pf) (putF "_changing" (.ref pg) (putF "_columns" (.ref pc) (putF "_tables" (.ref pt) (putF "_lines" (.ref pl) [])))))))) := upd_same
    replace ht := tup hx7 ox ht
    replace hc := tup hx7 ox hc
    replace hg := tup hx7 ox hg
    replace hf := tup hx7 ox hf
    obtain ⟨kb, kb1, kb2⟩ := hb
    replace kb1 := dik hx7 ox kb1
    replace kb2 := Paired.mapP kb2 fun kv l r => (⟨r.1, ColR.off r.2 ox (notup hx7)⟩ : kv.1 = Sum.inr l.t ∧ ColR _ kv.2 l)
    replace hpl := tup hx7 ox hpl
    replace pr := Paired.mapP pr fun v l r => r.off ox (notup hx7)
    replace o1 := o1.trans ox
    have hk : ∃ kvs, (upd G x (.ins C dx (putF "_key_by_table" (.ref dk) (putF "_columns_by_table" (.ref dc) (putF "_fixed" (.ref pf) (putF "_changing" (.ref pg) (putF "_columns" (.ref pc) (putF "_tables" (.ref pt) (putF "_lines" (.ref pl) []))))))))) dk = some (.dK kvs) ∧ Paired (fun kv l => kv.1 = Sum.inr l.t ∧ KeyR (upd G x (.ins C dx (putF "_key_by_table" (.ref dk) (putF "_columns_by_table" (.ref dc) (putF "_fixed" (.ref pf) (putF "_changing" (.ref pg) (putF "_columns" (.ref pc) (putF "_tables" (.ref pt) (putF "_lines" (.ref pl) []))))))))) kv.2 l) kvs (Ls.filter fun l => !isChg l) := ⟨kvs, by rw [upd_ne ndx]; exact hD, Paired.mapP pk fun kv l r => ⟨r.1, KdAt.off r.2 (K1.Off.refl x G).put (notup (sG _ _ hx7))⟩⟩
    clear ndx nD hD pk
    clear ox hx7
    generalize upd G x (.ins C dx (putF "_key_by_table" (.ref dk) (putF "_columns_by_table" (.ref dc) (putF "_fixed" (.ref pf) (putF "_changing" (.ref pg) (putF "_columns" (.ref pc) (putF "_tables" (.ref pt) (putF "_lines" (.ref pl) [])))))))) = H8 at *
    have hx8 := hx'
    clear hx'
    have ftrue : (Ls.filter fun _ => true) = Ls := List.filter_eq_self.mpr fun _ _ => rfl
    rw [ftrue] at ht kb2
    have fin : SceneAtN C H H8 x Ls := ⟨dx, pl, pt, pc, pg, pf, dc, dk, hx8, ⟨⟨rs, hpl, pr⟩, ht, hc, hg, hf, ⟨kb, kb1, kb2⟩, hk⟩, fdc, fdk⟩
    exact k _ o1 fin
end
end B30_

/-! ## C5 -/
set_option Elab.async false
set_option linter.all false
set_option maxRecDepth 100000
set_option maxHeartbeats 4000000
namespace K1
open PySem PySem.Spec PyProof.Rows L2
/-! ### name = {k: v for ..} on one line, the name a local -/
section
variable {X : Cx}
theorem ps_setDc {i : Nat} {y : Str} {py : Pos} {kx vx tg iter : Expr} {ifs : List Expr} {scope : Scope} {own : List (Str × Nat)} {pos spos : Pos} {wi : TI} {g : TG} {tt : TT} {tk tv : TE} (calm : X.calm = true) (nod : X.N.Nodup) (hy : X.N[i]? = some y) (loc : X.env.scope.names.lookup y = some .local)
    (used : swapsWith (.DictComp kx vx [⟨tg, iter, ifs, 0⟩] scope pos) (some (.Name y py)) spos.line X.env = pure true) (hi : PI X tg iter wi) (ok : BlkOk X.N X.env.scope scope own)
    (hg : ∀ s0 H0 C cl fp, PG (X.blk s0 H0 scope (compEnvC scope cl C X.env) fp) tg g) (ht : ∀ s0 H0 C cl fp, PTs (X.blk s0 H0 scope (compEnvC scope cl C X.env) fp) ifs tt)
    (hk : ∀ s0 H0 C cl fp, PE (X.blk s0 H0 scope (compEnvC scope cl C X.env) fp) kx tk) (hv : ∀ s0 H0 C cl fp, PE (X.blk s0 H0 scope (compEnvC scope cl C X.env) fp) vx tv) (fold : ∀ x, foldedSetIterable iter X.env x = pure x := by intro _; rfl) :
    PS X (.Assign [.Name y py] (.DictComp kx vx [⟨tg, iter, ifs, 0⟩] scope pos) spos) (tAsg (tDc wi g tt tk tv (own.map (·.2))) (gName i)) := by
  refine ⟨fun pins s σ H D I h => ?_⟩
  rw [exec_Assign_Name_used _ _ _ _ used]
  refine wpAny_bind (wpAny_standAt (wpAny_bind ?_))
  show wpAny _ X.A (do let _ ← comprehension (.DictComp kx vx [⟨tg, iter, ifs, 0⟩] scope pos) scope X.env (firstIterPos [⟨tg, iter, ifs, 0⟩] pos) newDict false (eval iter X.env) (some (assign (.Name y py) X.env))) _ _ s
  refine wpAny_bind (thn (dc_core (Qf := fun _ s' => SP X pins D .next s') calm nod I hi ok hg ht hk hv fold (show tDc wi g tt tk tv (own.map (·.2)) σ H (fun x H1 => gName i x σ H1 D.nx) from h) fun L C s' m H' I' q hn far => ?_) fun _ s' done => wpAny_pure (wpAny_pure done))
  show wpAny _ _ (assign (.Name y py) X.env (.ref L)) _ _ _
  obtain ⟨f0, f1, f2, f3, f4, f5⟩ := far
  refine wpAny_assign_Name (store_ok2 (v := V.ref L) I' nod hy (.inl loc) rfl (fun s2 I2 stored => ?_) (.inr loc))
  obtain ⟨a, sb, at_⟩ := stored
  have apart : C ≠ a := by
    rcases at_ with z | z
    · rw [z]; exact f1
    · exact fun e => f4 y a z e.symm
  exact ⟨m, hn.sameBut sb apart, fun h3 sb3 => ⟨_, H', I2.turned (t' := s2.toks) (fun b o hb e => (sb3.2 b hb).trans e) f0 f1 f3 f4 f5, q⟩⟩
theorem sw_trueD {kx vx : Expr} {gs : List Comprehension} {scope : Scope} {pos py : Pos} {y : Str} {l : Nat} {env : Env} (hk : env.scope.kind = .function) (hy : env.scope.names.lookup y = some .local) (hl : (py.line == pos.line) = true)
    (ha : (scope.names.any fun (n, k) => n == y && (k == .local || k == .cell)) = false) : swapsWith (.DictComp kx vx gs scope pos) (some (.Name y py)) l env = pure true := by
  have e1 : env.kindOf y = some .local := hy
  have e2 : env.blockKind = .function := by unfold Env.blockKind; rw [hk]; rfl
  unfold swapsWith
  simp only [e2, e1, ha, Expr.pos, hl]
  rfl
end
end K1

/-! ## B30_13 -/
set_option Elab.async false
set_option linter.all false
set_option maxRecDepth 100000
set_option maxHeartbeats 8000000
namespace B30_
open PySem PySem.Spec PyProof.Rows L2
/-! ### _dicts_of -/
def keyO (l : Ln) : Option (List Str) := match l.k with | .key ks => some ks | _ => none
def mvOf (Ls : List Ln) : Told := (Ls.filter isChg).map fun l => (l.t, l.cs)
def stOf (Ls : List Ln) : Told := (Ls.filter fun l => !isChg l).map fun l => (l.t, l.cs)
def gvOf (Ls : List Ln) : Told := Ls.filterMap fun l => (keyO l).map fun ks => (l.t, ks)
theorem gv_lookup : ∀ {Ls : List Ln}, (Ls.map (·.t)).Nodup → ∀ {l : Ln}, l ∈ Ls → (gvOf Ls).lookup l.t = keyO l
  | [], _, l, h => by cases h
  | m :: r, n, l, h => by
    rw [List.map_cons, List.nodup_cons] at n
    have out : ∀ x ∈ r, x.t ≠ m.t := fun x hx q => n.1 (List.mem_map.mpr ⟨x, hx, q⟩)
    have skip : (gvOf r).lookup m.t = none := by
      rw [List.lookup_eq_none_iff]
      intro p hp
      obtain ⟨x, hx, e⟩ := List.mem_filterMap.mp hp
      obtain ⟨ks, _, rfl⟩ := Option.map_eq_some_iff.mp e
      simpa using fun q => out x hx q.symm
    have e : gvOf (m :: r) = ((keyO m).map fun ks => (m.t, ks)).toList ++ gvOf r := by
      unfold gvOf
      rw [List.filterMap_cons]
      cases keyO m <;> rfl
    rw [e]
    rcases List.mem_cons.mp h with rfl | h
    · cases q : keyO l with
      | none => exact skip
      | some ks => simp
    · have ih := gv_lookup n.2 h
      have ne := out l h
      cases q : keyO m with
      | none => exact ih
      | some ks =>
        have q2 : (l.t == m.t) = false := by simpa using ne
        simp only [Option.map_some, Option.toList_some, List.singleton_append, List.lookup_cons, q2]
        exact ih
theorem lns_back {Ls : List Ln} (n : (Ls.map (·.t)).Nodup) : lnsOf (mvOf Ls) (stOf Ls) (gvOf Ls) = Ls.filter isChg ++ Ls.filter fun l => !isChg l := by
  unfold lnsOf mvOf stOf
  rw [List.map_map, List.map_map]
  congr 1
  · refine (List.map_congr_left fun l hl => ?_).trans (List.map_id _)
    have h := (List.mem_filter.mp hl).2
    obtain ⟨t, cs, k⟩ := l
    cases k with
    | chg => rfl
    | fix => cases h
    | key ks => cases h
  · refine (List.map_congr_left fun l hl => ?_).trans (List.map_id _)
    have h := List.mem_filter.mp hl
    have g := gv_lookup n h.1
    show (⟨l.t, l.cs, kdOf (gvOf Ls) l.t⟩ : Ln) = l
    unfold kdOf
    rw [g]
    obtain ⟨t, cs, k⟩ := l
    cases k with
    | chg => exact absurd h.2 (by simp [isChg, isC])
    | fix => rfl
    | key ks => rfl
theorem ordL_srt {ls : List Ln} {l : Ln} (h : l ∈ ordL ls) : l.srt = l := by
  obtain ⟨m, _, rfl⟩ := List.mem_map.mp ((ordL_perm ls).mem_iff.mp h)
  exact m.srt_srt
theorem ordL_nd {ls : List Ln} (n : (ls.map (·.t)).Nodup) : ((ordL ls).map (·.t)).Nodup := by rw [ordL_ts]; exact (srtd_perm _).nodup_iff.mpr n
theorem ordL_back {ls : List Ln} (n : (ls.map (·.t)).Nodup) : ordL (lnsOf (mvOf (ordL ls)) (stOf (ordL ls)) (gvOf (ordL ls))) = ordL ls := by
  have n1 := ordL_nd n
  rw [lns_back n1]
  have pm : ((ordL ls).filter isChg ++ (ordL ls).filter fun l => !isChg l).Perm (ordL ls) := List.filter_append_perm isChg (ordL ls)
  refine (ordL_of ((pm.map (·.t)).nodup_iff.mpr n1) ?_ (ordL_pair ls)).symm
  have fixed : (((ordL ls).filter isChg ++ (ordL ls).filter fun l => !isChg l).map Ln.srt) = ((ordL ls).filter isChg ++ (ordL ls).filter fun l => !isChg l) :=
    (List.map_congr_left fun l hl => ordL_srt (pm.mem_iff.mp hl)).trans (List.map_id _)
  rw [fixed]
  exact pm.symm
theorem ordL_ok {ls : List Ln} (h : LnsOk ls) : LnsOk (ordL ls) where
  good := fun l hl => by
    obtain ⟨m, hm, rfl⟩ := List.mem_map.mp ((ordL_perm _).mem_iff.mp hl)
    exact (h.good m hm).srt
  nd := ordL_nd h.nd
  one := by rw [(ordL_perm _).length_eq, List.length_map]; exact h.one
  six := by rw [(ordL_perm _).length_eq, List.length_map]; exact h.six
  cols := by
    obtain ⟨C, few, inC⟩ := h.cols
    refine ⟨C, few, fun l hl z hz => ?_⟩
    obtain ⟨m, hm, rfl⟩ := List.mem_map.mp ((ordL_perm _).mem_iff.mp hl)
    exact inC m hm z (mem_srtd.mp hz)
theorem told_back {ls : List Ln} (h : LnsOk ls) : ToldOk (mvOf (ordL ls)) (stOf (ordL ls)) (gvOf (ordL ls)) := by
  have n1 := ordL_nd h.nd
  have pm : ((ordL ls).filter isChg ++ (ordL ls).filter fun l => !isChg l).Perm (ordL ls) := List.filter_append_perm isChg (ordL ls)
  have o := ordL_ok h
  refine ⟨?_, fun e he => ?_⟩
  · rw [lns_back n1]
    refine ⟨fun l hl => o.good l (pm.mem_iff.mp hl), (pm.map (·.t)).nodup_iff.mpr n1, by rw [pm.length_eq]; exact o.one, by rw [pm.length_eq]; exact o.six, ?_⟩
    obtain ⟨C, few, inC⟩ := o.cols
    exact ⟨C, few, fun l hl => inC l (pm.mem_iff.mp hl)⟩
  · obtain ⟨l, hl, e1⟩ := List.mem_filterMap.mp he
    obtain ⟨ks, q, rfl⟩ := Option.map_eq_some_iff.mp e1
    refine List.mem_map.mpr ⟨(l.t, l.cs), List.mem_map.mpr ⟨l, List.mem_filter.mpr ⟨hl, ?_⟩, rfl⟩, rfl⟩
    unfold isChg
    unfold keyO at q
    cases e : l.k with
    | chg => rw [e] at q; cases q
    | fix => rfl
    | key ks => rfl
theorem filtm {α β : Type} (p : α → Bool) (g : α → β) : ∀ xs : List α, xs.filterMap (fun l => if p l = true then some (g l) else none) = (xs.filter p).map g
  | [] => rfl
  | x :: r => by
    rw [List.filterMap_cons, List.filter_cons, filtm p g r]
    cases p x <;> rfl
abbrev s_do : Stmt := topS 19
abbrev N_do : List Str := ["lines", "checked", "changing", "fixed", "keyed", "table", "columns", "key"]
theorem sc_do : FnScope N_do ["lines"] (defScope s_do) := ⟨rfl, rfl, rfl, by decide +kernel, rfl, by decide +kernel, by decide +kernel⟩
def spDO : Sp := fun vs H Q _ => ∃ (a : Addr) (ls : List Ln), vs = [.ref a] ∧ LinesAt H a ls ∧ LnsOk ls ∧ ∀ p d1 d2 d3 H', Same H H' → H' p = some (.tup [.ref d1, .ref d2, .ref d3]) → d2 ≠ d3 → TupD H' d1 (mvOf (ordL ls)) → TupD H' d2 (stOf (ordL ls)) → TupD H' d3 (gvOf (ordL ls)) → Q (.ref p) H'
section
variable {K : PySem.W.Frag} {H : Hp}
/-- {table: .. for table, columns, key in checked if ..} -/
theorem dc3 {tt : TT} {tv : TE} {σ : L2.St} {pc : Addr} {rs : List V} {Ls : List Ln} {Q : VK} (f : Ln → Option (Str × List Str)) (ft : ∀ l e, f l = some e → e.1 = l.t) (hσ : σ[1]? = some (some (.ref pc))) (hl : σ.length = 8) (hp : H pc = some (.tup rs)) (pr : Paired (LnAt H) rs Ls) (few : rs.length ≤ 6) (nod : (Ls.map (·.t)).Nodup)
    (test : ∀ {σ' : L2.St} {H' : Hp} {l : Ln} {c : Addr} {kv : V} {R : Bool → Hp → Prop}, σ'[6]? = some (some (.ref c)) → σ'[7]? = some (some kv) → H' c = some (.tup (l.cs.map V.str)) → KdAt H' kv l.k → l ∈ Ls → R (f l).isSome H' → tt σ' H' R)
    (val : ∀ {σ' : L2.St} {H' : Hp} {l : Ln} {c : Addr} {kv : V} {e : Str × List Str} {Q' : VK}, σ'[6]? = some (some (.ref c)) → σ'[7]? = some (some kv) → H' c = some (.tup (l.cs.map V.str)) → KdAt H' kv l.k → f l = some e → (∀ u, ColsOf H' u e → Q' u H') → tv σ' H' Q')
    (q : ∀ D H', H D = none → Same H H' → TupD H' D (Ls.filterMap f) → Q (.ref D) H') : (tDc (iTup K (tVar 1)) (gTup K 3 (gCons (gName 5) (gCons (gName 6) (gCons (gName 7) gNil)))) tt (tVar 5) tv [5, 6, 7]) σ H Q := by
  have pl' := pr.length
  have all : K1.pickT (fun i => Ls[i]?.bind f) rs.length = Ls.filterMap f := by rw [pl', K1.pickT_filter_all]
  obtain ⟨s0, s1', s2', s3', s4', s5', s6', s7', rfl⟩ : ∃ a b c d e f g h, σ = [a, b, c, d, e, f, g, h] := by
    match σ, hl with
    | [a, b, c, d, e, f, g, h], _ => exact ⟨a, b, c, d, e, f, g, h, rfl⟩
  refine ⟨_, hσ, pc, rfl, ⟨_, SqT.of hp⟩, fun D hD => ?_⟩
  refine K1.dc_rel walk_tup ColsOf (fun e => Sum.inr e.1) (fun i => Ls[i]?.bind f) hD (Nat.lt_of_le_of_lt few (by decide)) ?_ (fun H H' v y r e o => ColsOf.off r o fun xs z => by obtain ⟨a, e⟩ := e; rw [e] at z; cases z) (fun H1 s1 => SqT.of (s1 _ _ hp)) (fun i x H1 H2 N hi s1 lD y keep skip => ?_) (fun H1 kvs s1 hk pk => ?_)
  · rw [all, show (fun e : Str × List Str => (Sum.inr e.1 : Key)) = Sum.inr ∘ (fun e => e.1) from rfl, ← List.map_map]
    have n2 : ((Ls.filterMap f).map (·.1)).Nodup := by
      have e : (Ls.filterMap f).map (·.1) = (Ls.filter fun l => (f l).isSome).map (·.t) := by
        clear nod all pl' pr few hp hσ hD q val test
        induction Ls with
        | nil => rfl
        | cons l r ih =>
          cases ef : f l with
          | none => simp [List.filterMap_cons, List.filter_cons, ef, ih]
          | some e => simp [List.filterMap_cons, List.filter_cons, ef, ih, ft l e ef]
      rw [e]
      exact List.Nodup.sublist (List.Sublist.map _ List.filter_sublist) nod
    exact List.pairwise_map.mpr (n2.imp fun h q => h (Sum.inr.inj q))
  · obtain ⟨rfl, hx⟩ := y
    obtain ⟨l, hl2, la⟩ := paired_get pr hx
    obtain ⟨p, c, kv, rfl, e1, e2, e3⟩ := la.same s1
    refine ⟨p, _, rfl, SqT.of e1, rfl, _, _, rfl, _, _, rfl, _, _, rfl, rfl, rfl, test rfl rfl e2 e3 (List.mem_of_getElem? hl2) ?_⟩
    cases ef : f l with
    | none => exact iteF (skip _ (Same.refl _) (by rw [hl2]; exact ef))
    | some e =>
      refine iteT ⟨_, rfl, val rfl rfl e2 e3 ef fun u hu => ?_⟩
      have k := keep _ u e (Same.refl _) (by rw [hl2]; exact ef) hu
      obtain ⟨a, kk, h1, h2⟩ := k
      exact ⟨a, kk, by rw [← h1]; show V.str l.t = V.str e.1; rw [ft l e ef], h2⟩
  · rw [all] at pk
    exact q D H1 hD s1 ⟨kvs, hk, pk⟩
end
section
variable {P : Program} {w : World} {K : PySem.W.Frag} {mg : Str → Option Value} {base : Heap}
theorem ok_do {f : Addr} {fd : FuncData} (F : Fun K "_dicts_of" "_dicts_of" s_do f fd) (T : NamesS mg) (C6 : Callee P w K mg base CX0 6 "_checked" ["lines"] spChk) : FnOk P w K mg base CX0 7 f fd ["lines"] spDO := by
  have nd := sc_do.nd
  refine F.ok sc_do (fun vs H Q E h => ?_) (fun cdv A outer s H vs Q E hr h => ?_)
  · obtain ⟨a, ls, rfl, _⟩ := h
    rfl
  · obtain ⟨a, ls, rfl, la, ok, k⟩ := h
    obtain ⟨tc, hchg⟩ := T.chg
    have hu64 : (A.deeper (envOfC "_dicts_of" (defScope s_do) s.heap.objs.size f cdv)).units + 64 < cLine := by have := hr.un; omega
    refine ⟨_, (pss_cons
    (ps_set (i := 1) nd rfl (Or.inl rfl) (pe_use C6 hr rfl pass0 (pa_cons (pv 0) pa_nil)))
    (pss_cons
    (K1.ps_setDc (i := 2) (own := [("table", 5), ("columns", 6), ("key", 7)]) (g := gTup K 3 (gCons (gName 5) (gCons (gName 6) (gCons (gName 7) gNil)))) (tt := tTest (tOp (rEqD K) (tVar 7) (tC (.str "changing")))) rfl nd rfl rfl (K1.sw_trueD rfl rfl rfl (by decide +kernel)) (pi_tup (pv 1)) (blkOk_by (N := N_do) (sc := defScope s_do) (by decide +kernel)) (fun _ _ _ _ _ => pg_tup rfl (pgs_cons (pg_name (i := 5) nd rfl (Or.inl rfl)) (pgs_cons (pg_name (i := 6) nd rfl (Or.inl rfl)) (pgs_cons (pg_name (i := 7) nd rfl (Or.inl rfl)) pgs_nil)))) (fun _ _ _ _ _ => pts_one (pt_cmpR (op_eqD hu64) (pv 7) (pe_glob (v := .str "changing") rfl hchg ⟨_, rfl⟩) (nomark _))) (fun _ _ _ _ _ => pv 5) (fun _ _ _ _ _ => pv 6))
    (pss_cons
    (K1.ps_setDc (i := 3) (own := [("table", 5), ("columns", 6), ("key", 7)]) (g := gTup K 3 (gCons (gName 5) (gCons (gName 6) (gCons (gName 7) gNil)))) (tt := tTest (tOp (rNeD K) (tVar 7) (tC (.str "changing")))) rfl nd rfl rfl (K1.sw_trueD rfl rfl rfl (by decide +kernel)) (pi_tup (pv 1)) (blkOk_by (N := N_do) (sc := defScope s_do) (by decide +kernel)) (fun _ _ _ _ _ => pg_tup rfl (pgs_cons (pg_name (i := 5) nd rfl (Or.inl rfl)) (pgs_cons (pg_name (i := 6) nd rfl (Or.inl rfl)) (pgs_cons (pg_name (i := 7) nd rfl (Or.inl rfl)) pgs_nil)))) (fun _ _ _ _ _ => pts_one (pt_cmpR (op_neD hu64) (pv 7) (pe_glob (v := .str "changing") rfl hchg ⟨_, rfl⟩) (nomark _))) (fun _ _ _ _ _ => pv 5) (fun _ _ _ _ _ => pv 6))
    (pss_cons
    (K1.ps_setDc (i := 4) (own := [("table", 5), ("columns", 6), ("key", 7)]) (g := gTup K 3 (gCons (gName 5) (gCons (gName 6) (gCons (gName 7) gNil)))) (tt := tB (tCB (rIsi K) (tCons (tVar 7) (tCons (tC (.ty "tuple")) tNil)))) rfl nd rfl rfl (K1.sw_trueD rfl rfl rfl (by decide +kernel)) (pi_tup (pv 1)) (blkOk_by (N := N_do) (sc := defScope s_do) (by decide +kernel)) (fun _ _ _ _ _ => pg_tup rfl (pgs_cons (pg_name (i := 5) nd rfl (Or.inl rfl)) (pgs_cons (pg_name (i := 6) nd rfl (Or.inl rfl)) (pgs_cons (pg_name (i := 7) nd rfl (Or.inl rfl)) pgs_nil)))) (fun _ _ _ _ _ => pts_one (pt_val (pe_callB (r := rIsi K) call_isi (by rfl) T.isinstance (by decide +kernel) (pa_cons (pv 7) (pa_cons (pe_bltn (v := .ty "tuple") (by rfl) T.tuple (by decide +kernel) rfl) pa_nil))))) (fun _ _ _ _ _ => pv 5) (fun _ _ _ _ _ => pv 7))
    (pss_one
    (ps_ret (pe_tup (pa_cons (pv 2) (pa_cons (pv 3) (pa_cons (pv 4) pa_nil)))))))))), ?_⟩
    have oL := ordL_ok ok
    refine ⟨_, rfl, a, ls, rfl, la, ok, fun pc rs H1 s1 npc hpc pr => ?_⟩
    generalize ordL ls = Ls at pr oL k
    have few : rs.length ≤ 6 := by rw [pr.length]; exact oL.six
    clear la
    have seq1 : ∀ {te : TE} {g : TG} {b : TS} {D : Ends} {σ : L2.St} {H : Hp}, (te σ H fun x H1 => g x σ H1 (b D)) → (tSeq (tAsg te g) b) D σ H := fun h => h
    try dsimp only
    refine seq1 ?_
    refine dc3 (K := K) (tt := tTest (tOp (rEqD K) (tVar 7) (tC (.str "changing")))) (tv := tVar 6) (σ := [some (.ref a), some (.ref pc), none, none, none, none, none, none]) (fun l => if isChg l = true then some (l.t, l.cs) else none) (fun l e h => by split at h <;> cases h; rfl) rfl rfl hpc pr few oL.nd
      (fun {σ' H' l c kv R} h6 h7 e2 e3 ml q => ?_) (fun {σ' H' l c kv e Q'} h6 h7 e2 e3 ef q => ⟨_, h6, q _ ?_⟩) (fun d1 H2 n1 s2 t1 => ?_)
    · obtain ⟨d, d1, d2, d3⟩ := kd_dp (K := K) e3 (oL.good l ml).key
      refine ⟨_, h7, d, .str "changing", d1, .str _, d2, by decide +kernel, _, rfl, ?_⟩
      rw [d3]
      have : (if isChg l = true then some (l.t, l.cs) else none).isSome = isC l.k := by unfold isChg; cases isC l.k <;> rfl
      rw [← this]; exact q
    · split at ef <;> cases ef
      exact ⟨c, rfl, e2⟩
    rw [filtm] at t1
    have pr2 := Paired.mapP pr fun v l r => r.same s2
    have hpc2 := s2 _ _ hpc
    try dsimp only
    refine seq1 ?_
    refine dc3 (K := K) (tt := tTest (tOp (rNeD K) (tVar 7) (tC (.str "changing")))) (tv := tVar 6) (σ := [some (.ref a), some (.ref pc), some (.ref d1), none, none, none, none, none]) (fun l => if (!isChg l) = true then some (l.t, l.cs) else none) (fun l e h => by split at h <;> cases h; rfl) rfl rfl hpc2 pr2 few oL.nd
      (fun {σ' H' l c kv R} h6 h7 e2 e3 ml q => ?_) (fun {σ' H' l c kv e Q'} h6 h7 e2 e3 ef q => ⟨_, h6, q _ ?_⟩) (fun d2 H3 n2 s3 t2 => ?_)
    · obtain ⟨d, d1, d2, d3⟩ := kd_dp (K := K) e3 (oL.good l ml).key
      refine ⟨_, h7, d, .str "changing", d1, .str _, d2, by decide +kernel, _, rfl, ?_⟩
      rw [d3]
      have : (if (!isChg l) = true then some (l.t, l.cs) else none).isSome = !isC l.k := by unfold isChg; cases isC l.k <;> rfl
      rw [← this]; exact q
    · split at ef <;> cases ef
      exact ⟨c, rfl, e2⟩
    rw [filtm] at t2
    have pr3 := Paired.mapP pr2 fun v l r => r.same s3
    have hpc3 := s3 _ _ hpc2
    try dsimp only
    refine seq1 ?_
    refine dc3 (K := K) (tt := tB (tCB (rIsi K) (tCons (tVar 7) (tCons (tC (.ty "tuple")) tNil)))) (tv := tVar 7) (σ := [some (.ref a), some (.ref pc), some (.ref d1), some (.ref d2), none, none, none, none]) (fun l => (keyO l).map fun ks => (l.t, ks)) (fun l e h => by obtain ⟨ks, _, rfl⟩ := Option.map_eq_some_iff.mp h; rfl) rfl rfl hpc3 pr3 few oL.nd
      (fun {σ' H' l c kv R} h6 h7 e2 e3 ml q => ?_) (fun {σ' H' l c kv e Q'} h6 h7 e2 e3 ef q => ⟨_, h7, q _ ?_⟩) (fun d3 H4 n3 s4 t3 => ?_)
    · unfold keyO at q
      cases e : l.k with
      | chg =>
        rw [e] at e3 q
        obtain rfl : kv = .str "changing" := e3
        exact ⟨_, h7, _, _, _, _, false, rfl, .ty _, .base (.str "changing"), kit_ty (by decide +kernel), _, rfl, q⟩
      | fix =>
        rw [e] at e3 q
        obtain rfl : kv = .non := e3
        exact ⟨_, h7, _, _, _, _, false, rfl, .ty _, .base .non, kit_ty (by decide +kernel), _, rfl, q⟩
      | key ks =>
        rw [e] at e3 q
        obtain ⟨q0, rfl, hq⟩ := e3
        exact ⟨_, h7, _, _, _, _, true, rfl, .ty _, .base (.tup hq), kit_ty (by decide +kernel), _, rfl, q⟩
    · obtain ⟨ks, h1, rfl⟩ := Option.map_eq_some_iff.mp ef
      unfold keyO at h1
      cases e : l.k with
      | chg => rw [e] at h1; cases h1
      | fix => rw [e] at h1; cases h1
      | key ks2 =>
        rw [e] at h1 e3
        cases h1
        obtain ⟨q0, rfl, hq⟩ := e3
        exact ⟨q0, rfl, hq⟩
    have t1' := (t1.same s3).same s4
    have t2' := t2.same s4
    have ne : d2 ≠ d3 := fun z => by
      obtain ⟨kvs, h1, _⟩ := t2
      rw [z, n3] at h1; cases h1
    refine ⟨_, rfl, _, rfl, _, rfl, Nat.le_of_ble_eq_true rfl, fun p hp => ?_⟩
    have sp := Same.new (o := .tup [.ref d1, .ref d2, .ref d3]) (Same.refl H4) hp
    exact k p d1 d2 d3 _ ((((s1.trans s2).trans s3).trans s4).trans sp) upd_same ne (t1'.same sp) (t2'.same sp) (t3.same sp)
end
end B30_

/-! ## C6 -/
set_option Elab.async false
set_option linter.all false
set_option maxRecDepth 100000
set_option maxHeartbeats 4000000
namespace K1
open PySem PySem.Spec PyProof.Rows L2
/-! ### c(k = v, ..), c a local name that holds a class -/
section
variable {X : Cx} {CX : CXT} {k i : Nat} {f C : Addr} {fd : FuncData} {ps ks : List Str} {sp : Sp} {E : XK} {x : Str} {p pos : Pos} {kws : List Keyword} {tk : TA} {g : List Value → List Value → List Value} {gV : List V → List V → List V}
def tMakeKL (i : Nat) (C : Addr) (m : Nat) (sp : Sp) (gV : List V → List V → List V) (E : XK) (tk : TA) : TE := fun σ H Q => σ[i]? = some (some (.ref C)) ∧ tMakeK C 0 m sp gV E tNil tk σ H Q
theorem pe_makeKL (M : Mk X.K C f) (F : FnOk X.prog X.w X.K X.mg X.base CX k f fd ps sp) (hr : Room (k + 1) X.A) (hN : X.N[i]? = some x) (hv : Vis X.env.scope x) (hb : KBn X.K fd ps 1 ks g gV) (hx : Passes CX X E) (hkw : PK X kws tk)
    (hall : (backToKw pos (keywordEach kws X.env)).all (·.1.isSome) = true := by rfl) (hks : (backToKw pos (keywordEach kws X.env)).filterMap (·.1) = ks := by rfl) (hdb : (x == ("__debug__" : Str)) = false := by decide) (hcd : (x == ("__classdict__" : Str)) = false := by decide)
    (hpl : ((backTo pos (starEach [] X.env)).any (·.1) || (backToKw pos (keywordEach kws X.env)).any (·.1.isNone)) = false := by rfl) :
    PE X (.Call (.Name x p) [] kws pos) (tMakeKL i C ks.length sp gV E tk) := by
  refine ⟨fun pins s σ H Q I h => ?_⟩
  obtain ⟨held, h⟩ := h
  refine wpAny_Call_Name_kw (thn ((pe_var (pos := p) hN hv hdb hcd).run pins s σ H (fun v H1 => v = .ref C ∧ H1 = H) I ⟨.ref C, held, rfl, rfl⟩) fun u s1 got => ?_)
  obtain ⟨v, H1, I1, r1, rfl, rfl⟩ := got
  cases r1
  refine PySem.W.callWith_KW0 (h₀ := X.base) I1.ok.mod.kin M.kp hall (thn (hkw.run pos pins s1 σ _ _ I1 h) fun ws s2 told => ?_) hpl
  obtain ⟨zs, H2, I2, rz, l1, l2, q2⟩ := told
  refine ⟨I2.kIn, ?_⟩
  rw [hks]
  exact run_makeK (us := []) (vs := []) M F hr hb hx I2 .nil rz rfl l2 q2
end
end K1

/-! ## B30_14 -/
set_option Elab.async false
set_option linter.all false
set_option maxRecDepth 100000
set_option maxHeartbeats 8000000
namespace B30_
open PySem PySem.Spec PyProof.Rows L2
/-! ### Scene.of -/
abbrev s_of : Stmt := inClass (topS 17) 1
abbrev N_of : List Str := ["cls", "lines", "changing", "fixed", "keyed"]
theorem sc_of : FnScope N_of ["cls", "lines"] (defScope s_of) := ⟨rfl, rfl, rfl, by decide +kernel, rfl, by decide +kernel, by decide +kernel⟩
abbrev psI : List Str := ["self", "changing", "fixed", "keyed"]
/-- how a scene is made by a call of the class -/
structure MakeS (P : Program) (w : World) (K : PySem.W.Frag) (mg : Str → Option Value) (base : Heap) (C : Addr) : Prop where
  ex : ∃ (f : Addr) (fd : FuncData), Mk K C f ∧ FnOk P w K mg base CX0 8 f fd psI (spIni C) ∧ (∃ g, KBn K fd psI 1 ["changing", "fixed", "keyed"] g (fun vs zs => vs ++ zs)) ∧ (∃ g, KBn K fd psI 1 ["changing"] g (fun vs zs => vs ++ (zs ++ [.non, .non]))) ∧
    (∃ g, KBn K fd psI 1 ["keyed", "fixed", "changing"] g (fun vs zs => vs ++ zs.reverse)) ∧ ∃ g, KBn K fd psI 1 ["fixed", "keyed"] g (fun vs zs => vs ++ (.non :: zs))
def spOf (C : Addr) : Sp := fun vs H Q _ => ∃ (a : Addr) (xs : List V) (ls : List Ln), vs = [.ref C, .ref a] ∧ H a = some (.tup xs) ∧ Paired (LnAt H) xs ls ∧ LnsOk ls ∧ ∀ x H', Same H H' → H x = none → SceneAtN C H H' x (ordL ls) → Q (.ref x) H'
theorem off_make {H H' : Hp} {x dx C : Addr} (nx : H x = none) (ndx : H dx = none) (s : K1.Off x (upd (upd H dx (.own x)) x (.ins C dx [])) H') : Same H H' := fun b o e => by
  have b1 : b ≠ x := ne_of_none e nx
  have b2 : b ≠ dx := ne_of_none e ndx
  exact s _ _ b1 (by rw [upd_ne b1, upd_ne b2]; exact e)
section
variable {P : Program} {w : World} {K : PySem.W.Frag} {mg : Str → Option Value} {base : Heap}
theorem ok_of {f C : Addr} {fd : FuncData} (F : Fun K "of" "Scene.of" s_of f fd) (T : NamesS mg) (CO : Callee P w K mg base CX0 7 "_dicts_of" ["lines"] spDO) (M : MakeS P w K mg base C) : FnOk P w K mg base CX0 10 f fd ["cls", "lines"] (spOf C) := by
  have nd := sc_of.nd
  obtain ⟨fI, fdI, MI, GI, ⟨g3, B3⟩, _⟩ := M.ex
  refine F.ok sc_of (fun vs H Q E h => ?_) (fun cdv A outer s H vs Q E hr h => ?_)
  · obtain ⟨a, xs, ls, rfl, _⟩ := h
    rfl
  · obtain ⟨a, xs, ls, rfl, ha, la, ok, k⟩ := h
    have hr7 : Room 7 _ := hr.mono (by decide)
    refine ⟨_, (pss_cons
    (ps_if (pt_not (pt_val (pe_callB call_isi (by rfl) T.isinstance (by decide +kernel) (pa_cons (pv 1) (pa_cons (pe_bltn (v := .ty "tuple") (by rfl) T.tuple (by decide +kernel) rfl) pa_nil))))) (pss_one ps_never) pss_nil)
    (pss_cons
    (ps_asg (pe_use CO hr7 rfl pass0 (pa_cons (pv 1) pa_nil)) (pg_tup rfl (pgs_cons (pg_name (i := 2) nd rfl (Or.inl rfl)) (pgs_cons (pg_name (i := 3) nd rfl (Or.inl rfl)) (pgs_cons (pg_name (i := 4) nd rfl (Or.inl rfl)) pgs_nil)))))
    (pss_one
    (ps_ret (K1.pe_makeKL (i := 0) MI GI hr rfl (Or.inl rfl) B3 pass0 (pk_cons (pv 2) (pk_cons (pv 3) (pk_cons (pv 4) pk_nil)))))))), ?_⟩
    refine ⟨_, rfl, _, _, _, _, true, rfl, .ty _, .base (.tup ha), kit_ty (by decide +kernel), _, rfl, iteF ?_⟩
    refine ⟨_, rfl, a, ls, rfl, ⟨xs, .inr ha, la⟩, ok, fun p d1 d2 d3 H1 s1 hp ne t1 t2 t3 => ?_⟩
    refine ⟨p, _, rfl, SqT.of hp, rfl, _, _, rfl, _, _, rfl, _, _, rfl, rfl, ?_⟩
    refine ⟨rfl, _, rfl, _, rfl, _, rfl, rfl, rfl, fun x dx nx ndx nex => ?_⟩
    have s2 : Same H1 (upd (upd H1 dx (.own x)) x (.ins C dx [])) := fun b o e => by rw [upd_ne (ne_of_none e nx), upd_ne (ne_of_none e ndx)]; exact e
    refine ⟨x, dx, .ref d1, .ref d2, .ref d3, _, _, _, rfl, upd_same, .inr ⟨d1, rfl, t1.same s2⟩, .inr ⟨d2, rfl, t2.same s2⟩, .inr ⟨d3, rfl, t3.same s2⟩, ?_, fun d e1 e2 => ?_, told_back ok, fun H' off sc => ⟨rfl, ?_⟩⟩
    · have h1 := (ordL_ok ok).six
      have h2 : (gvOf (ordL ls)).length ≤ (ordL ls).length := List.length_filterMap_le _ _
      omega
    · cases e1
      cases e2
      exact ne rfl
    · rw [ordL_back ok.nd] at sc
      exact k x H' (s1.trans (off_make nx ndx off)) (s1.free nx) (sc.back (s1.trans s2))
end
end B30_

/-! ## C7 -/
set_option Elab.async false
set_option linter.all false
set_option maxRecDepth 100000
set_option maxHeartbeats 4000000
namespace K1
open PySem PySem.Spec PyProof.Rows L2
/-! ### what an own class says by its special methods -/
/-- the method m of C stands at f and keeps sp; nothing leaves it -/
structure Spc (X : Cx) (C : Addr) (m : Str) (n : Nat) (sp : Sp) : Prop where
  ex : ∃ f fd ps, PySem.W.findIn X.K (.ref C) m = some (some (.ref f)) ∧ PySem.W.isFn X.K (.ref f) = true ∧ FnOk X.prog X.w X.K X.mg X.base CX0 n f fd ps sp ∧ Binds X.K fd ps []
section
variable {X : Cx} {C : Addr} {n : Nat} {sp : Sp} {pins : List (Addr × Obj)} {σ : L2.St} {H : Hp} {s : Shared}
theorem run_own {E : Value → Shared → Prop} {A : Around} {f : Addr} {fd : FuncData} {ps : List Str} {vs : List V} {us : List Value} {Q : VK} (sb : Sub X n A) (F : FnOk X.prog X.w X.K X.mg X.base CX0 n f fd ps sp) (hb : Binds X.K fd ps []) (I : Inv X pins σ H s) (r : Vals vs us) (h : sp vs H Q E0) :
    wpAny (model X.prog X.w) A (call (.ref f) us) (EP X pins σ Q) E s := by
  have e0 : Env0 X.prog X.w X.K X.mg X.base A X.stack s H := by
    have e := I.env0
    exact ⟨by rw [sb.fr]; exact e.frames, e.mod, e.bs, e.bsz, e.funs, e.frf, e.hok, e.bare⟩
  have hl := F.len _ _ _ _ h
  refine wpAny_call (codeAny_mono (F.run A X.stack s H ⟨us, []⟩ us vs Q E0 sb.room e0 (by
    have := hb s us I.kIn (by rw [List.append_nil, ← r.length]; exact hl)
    rwa [List.append_nil] at this) r h) fun q s' hq => ?_)
  cases q with
  | error e => exact hq.elim
  | ok fl =>
    cases fl with
    | ret u => exact I.after hq
    | next => exact hq.elim
    | brk => exact hq.elim
    | cont => exact hq.elim
/-- x in o -/
theorem op_inOwn (S : Spc X C "__contains__" n sp) (hr : Room n X.A) : OpR X (compareOp .In) (fun x y H Q => ∃ a dx fs, y = .ref a ∧ H a = some (.ins C dx fs) ∧ sp [.ref a, x] H (fun v H' => ∃ b, v = .bl b ∧ Q (.bl b) H') E0) := by
  intro pins s σ H x y v u Q I rx ry h
  obtain ⟨a, dx, fs, rfl, ha, q⟩ := h
  obtain ⟨f, fd, ps, hs, hf, F, hb⟩ := S.ex
  cases ry
  obtain ⟨mA, J, _⟩ := ins_get I.hok ha
  obtain ⟨od, J, _⟩ := J.look
  obtain ⟨m, hF⟩ := I.fr
  refine PySem.W.in_K hF I.ok.mod.kin J hs hf (wpAny_mono (run_own ⟨hr, rfl⟩ F hb I (.cons (show L2.RelV (V.ref a) (Value.ref a) from rfl) (.cons rx .nil)) q) (fun r s' hq => ?_) fun _ _ x => x)
  obtain ⟨z, H', I', rz, b, rfl, q'⟩ := hq
  cases rz
  exact wpAny_truthy_bool ⟨.bl b, H', I', rfl, q'⟩
/-- x not in o -/
theorem op_notInOwn (S : Spc X C "__contains__" n sp) (hr : Room n X.A) : OpR X (compareOp .NotIn) (fun x y H Q => ∃ a dx fs, y = .ref a ∧ H a = some (.ins C dx fs) ∧ sp [.ref a, x] H (fun v H' => ∃ b, v = .bl b ∧ Q (.bl (!b)) H') E0) := by
  intro pins s σ H x y v u Q I rx ry h
  obtain ⟨a, dx, fs, rfl, ha, q⟩ := h
  obtain ⟨f, fd, ps, hs, hf, F, hb⟩ := S.ex
  cases ry
  obtain ⟨mA, J, _⟩ := ins_get I.hok ha
  obtain ⟨od, J, _⟩ := J.look
  obtain ⟨m, hF⟩ := I.fr
  refine PySem.W.notIn_K hF I.ok.mod.kin J hs hf (wpAny_mono (run_own ⟨hr, rfl⟩ F hb I (.cons (show L2.RelV (V.ref a) (Value.ref a) from rfl) (.cons rx .nil)) q) (fun r s' hq => ?_) fun _ _ x => x)
  obtain ⟨z, H', I', rz, b, rfl, q'⟩ := hq
  cases rz
  exact wpAny_truthy_bool ⟨.bl (!b), H', I', rfl, q'⟩
/-- len(o), whatever is done with errors -/
theorem lenOwnE {E : Value → Shared → Prop} {A : Around} {a dx : Addr} {fs : List (Str × V)} {R : Value → Shared → Prop} (S : Spc X C "__len__" n sp) (sb : Sub X (n + 1) A) (I : Inv X pins σ H s) (ha : H a = some (.ins C dx fs))
    {Qv : VK} (q : sp [.ref a] H Qv E0) (hk : ∀ v H', Qv v H' → ∃ k : Nat, v = .int k ∧ k < 2 ^ 62) (go : ∀ (k : Nat) t H' s', Inv X pins σ H' s' → Qv (.int k) H' → R (.int k t) s') : wpAny (model X.prog X.w) A (call (.builtin "len") [.ref a]) R E s := by
  obtain ⟨f, fd, ps, hs, hf, F, hb⟩ := S.ex
  obtain ⟨mA, J, _⟩ := ins_get I.hok ha
  obtain ⟨od, J, _⟩ := J.look
  obtain ⟨m, hF⟩ := I.fr
  refine PySem.W.len_K hF I.ok.mod.kin J hs hf (wpAny_mono (run_own (A := A.in1) (Sub.in1 sb) F hb I (.cons (show L2.RelV (V.ref a) (Value.ref a) from rfl) .nil) q) (fun r s' hq => ?_) fun _ _ x => x)
  obtain ⟨z, H', I', rz, q'⟩ := hq
  obtain ⟨k, rfl, few⟩ := hk _ _ q'
  obtain ⟨t, rfl⟩ := rz
  exact ⟨⟨by omega, by omega⟩, go k _ _ _ (I'.tok _) q'⟩
/-- len(o) -/
theorem call_lenOwn (S : Spc X C "__len__" n sp) (hr : Room (n + 1) X.A) : CallR X (.builtin "len") (fun xs H Q => ∃ a dx fs, xs = [.ref a] ∧ H a = some (.ins C dx fs) ∧ sp [.ref a] H (fun v H' => ∃ k : Nat, v = .int k ∧ k < 2 ^ 62 ∧ ∀ w, w = V.int k → Q w H') E0) := by
  intro pins s σ H xs us Q I r h
  obtain ⟨a, dx, fs, rfl, ha, q⟩ := h
  rw [Vals.ref1 r]
  obtain ⟨f, fd, ps, hs, hf, F, hb⟩ := S.ex
  obtain ⟨mA, J, _⟩ := ins_get I.hok ha
  obtain ⟨od, J, _⟩ := J.look
  obtain ⟨m, hF⟩ := I.fr
  refine PySem.W.len_K hF I.ok.mod.kin J hs hf (wpAny_mono (run_own (A := X.A.in1) (Sub.in1 ⟨hr, rfl⟩) F hb I (.cons (show L2.RelV (V.ref a) (Value.ref a) from rfl) .nil) q) (fun r s' hq => ?_) fun _ _ x => x)
  obtain ⟨z, H', I', rz, k, rfl, few, q'⟩ := hq
  obtain ⟨t, rfl⟩ := rz
  exact ⟨⟨by omega, by omega⟩, .int k, H', I'.tok _, ⟨_, rfl⟩, q' _ rfl⟩
/-- str(o) -/
theorem call_strOwn (S : Spc X C "__str__" n sp) (hr : Room (n + 2) X.A) : CallR X (.type "str") (fun xs H Q => ∃ a dx fs, xs = [.ref a] ∧ H a = some (.ins C dx fs) ∧ sp [.ref a] H (fun v H' => ∃ z, v = .str z ∧ Q (.str z) H') E0) := by
  intro pins s σ H xs us Q I r h
  obtain ⟨a, dx, fs, rfl, ha, q⟩ := h
  obtain ⟨f, fd, ps, hs, hf, F, hb⟩ := S.ex
  rw [Vals.ref1 r]
  obtain ⟨mA, J, _⟩ := ins_get I.hok ha
  obtain ⟨od, J, _⟩ := J.look
  have sb : Sub X n X.A.in1.in1 := Sub.in1 (Sub.in1 ⟨hr, rfl⟩)
  refine PySem.W.kso_call sb.room.units0 I.kIn J hs hf (wpAny_mono (run_own sb F hb I (.cons (show L2.RelV (V.ref a) (Value.ref a) from rfl) .nil) q) (fun r s' hq => ?_) fun _ _ x => x)
  obtain ⟨z, H', I', rz, k, rfl, q'⟩ := hq
  obtain ⟨t, rfl⟩ := rz
  exact ⟨.str k, H', I', ⟨_, rfl⟩, q'⟩
/-- y is no text of the program's own before C -/
def EqTy (K : PySem.W.Frag) (C : Addr) (H : Hp) (y : V) : Prop := (∃ t, TyX K H y t ∧ PySem.W.notFirst K C t = true) ∨ ∃ b dy gs, y = .ref b ∧ H b = some (.ins C dy gs)
theorem looks_eqTy {A : Around} {y : V} {u : Value} (I : Inv X pins σ H s) (ry : L2.RelV y u) (h : EqTy X.K C H y) : ∃ t, PySem.W.Looks (model X.prog X.w) s.heap (typeOf u) t ∧ PySem.W.notFirst X.K C t = true := by
  rcases h with ⟨t, ty, nf⟩ | ⟨b, dy, gs, rfl, hb⟩
  · obtain ⟨P, k, p, _⟩ := kit_of I ry ty
    exact ⟨t, k.ty _ _ I.kIn p, nf⟩
  · cases ry
    obtain ⟨mA, J, _⟩ := ins_get I.hok hb
    obtain ⟨od, J, _⟩ := J.look
    exact ⟨_, J.type, by unfold PySem.W.notFirst; simp⟩
/-- o == y, y of a type that does not come first -/
theorem op_eqOwn (S : Spc X C "__eq__" n sp) (hr : Room n X.A) : OpR X (compareOp .Eq) (fun x y H Q => ∃ a dx fs, x = .ref a ∧ H a = some (.ins C dx fs) ∧ EqTy X.K C H y ∧ sp [.ref a, y] H (fun v H' => ∃ b, v = .bl b ∧ Q (.bl b) H') E0) := by
  intro pins s σ H x y v u Q I rx ry h
  obtain ⟨a, dx, fs, rfl, ha, ty, q⟩ := h
  obtain ⟨f, fd, ps, hs, hf, F, hb⟩ := S.ex
  cases rx
  obtain ⟨mA, J, _⟩ := ins_get I.hok ha
  obtain ⟨od, J, _⟩ := J.look
  obtain ⟨m, hF⟩ := I.fr
  obtain ⟨t, lk, nf⟩ := looks_eqTy (A := X.A) I ry ty
  refine PySem.W.cmp_K (op := .Eq) hr.units0 hF I.ok.mod.kin J lk nf hs hf (wpAny_mono (run_own ⟨hr, rfl⟩ F hb I (.cons (show L2.RelV (V.ref a) (Value.ref a) from rfl) (.cons ry .nil)) q) (fun r s' hq => ?_) fun _ _ x => x)
  obtain ⟨z, H', I', rz, b, rfl, q'⟩ := hq
  cases rz
  exact ⟨.bl b, H', I', rfl, q'⟩
end
end K1

/-! ## C8 -/
set_option Elab.async false
set_option linter.all false
set_option maxRecDepth 100000
set_option maxHeartbeats 4000000
namespace K1
open PySem PySem.Spec PyProof.Rows L2
/-! ### o != y where only == is told by the class -/
section
variable {prog : Program} {w : World} {A : Around} {E : Value → Shared → Prop} {s : Shared} {K : PySem.W.Frag} {x C L f : Addr} {h0 : Heap} {m : Str → Option Value} {ox od : Obj} {b tb : Value}
/-- the slot of object: it asks ==, and turns the answer -/
theorem neSlot {Q : Fin → Shared → Prop} (hu : A.units < cLine) (kin : K.In s.heap) (I : PySem.W.InstAt s.heap x ox C (some od)) (heq : PySem.W.findIn K (.ref C) "__eq__" = some (some (.ref f))) (fn : PySem.W.isFn K (.ref f) = true)
    (go : wpAny (model prog w) A (call (.ref f) [.ref x, b]) (fun v s' => ∃ z, v = .bool z ∧ Q (.done (.ret (.bool (!z)))) s') E s) :
    wpAny (model prog w) A (Builtin.«object.__ne__» ⟨[.ref x, b], []⟩) Q E s := by
  unfold Builtin.«object.__ne__»
  repeat (first
    | with_reducible refine wpAny_cRoomFor hu ?_
    | (refine wpAny_bind (m := callSpecialIfBound? (.ref x) (Str.ofString "__eq__") [b]) (PySem.W.ifBound_K kin I heq fn (wpAny_mono go (fun r s' hr => by
        obtain ⟨z, rfl, hq⟩ := hr
        repeat (first | exact hq | exact wpAny_pure hq | exact wpAny_truthy_bool hq | (refine wpAny_bind (m := truthy (.bool _)) (wpAny_truthy_bool ?_)) | wp_step)) fun _ _ e => e)))
    | wp_step)
theorem neBound {args : List Value} {Q : Option Value → Shared → Prop} (kin : K.In s.heap) (I : PySem.W.InstAt s.heap x ox C (some od)) (hne : PySem.W.findIn K (.ref C) "__ne__" = some (some (.builtin "object.__ne__")))
    (go : wpAny (model prog w) A (call (.builtin "object.__ne__") (.ref x :: args)) (fun v => Q (some v)) E s) : wpAny (model prog w) A (callSpecialIfBound? (.ref x) "__ne__" args) Q E s := by
  have last : wpAny (model prog w) A (call (.builtin "object.__ne__") ([.ref x] ++ args) >>= fun v => pure (some v)) Q E s := wpAny_bind (wpAny_mono go (fun _ _ z => wpAny_pure z) fun _ _ z => z)
  simp only [callSpecialIfBound?, bindSpecialIfBound?]
  refine wpAny_holding (wpAny_bind (wpAny_bind (wpAny_bind (I.type.here ((PySem.W.looks_findIn kin hne).here (wpAny_bind (wpAny_askSetting (wpAny_ite ?_))))))))
  split
  · exact wpAny_bind (wpAny_of_eq (F.cmp_object.ne.bind _) (wpAny_pure (by exact last)))
  · exact wpAny_tryCatch (wpAny_bind (wpAny_of_eq (F.cmp_object.ne.bind _) (wpAny_pure (by exact last))))
theorem neRich {Q : Value → Shared → Prop} (hu : A.units + 1 < cLine) (kin : K.In s.heap) (I : PySem.W.InstAt s.heap x ox C (some od)) (hob : PySem.W.mroIn K C (.type "object") = some true) (hne : PySem.W.findIn K (.ref C) "__ne__" = some (some (.builtin "object.__ne__")))
    (heq : PySem.W.findIn K (.ref C) "__eq__" = some (some (.ref f))) (fn : PySem.W.isFn K (.ref f) = true) (lk : PySem.W.Looks (model prog w) s.heap (typeOf b) tb) (nf : PySem.W.notFirst K C tb = true)
    (go : wpAny (model prog w) A.in1 (call (.ref f) [.ref x, b]) (fun v s' => ∃ z, v = .bool z ∧ Q (.bool (!z)) s') E s) :
    wpAny (model prog w) A (richCompare .NotEq (.ref x) b) Q E s := by
  have one : wpAny (model prog w) A (tryCompare (.ref x) "__ne__" b) (fun r s' => ∃ v, r = some v ∧ Q v s') E s := by
    unfold tryCompare
    refine wpAny_bind (neBound kin I hne (wpAny_call (codeAny_call_builtin F.cmp_object.ne.plain F.cmpEntry_ne (PySem.W.check_slot F.cmpKind_ne F.cmpSplit_ne (I.type.andThen (PySem.W.looks_mroIn kin hob)) (F.cmpArgs_ne _ _)
      (neSlot (A := A.in1) hu kin I heq fn (wpAny_mono go (fun v s' hv => ?_) fun _ _ e => e))))))
    obtain ⟨z, rfl, hq⟩ := hv
    first | exact ⟨z, rfl, wpAny_pure ⟨_, rfl, hq⟩⟩ | exact ⟨z, rfl, wpAny_pure (wpAny_pure ⟨_, rfl, hq⟩)⟩ | exact ⟨z, rfl, _, rfl, hq⟩
  unfold richCompare
  simp only [oneThing_ref]
  refine wpAny_holding (wpAny_bind (wpAny_cRoomFor (Nat.lt_of_succ_lt hu) ?_))
  rw [cmpInfo_NotEq]
  dsimp only
  refine wpAny_bind (I.type.here (wpAny_bind (lk.here ?_)))
  split
  · rename_i q
    have e : PySem.W.subIn K tb (.ref C) = some false := by
      rcases Bool.or_eq_true_iff.mp nf with e | e
      · rw [beq_iff_eq.mp e] at q; simp at q
      · exact beq_iff_eq.mp e
    refine wpAny_bind ((PySem.W.looks_subIn kin e).here ?_)
    simp only [Bool.false_eq_true, if_false]
    refine wpAny_bind (wpAny_mono one (fun r s' z => ?_) fun _ _ e => e)
    obtain ⟨v, rfl, hq⟩ := z
    exact wpAny_pure hq
  · refine wpAny_bind (wpAny_pure ?_)
    simp only [Bool.false_eq_true, if_false]
    refine wpAny_bind (wpAny_mono one (fun r s' z => ?_) fun _ _ e => e)
    obtain ⟨v, rfl, hq⟩ := z
    exact wpAny_pure hq
end
/-- the class takes != from object -/
structure NeO (K : PySem.W.Frag) (C : Addr) : Prop where
  ne : PySem.W.findIn K (.ref C) "__ne__" = some (some (.builtin "object.__ne__"))
  ob : PySem.W.mroIn K C (.type "object") = some true
section
variable {X : Cx} {C : Addr} {n : Nat} {sp : Sp}
theorem op_neOwn (S : Spc X C "__eq__" n sp) (N : NeO X.K C) (hr : Room (n + 1) X.A) : OpR X (compareOp .NotEq) (fun x y H Q => ∃ a dx fs, x = .ref a ∧ H a = some (.ins C dx fs) ∧ EqTy X.K C H y ∧ sp [.ref a, y] H (fun v H' => ∃ b, v = .bl b ∧ Q (.bl (!b)) H') E0) := by
  intro pins s σ H x y v u Q I rx ry h
  obtain ⟨a, dx, fs, rfl, ha, ty, q⟩ := h
  obtain ⟨f, fd, ps, hs, hf, F, hb⟩ := S.ex
  cases rx
  obtain ⟨mA, J, _⟩ := ins_get I.hok ha
  obtain ⟨od, J, _⟩ := J.look
  obtain ⟨t, lk, nf⟩ := looks_eqTy (A := X.A) I ry ty
  refine neRich (A := X.A) (by have := hr.units; omega) I.kIn J N.ob N.ne hs hf lk nf (wpAny_mono (run_own (A := X.A.in1) (Sub.in1 ⟨hr, rfl⟩) F hb I (.cons (show L2.RelV (V.ref a) (Value.ref a) from rfl) (.cons ry .nil)) q) (fun r s' hq => ?_) fun _ _ x => x)
  obtain ⟨z, H', I', rz, b, rfl, q'⟩ := hq
  cases rz
  exact ⟨b, rfl, .bl (!b), H', I', rfl, q'⟩
end
end K1

/-! ## C9 -/
set_option Elab.async false
set_option linter.all false
set_option maxRecDepth 100000
set_option maxHeartbeats 4000000
namespace K1
open PySem PySem.Spec PyProof.Rows L2
/-! ### iterators over tuples -/
section
variable {prog : Program} {w : World} {A : Around} {E : Value → Shared → Prop} {s : Shared}
/-- the end of such an iterator: it stays where it was -/
theorem titEnd {it t : Addr} {i : Nat} {xs : Array Value} {Q : Option Value → Shared → Prop} (hh : A.handled = none) (at_ : s.heap.IsTupleIter it t i) (tp : s.heap.IsTuple t xs) (no : xs[i]? = none)
    (q : ∀ h', (∃ u, h'.get? it = some u) → Heap.ExtBut it s.heap h' → Q none { s with heap := h' }) : wpAny (model prog w) A (pyNext (.ref it)) Q E s := by
  obtain ⟨ob, eb, cb, db⟩ := id at_
  obtain ⟨ot, et, _, k, dt⟩ := tp
  unfold pyNext
  refine wpAny_bind (wpAny_attempt (wpAny_callSpecial?_slot (name := Str.ofString "__next__") at_.typeIs F.slot_tuple_iterator_next (wpAny_call_entry F.slot_tuple_iterator_next at_.typeIs F.entry_tuple_iterator_next ?_ (F.args_tuple_iterator_next_1 _))))
  show wpAny _ _ (field (.ref it) 0 >>= _) _ _ s
  refine wpAny_bind (wpAny_field eb db (x := .ref t) rfl ?_)
  show wpAny _ _ (if (Value.ref t == Value.none) = true then _ else _) _ _ s
  refine PySem.W.KFB.if_not rfl ?_
  show wpAny _ _ (field (.ref it) 1 >>= _) _ _ s
  refine wpAny_bind (wpAny_field eb db (x := .int i 0) rfl ?_)
  show wpAny _ _ (seqItems? (.ref t) >>= _) _ _ s
  refine wpAny_bind (wpAny_seqItems et dt ?_)
  simp only [Int.toNat_natCast, no]
  refine wpAny_bind (wpAny_rule (wpAny_bind (wpAny_setField eb db (by simp) ?_)))
  show wpAny _ _ (newExc (.type "StopIteration") [] >>= _) _ _ _
  simp only [newExc, newTuple]
  refine wpAny_bind (wpAny_bind (wpAny_newObj_type ?_ (by size_fits)))
  refine wpAny_bind (m := firstArgMember _ _) (wpAny_of_eq (a := Value.none) (by first | rfl | (simp only [firstArgMember]; rfl)) ?_)
  refine wpAny_newObj_type ?_ (by size_fits)
  simp only [raiseNew]
  refine wpAny_bind (wpAny_handled ?_)
  first | rw [show A.in1.handled = none from hh] | rw [hh]
  refine wpAny_bind (wpAny_pure (wpAny_throw ?_))
  refine wpAny_bind (wpAny_isInstance (T := "StopIteration") (b := true) ⟨_, Heap.get?_push_size _ rfl, rfl⟩ isSubtype_stop (wpAny_pure (q _ ?_ (((Heap.SameBut.update ..).extBut.push _).push _))))
  exact ⟨_, Heap.get?_push_of_some _ (Heap.get?_push_of_some _ (Heap.get?_update_self _ eb (Obj.isFreed_of_fields (Obj.data_mapFields db _))))⟩
end
/-- at it an iterator over the tuple at l; i is the next place -/
def TIt (l it : Addr) (i : Nat) : HO := .ext fun h => h.IsTupleIter it l i
/-- .. at its end -/
def TEnd (it : Addr) : HO := .ext fun h => ∃ u, h.get? it = some u
theorem tIt_ok {P : Program} {w : World} {H : Hp} {h : Heap} {l it : Addr} {i : Nat} (e : h.IsTupleIter it l i) : ObjOk P w H h it (TIt l it i) := ⟨e, ⟨e.choose, e.choose_spec.1⟩, fun h1 h2 q k => by
  obtain ⟨o, e1, e2⟩ := q
  exact ⟨o, k _ e1, e2⟩⟩
theorem tEnd_ok {P : Program} {w : World} {H : Hp} {h : Heap} {it : Addr} (e : ∃ u, h.get? it = some u) : ObjOk P w H h it (TEnd it) := ⟨e, e, fun h1 h2 q k => by
  obtain ⟨o, e1⟩ := q
  exact ⟨o, k _ e1⟩⟩
section
variable {X : Cx} {pins : List (Addr × Obj)} {σ : L2.St} {H : Hp} {s : Shared} {l it : Addr} {i : Nat} {xs : List V}
theorem tIt_get (I : Inv X pins σ H s) (e : H it = some (TIt l it i)) : s.heap.IsTupleIter it l i := (I.hok it _ e).1
/-- iter(t) -/
def rIterT (K : PySem.W.Frag) : List V → Hp → VK → Prop := fun xs H Q => ∃ (l : Addr) (zs : List V), xs = [.ref l] ∧ SqT K H l zs ∧ ∀ it, H it = none → Q (.ref it) (upd H it (TIt l it 0))
theorem call_iterT : CallR X (.builtin "iter") (rIterT X.K) := by
  intro pins s σ H xs us Q I r h
  obtain ⟨l, zs, rfl, hq, q⟩ := h
  obtain rfl := Vals.ref1 r
  obtain ⟨its, rv, pl, hz⟩ := I.tuple hq
  refine Calls.call_function_entry (by decide +kernel) (by decide +kernel) PySem.W.kdk_entry_iter (PySem.W.kdk_args_iter _) ?_
  unfold Builtin.«iter»
  refine wpAny_bind (m := someArgs "iter" 1 2 _) (wpAny_of_eq (a := [Value.ref l]) (by first | rfl | kernel_rfl!) ?_)
  show wpAny _ _ (pyIter (.ref l) >>= _) _ _ _
  refine wpAny_bind (wpAny_pyIter_tuple (items := its.toArray) pl (wpAny_pure ⟨_, rfl, ?_⟩))
  exact ⟨.ref s.heap.objs.size, _, I.laid (t' := s.toks) (fun b u e => Heap.get?_push_of_some _ e) (Nat.le_refl _) (tIt_ok ⟨_, Heap.get?_push_size _ rfl, rfl, rfl⟩), rfl, q _ (I.hok.fresh (Nat.le_refl _))⟩
theorem tit_mut (e : H it = some (TIt l it i)) : Mut (H it) := by rw [e]; exact True.intro
theorem tit_item {A : Around} {E : Value → Shared → Prop} {v : V} {Q : Option Value → Shared → Prop} (I : Inv X pins σ H s) (e : H it = some (TIt l it i)) (t : SqT X.K H l xs) (x : xs[i]? = some v)
    (q : ∀ s' u, Inv X pins σ (upd H it (TIt l it (i + 1))) s' → L2.RelV v u → Q (some u) s') : wpAny (model X.prog X.w) A (pyNext (.ref it)) Q E s := by
  obtain ⟨its, rv, pl, hz⟩ := I.tuple t
  obtain ⟨u, hu, ru⟩ := rv.get x
  exact wpAny_pyNext_tuple_item (items := its.toArray) (x := u) (tIt_get I e) pl (by simpa using hu) fun h' e' sb => q _ u (I.write (x := it) (e := it) (t' := s.toks) (tit_mut e) (.inl rfl) (fun b o nb z => (sb.2 b nb).trans z) ⟨e'.choose, e'.choose_spec.1⟩ (tIt_ok e')) ru
theorem tit_end {A : Around} {E : Value → Shared → Prop} {Q : Option Value → Shared → Prop} (hh : A.handled = none) (I : Inv X pins σ H s) (e : H it = some (TIt l it i)) (t : SqT X.K H l xs) (x : xs[i]? = none)
    (q : ∀ s', Inv X pins σ (upd H it (TEnd it)) s' → Q none s') : wpAny (model X.prog X.w) A (pyNext (.ref it)) Q E s := by
  obtain ⟨its, rv, pl, hz⟩ := I.tuple t
  exact titEnd (xs := its.toArray) hh (tIt_get I e) pl (by simpa using rv.none_of x) fun h' ex sb => q _ (I.write (x := it) (e := it) (t' := s.toks) (tit_mut e) (.inl rfl) (fun b o nb z => sb b o nb z) ex (tEnd_ok ex))
end
end K1

/-! ## C10 -/
set_option Elab.async false
set_option linter.all false
set_option maxRecDepth 100000
set_option maxHeartbeats 4000000
namespace K1
open PySem PySem.Spec PyProof.Rows L2
/-! ### list(o), where o gives an iterator over a tuple and tells its length -/
theorem sqT_upd {K : PySem.W.Frag} {H : Hp} {l b : Addr} {ys : List V} {o : HO} (t : SqT K H l ys) (n : (∃ zs, H b = some (.lst zs)) ∨ (∃ a' i, H b = some (TIt a' b i)) ∨ H b = none) : SqT K (upd H b o) l ys := by
  rcases t with (h | ⟨ob, h⟩) | h
  · refine .inl (.inl ?_)
    rw [upd_ne (fun z => by
      rw [z] at h
      rcases n with ⟨_, n⟩ | ⟨_, _, n⟩ | n <;> rw [n] at h <;> exact absurd h (fun z => nomatch z))]
    exact h
  · refine .inl (.inr ⟨ob, ?_⟩)
    rw [upd_ne (fun z => by
      rw [z] at h
      rcases n with ⟨_, n⟩ | ⟨_, _, n⟩ | n <;> rw [n] at h <;> exact absurd h (fun z => nomatch z))]
    exact h
  · exact .inr h
section
variable {X : Cx} {pins : List (Addr × Obj)} {σ : L2.St} {H : Hp} {s : Shared} {l it q : Addr} {ys : List V} {A : Around}
theorem upd4 {H : Hp} {it q : Addr} {a b c d : HO} (n : q ≠ it) : upd (upd (upd (upd H it a) q b) it c) q d = upd (upd H it c) q d := by
  funext z
  simp only [upd]
  by_cases h1 : z = q <;> by_cases h2 : z = it <;> simp [h1, h2]
theorem tl_loop {Rs : Result → Shared → Prop} (hh : A.in1.handled = none) (n : q ≠ it) (H0q : H q = some (.lst [])) (H0i : H it = some (TIt l it 0)) (t : SqT X.K H l ys) (few : ys.length ≤ sizeLine)
    (done : ∀ s', Inv X pins σ (upd (upd H it (TEnd it)) q (.lst ys)) s' → Rs (.ok (.ret .none)) s') :
    ∀ (m i : Nat) (s : Shared), ys.length - i = m → i ≤ ys.length → Inv X pins σ (upd (upd H it (TIt l it i)) q (.lst (ys.take i))) s →
      codeAny (model X.prog X.w) A (.builtin "list.extend.loop" ⟨[.ref q, .ref it, .none], []⟩) Rs s := by
  intro m
  induction m with
  | zero =>
    intro i s e le I
    obtain rfl : i = ys.length := by omega
    refine codeAny_builtin PySem.F.entry_extend_loop ?_
    rw [Around.under_plainId PySem.F.plain_extend_loop _]
    show wpAny _ A.in1 (pyNext (.ref it) >>= _) _ _ s
    have t1 : SqT X.K (upd (upd H it (TIt l it ys.length)) q (.lst (ys.take ys.length))) l ys := sqT_upd (sqT_upd t (.inr (.inl ⟨_, _, H0i⟩))) (.inl ⟨[], by rw [upd_ne n]; exact H0q⟩)
    refine wpAny_bind (tit_end hh I (by rw [upd_ne (Ne.symm n), upd_same]) t1 (by simp) fun s' I' => wpAny_pure (done s' ?_))
    have e : upd (upd (upd H it (TIt l it ys.length)) q (.lst (ys.take ys.length))) it (TEnd it) = upd (upd H it (TEnd it)) q (.lst ys) := by
      funext z
      simp only [upd]
      by_cases h1 : z = q <;> by_cases h2 : z = it <;> simp [h1, h2, n, Ne.symm n]
    rw [e] at I'
    exact I'
  | succ m ih =>
    intro i s e le I
    have lt : i < ys.length := by omega
    refine codeAny_builtin PySem.F.entry_extend_loop ?_
    rw [Around.under_plainId PySem.F.plain_extend_loop _]
    show wpAny _ A.in1 (pyNext (.ref it) >>= _) _ _ s
    have t1 : SqT X.K (upd (upd H it (TIt l it i)) q (.lst (ys.take i))) l ys := sqT_upd (sqT_upd t (.inr (.inl ⟨_, _, H0i⟩))) (.inl ⟨[], by rw [upd_ne n]; exact H0q⟩)
    refine wpAny_bind (tit_item I (by rw [upd_ne (Ne.symm n), upd_same]) t1 (v := ys[i]) (by simp [lt]) fun s' u I' ru => ?_)
    show wpAny _ A.in1 (updateSeq q (·.push u) >>= _) _ _ _
    have hq : upd (upd (upd H it (TIt l it i)) q (.lst (ys.take i))) it (TIt l it (i + 1)) q = some (.lst (ys.take i)) := by rw [upd_ne n, upd_same]
    obtain ⟨z, its, k, r2, hl, e2⟩ := I'.lstM hq
    have lz : its.length = i := by rw [← hl, List.length_take]; omega
    refine wpAny_bind (wpAny_updateSeq e2 rfl (wpAny_pure ⟨plainId_quiet PySem.F.plain_extend_loop _, ?_⟩) (by rw [List.size_toArray]; omega) (by show (its.toArray.push u).size ≤ sizeLine + 1; rw [Array.size_push, List.size_toArray]; omega))
    have I2 := I'.lset (its' := its ++ [u]) (ys := ys.take i ++ [ys[i]]) (f := (·.push u)) (t' := s'.toks) hq e2 (by simp) (r2.append (.cons ru .nil)) (by rw [List.length_append, List.length_singleton, List.length_take]; omega)
    rw [upd4 n, show ys.take i ++ [ys[i]] = ys.take (i + 1) from by simp] at I2
    exact ih (i + 1) _ (by omega) lt I2
end
/-- list(o) -/
def rListOwn (C : Addr) (spI spL : Sp) (K : PySem.W.Frag) : List V → Hp → VK → Prop := fun xs H Q => ∃ a dx fs, xs = [.ref a] ∧ H a = some (.ins C dx fs) ∧ ∀ q, H q = none →
  spI [.ref a] (upd H q (.lst [])) (fun v H1 => ∃ it l ys, v = .ref it ∧ H1 it = some (TIt l it 0) ∧ (∃ dx' fs', H1 a = some (.ins C dx' fs')) ∧
    spL [.ref a] H1 (fun v H2 => ∃ k : Nat, v = .int k ∧ k ≤ sizeLine ∧ q ≠ it ∧ H2 q = some (.lst []) ∧ H2 it = some (TIt l it 0) ∧ SqT K H2 l ys ∧ ys.length ≤ sizeLine ∧ Q (.ref q) (upd (upd H2 it (TEnd it)) q (.lst ys))) E0) E0
section
variable {X : Cx} {C : Addr} {n nL : Nat} {spI spL : Sp} {pins : List (Addr × Obj)} {σ : L2.St} {H : Hp} {s : Shared}
theorem it_next {M : Model} {A : Around} {E : Value → Shared → Prop} {Q : Value → Shared → Prop} {it l : Addr} {i : Nat} (e : s.heap.IsTupleIter it l i) (q : Q (.ref it) s) : PySem.W.OwitIt M A Q E (.ref it) s := by
  unfold PySem.W.OwitIt
  refine wpAny_specialOf e.typeIs F.slot_tuple_iterator_next.lookup ?_
  exact q
/-- the length that o tells -/
theorem own_room {E : Value → Shared → Prop} {A : Around} {a dx : Addr} {fs : List (Str × V)} {Q : Bool → Shared → Prop} (S : Spc X C "__len__" nL spL) (sb : Sub X (nL + 1) A) (I : Inv X pins σ H s) (ha : H a = some (.ins C dx fs))
    {Qv : VK} (q : spL [.ref a] H Qv E0) (hk : ∀ v H', Qv v H' → ∃ k : Nat, v = .int k ∧ k ≤ sizeLine) (go : ∀ (k : Nat) H' s', Inv X pins σ H' s' → Qv (.int k) H' → Q ((k : Int) != 0) s') :
    wpAny (model X.prog X.w) A (Builtin.List.listLengthHint (.ref a)) Q E s := by
  obtain ⟨f, fd, ps, hs, hf, F, hb⟩ := id S.ex
  obtain ⟨mA, J, _⟩ := ins_get I.hok ha
  obtain ⟨od, J, _⟩ := J.look
  unfold Builtin.List.listLengthHint
  refine wpAny_bind (wpAny_bind (J.type.here ((PySem.W.looks_findIn I.kIn hs).here ?_)))
  refine PySem.W.KFB.if_not rfl ?_
  refine wpAny_ite_split (fun _ => ?_) (fun z => absurd rfl z)
  refine wpAny_bind (wpAny_rule (wpAny_bind (wpAny_attempt (lenOwnE S sb I ha q (fun v H' h => ?_) fun k t H' s' I' q' => ?_))))
  · obtain ⟨k, e, few⟩ := hk _ _ h
    exact ⟨k, e, Nat.lt_of_le_of_lt few (by rw [sizeLine_eq]; decide)⟩
  · obtain ⟨k', e, few⟩ := hk _ _ q'
    obtain rfl : k = k' := by
      injection e with e
      exact Int.ofNat.inj e
    show wpAny _ _ (asInt? (.int k t) >>= _) _ _ _
    refine wpAny_bind (wpAny_of_eq (a := some (k : Int)) (by first | rfl | kernel_rfl) ?_)
    show wpAny _ _ (if Builtin.List.listTooLong (k : Int).toNat = true then _ else _) _ _ _
    refine PySem.W.KFB.if_not (by
      show decide ((k : Int).toNat > sizeLine) = false
      simp only [Int.toNat_natCast, decide_eq_false_iff_not]
      omega) (wpAny_pure (go k H' s' I' q'))
theorem own_extendT {A1 : Around} {Rs : Result → Shared → Prop} {a dx q : Addr} {fs : List (Str × V)} {Q : VK} (hh : A1.in1.handled = none) (SI : Spc X C "__iter__" n spI) (SL : Spc X C "__len__" n spL) (sb : Sub X (n + 1) A1.in1)
    (I : Inv X pins σ H s) (ha : H a = some (.ins C dx fs)) (hq : H q = some (.lst []))
    (h : spI [.ref a] H (fun v H1 => ∃ it l ys, v = .ref it ∧ H1 it = some (TIt l it 0) ∧ (∃ dx' fs', H1 a = some (.ins C dx' fs')) ∧
      spL [.ref a] H1 (fun v H2 => ∃ k : Nat, v = .int k ∧ k ≤ sizeLine ∧ q ≠ it ∧ H2 q = some (.lst []) ∧ H2 it = some (TIt l it 0) ∧ SqT X.K H2 l ys ∧ ys.length ≤ sizeLine ∧ Q (.ref q) (upd (upd H2 it (TEnd it)) q (.lst ys))) E0) E0)
    (hdone : ∀ H s, Inv X pins σ H s → Q (.ref q) H → Rs (.ok (.ret .none)) s) :
    wpAny (model X.prog X.w) A1.in1 (Builtin.List.listExtendWith (.ref q) (.ref a) .none)
      (fun fin s' => match fin with | .done f => Rs (.ok f) s' | .again c' => c'.quiet = true ∧ codeAny (model X.prog X.w) A1 c' Rs s') (fun e s' => Rs (.error e) s') s := by
  have hne : q ≠ a := ne_of hq ha (fun z => nomatch z)
  obtain ⟨f, fd, ps, hs, hf, F, hb⟩ := id SI.ex
  obtain ⟨mA, J, _⟩ := ins_get I.hok ha
  obtain ⟨od, J, _⟩ := J.look
  obtain ⟨m0, hF⟩ := I.fr
  unfold Builtin.List.listExtendWith
  refine wpAny_bind (J.type.here ?_)
  simp only [show Builtin.List.listSameRef (.ref q) (.ref a) = false from by simp [Builtin.List.listSameRef, hne], show (Value.ref C == Value.type "list") = false from rfl, show (Value.ref C == Value.type "tuple") = false from rfl, Bool.or_false, Bool.false_eq_true, if_false]
  refine wpAny_bind (PySem.W.owit_iter hF I.ok.mod.kin J hs hf (wpAny_mono (run_own (A := A1.in1) (sb.mono (Nat.le_succ n)) F hb I (.cons (show L2.RelV (V.ref a) (Value.ref a) from rfl) .nil) h) (fun r s' hq' => ?_) fun _ _ x => x))
  obtain ⟨v, H1, I1, rv, it, l, ys, rfl, ei, ⟨dx', fs', ha1⟩, h2⟩ := hq'
  cases rv
  refine it_next (tIt_get I1 ei) ?_
  refine wpAny_bind (wpAny_holding (own_room SL sb I1 ha1 h2 (fun v H' z => ?_) fun k H2 s2 I2 z => ?_))
  · obtain ⟨k, e, few, _⟩ := z
    exact ⟨k, e, few⟩
  · obtain ⟨_, _, _, nqi, hq2, ei2, t, few, fin⟩ := z
    have start : ∀ s3, Inv X pins σ H2 s3 → codeAny (model X.prog X.w) A1 (.builtin "list.extend.loop" ⟨[.ref q, .ref it, .none], []⟩) Rs s3 := fun s3 I3 =>
      tl_loop hh nqi hq2 ei2 t few (fun s' I' => hdone _ _ I' fin) _ 0 s3 rfl (Nat.zero_le _) (by
        have e : upd (upd H2 it (TIt l it 0)) q (.lst (ys.take 0)) = H2 := by
          funext z
          simp only [upd]
          by_cases h1 : z = q
          · simp [h1, hq2]
          · by_cases h2 : z = it <;> simp [h1, h2, ei2, Ne.symm nqi]
        rw [e]
        exact I3)
    refine wpAny_ite_split (fun _ => ?_) (fun _ => wpAny_pure ⟨plainId_quiet PySem.F.plain_extend_loop _, start s2 I2⟩)
    obtain ⟨z, its, k, r3, hl3, e3⟩ := I2.lstM hq2
    cases r3
    refine wpAny_bind (wpAny_rule (wpAny_bind ?_))
    show wpAny _ _ (updateSeq q (·.push .none) >>= fun _ => updateSeq q (·.pop)) _ _ _
    refine wpAny_bind (wpAny_updateSeq e3 rfl ?_)
    have I4 := I2.lset (f := (·.push Value.none)) (its' := [Value.none]) (ys := [.non]) (t' := s2.toks) hq2 e3 (by simp) (.cons rfl .nil) (by rw [List.length_singleton, sizeLine_eq]; decide)
    obtain ⟨z4, its4, k4, r4, hl4, e4⟩ := I4.lstM upd_same
    obtain ⟨u4, rfl, ru4⟩ := r4.one
    refine wpAny_updateSeq e4 rfl ?_ (by show 1 ≤ sizeLine; rw [sizeLine_eq]; decide) (by show 0 ≤ sizeLine + 1; exact Nat.zero_le _)
    have I5 := I4.lset (f := (·.pop)) (its := [u4]) (its' := []) (ys := []) (t' := s2.toks) upd_same e4 (by rfl) .nil (Nat.zero_le _)
    rw [upd_upd, show upd H2 q (.lst []) = H2 from by
      funext b
      by_cases hb : b = q
      · rw [hb, upd_same, hq2]
      · rw [upd_ne hb]] at I5
    exact wpAny_pure ⟨plainId_quiet PySem.F.plain_extend_loop _, start _ I5⟩
theorem call_listOwnT (hc : X.calm = true) (SI : Spc X C "__iter__" n spI) (SL : Spc X C "__len__" n spL) (hr : Room (n + 3) X.A) : CallR X (.type "list") (rListOwn C spI spL X.K) := by
  intro pins s σ H xs us Q I rv h
  obtain ⟨a, dx, fs, rfl, ha, hq⟩ := h
  obtain rfl := Vals.ref1 rv
  refine callType_codes (Q₁ := fun obj s₁ => obj = .ref s.heap.objs.size ∧ s₁ = { s with heap := s.heap.push { cls := .type "list", data := .seq #[] } }) PySem.F.called_list (PySem.F.typeCall_list_1 _) PySem.F.entry_list_init (code_list_new _ ⟨rfl, rfl⟩) fun obj s₁ h₁ => ?_
  obtain ⟨rfl, rfl⟩ := h₁
  have hS : (s.heap.push { cls := .type "list", data := .seq #[] }).get? s.heap.objs.size = some { cls := .type "list", data := .seq #[] } := Heap.get?_push_size _ rfl
  refine ⟨⟨_, hS, rfl⟩, PySem.F.args_list_init_2 _ _, ?_⟩
  have fr : H s.heap.objs.size = none := I.hok.fresh (Nat.le_refl _)
  have I1 : Inv X pins σ (upd H s.heap.objs.size (.lst [])) { s with heap := s.heap.push { cls := .type "list", data := .seq #[] } } := I.lnew (its := []) (t' := s.toks) .nil (Nat.zero_le _)
  show wpAny _ _ (do let old ← Builtin.List.listItems (.ref s.heap.objs.size); Builtin.List.listUpdate (.ref s.heap.objs.size) (fun _ => #[]); letGo old.toList.reverse; Builtin.List.listExtendWith (.ref s.heap.objs.size) (.ref a) .none) _ _ _
  refine wpAny_bind ?_
  unfold Builtin.List.listItems
  refine wpAny_bind (wpAny_seqItems hS rfl (wpAny_pure ?_))
  show wpAny _ _ (updateSeq s.heap.objs.size (fun _ => #[]) >>= fun _ => letGo (#[] : Array Value).toList.reverse >>= fun _ => Builtin.List.listExtendWith (.ref s.heap.objs.size) (.ref a) .none) _ _ _
  refine wpAny_bind (wpAny_updateSeq hS rfl ?_)
  have I2 := I1.lset (f := fun _ => #[]) (its := []) (its' := []) (ys := []) (t' := s.toks) upd_same hS rfl .nil (Nat.zero_le _)
  rw [upd_upd] at I2
  refine wpAny_bind (wpAny_letGo ?_)
  exact own_extendT (A1 := X.A.in1) (Q := Q) (Rs := wants (fun r s₂ => r = .none ∧ EP X pins σ Q (.ref s.heap.objs.size) s₂) X.xe) (I.ok.hd hc) SI SL (Sub.in1 (Sub.in1 (⟨hr, rfl⟩ : Sub X (n + 3) X.A))) I2 (by rw [upd_ne (ne_of_none ha fr)]; exact ha) upd_same (hq _ fr)
    fun H' s' I' q => ⟨rfl, .ref s.heap.objs.size, H', I', rfl, q⟩
end
end K1

/-! ## C11 -/
set_option Elab.async false
set_option linter.all false
set_option maxRecDepth 100000
set_option maxHeartbeats 4000000
namespace K1
open PySem RZ
open PySem.Sem (wp)
/-! ### list(zip(a, b)) of lists -/
section
variable {prog : Program} {w : World} {A : Around} {E : Value → Shared → Prop} {s : Shared}
end
structure ZipAtL (z TI TO i1 i2 l1 l2 d : Addr) (xs ys : Array Value) (i : Nat) (h : Heap) : Prop where
  its : IsPair h TI (.ref i1) (.ref i2)
  p1 : h.IsListIter i1 l1 i
  p2 : h.IsListIter i2 l2 i
  t1 : h.IsList l1 xs
  t2 : h.IsList l2 ys
  st : (IsZip h z TI TO .none ∧ ∃ a b, IsPair h TO a b) ∨ ∃ T f oT, IsZipHeld h z TI TO T f ∧ h.get? T = some oT ∧ T ≠ z ∧ T ≠ i1 ∧ T ≠ i2 ∧ T ≠ d
theorem ZipAtL.src {prog : Program} {w : World} {A : Around} {z TI TO i1 i2 l1 l2 d : Addr} {xs ys : Array Value} (hh : A.handled = none) (D : ZipApart z TI TO i1 i2 l1 l2) (ap : ∀ c ∈ [z, TI, TO, i1, i2, l1, l2], d ≠ c) :
    PairSrc prog w A z d [z, TO, i1, i2] (min xs.size ys.size) (fun i k v => xs[i]? = some k ∧ ys[i]? = some v) (ZipAtL z TI TO i1 i2 l1 l2 d xs ys) where
  off := fun m => by
    simp only [List.mem_cons, List.not_mem_nil, or_false] at m
    rcases m with e | e | e | e <;> exact ap d (by simp [e]) rfl
  frame := fun i h h' Z k => by
    have o : ∀ c ∈ [z, TI, TO, i1, i2, l1, l2], ∀ u, h.get? c = some u → h'.get? c = some u := fun c m u q => k c u (Ne.symm (ap c m)) q
    refine ⟨o _ (by simp) _ Z.its, Z.p1.at fun u q => o i1 (by simp) u q, Z.p2.at fun u q => o i2 (by simp) u q, Z.t1.at fun u q => o l1 (by simp) u q, Z.t2.at fun u q => o l2 (by simp) u q, ?_⟩
    rcases Z.st with ⟨a, x, y, b⟩ | ⟨T, f, oT, a, b, n1, n2, n3, n4⟩
    · exact .inl ⟨o _ (by simp) _ a, x, y, o _ (by simp) _ b⟩
    · exact .inr ⟨T, f, oT, o _ (by simp) _ a, k _ _ n4 b, n1, n2, n3, n4⟩
  item := fun i s Q E hi Z lt k => by
    have e1 := Array.getElem?_eq_getElem (Nat.lt_of_lt_of_le hi (Nat.min_le_left xs.size ys.size))
    have e2 := Array.getElem?_eq_getElem (Nat.lt_of_lt_of_le hi (Nat.min_le_right xs.size ys.size))
    have off : ∀ {c o}, s.heap.get? c = some o → s.heap.objs.size ≠ c := fun e => Nat.ne_of_gt (Heap.lt_size e)
    have n1 : s.heap.objs.size ≠ i1 := by obtain ⟨_, e, _⟩ := Z.p1; exact off e
    have n2 : s.heap.objs.size ≠ i2 := by obtain ⟨_, e, _⟩ := Z.p2; exact off e
    rcases Z.st with ⟨a, x, y, b⟩ | ⟨T, f, oT, a, b, m1, m2, m3, m4⟩
    · refine wpAny_pyNext_zip_item D a Z.its b Z.p1 Z.p2 Z.t1 Z.t2 e1 e2 fun h' a1 a2 a3 a4 a5 _ kept => ?_
      refine k s.heap.objs.size _ _ h' s.toks ⟨e1, e2⟩ (.inl ⟨_, a5, rfl, _, rfl⟩) ⟨kept _ _ D.TIz D.TITO D.TIi1 D.TIi2 Z.its, a3, a4, Z.t1.at fun o q => kept _ o D.l1z D.l1TO D.l1i1 D.l1i2 q, Z.t2.at fun o q => kept _ o D.l2z D.l2TO D.l2i1 D.l2i2 q, .inr ⟨_, false, _, a1, a5, off a, n1, n2, Nat.ne_of_gt lt⟩⟩ fun c o m q => ?_
      simp only [List.mem_cons, List.not_mem_nil, or_false, not_or] at m
      exact kept c o m.1 m.2.1 m.2.2.1 m.2.2.2 q
    · refine wpAny_pyNext_zip_item_held D a b Z.its Z.p1 Z.p2 Z.t1 Z.t2 e1 e2 fun h' a1 a3 a4 a5 _ kept => ?_
      refine k s.heap.objs.size _ _ h' s.toks ⟨e1, e2⟩ (.inl ⟨_, a5, rfl, _, rfl⟩) ⟨kept _ _ D.TIz D.TIi1 D.TIi2 Z.its, a3, a4, Z.t1.at fun o q => kept _ o D.l1z D.l1i1 D.l1i2 q, Z.t2.at fun o q => kept _ o D.l2z D.l2i1 D.l2i2 q, .inr ⟨T, true, oT, a1, kept _ _ m1 m2 m3 b, m1, m2, m3, m4⟩⟩ fun c o m q => ?_
      simp only [List.mem_cons, List.not_mem_nil, or_false, not_or] at m
      exact kept c o m.1 m.2.2.1 m.2.2.2 q
  done := fun s Q E Z k => by
    have over : xs[min xs.size ys.size]? = none ∨ ys[min xs.size ys.size]? = none := by
      rcases Nat.le_total xs.size ys.size with h | h
      · rw [Nat.min_eq_left h]; exact .inl (Array.getElem?_eq_none (Nat.le_refl _))
      · rw [Nat.min_eq_right h]; exact .inr (Array.getElem?_eq_none (Nat.le_refl _))
    rcases Z.st with ⟨a, x, y, b⟩ | ⟨T, f, oT, a, b, _⟩
    · refine wpAny_pyNext_zip_end hh D a Z.its b Z.p1 Z.p2 Z.t1 Z.t2 over fun h' kept => k h' s.toks fun c o m q => ?_
      simp only [List.mem_cons, List.not_mem_nil, or_false, not_or] at m
      exact kept c o m.1 m.2.1 m.2.2.1 m.2.2.2 q
    · refine wpAny_pyNext_zip_end_held hh D a b Z.its Z.p1 Z.p2 Z.t1 Z.t2 over fun h' kept => k h' s.toks fun c o m q => ?_
      simp only [List.mem_cons, List.not_mem_nil, or_false, not_or] at m
      exact kept c o m.1 m.2.2.1 m.2.2.2 q
/-- a zip of two tuples that nobody has asked yet -/
structure ZipNewL (z TI TO i1 i2 l1 l2 : Addr) (xs ys : Array Value) (h : Heap) : Prop where
  zip : IsZip h z TI TO .none
  its : IsPair h TI (.ref i1) (.ref i2)
  out : ∃ a b, IsPair h TO a b
  p1 : h.IsListIter i1 l1 0
  p2 : h.IsListIter i2 l2 0
  t1 : h.IsList l1 xs
  t2 : h.IsList l2 ys
theorem zipArgL {prog : Program} {w : World} (z TI TO i1 i2 l1 l2 : Addr) (D : ZipApart z TI TO i1 i2 l1 l2) (xs ys : Array Value) :
    PairArg prog w "zip" z [z, TI, TO, i1, i2, l1, l2] [z, TO, i1, i2] (min xs.size ys.size) (fun i k v => xs[i]? = some k ∧ ys[i]? = some v) (ZipNewL z TI TO i1 i2 l1 l2 xs ys) where
  type := fun s Z => ⟨_, Z.zip, rfl⟩
  notDict := by decide
  keep := fun h h' Z k => by
    obtain ⟨a, b, q⟩ := Z.out
    exact ⟨k _ _ Z.zip, k _ _ Z.its, ⟨a, b, k _ _ q⟩, Z.p1.at fun o q => k _ o q, Z.p2.at fun o q => k _ o q, Z.t1.at fun o q => k _ o q, Z.t2.at fun o q => k _ o q⟩
  there := fun h Z b m => by
    obtain ⟨_, _, q⟩ := Z.out
    obtain ⟨o1, h1, _⟩ := Z.p1
    obtain ⟨o2, h2, _⟩ := Z.p2
    obtain ⟨o3, h3, _⟩ := Z.t1
    obtain ⟨o4, h4, _⟩ := Z.t2
    simp only [List.mem_cons, List.not_mem_nil, or_false] at m
    rcases m with rfl | rfl | rfl | rfl | rfl | rfl | rfl
    · exact ⟨_, Z.zip⟩
    · exact ⟨_, Z.its⟩
    · exact ⟨_, q⟩
    · exact ⟨_, h1⟩
    · exact ⟨_, h2⟩
    · exact ⟨_, h3⟩
    · exact ⟨_, h4⟩
  sub := fun b m => by
    simp only [List.mem_cons, List.not_mem_nil, or_false] at m ⊢
    rcases m with e | e | e | e <;> simp [e]
  noKeys := fun A s Q E hA Z k => getAttrOr_miss_zip Z.zip rfl rfl rfl zip_no_keys (by decide +kernel) hA k
  iter := fun A s d Q E hA Z lt off k => by
    refine wpAny_pyIter_zip Z.zip (k z _ _ s.heap s.toks (ZipAtL.src hA D fun c m e => off (by rw [e]; exact m)) ⟨Z.its, Z.p1, Z.p2, Z.t1, Z.t2, .inl ⟨Z.zip, Z.out⟩⟩ (fun _ _ q => q) fun b m => .inl m)
structure ZlL (b0 S z TI TO i1 i2 l1 l2 : Addr) (xs ys : Array Value) (i : Nat) (h : Heap) : Prop where
  pos : ZipAtL z TI TO i1 i2 l1 l2 S xs ys i h
  size : h.objs.size = b0 + i
  made : ∀ (j : Nat) (x y : Value), j < i → xs[j]? = some x → ys[j]? = some y → IsPair h (b0 + j) x y
section
variable {prog : Program} {w : World} {A : Around} {R : Result → Shared → Prop} {b0 S z TI TO i1 i2 l1 l2 : Addr} {xs ys : Array Value}
theorem ZlL.other {i : Nat} {h h' : Heap} (Z : ZlL b0 S z TI TO i1 i2 l1 l2 xs ys i h) (ap : ∀ c ∈ [z, TI, TO, i1, i2, l1, l2], S ≠ c) (lowS : S < b0) (len : h'.objs.size = h.objs.size) (k : ∀ b o, b ≠ S → h.get? b = some o → h'.get? b = some o) : ZlL b0 S z TI TO i1 i2 l1 l2 xs ys i h' := by
  have D : ∀ c ∈ [z, TI, TO, i1, i2, l1, l2], ∀ u, h.get? c = some u → h'.get? c = some u := fun c m u q => k c u (Ne.symm (ap c m)) q
  refine ⟨⟨D _ (by simp) _ Z.pos.its, Z.pos.p1.at fun u q => D i1 (by simp) u q, Z.pos.p2.at fun u q => D i2 (by simp) u q, Z.pos.t1.at fun u q => D l1 (by simp) u q, Z.pos.t2.at fun u q => D l2 (by simp) u q, ?_⟩, len.trans Z.size, fun j x y hj hx hy => ?_⟩
  · rcases Z.pos.st with ⟨a, x, y, b⟩ | ⟨T, f, oT, a, b, n1, n2, n3, n4⟩
    · exact .inl ⟨D _ (by simp) _ a, x, y, D _ (by simp) _ b⟩
    · exact .inr ⟨T, f, oT, D _ (by simp) _ a, k _ _ n4 b, n1, n2, n3, n4⟩
  · exact k _ _ (Nat.ne_of_gt (Nat.lt_of_lt_of_le lowS (Nat.le_add_right _ _))) (Z.made j x y hj hx hy)
/-- one more pair -/
theorem zlL_next {A : Around} {E : Value → Shared → Prop} {s : Shared} {i : Nat} {x y : Value} {Q : Option Value → Shared → Prop} (D : ZipApart z TI TO i1 i2 l1 l2) (low : ∀ c ∈ [S, z, TO, i1, i2], c < b0) (Z : ZlL b0 S z TI TO i1 i2 l1 l2 xs ys i s.heap) (gx : xs[i]? = some x) (gy : ys[i]? = some y)
    (k : ∀ h', ZlL b0 S z TI TO i1 i2 l1 l2 xs ys (i + 1) h' → (∀ c o, c ∉ [z, TO, i1, i2] → s.heap.get? c = some o → h'.get? c = some o) → Q (some (.ref (b0 + i))) { s with heap := h' }) : wpAny (model prog w) A (pyNext (.ref z)) Q E s := by
  have off : ∀ c ∈ [S, z, TO, i1, i2], s.heap.objs.size ≠ c := fun c m => by
    rw [Z.size]
    exact Nat.ne_of_gt (Nat.lt_of_lt_of_le (low c m) (Nat.le_add_right _ _))
  have fin : ∀ h', IsPair h' TI (.ref i1) (.ref i2) → h'.IsListIter i1 l1 (i + 1) → h'.IsListIter i2 l2 (i + 1) → h'.IsList l1 xs → h'.IsList l2 ys →
      ((IsZip h' z TI TO .none ∧ ∃ a b, IsPair h' TO a b) ∨ ∃ T f oT, IsZipHeld h' z TI TO T f ∧ h'.get? T = some oT ∧ T ≠ z ∧ T ≠ i1 ∧ T ≠ i2 ∧ T ≠ S) → IsPair h' s.heap.objs.size x y → h'.objs.size = s.heap.objs.size + 1 →
      (∀ c o, c ∉ [z, TO, i1, i2] → s.heap.get? c = some o → h'.get? c = some o) → Q (some (.ref s.heap.objs.size)) { s with heap := h' } := fun h' c1 c2 c3 c4 c5 c6 new len kept => by
    rw [Z.size]
    refine k h' ⟨⟨c1, c2, c3, c4, c5, c6⟩, by rw [len, Z.size]; rfl, fun j u v hj hu hv => ?_⟩ kept
    by_cases e : j = i
    · subst e
      rw [gx] at hu
      rw [gy] at hv
      cases hu
      cases hv
      rw [← Z.size]
      exact new
    · refine kept _ _ (fun m => ?_) (Z.made j u v (by omega) hu hv)
      exact Nat.lt_irrefl _ (Nat.lt_of_le_of_lt (Nat.le_add_right b0 j) (low _ (List.mem_cons_of_mem _ m)))
  have mem : ∀ {c : Addr}, c ∉ [z, TO, i1, i2] → c ≠ z ∧ c ≠ TO ∧ c ≠ i1 ∧ c ≠ i2 := fun m => by
    simpa only [List.mem_cons, List.not_mem_nil, or_false, not_or] using m
  rcases Z.pos.st with ⟨a, p, q, b⟩ | ⟨T, f, oT, a, b, m1, m2, m3, m4⟩
  · refine wpAny_pyNext_zip_item D a Z.pos.its b Z.pos.p1 Z.pos.p2 Z.pos.t1 Z.pos.t2 gx gy fun h' a1 a2 a3 a4 a5 a6 kept => fin h' (kept _ _ D.TIz D.TITO D.TIi1 D.TIi2 Z.pos.its) a3 a4 (Z.pos.t1.at fun o q => kept _ o D.l1z D.l1TO D.l1i1 D.l1i2 q) (Z.pos.t2.at fun o q => kept _ o D.l2z D.l2TO D.l2i1 D.l2i2 q) (.inr ⟨_, false, _, a1, a5, off z (by simp), off i1 (by simp), off i2 (by simp), off S (by simp)⟩) a5 a6 fun c o m e => ?_
    obtain ⟨n1, n2, n3, n4⟩ := mem m
    exact kept c o n1 n2 n3 n4 e
  · refine wpAny_pyNext_zip_item_held D a b Z.pos.its Z.pos.p1 Z.pos.p2 Z.pos.t1 Z.pos.t2 gx gy fun h' a1 a3 a4 a5 a6 kept => fin h' (kept _ _ D.TIz D.TIi1 D.TIi2 Z.pos.its) a3 a4 (Z.pos.t1.at fun o q => kept _ o D.l1z D.l1i1 D.l1i2 q) (Z.pos.t2.at fun o q => kept _ o D.l2z D.l2i1 D.l2i2 q) (.inr ⟨T, true, oT, a1, kept _ _ m1 m2 m3 b, m1, m2, m3, m4⟩) a5 a6 fun c o m e => ?_
    obtain ⟨n1, n2, n3, n4⟩ := mem m
    exact kept c o n1 n3 n4 e
theorem zlL_stop {A : Around} {E : Value → Shared → Prop} {s : Shared} {Q : Option Value → Shared → Prop} (hh : A.handled = none) (D : ZipApart z TI TO i1 i2 l1 l2) (ap : ∀ c ∈ [z, TI, TO, i1, i2, l1, l2], S ≠ c) (low : ∀ c ∈ [S, z, TO, i1, i2], c < b0) (Z : ZlL b0 S z TI TO i1 i2 l1 l2 xs ys (min xs.size ys.size) s.heap)
    (k : ∀ h', (∀ (j : Nat) (x y : Value), j < min xs.size ys.size → xs[j]? = some x → ys[j]? = some y → IsPair h' (b0 + j) x y) → (∀ c o, c ∉ [z, TO, i1, i2] → s.heap.get? c = some o → h'.get? c = some o) → ∀ tk, Q none { s with heap := h', toks := tk }) : wpAny (model prog w) A (pyNext (.ref z)) Q E s := by
  refine (ZipAtL.src hh D ap).done s Q E Z.pos fun h' tk kept => k h' (fun j x y hj hx hy => ?_) kept tk
  refine kept _ _ (fun m => ?_) (Z.made j x y hj hx hy)
  exact Nat.lt_irrefl _ (Nat.lt_of_le_of_lt (Nat.le_add_right b0 j) (low _ (List.mem_cons_of_mem _ m)))
/-- the list at S takes all pairs -/
theorem zlL_loop (hh : A.in1.handled = none) (D : ZipApart z TI TO i1 i2 l1 l2) (ap : ∀ c ∈ [z, TI, TO, i1, i2, l1, l2], S ≠ c) (low : ∀ c ∈ [S, z, TO, i1, i2], c < b0) (few : min xs.size ys.size ≤ sizeLine) (res : Value) :
    ∀ (left i : Nat) (s : Shared) (acc : Array Value) (c : Nat), min xs.size ys.size - i = left → i ≤ min xs.size ys.size → ZlL b0 S z TI TO i1 i2 l1 l2 xs ys i s.heap → s.heap.get? S = some (lobj acc c) → Refs b0 i acc →
    (∀ h' tk acc' c', h'.get? S = some (lobj acc' c') → Refs b0 (min xs.size ys.size) acc' → (∀ (j : Nat) (x y : Value), j < min xs.size ys.size → xs[j]? = some x → ys[j]? = some y → IsPair h' (b0 + j) x y) →
      (∀ b o, b ∉ [S, z, TO, i1, i2] → s.heap.get? b = some o → h'.get? b = some o) → R (.ok (.ret res)) { s with heap := h', toks := tk }) →
    codeAny (model prog w) A (.builtin "list.extend.loop" ⟨[.ref S, .ref z, res], []⟩) R s := by
  have lowS : S < b0 := low S (by simp)
  have nS : S ∉ [z, TO, i1, i2] := fun m => by
    refine ap S ?_ rfl
    simp only [List.mem_cons, List.not_mem_nil, or_false] at m ⊢
    rcases m with e | e | e | e <;> simp [← e]
  intro left
  induction left with
  | zero =>
    intro i s acc c e hi Z L r k
    obtain rfl : i = min xs.size ys.size := by omega
    refine codeAny_builtin F.entry_extend_loop ?_
    rw [Around.under_plainId F.plain_extend_loop _]; show wpAny _ A.in1 (pyNext (.ref z) >>= _) _ _ s
    refine wpAny_bind (zlL_stop hh D ap low Z fun h' made kept tk => wpAny_pure (k h' tk acc c (kept S _ nS L) r made fun b o m q => kept b o (fun z => m (List.mem_cons_of_mem _ z)) q))
  | succ left ih =>
    intro i s acc c e hi Z L r k
    have hlt : i < min xs.size ys.size := by omega
    have gx := Array.getElem?_eq_getElem (Nat.lt_of_lt_of_le hlt (Nat.min_le_left xs.size ys.size))
    have gy := Array.getElem?_eq_getElem (Nat.lt_of_lt_of_le hlt (Nat.min_le_right xs.size ys.size))
    refine codeAny_builtin F.entry_extend_loop ?_
    rw [Around.under_plainId F.plain_extend_loop _]; show wpAny _ A.in1 (pyNext (.ref z) >>= _) _ _ s
    refine wpAny_bind (zlL_next D low Z gx gy fun h' Z' kept => ?_)
    have L' := kept S _ nS L
    show wpAny _ A.in1 (updateSeq S (·.push (.ref (b0 + i))) >>= _) _ _ _
    refine wpAny_bind (wpAny_updateSeq L' rfl (wpAny_pure ⟨plainId_quiet F.plain_extend_loop _, ?_⟩) (by rw [r.1]; omega) (by show (acc.push _).size ≤ sizeLine + 1; rw [Array.size_push, r.1]; omega))
    have other : ∀ b o, b ≠ S → h'.get? b = some o → (h'.update S (Obj.mapSeq (·.push (.ref (b0 + i))))).get? b = some o := fun b o n q => (Heap.get?_update_other _ _ (Ne.symm n)).trans q
    refine ih (i + 1) { s with heap := h'.update S (Obj.mapSeq (·.push (.ref (b0 + i)))) } (acc.push (.ref (b0 + i))) _ (by omega) hlt (Z'.other ap lowS (by rw [Heap.size_update]) other) (Heap.get?_update_self _ L' rfl) r.push fun h2 tk acc' c' L2 r2 made kept2 => ?_
    refine k h2 tk acc' c' L2 r2 made fun b o m q => kept2 b o m (other b o (fun z => m (by rw [z]; exact List.mem_cons_self)) (kept b o (fun z => m (List.mem_cons_of_mem _ z)) q))
end
section
variable {prog : Program} {w : World} {A : Around} {R : Result → Shared → Prop} {S z TI TO i1 i2 l1 l2 : Addr} {xs ys : Array Value}
/-- what list() of such a zip leaves -/
abbrev ZlEndL (R : Result → Shared → Prop) (res : Value) (b0 S z TO i1 i2 : Addr) (xs ys : Array Value) (s : Shared) : Prop := ∀ h' tk acc' c', h'.get? S = some (lobj acc' c') → Refs b0 (min xs.size ys.size) acc' →
  (∀ (j : Nat) (x y : Value), j < min xs.size ys.size → xs[j]? = some x → ys[j]? = some y → IsPair h' (b0 + j) x y) → (∀ b o, b ∉ [S, z, TO, i1, i2] → s.heap.get? b = some o → h'.get? b = some o) → R (.ok (.ret res)) { s with heap := h', toks := tk }
theorem zlL_extend {s : Shared} {c : Nat} (hh : A.in1.handled = none) (D : ZipApart z TI TO i1 i2 l1 l2) (ap : ∀ c ∈ [z, TI, TO, i1, i2, l1, l2], S ≠ c) (few : min xs.size ys.size ≤ sizeLine) (res : Value) (Z : ZipAtL z TI TO i1 i2 l1 l2 S xs ys 0 s.heap) (zip : IsZip s.heap z TI TO .none)
    (low : ∀ c ∈ [S, z, TO, i1, i2], c < s.heap.objs.size) (L : s.heap.get? S = some (lobj #[] c)) (k : ZlEndL R res s.heap.objs.size S z TO i1 i2 xs ys s) :
    wpAny (model prog w) A.in1 (Builtin.List.listExtendWith (.ref S) (.ref z) res) (fun fin s' => match fin with | .done f => R (.ok f) s' | .again c' => c'.quiet = true ∧ codeAny (model prog w) A c' R s') (fun e s' => R (.error e) s') s := by
  have ty : s.TypeIs (.ref z) "zip" := ⟨_, zip, rfl⟩
  have nSz : S ≠ z := ap z (by simp)
  unfold Builtin.List.listExtendWith
  refine wpAny_bind (wpAny_typeOf ty ?_)
  simp only [show Builtin.List.listSameRef (.ref S) (.ref z) = false from by simp [Builtin.List.listSameRef, nSz], show (Value.type "zip" == Value.type "list") = false from by decide, show (Value.type "zip" == Value.type "tuple") = false from by decide, Bool.or_false, Bool.false_eq_true, if_false]
  refine wpAny_bind (wpAny_pyIter_zip zip (wpAny_bind (wpAny_holding ?_)))
  unfold Builtin.List.listLengthHint
  refine wpAny_bind (wpAny_specialOf ty zip_len0 ?_)
  show wpAny _ A.in1 (specialOf (.ref z) (Str.ofString "__length_hint__") >>= _) _ _ _
  refine wpAny_bind (wpAny_specialOf ty zip_hint0 (wpAny_pure ?_))
  show wpAny _ A.in1 (rule "list.extend.makes-room" >>= fun _ => Builtin.List.listTouch (.ref S) >>= fun _ => again (.builtin "list.extend.loop" ⟨[.ref S, .ref z, res], []⟩)) _ _ _
  refine wpAny_bind (wpAny_rule (wpAny_bind ?_))
  show wpAny _ A.in1 (updateSeq S (·.push .none) >>= fun _ => updateSeq S (·.pop)) _ _ _
  refine wpAny_bind (wpAny_updateSeq L rfl ?_)
  have L2 := Heap.get?_update_self (Obj.mapSeq (·.push Value.none)) L rfl
  refine wpAny_updateSeq (hz := by seq_fits) L2 rfl ?_
  have L3 := Heap.get?_update_self (Obj.mapSeq (·.pop)) L2 rfl
  obtain ⟨h2, eq2⟩ : ∃ h2, h2 = (s.heap.update S (Obj.mapSeq (·.push Value.none))).update S (Obj.mapSeq (·.pop)) := ⟨_, rfl⟩
  rw [← eq2] at L3 ⊢
  have other : ∀ b o, b ≠ S → s.heap.get? b = some o → h2.get? b = some o := fun b o n q => by
    rw [eq2]
    exact (Heap.get?_update_other _ _ (Ne.symm n)).trans ((Heap.get?_update_other _ _ (Ne.symm n)).trans q)
  have len : h2.objs.size = s.heap.objs.size := by rw [eq2, Heap.size_update, Heap.size_update]
  have Z0 : ZlL s.heap.objs.size S z TI TO i1 i2 l1 l2 xs ys 0 s.heap := ⟨Z, rfl, fun j x y hj => absurd hj (Nat.not_lt_zero j)⟩
  refine wpAny_pure ⟨plainId_quiet F.plain_extend_loop _, zlL_loop hh D ap low few res _ 0 { s with heap := h2 } #[] _ rfl (Nat.zero_le _) (Z0.other ap (low S (by simp)) len other) L3 ⟨rfl, fun j hj => absurd hj (Nat.not_lt_zero j)⟩ fun h' tk acc' c' a b d e => ?_⟩
  exact k h' tk acc' c' a b d fun c o m q => e c o m (other c o (fun z => m (by rw [z]; exact List.mem_cons_self)) q)
theorem zlL_init {s : Shared} (hh : A.in1.handled = none) (D : ZipApart z TI TO i1 i2 l1 l2) (ap : ∀ c ∈ [z, TI, TO, i1, i2, l1, l2], S ≠ c) (few : min xs.size ys.size ≤ sizeLine) (Z : ZipAtL z TI TO i1 i2 l1 l2 S xs ys 0 s.heap) (zip : IsZip s.heap z TI TO .none)
    (low : ∀ c ∈ [S, z, TO, i1, i2], c < s.heap.objs.size) (L : s.heap.get? S = some (lobj #[] 0)) (k : ZlEndL R .none s.heap.objs.size S z TO i1 i2 xs ys s) :
    wpAny (model prog w) A.in1 (Builtin.«list.__init__» ⟨[.ref S, .ref z], []⟩) (fun fin s' => match fin with | .done f => R (.ok f) s' | .again c' => c'.quiet = true ∧ codeAny (model prog w) A c' R s') (fun e s' => R (.error e) s') s := by
  show wpAny _ A.in1 (do let old ← Builtin.List.listItems (.ref S); Builtin.List.listUpdate (.ref S) (fun _ => #[]); letGo old.toList.reverse; Builtin.List.listExtendWith (.ref S) (.ref z) .none) _ _ s
  refine wpAny_bind ?_
  unfold Builtin.List.listItems
  refine wpAny_bind (wpAny_seqItems L rfl (wpAny_pure ?_))
  show wpAny _ A.in1 (updateSeq S (fun _ => #[]) >>= fun _ => letGo (#[] : Array Value).toList.reverse >>= fun _ => Builtin.List.listExtendWith (.ref S) (.ref z) .none) _ _ s
  refine wpAny_bind (wpAny_updateSeq L rfl (wpAny_bind (wpAny_letGo ?_)))
  have L2 := Heap.get?_update_self (Obj.mapSeq (fun _ => (#[] : Array Value))) L rfl
  obtain ⟨h2, eq2⟩ : ∃ h2, h2 = s.heap.update S (Obj.mapSeq (fun _ => (#[] : Array Value))) := ⟨_, rfl⟩
  rw [← eq2] at L2 ⊢
  have other : ∀ b o, b ≠ S → s.heap.get? b = some o → h2.get? b = some o := fun b o n q => by
    rw [eq2]
    exact (Heap.get?_update_other _ _ (Ne.symm n)).trans q
  have len : h2.objs.size = s.heap.objs.size := by rw [eq2, Heap.size_update]
  have Z0 : ZlL s.heap.objs.size S z TI TO i1 i2 l1 l2 xs ys 0 s.heap := ⟨Z, rfl, fun j x y hj => absurd hj (Nat.not_lt_zero j)⟩
  refine zlL_extend (s := { s with heap := h2 }) hh D ap few .none (Z0.other ap (low S (by simp)) len other).pos (other _ _ (Ne.symm (ap z (by simp))) zip) (fun c m => by show c < h2.objs.size; rw [len]; exact low c m) L2 fun h' tk acc' c' a b d e => ?_
  have b' : Refs s.heap.objs.size (min xs.size ys.size) acc' := by rw [← len]; exact b
  refine k h' tk acc' c' a b' (fun j x y hj hx hy => by rw [← len]; exact d j x y hj hx hy) fun c o m q => e c o m (other c o (fun z => m (by rw [z]; exact List.mem_cons_self)) q)
/-- list(z): the pairs in new tuples behind the list -/
theorem call_listZipL {E : Value → Shared → Prop} {s : Shared} {Q : Value → Shared → Prop} (hh : A.handled = none) (D : ZipApart z TI TO i1 i2 l1 l2) (few : min xs.size ys.size ≤ sizeLine) (Z : ZipNewL z TI TO i1 i2 l1 l2 xs ys s.heap)
    (k : ∀ h' tk acc' c', h'.get? s.heap.objs.size = some (lobj acc' c') → Refs (s.heap.objs.size + 1) (min xs.size ys.size) acc' → (∀ (j : Nat) (x y : Value), j < min xs.size ys.size → xs[j]? = some x → ys[j]? = some y → IsPair h' (s.heap.objs.size + 1 + j) x y) →
      (∀ b o, b ∉ [z, TO, i1, i2] → s.heap.get? b = some o → h'.get? b = some o) → Q (.ref s.heap.objs.size) { s with heap := h', toks := tk }) : wpAny (model prog w) A (call (.type "list") [.ref z]) Q E s := by
  have there : ∀ c ∈ [z, TI, TO, i1, i2, l1, l2], c < s.heap.objs.size := fun c m => by
    obtain ⟨o, q⟩ := (zipArgL (prog := prog) (w := w) z TI TO i1 i2 l1 l2 D xs ys).there _ Z c m
    exact Heap.lt_size q
  refine callType_codes (Q₁ := fun obj s₁ => obj = .ref s.heap.objs.size ∧ s₁ = { s with heap := s.heap.push (lobj #[] 0) }) F.called_list (F.typeCall_list_1 _) F.entry_list_init (code_list_new _ ⟨rfl, rfl⟩) fun obj s₁ e => ?_
  obtain ⟨rfl, rfl⟩ := e
  have new : (s.heap.push (lobj #[] 0)).get? s.heap.objs.size = some (lobj #[] 0) := Heap.get?_push_size _ rfl
  have up : ∀ b o, s.heap.get? b = some o → (s.heap.push (lobj #[] 0)).get? b = some o := fun b o q => Heap.get?_push_of_some _ q
  have ap : ∀ c ∈ [z, TI, TO, i1, i2, l1, l2], s.heap.objs.size ≠ c := fun c m => Nat.ne_of_gt (there c m)
  have Z2 := (zipArgL (prog := prog) (w := w) z TI TO i1 i2 l1 l2 D xs ys).keep _ _ Z up
  have len : (s.heap.push (lobj #[] 0)).objs.size = s.heap.objs.size + 1 := Heap.size_push ..
  refine ⟨⟨_, new, rfl⟩, F.args_list_init_2 _ _, zlL_init (A := A.in1) (s := { s with heap := s.heap.push (lobj #[] 0) }) hh D ap few ⟨Z2.its, Z2.p1, Z2.p2, Z2.t1, Z2.t2, .inl ⟨Z2.zip, Z2.out⟩⟩ Z2.zip (fun c m => ?_) new fun h' tk acc' c' a b d e => ?_⟩
  · show c < (s.heap.push (lobj #[] 0)).objs.size
    rw [len]
    rcases List.mem_cons.mp m with rfl | m
    · exact Nat.lt_succ_self _
    · refine Nat.lt_succ_of_lt (there c ?_)
      simp only [List.mem_cons, List.not_mem_nil, or_false] at m ⊢
      rcases m with e | e | e | e <;> simp [e]
  · refine ⟨rfl, k h' tk acc' c' a (by rw [← len]; exact b) (fun j x y hj hx hy => by rw [← len]; exact d j x y hj hx hy) fun c o m q => e c o (fun n => ?_) (up c o q)⟩
    rcases List.mem_cons.mp n with rfl | n
    · exact Nat.lt_irrefl _ (Heap.lt_size q)
    · exact m n
end
end K1

/-! ## C12 -/
set_option Elab.async false
set_option linter.all false
set_option maxRecDepth 100000
set_option maxHeartbeats 4000000
namespace K1
open PySem PySem.Spec PyProof.Rows L2
/-! ### a list of new pairs is laid -/
/-- the heap with the list at S and the pairs behind it -/
def hpPairs (H : Hp) (S : Addr) (ps : List (V × V)) : Hp := fun b => if b = S then some (.lst ((List.range ps.length).map fun j => V.ref (S + 1 + j))) else if LT.lt (α := Nat) S b then (ps[Nat.sub b (S + 1)]?).map (fun p => HO.tup [p.1, p.2]) else H b
theorem hpPairs_at {H : Hp} {S : Addr} {ps : List (V × V)} : hpPairs H S ps S = some (.lst ((List.range ps.length).map fun j => V.ref (S + 1 + j))) := by unfold hpPairs; rw [if_pos rfl]
theorem hpPairs_in {H : Hp} {S : Addr} {ps : List (V × V)} {j : Nat} {p : V × V} (e : ps[j]? = some p) : hpPairs H S ps (S + 1 + j) = some (.tup [p.1, p.2]) := by
  have lt : LT.lt (α := Nat) S (S + 1 + j) := Nat.lt_of_lt_of_le (Nat.lt_succ_self S) (Nat.le_add_right _ _)
  have sb : Nat.sub (S + 1 + j) (S + 1) = j := Nat.add_sub_cancel_left (S + 1) j
  unfold hpPairs
  rw [if_neg (Nat.ne_of_gt lt), if_pos lt, sb, e]
  rfl
theorem hpPairs_low {H : Hp} {S b : Addr} {ps : List (V × V)} (h : LT.lt (α := Nat) b S) : hpPairs H S ps b = H b := by
  unfold hpPairs
  rw [if_neg (Nat.ne_of_lt h), if_neg (Nat.lt_asymm h)]
/-- the new ones -/
theorem hpPairs_new {H : Hp} {S b : Addr} {ps : List (V × V)} {o : HO} (h : ¬ LT.lt (α := Nat) b S) (e : hpPairs H S ps b = some o) : (b = S ∧ o = .lst ((List.range ps.length).map fun j => V.ref (S + 1 + j))) ∨ ∃ j p, b = S + 1 + j ∧ ps[j]? = some p ∧ o = .tup [p.1, p.2] := by
  unfold hpPairs at e
  by_cases h1 : b = S
  · rw [if_pos h1] at e
    cases e
    exact .inl ⟨h1, rfl⟩
  · rw [if_neg h1] at e
    by_cases h2 : LT.lt (α := Nat) S b
    · rw [if_pos h2] at e
      refine .inr ⟨Nat.sub b (S + 1), ?_⟩
      cases q : ps[Nat.sub b (S + 1)]? with
      | none => rw [q] at e; cases e
      | some p =>
        rw [q] at e
        cases e
        exact ⟨p, (Nat.add_sub_cancel' h2).symm, rfl, rfl⟩
    · exact absurd (Nat.lt_of_le_of_ne (Nat.le_of_not_lt h2) h1) h
theorem paired_at {α β : Type} {F : α → β → Prop} : ∀ {xs : List α} {ys : List β}, Paired F xs ys → ∀ {i : Nat} {x : α}, xs[i]? = some x → ∃ y, ys[i]? = some y ∧ F x y
  | _, _, .nil, i, x, h => by cases h
  | _, _, .cons r t, 0, x, h => by
    cases h
    exact ⟨_, rfl, r⟩
  | _, _, .cons r t, i + 1, x, h => paired_at t h
section
variable {X : Cx} {pins : List (Addr × Obj)} {σ : L2.St} {H : Hp} {s : Shared}
theorem lowH_of {S : Addr} (I : Inv X pins σ H s) (low : ∀ b o, s.heap.get? b = some o → LT.lt (α := Nat) b S) : ∀ b o, H b = some o → LT.lt (α := Nat) b S := fun b o e => by
  cases q : s.heap.get? b with
  | none => rw [I.hok.gone q] at e; cases e
  | some u => exact low b u q
theorem pairs_land {ps : List (V × V)} {us : List (Value × Value)} {h' : Heap} {tk : Nat} {acc : Array Value} {c : Nat} {S : Addr} (I : Inv X pins σ H s) (rel : Paired (fun (p : V × V) (u : Value × Value) => L2.RelV p.1 u.1 ∧ L2.RelV p.2 u.2) ps us) (few : ps.length ≤ sizeLine)
    (keep : ∀ b o, s.heap.get? b = some o → h'.get? b = some o) (low : ∀ b o, s.heap.get? b = some o → LT.lt (α := Nat) b S) (L : h'.get? S = some (lobj acc c)) (refs : Refs (S + 1) ps.length acc) (made : ∀ (j : Nat) x y, us[j]? = some (x, y) → IsPair h' (S + 1 + j) x y) :
    Inv X pins σ (hpPairs H S ps) { s with heap := h', toks := tk } := by
  have lowH : ∀ b o, H b = some o → LT.lt (α := Nat) b S := lowH_of I low
  have kp : ∀ b u, H b = some u → hpPairs H S ps b = some u := fun b u e => by rw [hpPairs_low (lowH b u e)]; exact e
  refine I.call' (ch := []) rfl ⟨fun b o q _ _ _ => keep b o q, fun b o q _ _ _ => ⟨o.slots, keep b o q⟩, fun b o q n _ => ?_, fun b o q _ => ⟨o, keep b o q⟩, fun b xs q => kp b _ q, fun b o u q => kp b _ q, fun b qs q => ⟨#[], by rw [kp b _ q]; simp⟩⟩ (fun b u q => ?_) I.bare fun b z => by simp at z
  · rw [hpPairs_low (low b o q)]
    exact n
  · by_cases hb : LT.lt (α := Nat) b S
    · rw [hpPairs_low hb] at q
      exact (I.hok b u q).stay (fun d v _ y => keep d v y) (fun d y => kp d _ y) fun d xs y => kp d _ y
    · rcases hpPairs_new hb q with ⟨rfl, rfl⟩ | ⟨j, p, rfl, e, rfl⟩
      · refine ⟨by simpa using few, acc.toList, c, ?_, by rw [Array.toArray_toList]; exact L⟩
        have el : acc.toList = ((List.range ps.length).map fun j => Value.ref (b + 1 + j)) := by
          apply List.ext_getElem?
          intro i
          by_cases hi : i < ps.length
          · rw [Array.getElem?_toList, refs.2 i hi, List.getElem?_map, List.getElem?_range hi]
            rfl
          · rw [Array.getElem?_toList, Array.getElem?_eq_none (by rw [refs.1]; omega), List.getElem?_eq_none (by simpa using hi)]
        rw [el]
        generalize List.range ps.length = rs
        induction rs with
        | nil => exact .nil
        | cons r rs ih => exact .cons rfl ih
      · obtain ⟨⟨x, y⟩, e2, r1, r2⟩ := paired_at rel e
        exact ⟨by show 2 ≤ sizeLine; decide, [x, y], .cons r1 (.cons r2 .nil), ⟨_, made j x y e2, rfl, _, rfl⟩⟩
theorem zip_rel {α : Type} : ∀ {xs ys : List V} {us vs : List Value}, Vals xs us → Vals ys vs → Paired (fun (p : V × V) (u : Value × Value) => L2.RelV p.1 u.1 ∧ L2.RelV p.2 u.2) (xs.zip ys) (us.zip vs)
  | _, _, _, _, .nil, _ => by simp; exact .nil
  | _, _, _, _, .cons _ _, .nil => .nil
  | _, _, _, _, .cons a b, .cons c d => .cons ⟨a, c⟩ (zip_rel (α := α) b d)
end
end K1

/-! ## C13 -/
set_option Elab.async false
set_option linter.all false
set_option maxRecDepth 100000
set_option maxHeartbeats 4000000
namespace K1
open PySem PySem.Spec PyProof.Rows L2
/-- what list(zip(..)) leaves: S is new -/
def ZipOut (xs ys : List V) (H : Hp) (Q : VK) : Prop := ∀ S, (∀ b o, H b = some o → LT.lt (α := Nat) b S) → Q (.ref S) (hpPairs H S (xs.zip ys))
/-- list(zip(a, b)) of two lists -/
def tLZip (K : PySem.W.Frag) (ta : TA) : TE := fun σ H Q => ta σ H fun vs H1 => ∃ a b xs ys, vs = [.ref a, .ref b] ∧ SqL K H1 a xs ∧ SqL K H1 b ys ∧ ZipOut xs ys H1 Q
section
variable {X : Cx}
theorem pe_listZip {e1 e2 : Expr} {ta : TA} {p2 p3 pos2 pos3 : Pos} (hc : X.calm = true) (hg3 : Gl X "list") (hm3 : X.mg "list" = none) (hg2 : Gl X "zip") (hm2 : X.mg "zip" = none) (ha : PA X [e1, e2] ta)
    (hst : starEach [e1, e2] X.env = (false, eval e1 X.env) :: starEach [e2] X.env := by rfl) (hpl : (backTo pos2 (starEach [e2] X.env)).any (·.1) = false := by rfl) :
    PE X (.Call (.Name "list" p3) [.Call (.Name "zip" p2) [e1, e2] [] pos2] [] pos3) (tLZip X.K ta) := by
  refine ⟨fun pins s σ H Q I h => ?_⟩
  refine Call_ (ld_blt I hg3 hm3 boot_list (PyProof.Rows.callWith_type1 (PyProof.Rows.args_cons ?_ rfl) rfl rfl))
  refine Call_ (ld_blt I hg2 hm2 PyProof.Rows.boot_zip (PyProof.Rows.callWith_type1 (thn (ha.run pos2 pins s σ H _ I h) fun us s1 ⟨vs, H1, J, r, q⟩ => ?_) hst hpl))
  obtain ⟨a, b, xs, ys, rfl, t1, t2, q⟩ := q
  obtain ⟨u1, u2, rfl, r1, r2⟩ := vals2 r
  cases r1
  cases r2
  obtain ⟨its, rv, q1, sm⟩ := J.list t1
  obtain ⟨jts, rw_, q2, small⟩ := J.list t2
  have w1 : s1.heap.IsList a its.toArray := q1.isList
  have w2 : s1.heap.IsList b jts.toArray := q2.isList
  obtain ⟨o1, g1, _⟩ := id w1
  obtain ⟨o2, g2, _⟩ := id w2
  have few : min its.toArray.size jts.toArray.size ≤ sizeLine := by
    rw [List.size_toArray, List.size_toArray]
    exact Nat.le_trans (Nat.min_le_right _ _) (by rw [← rw_.length]; exact small)
  refine PySem.call_zip_2 w1 w2 fun h' hz hTI hTO h1 h2 len kept => PyProof.Rows.args_nil ?_
  have ap := PySem.W.ktu_apart s1.heap.objs.size a b (Heap.lt_size g1) (Heap.lt_size g2)
  refine call_listZipL (s := { s1 with heap := h' }) (xs := its.toArray) (ys := jts.toArray) (J.ok.hd hc) ap few ⟨hz, hTI, ⟨_, _, hTO⟩, h1, h2, w1.at fun o e => kept _ o e, w2.at fun o e => kept _ o e⟩ fun h3 tk3 acc c L refs made kept3 => ?_
  have ml : (xs.zip ys).length = min its.toArray.size jts.toArray.size := by rw [List.length_zip, List.size_toArray, List.size_toArray, rv.length, rw_.length]
  have keep : ∀ c o, s1.heap.get? c = some o → h3.get? c = some o := fun c o e => by
    refine kept3 c o (fun m => ?_) (kept c o e)
    have lt := Heap.lt_size e
    simp only [List.mem_cons, List.not_mem_nil, or_false] at m
    have no : ∀ n : Nat, ¬ (s1.heap.objs.size + n < s1.heap.objs.size) := fun n z => Nat.lt_irrefl _ (Nat.lt_of_le_of_lt (Nat.le_add_right _ n) z)
    rcases m with z | z | z | z <;> rw [z] at lt
    · exact no 4 lt
    · exact no 3 lt
    · exact no 0 lt
    · exact no 1 lt
  have le : Nat.le s1.heap.objs.size h'.objs.size := by rw [len]; exact Nat.le_add_right _ 5
  have ask : ∀ (j : Nat) x y, (its.zip jts)[j]? = some (x, y) → IsPair h3 (h'.objs.size + 1 + j) x y := fun j x y e => by
    obtain ⟨e1, e2⟩ := List.getElem?_zip_eq_some.mp e
    have lt : j < min its.toArray.size jts.toArray.size := by
      rw [List.size_toArray, List.size_toArray]
      exact Nat.lt_min.mpr ⟨(List.getElem?_eq_some_iff.mp e1).1, (List.getElem?_eq_some_iff.mp e2).1⟩
    exact made j x y lt (by rw [List.getElem?_toArray]; exact e1) (by rw [List.getElem?_toArray]; exact e2)
  have land := pairs_land (s := s1) (tk := tk3) J (zip_rel (α := Nat) rv rw_) (by rw [ml]; exact few) keep (fun b o e => Nat.lt_of_lt_of_le (Heap.lt_size e) le) L (by rw [ml]; exact refs) ask
  refine ⟨.ref h'.objs.size, _, land, rfl, q _ fun b o e => Nat.lt_of_lt_of_le (J.hok.lt e) le⟩
end
end K1

/-! ## C14 -/
set_option Elab.async false
set_option linter.all false
set_option maxRecDepth 100000
set_option maxHeartbeats 4000000
namespace K1
open PySem PySem.Spec PyProof.Rows L2
/-! ### zip(a, b) of any two things that are iterated over -/
abbrev zTI (i1 i2 : Value) : Obj := { cls := .type "tuple", data := .seq #[i1, i2] }
abbrev zTO : Obj := { cls := .type "tuple", data := .seq #[.none, .none] }
abbrev zZ (a b : Addr) : Obj := { cls := .type "zip", data := .fields #[.none, .bool false, .bool false, .ref a, .ref b] }
section
variable {prog : Program} {w : World} {A : Around} {E : Value → Shared → Prop} {s : Shared}
theorem zipNew2 {o1 o2 : Value} {R : Value → Shared → Prop} (h : wpAny (model prog w) A (pyIter o1) (fun i1 s1 => wpAny (model prog w) A (pyIter o2) (fun i2 s2 =>
      R (.ref (s2.heap.objs.size + 2)) { s2 with heap := ((s2.heap.push (zTI i1 i2)).push zTO).push (zZ s2.heap.objs.size (s2.heap.objs.size + 1)) }) E s1) E s) :
    wpAny (model prog w) A (Builtin.«zip.__new__» ⟨[.type "zip", o1, o2], []⟩) (fun fin s' => ∃ v, fin = .done (.ret v) ∧ R v s') E s := by
  have hsub := sub_zip
  unfold Builtin.«zip.__new__»
  refine wpAny_bind ?_
  unfold Builtin.SmallTypes.newClass
  refine wpAny_bind (wpAny_of_eq (a := true) (by first | rfl | kernel_rfl | (unfold isType; rw [isSubtype_type]; kernel_rfl)) ?_)
  refine PySem.W.KFB.if_not rfl ?_
  refine wpAny_bind (wpAny_of_eq hsub ?_)
  refine PySem.W.KFB.if_not rfl ?_
  refine wpAny_pure ?_
  dsimp only
  refine wpAny_ite_split (fun z => absurd z (by decide)) (fun _ => ?_)
  refine wpAny_bind ?_
  unfold Builtin.SmallTypes.iterAll
  simp only [List.forIn_cons, List.forIn_nil, List.forIn'_cons, List.forIn'_nil, bind_assoc, pure_bind]
  refine wpAny_bind (wpAny_holding (wpAny_mono h (fun i1 s1 h1 => ?_) fun _ _ x => x))
  refine wpAny_bind (wpAny_holding (wpAny_mono h1 (fun i2 s2 h2 => ?_) fun _ _ x => x))
  refine wpAny_pure ?_
  show wpAny _ _ (do let a ← newTuple [i1, i2]; let b ← newTuple [.none, .none]; let c ← Builtin.SmallTypes.newRecord (.type "zip") [.none, .bool false, .bool false, a, b]; ret c) _ _ _
  refine wpAny_bind (wpAny_newTuple (wpAny_bind (wpAny_newTuple (wpAny_bind ?_))))
  unfold Builtin.SmallTypes.newRecord
  dsimp only
  refine wpAny_newObj_type (wpAny_pure ⟨_, rfl, ?_⟩)
  have e1 : (s2.heap.push (zTI i1 i2)).objs.size = s2.heap.objs.size + 1 := Heap.size_push ..
  have e2 : ((s2.heap.push (zTI i1 i2)).push zTO).objs.size = s2.heap.objs.size + 2 := by rw [Heap.size_push, e1]
  have g : R (.ref ((s2.heap.push (zTI i1 i2)).push zTO).objs.size) { s2 with heap := ((s2.heap.push (zTI i1 i2)).push zTO).push (zZ s2.heap.objs.size (s2.heap.push (zTI i1 i2)).objs.size) } := by
    rw [e1, e2]
    exact h2
  exact g
theorem zAt (h : Heap) (i1 i2 : Value) : (((h.push (zTI i1 i2)).push zTO).push (zZ h.objs.size (h.objs.size + 1))).get? (h.objs.size + 2) = some (zZ h.objs.size (h.objs.size + 1)) := by
  have e2 : ((h.push (zTI i1 i2)).push zTO).objs.size = h.objs.size + 2 := by rw [Heap.size_push, Heap.size_push]
  rw [← e2]
  exact Heap.get?_push_size _ rfl
theorem call_zip2 {o1 o2 : Value} {Q : Value → Shared → Prop} (h : wpAny (model prog w) A.in1.in1 (pyIter o1) (fun i1 s1 => wpAny (model prog w) A.in1.in1 (pyIter o2) (fun i2 s2 =>
      Q (.ref (s2.heap.objs.size + 2)) { s2 with heap := ((s2.heap.push (zTI i1 i2)).push zTO).push (zZ s2.heap.objs.size (s2.heap.objs.size + 1)) }) E s1) E s) :
    wpAny (model prog w) A (call (.type "zip") [o1, o2]) Q E s := by
  refine callType_codes (Q₁ := fun obj s₁ => s₁.TypeIs obj "zip" ∧ Q obj s₁) F.called_zip (F.typeCall_zip_2 _ _) F.entry_object_init
    (codeAny_call_builtin_at (Code.quiet_builtin _ (by decide +kernel)) F.entry_zip_new (wpAny_of_eq (F.newCall_zip_2 _ _) ?_)) fun obj s₁ h₁ => ?_
  · rw [show (A.in1).under (.builtin "zip.__new__" ⟨[.type "zip", o1, o2], []⟩) = A.in1.in1 from Around.under_plainId (by decide +kernel) _]
    refine wpAny_mono (zipNew2 (R := fun obj s₁ => s₁.TypeIs obj "zip" ∧ Q obj s₁) (wpAny_mono h (fun i1 s1 h1 => wpAny_mono h1 (fun i2 s2 h2 => ⟨⟨zZ s2.heap.objs.size (s2.heap.objs.size + 1), zAt s2.heap i1 i2, rfl⟩, h2⟩) fun _ _ x => x) fun _ _ x => x)) (fun fin s' q => ?_) fun _ _ x => x
    obtain ⟨v, rfl, q⟩ := q
    exact q
  · exact ⟨h₁.1, F.args_object_init_3 obj _ _, object_init_meets F.called_zip.init.lookup F.called_zip.made (by decide) prog w A.in1 _ s₁ ⟨h₁.1, rfl, h₁.2⟩⟩
end
end K1

/-! ## C15 -/
set_option Elab.async false
set_option linter.all false
set_option maxRecDepth 100000
set_option maxHeartbeats 4000000
namespace K1
open PySem PySem.Spec PyProof.Rows L2
/-! ### list(zip(a, b)) of objects that give iterators over tuples -/
def tZipOwn (X : Cx) (C : Addr) (spI : Sp) (ta : TA) : TE := fun σ H Q => ta σ H fun vs H1 => ∃ a dx fs b dy gs, vs = [.ref a, .ref b] ∧ H1 a = some (.ins C dx fs) ∧ H1 b = some (.ins C dy gs) ∧
  spI [.ref a] H1 (fun v H2 => ∃ i1 l1 xs, v = .ref i1 ∧ H2 = upd H1 i1 (TIt l1 i1 0) ∧ H1 i1 = none ∧ Fr0 X.H_0 i1 ∧ SqT X.K H1 l1 xs ∧
    spI [.ref b] (upd H1 i1 (TIt l1 i1 0)) (fun w H3 => ∃ i2 l2 ys, w = .ref i2 ∧ H3 = upd (upd H1 i1 (TIt l1 i1 0)) i2 (TIt l2 i2 0) ∧ i2 ≠ i1 ∧ H1 i2 = none ∧ Fr0 X.H_0 i2 ∧ SqT X.K H1 l2 ys ∧ ZipOut xs ys H1 Q) E0) E0
theorem delH_upd {H : Hp} {a : Addr} {o : HO} (e : H a = none) : delH (upd H a o) a = H := by
  funext b
  unfold delH upd
  by_cases h : b = a <;> simp [h, e]
section
variable {X : Cx} {C : Addr} {n : Nat} {spI : Sp}
theorem pyIter_own {pins : List (Addr × Obj)} {σ : L2.St} {H : Hp} {s : Shared} {A : Around} {E : Value → Shared → Prop} {a dx : Addr} {fs : List (Str × V)} {Qv : VK} {Q : Value → Shared → Prop} (S : Spc X C "__iter__" n spI) (sb : Sub X n A) (I : Inv X pins σ H s) (ha : H a = some (.ins C dx fs))
    (q : spI [.ref a] H Qv E0) (go : ∀ v H', Qv v H' → ∃ it l i, v = .ref it ∧ H' it = some (TIt l it i) ∧ ∀ s', Inv X pins σ H' s' → Q (.ref it) s') : wpAny (model X.prog X.w) A (pyIter (.ref a)) Q E s := by
  obtain ⟨f, fd, ps, hs, hf, F, hb⟩ := S.ex
  obtain ⟨mA, J, _⟩ := ins_get I.hok ha
  obtain ⟨od, J, _⟩ := J.look
  obtain ⟨m0, hF⟩ := I.fr
  refine PySem.W.owit_iter hF I.ok.mod.kin J hs hf (wpAny_mono (run_own (A := A) sb F hb I (.cons (show L2.RelV (V.ref a) (Value.ref a) from rfl) .nil) q) (fun r s' hq => ?_) fun _ _ x => x)
  obtain ⟨v, H1, I1, rv, h1⟩ := hq
  obtain ⟨it, l, i, rfl, ei, h2⟩ := go _ _ h1
  cases rv
  exact it_next (tIt_get I1 ei) (h2 _ I1)
theorem pe_listZipOwn {e1 e2 : Expr} {ta : TA} {p2 p3 pos2 pos3 : Pos} (hc : X.calm = true) (hx : X.ex = []) (SI : Spc X C "__iter__" n spI) (hr : Room (n + 2) X.A) (hg3 : Gl X "list") (hm3 : X.mg "list" = none) (hg2 : Gl X "zip") (hm2 : X.mg "zip" = none) (ha : PA X [e1, e2] ta)
    (hst : starEach [e1, e2] X.env = (false, eval e1 X.env) :: starEach [e2] X.env := by rfl) (hpl : (backTo pos2 (starEach [e2] X.env)).any (·.1) = false := by rfl) :
    PE X (.Call (.Name "list" p3) [.Call (.Name "zip" p2) [e1, e2] [] pos2] [] pos3) (tZipOwn X C spI ta) := by
  refine ⟨fun pins s σ H Q I h => ?_⟩
  refine Call_ (ld_blt I hg3 hm3 boot_list (PyProof.Rows.callWith_type1 (PyProof.Rows.args_cons ?_ rfl) rfl rfl))
  refine Call_ (ld_blt I hg2 hm2 PyProof.Rows.boot_zip (PyProof.Rows.callWith_type1 (thn (ha.run pos2 pins s σ H _ I h) fun us s1 ⟨vs, H1, J, r, q⟩ => ?_) hst hpl))
  obtain ⟨a, dx, fs, b, dy, gs, rfl, hA, hB, q⟩ := q
  obtain ⟨u1, u2, rfl, r1, r2⟩ := vals2 r
  cases r1
  cases r2
  have sb : Sub X n X.A.in1.in1 := Sub.in1 (Sub.in1 ⟨hr, rfl⟩)
  refine call_zip2 (pyIter_own SI sb J hA q fun v H2 z => ?_)
  obtain ⟨i1, l1, xs, rfl, rfl, n1, f1, t1, z⟩ := z
  refine ⟨i1, l1, 0, rfl, upd_same, fun s2 J2 => pyIter_own SI sb J2 (by rw [upd_ne (ne_of_none hB n1)]; exact hB) z fun w H3 z => ?_⟩
  obtain ⟨i2, l2, ys, rfl, rfl, n12, n2, f2, t2, q⟩ := z
  refine ⟨i2, l2, 0, rfl, upd_same, fun s3 J3 => PyProof.Rows.args_nil ?_⟩
  have n2' : upd H1 i1 (TIt l1 i1 0) i2 = none := by rw [upd_ne n12]; exact n2
  have g1 : s3.heap.IsTupleIter i1 l1 0 := tIt_get J3 (by rw [upd_ne (Ne.symm n12)]; exact upd_same)
  have g2 : s3.heap.IsTupleIter i2 l2 0 := tIt_get J3 upd_same
  have t1' : SqT X.K (upd (upd H1 i1 (TIt l1 i1 0)) i2 (TIt l2 i2 0)) l1 xs := sqT_upd (sqT_upd t1 (.inr (.inr n1))) (.inr (.inr n2'))
  have t2' : SqT X.K (upd (upd H1 i1 (TIt l1 i1 0)) i2 (TIt l2 i2 0)) l2 ys := sqT_upd (sqT_upd t2 (.inr (.inr n1))) (.inr (.inr n2'))
  obtain ⟨its, rv, q1, sm⟩ := J3.tuple t1'
  obtain ⟨jts, rw_, q2, small⟩ := J3.tuple t2'
  have w1 : s3.heap.IsTuple l1 its.toArray := q1
  have w2 : s3.heap.IsTuple l2 jts.toArray := q2
  obtain ⟨G2, k2, no2, J4⟩ := J3.untrack upd_same f2 hx
  rw [delH_upd n2'] at J4
  obtain ⟨G1, k1, no1, J5⟩ := J4.untrack upd_same f1 hx
  rw [delH_upd n1] at J5
  have low : ∀ {c o}, s3.heap.get? c = some o → LT.lt (α := Nat) c s3.heap.objs.size := fun e => Heap.lt_size e
  obtain ⟨o1, e1, c1, _⟩ := id g1
  obtain ⟨o2, e2, c2, _⟩ := id g2
  obtain ⟨o3, e3, c3, _⟩ := id w1
  obtain ⟨o4, e4, c4, _⟩ := id w2
  have li1 := low e1
  have li2 := low e2
  have ll1 := low e3
  have ll2 := low e4
  have tt : (Value.type "tuple_iterator" = Value.type "tuple") → False := fun z => by injection z with z; exact absurd z (by decide)
  have d1 : l1 ≠ i1 := fun z => by rw [z, e1] at e3; cases e3; exact tt (c1.symm.trans c3)
  have d2 : l1 ≠ i2 := fun z => by rw [z, e2] at e3; cases e3; exact tt (c2.symm.trans c3)
  have d3 : l2 ≠ i1 := fun z => by rw [z, e1] at e4; cases e4; exact tt (c1.symm.trans c4)
  have d4 : l2 ≠ i2 := fun z => by rw [z, e2] at e4; cases e4; exact tt (c2.symm.trans c4)
  have up : ∀ {c k : Nat}, c < s3.heap.objs.size → c ≠ s3.heap.objs.size + k := fun h => Nat.ne_of_lt (Nat.lt_of_lt_of_le h (Nat.le_add_right _ _))
  have up' : ∀ {c k : Nat}, c < s3.heap.objs.size → s3.heap.objs.size + k ≠ c := fun h => Ne.symm (up h)
  have ap : ZipApart (s3.heap.objs.size + 2) s3.heap.objs.size (s3.heap.objs.size + 1) i1 i2 l1 l2 :=
    ⟨Nat.ne_of_lt (Nat.lt_add_of_pos_right (by decide)), Nat.ne_of_lt (Nat.lt_succ_self _), up li1, up li2, Nat.ne_of_lt (Nat.lt_succ_self _), Nat.ne_of_gt li1, Nat.ne_of_gt li2, up' li1, up' li2, Ne.symm n12, up ll1, up ll1, d1, d2, up ll2, up ll2, d3, d4⟩
  have few : min its.toArray.size jts.toArray.size ≤ sizeLine := by
    rw [List.size_toArray, List.size_toArray]
    exact Nat.le_trans (Nat.min_le_right _ _) (by rw [← rw_.length]; exact small)
  obtain ⟨h', eh⟩ : ∃ h', h' = ((s3.heap.push (zTI (.ref i1) (.ref i2))).push zTO).push (zZ s3.heap.objs.size (s3.heap.objs.size + 1)) := ⟨_, rfl⟩
  have kept : ∀ c o, s3.heap.get? c = some o → h'.get? c = some o := fun c o e => by
    rw [eh]
    exact Heap.get?_push_of_some _ (Heap.get?_push_of_some _ (Heap.get?_push_of_some _ e))
  have len : h'.objs.size = s3.heap.objs.size + 3 := by rw [eh, Heap.size_push, Heap.size_push, Heap.size_push]
  have pz : h'.get? (s3.heap.objs.size + 2) = some (zZ s3.heap.objs.size (s3.heap.objs.size + 1)) := by rw [eh]; exact zAt _ _ _
  have pTI : h'.get? s3.heap.objs.size = some (zTI (.ref i1) (.ref i2)) := by
    rw [eh]
    exact Heap.get?_push_of_some _ (Heap.get?_push_of_some _ (Heap.get?_push_size _ rfl))
  have pTO : h'.get? (s3.heap.objs.size + 1) = some zTO := by
    rw [eh, ← Heap.size_push s3.heap (zTI (.ref i1) (.ref i2))]
    exact Heap.get?_push_of_some _ (Heap.get?_push_size _ rfl)
  rw [← eh]
  refine call_listZip (s := { s3 with heap := h' }) (xs := its.toArray) (ys := jts.toArray) (J3.ok.hd hc) ap few ⟨pz, pTI, ⟨_, _, pTO⟩, g1.at fun o e => kept _ o e, g2.at fun o e => kept _ o e, w1.at fun o e => kept _ o e, w2.at fun o e => kept _ o e⟩ fun h3 tk3 acc c L refs made kept3 => ?_
  have ml : (xs.zip ys).length = min its.toArray.size jts.toArray.size := by rw [List.length_zip, List.size_toArray, List.size_toArray, rv.length, rw_.length]
  have keep : ∀ c o, G1.get? c = some o → h3.get? c = some o := fun c o e => by
    have e3 := k2 c o (k1 c o e)
    refine kept3 c o (fun m => ?_) (kept c o e3)
    have lt := low e3
    simp only [List.mem_cons, List.not_mem_nil, or_false] at m
    rcases m with z | z | z | z
    · exact up lt z
    · exact up lt z
    · rw [z, no1] at e; cases e
    · rw [z] at e
      have := k1 _ _ e
      rw [no2] at this
      cases this
  have leG : ∀ b o, G1.get? b = some o → LT.lt (α := Nat) b h'.objs.size := fun b o e => Nat.lt_of_lt_of_le (low (k2 b o (k1 b o e))) (by rw [len]; exact Nat.le_add_right _ _)
  have ask : ∀ (j : Nat) x y, (its.zip jts)[j]? = some (x, y) → IsPair h3 (h'.objs.size + 1 + j) x y := fun j x y e => by
    obtain ⟨e1, e2⟩ := List.getElem?_zip_eq_some.mp e
    have lt : j < min its.toArray.size jts.toArray.size := by
      rw [List.size_toArray, List.size_toArray]
      exact Nat.lt_min.mpr ⟨(List.getElem?_eq_some_iff.mp e1).1, (List.getElem?_eq_some_iff.mp e2).1⟩
    exact made j x y lt (by rw [List.getElem?_toArray]; exact e1) (by rw [List.getElem?_toArray]; exact e2)
  have land := pairs_land (s := { s3 with heap := G1 }) (tk := tk3) J5 (zip_rel (α := Nat) rv rw_) (by rw [ml]; exact few) keep leG L (by rw [ml]; exact refs) ask
  refine ⟨.ref h'.objs.size, _, land, rfl, q _ fun b o e => ?_⟩
  exact lowH_of J5 leG b o e
end
end K1

/-! ## B30_15 -/
set_option Elab.async false
set_option linter.all false
set_option maxRecDepth 100000
set_option maxHeartbeats 8000000
namespace B30_
open PySem PySem.Spec PyProof.Rows L2
/-! ### what a scene's dicts give -/
theorem val_at {R : V → Ln → Prop} : ∀ {kvs : List (Key × V)} {ls : List Ln}, Paired (fun kv l => kv.1 = Sum.inr l.t ∧ R kv.2 l) kvs ls → ∀ {z : Str}, z ∈ ls.map (·.t) → ∃ v l, valV kvs (Sum.inr z) = some v ∧ l ∈ ls ∧ l.t = z ∧ R v l
  | _, _, .nil, z, h => by simp at h
  | _, _, .cons (a := kv) (b := l) ⟨e, r⟩ t, z, h => by
    by_cases q : l.t = z
    · refine ⟨kv.2, l, ?_, List.mem_cons_self, q, r⟩
      unfold valV
      rw [List.find?_cons_of_pos (by rw [e, q]; simp)]
      rfl
    · have h2 := (List.mem_cons.mp h).resolve_left fun w => q w.symm
      obtain ⟨v, m, a, b, c, d⟩ := val_at t h2
      refine ⟨v, m, ?_, List.mem_cons_of_mem _ b, c, d⟩
      unfold valV at a ⊢
      rw [List.find?_cons_of_neg (by rw [e]; simp; exact q)]
      exact a
theorem val_no {R : V → Ln → Prop} : ∀ {kvs : List (Key × V)} {ls : List Ln}, Paired (fun kv l => kv.1 = Sum.inr l.t ∧ R kv.2 l) kvs ls → ∀ {z : Str}, z ∉ ls.map (·.t) → valV kvs (Sum.inr z) = none
  | _, _, .nil, z, h => rfl
  | _, _, .cons (a := kv) (b := l) ⟨e, r⟩ t, z, h => by
    have q : l.t ≠ z := fun q => h (by rw [← q]; exact List.mem_cons_self)
    have a := val_no t (z := z) fun m => h (List.mem_cons_of_mem _ m)
    unfold valV at a ⊢
    rw [List.find?_cons_of_neg (by rw [e]; simp; exact q)]
    exact a
theorem val_some {R : V → Ln → Prop} {kvs : List (Key × V)} {ls : List Ln} (h : Paired (fun kv l => kv.1 = Sum.inr l.t ∧ R kv.2 l) kvs ls) (z : Str) : (valV kvs (Sum.inr z)).isSome = decide (z ∈ ls.map (·.t)) := by
  by_cases m : z ∈ ls.map (·.t)
  · obtain ⟨v, l, e, _⟩ := val_at h m
    rw [e, decide_eq_true m]
    rfl
  · rw [val_no h m, decide_eq_false m]
    rfl
/-! ### value in scene -/
abbrev s_con : Stmt := inClass (topS 17) 16
abbrev N_con : List Str := ["self", "value"]
theorem sc_con : FnScope N_con ["self", "value"] (defScope s_con) := ⟨rfl, rfl, rfl, by decide +kernel, rfl, by decide +kernel, by decide +kernel⟩
/-- a value that is no text -/
def NoText (K : PySem.W.Frag) (H : Hp) (v : V) : Prop := ∃ t, TyX K H v t ∧ PySem.W.kitOne K t (.type "str") = some false
def spCon (K : PySem.W.Frag) (C : Addr) : Sp := fun vs H Q _ => ∃ x v Ls, vs = [.ref x, v] ∧ SceneAt C H x Ls ∧ ((∃ z, v = .str z ∧ Q (.bl (decide (z ∈ tabsOf Ls))) H) ∨ (NoText K H v ∧ Q (.bl false) H))
section
variable {P : Program} {w : World} {K : PySem.W.Frag} {mg : Str → Option Value} {base : Heap}
theorem ok_con {f C : Addr} {fd : FuncData} (F : Fun K "__contains__" "Scene.__contains__" s_con f fd) (T : NamesS mg) (hstr : mg "str" = none) (TC : ClsS K mg C) : FnOk P w K mg base CX0 1 f fd ["self", "value"] (spCon K C) := by
  have nd := sc_con.nd
  refine F.ok sc_con (fun vs H Q E h => ?_) (fun cdv A outer s H vs Q E hr h => ?_)
  · obtain ⟨x, v, Ls, rfl, _⟩ := h
    rfl
  · obtain ⟨x, v, Ls, rfl, hx, k⟩ := h
    have hu : (A.deeper (envOfC "Scene.__contains__" (defScope s_con) s.heap.objs.size f cdv)).units + 1 < cLine := by have := hr.un; omega
    refine ⟨_, pss_one (ps_ret (pe_and (pe_callB (r := rIsi K) call_isi (by rfl) T.isinstance (by decide +kernel) (pa_cons (pv 1) (pa_cons (pe_bltn (v := .ty "str") (by rfl) hstr (by decide +kernel) rfl) pa_nil))) (pe_one (pe_cmp (pc_din hu (pv 1) (pe_fld (pv 0) rfl)) rfl)))), ?_⟩
    obtain ⟨dx, pl, pt, pc, pg, pf, dc, dk, h1, h2⟩ := hx
    rcases k with ⟨z, rfl, q⟩ | ⟨⟨t, ty, kit⟩, q⟩
    · refine ⟨_, rfl, _, _, _, _, true, rfl, .ty _, .base (.str z), kit_ty (by decide +kernel), true, rfl, iteT ?_⟩
      obtain ⟨kvs, e, pr⟩ := h2.cby
      refine ⟨_, rfl, .ref x, rfl, x, C, dx, _, .ref dc, rfl, h1, TC.cl, TC.ncb, rfl, dc, _, rfl, DGet.k (k := Sum.inr z) e, ?_⟩
      rw [val_some pr]
      exact q
    · exact ⟨_, rfl, _, _, t, _, false, rfl, .ty _, ty, kit, false, rfl, iteF q⟩
end
/-! ### the class's own ways -/
/-- a method of the class: its def keeps sp -/
structure Mth (P : Program) (w : World) (K : PySem.W.Frag) (mg : Str → Option Value) (base : Heap) (C : Addr) (n : Nat) (m : Str) (ps : List Str) (sp : Sp) : Prop where
  ex : ∃ f fd, Meth K C m f ∧ FnOk P w K mg base CX0 n f fd ps sp ∧ Binds K fd ps []
/-- its call with arguments -/
theorem pe_mth {X : Cx} {C : Addr} {n : Nat} {m : Str} {ps : List Str} {sp : Sp} {o e : Expr} {es : List Expr} {ta : TE} {t : TA} {apos pos : Pos} {pl : Sem Bool} (M : Mth X.prog X.w X.K X.mg X.base C n m ps sp) (c : Cls X.K C) (hr : Room n X.A) (he : PE X o ta) (ha : PA X (e :: es) t)
    (hst : starEach (e :: es) X.env = (false, eval e X.env) :: starEach es X.env := by rfl) (hpl : (backTo pos (starEach es X.env)).any (·.1) = false := by rfl)
    (ht : eval (.Call (.Attribute o m apos) (e :: es) [] pos) X.env = (do
      let ov ← eval o X.env
      standAt apos.atName
      let (f, first) ← holding [ov] (getMethod ov m pl)
      callWith pos f first (backTo pos (starEach (e :: es) X.env)) (backToKw pos (keywordEach [] X.env))) := by rfl) :
    PE X (.Call (.Attribute o m apos) (e :: es) [] pos) (tMeth C m sp [] E0 ta t) := by
  obtain ⟨f, fd, h1, h2, h3⟩ := M.ex
  exact pe_meth he c h1 h2 hr h3 .nil pass0 ha hst hpl ht
/-! ### _need -/
abbrev s_need : Stmt := inClass (topS 17) 21
abbrev N_need : List Str := ["self", "table"]
theorem sc_need : FnScope N_need ["self", "table"] (defScope s_need) := ⟨rfl, rfl, rfl, by decide +kernel, rfl, by decide +kernel, by decide +kernel⟩
def spNeed (C : Addr) : Sp := fun vs H Q _ => ∃ x z Ls, vs = [.ref x, .str z] ∧ SceneAt C H x Ls ∧ z ∈ tabsOf Ls ∧ Q .non H
section
variable {P : Program} {w : World} {K : PySem.W.Frag} {mg : Str → Option Value} {base : Heap}
/-- `in` of the class, told apart from a def's room -/
theorem spc_of {X : Cx} {C : Addr} {n : Nat} {m : Str} {ps : List Str} {sp : Sp} (M : Mth X.prog X.w X.K X.mg X.base C n m ps sp) : K1.Spc X C m n sp := by
  obtain ⟨f, fd, h1, h2, h3⟩ := M.ex
  exact ⟨f, fd, ps, h1.at_, h1.fn, h2, h3⟩
theorem ok_need {f C : Addr} {fd : FuncData} (F : Fun K "_need" "Scene._need" s_need f fd) (MC : Mth P w K mg base C 1 "__contains__" ["self", "value"] (spCon K C)) : FnOk P w K mg base CX0 2 f fd ["self", "table"] (spNeed C) := by
  have nd := sc_need.nd
  refine F.ok sc_need (fun vs H Q E h => ?_) (fun cdv A outer s H vs Q E hr h => ?_)
  · obtain ⟨x, z, Ls, rfl, _⟩ := h
    rfl
  · obtain ⟨x, z, Ls, rfl, hx, mz, q⟩ := h
    refine ⟨_, pss_one (ps_if (pt_cmpR (K1.op_notInOwn (spc_of MC) hr) (pv 1) (pv 0) rfl) (pss_one ps_never) pss_nil), ?_⟩
    obtain ⟨dx, pl, pt, pc, pg, pf, dc, dk, h1, h2⟩ := id hx
    refine ⟨_, rfl, _, rfl, x, dx, _, rfl, h1, x, .str z, Ls, rfl, hx, .inl ⟨z, rfl, _, rfl, ?_⟩⟩
    rw [decide_eq_true mz]
    exact ⟨_, rfl, iteF q⟩
end
end B30_

/-! ## B30_16 -/
set_option Elab.async false
set_option linter.all false
set_option maxRecDepth 100000
set_option maxHeartbeats 8000000
namespace B30_
open PySem PySem.Spec PyProof.Rows L2
theorem same_line {Ls : List Ln} {l m : Ln} (n : (Ls.map (·.t)).Nodup) (hl : l ∈ Ls) (hm : m ∈ Ls) (e : m.t = l.t) : m = l := by
  induction Ls with
  | nil => cases hl
  | cons a r ih =>
    have h := List.nodup_cons.mp n
    rcases List.mem_cons.mp hl with e1 | h1
    · rcases List.mem_cons.mp hm with e2 | h2
      · rw [e1, e2]
      · exact (h.1 (List.mem_map.mpr ⟨m, h2, by rw [e, e1]⟩)).elim
    · rcases List.mem_cons.mp hm with e2 | h2
      · exact (h.1 (List.mem_map.mpr ⟨l, h1, by rw [← e, e2]⟩)).elim
      · exact ih h.2 h1 h2
/-! ### columns_of -/
abbrev s_cof : Stmt := inClass (topS 17) 7
abbrev N_cof : List Str := ["self", "table"]
theorem sc_cof : FnScope N_cof ["self", "table"] (defScope s_cof) := ⟨rfl, rfl, rfl, by decide +kernel, rfl, by decide +kernel, by decide +kernel⟩
def spCof (C : Addr) : Sp := fun vs H Q _ => ∃ x l Ls, vs = [.ref x, .str l.t] ∧ SceneAt C H x Ls ∧ l ∈ Ls ∧ (Ls.map (·.t)).Nodup ∧ ∀ c, H c = some (.tup (l.cs.map V.str)) → Q (.ref c) H
/-! ### key_of -/
abbrev s_kof : Stmt := inClass (topS 17) 8
theorem sc_kof : FnScope N_cof ["self", "table"] (defScope s_kof) := ⟨rfl, rfl, rfl, by decide +kernel, rfl, by decide +kernel, by decide +kernel⟩
/-- the key as it is told -/
def KeyV (H : Hp) (v : V) : Kd → Prop
  | .key ks => ∃ p, v = .ref p ∧ H p = some (.tup (ks.map V.str))
  | _ => v = .non
def spKof (C : Addr) : Sp := fun vs H Q _ => ∃ x l Ls, vs = [.ref x, .str l.t] ∧ SceneAt C H x Ls ∧ l ∈ Ls ∧ (Ls.map (·.t)).Nodup ∧ ∀ v, KeyV H v l.k → Q v H
section
variable {P : Program} {w : World} {K : PySem.W.Frag} {mg : Str → Option Value} {base : Heap}
theorem ok_cof {f C : Addr} {fd : FuncData} (F : Fun K "columns_of" "Scene.columns_of" s_cof f fd) (TC : ClsS K mg C) (MN : Mth P w K mg base C 2 "_need" ["self", "table"] (spNeed C)) : FnOk P w K mg base CX0 3 f fd ["self", "table"] (spCof C) := by
  have nd := sc_cof.nd
  refine F.ok sc_cof (fun vs H Q E h => ?_) (fun cdv A outer s H vs Q E hr h => ?_)
  · obtain ⟨x, l, Ls, rfl, _⟩ := h
    rfl
  · obtain ⟨x, l, Ls, rfl, hx, ml, n, k⟩ := h
    have hu : (A.deeper (envOfC "Scene.columns_of" (defScope s_cof) s.heap.objs.size f cdv)).units + 1 < cLine := by have := hr.un; omega
    refine ⟨_, pss_cons (ps_expr (pe_mth MN TC.cl hr (pv 0) (pa_cons (pv 1) pa_nil))) (pss_one (ps_ret (pe_dget hu (pe_fld (pv 0) rfl) (pv 1) (fun _ _ => rfl)))), ?_⟩
    have mz : l.t ∈ tabsOf Ls := List.mem_map_of_mem ml
    obtain ⟨dx, pl, pt, pc, pg, pf, dc, dk, h1, h2⟩ := id hx
    refine ⟨.ref x, rfl, x, dx, _, rfl, h1, rfl, _, rfl, x, l.t, Ls, rfl, hx, mz, ?_⟩
    obtain ⟨kvs, e, pr⟩ := h2.cby
    obtain ⟨v, m, e1, e2, e3, c, rfl, hc⟩ := val_at pr mz
    obtain rfl := same_line n ml e2 e3
    exact ⟨.ref x, rfl, x, C, dx, _, .ref dc, rfl, h1, TC.cl, TC.ncb, rfl, _, rfl, dc, .ref c, rfl, e1 ▸ DGet.k (k := Sum.inr _) e, k c hc⟩
theorem ok_kof {f C : Addr} {fd : FuncData} (F : Fun K "key_of" "Scene.key_of" s_kof f fd) (TC : ClsS K mg C) (MN : Mth P w K mg base C 2 "_need" ["self", "table"] (spNeed C)) : FnOk P w K mg base CX0 3 f fd ["self", "table"] (spKof C) := by
  have nd := sc_kof.nd
  refine F.ok sc_kof (fun vs H Q E h => ?_) (fun cdv A outer s H vs Q E hr h => ?_)
  · obtain ⟨x, l, Ls, rfl, _⟩ := h
    rfl
  · obtain ⟨x, l, Ls, rfl, hx, ml, n, k⟩ := h
    have hu : (A.deeper (envOfC "Scene.key_of" (defScope s_kof) s.heap.objs.size f cdv)).units + 1 < cLine := by have := hr.un; omega
    refine ⟨_, pss_cons (ps_expr (pe_mth MN TC.cl hr (pv 0) (pa_cons (pv 1) pa_nil))) (pss_one (ps_ret (pe_dget1 hu (pe_fld (pv 0) rfl) (pv 1) ⟨rfl, rfl, rfl, rfl⟩))), ?_⟩
    have mz : l.t ∈ tabsOf Ls := List.mem_map_of_mem ml
    obtain ⟨dx, pl, pt, pc, pg, pf, dc, dk, h1, h2⟩ := id hx
    refine ⟨.ref x, rfl, x, dx, _, rfl, h1, rfl, _, rfl, x, l.t, Ls, rfl, hx, mz, ?_⟩
    obtain ⟨kvs, e, pr⟩ := h2.kby
    refine ⟨.ref x, rfl, x, C, dx, _, .ref dk, rfl, h1, TC.cl, TC.nkb, rfl, dk, rfl, ?_, _, rfl, _, DGet.k (k := Sum.inr _) e, ?_⟩
    · exact .inl ⟨kvs, Rd.of e⟩
    · by_cases q : isChg l = true
      · rw [val_no pr (fun m => ?_)]
        · refine k .non ?_
          unfold isChg at q
          cases hk : l.k with
          | chg => rfl
          | fix => rfl
          | key ks => rw [hk] at q; cases q
        · obtain ⟨a, m1, m2⟩ := List.mem_map.mp m
          obtain ⟨m3, m4⟩ := List.mem_filter.mp m1
          obtain rfl := same_line n ml m3 m2
          rw [q] at m4
          cases m4
      · have mf : l ∈ Ls.filter fun l => !isChg l := List.mem_filter.mpr ⟨ml, by simpa using q⟩
        obtain ⟨v, m, e1, e2, e3, hv⟩ := val_at pr (List.mem_map_of_mem mf)
        obtain rfl := same_line n ml (List.mem_filter.mp e2).1 e3
        rw [e1]
        refine k v ?_
        have q2 : ¬ isC m.k = true := q
        have hv2 : KdAt H v m.k := hv
        revert q2 hv2
        cases m.k with
        | chg => exact fun q2 _ => absurd rfl q2
        | fix => exact fun _ h => h
        | key ks => exact fun _ h => h
end
end B30_

/-! ## B30_17 -/
set_option Elab.async false
set_option linter.all false
set_option maxRecDepth 100000
set_option maxHeartbeats 8000000
namespace B30_
open PySem PySem.Spec PyProof.Rows L2
/-! ### lines as data -/
def dKd : Kd → PyData
  | .chg => .str "changing"
  | .fix => .none
  | .key ks => .tuple (ks.map .str)
def dLn (l : Ln) : PyData := .tuple [.str l.t, .tuple (l.cs.map .str), dKd l.k]
def dLines (Ls : List Ln) : PyData := .tuple (Ls.map dLn)
theorem eqv_strs : ∀ xs ys : List Str, PyData.eqvAll (xs.map .str) (ys.map .str) = true ↔ xs = ys
  | [], [] => by simp [PyData.eqvAll]
  | [], _ :: _ => by simp [PyData.eqvAll]
  | _ :: _, [] => by simp [PyData.eqvAll]
  | x :: xs, y :: ys => by
    have h := eqv_strs xs ys
    simp only [List.map_cons, PyData.eqvAll, PyData.eqv, Bool.and_eq_true, h, beq_iff_eq, List.cons.injEq]
theorem eqv_kd : ∀ a b : Kd, PyData.eqv (dKd a) (dKd b) = true ↔ a = b
  | .chg, .chg => by
    simp only [dKd, PyData.eqv, iff_true]
    exact beq_self_eq_true _
  | .chg, .fix => by simp [dKd, PyData.eqv]
  | .chg, .key _ => by simp [dKd, PyData.eqv]
  | .fix, .chg => by simp [dKd, PyData.eqv]
  | .fix, .fix => by simp [dKd, PyData.eqv]
  | .fix, .key _ => by simp [dKd, PyData.eqv]
  | .key _, .chg => by simp [dKd, PyData.eqv]
  | .key _, .fix => by simp [dKd, PyData.eqv]
  | .key xs, .key ys => by
    have h := eqv_strs xs ys
    simp only [dKd, PyData.eqv, h, Kd.key.injEq]
theorem eqv_ln (a b : Ln) : PyData.eqv (dLn a) (dLn b) = true ↔ a = b := by
  have h1 := eqv_strs a.cs b.cs
  have h2 := eqv_kd a.k b.k
  obtain ⟨t, cs, k⟩ := a
  obtain ⟨t2, cs2, k2⟩ := b
  simp only at h1 h2
  simp only [dLn, PyData.eqv, PyData.eqvAll, Bool.and_eq_true, h1, h2, beq_iff_eq, Ln.mk.injEq, and_true]
theorem eqv_lnsAll : ∀ xs ys : List Ln, PyData.eqvAll (xs.map dLn) (ys.map dLn) = true ↔ xs = ys
  | [], [] => by simp [PyData.eqvAll]
  | [], _ :: _ => by simp [PyData.eqvAll]
  | _ :: _, [] => by simp [PyData.eqvAll]
  | x :: xs, y :: ys => by
    have h := eqv_lnsAll xs ys
    have g := eqv_ln x y
    simp only [List.map_cons, PyData.eqvAll, Bool.and_eq_true, h, g, List.cons.injEq]
theorem eqv_lines (xs ys : List Ln) : PyData.eqv (dLines xs) (dLines ys) = true ↔ xs = ys := by
  unfold dLines
  rw [PyData.eqv]
  exact eqv_lnsAll xs ys
theorem dp_kd {K : PySem.W.Frag} {H : Hp} {v : V} {k : Kd} (h : KdAt H v k) : Dp K H v (dKd k) := by
  cases k with
  | chg =>
    obtain rfl : v = .str "changing" := h
    exact .str _
  | fix =>
    obtain rfl : v = .non := h
    exact .non
  | key ks =>
    obtain ⟨p, rfl, e⟩ := h
    exact .tup (SqT.of e) (dp_strs ks)
theorem dp_ln {K : PySem.W.Frag} {H : Hp} {v : V} {l : Ln} (h : LnAt H v l) : Dp K H v (dLn l) := by
  obtain ⟨p, c, kv, rfl, e1, e2, e3⟩ := h
  exact .tup (SqT.of e1) (.cons (.str _) (.cons (.tup (SqT.of e2) (dp_strs _)) (.cons (dp_kd e3) .nil)))
theorem dp_lns {K : PySem.W.Frag} {H : Hp} : ∀ {rs : List V} {Ls : List Ln}, Paired (LnAt H) rs Ls → DpAll K H rs (Ls.map dLn)
  | _, _, .nil => .nil
  | _, _, .cons a b => .cons (dp_ln a) (dp_lns b)
theorem dp_lines {K : PySem.W.Frag} {H : Hp} {pl : Addr} {rs : List V} {Ls : List Ln} (e : H pl = some (.tup rs)) (pr : Paired (LnAt H) rs Ls) : Dp K H (.ref pl) (dLines Ls) := .tup (SqT.of e) (dp_lns pr)
theorem lay_strs : ∀ xs : List Str, (∀ x ∈ xs, PyData.strOk x = true) → PyData.canLayAll0 (xs.map .str) = true ∧ PyData.depthAll (xs.map .str) = 0
  | [], _ => by simp [PyData.canLayAll0, PyData.depthAll]
  | x :: xs, h => by
    have g := lay_strs xs fun z hz => h z (List.mem_cons_of_mem _ hz)
    have e := h x List.mem_cons_self
    simp only [List.map_cons, PyData.canLayAll0, PyData.canLay0, PyData.depthAll, PyData.depth, g, e]
    simp
theorem lay_kd (k : Kd) (cs : List Str) (ok : k.Ok cs) : PyData.canLay0 (dKd k) = true ∧ PyData.depth (dKd k) ≤ 1 := by
  cases k with
  | chg => exact ⟨by decide +kernel, by simp [dKd, PyData.depth]⟩
  | fix => exact ⟨by decide +kernel, by simp [dKd, PyData.depth]⟩
  | key ks =>
    have g := lay_strs ks fun z hz => name_strOk (ok.1 z hz)
    simp only [dKd, PyData.canLay0, PyData.depth, g]
    simp
theorem lay_ln (l : Ln) (ok : l.Ok) : PyData.canLay0 (dLn l) = true ∧ PyData.depth (dLn l) ≤ 2 := by
  have g := lay_strs l.cs fun z hz => name_strOk (ok.cols z hz)
  have h := lay_kd l.k l.cs ok.key
  have e := name_strOk ok.name
  refine ⟨by simp only [dLn, PyData.canLay0, PyData.canLayAll0, g, h, e, Bool.and_true], ?_⟩
  have h2 := h.2
  simp only [dLn, PyData.depth, PyData.depthAll, g]
  omega
theorem lay_lns : ∀ Ls : List Ln, (∀ l ∈ Ls, l.Ok) → PyData.canLayAll0 (Ls.map dLn) = true ∧ PyData.depthAll (Ls.map dLn) ≤ 2
  | [], _ => by simp [PyData.canLayAll0, PyData.depthAll]
  | l :: Ls, h => by
    obtain ⟨g1, g2⟩ := lay_lns Ls fun z hz => h z (List.mem_cons_of_mem _ hz)
    obtain ⟨e1, e2⟩ := lay_ln l (h l List.mem_cons_self)
    simp only [List.map_cons, PyData.canLayAll0, PyData.depthAll, g1, e1]
    exact ⟨rfl, by omega⟩
theorem shaped_lines (Ls : List Ln) (h : ∀ l ∈ Ls, l.Ok) : SeqAt.shaped (dLines Ls) = true := by
  obtain ⟨g1, g2⟩ := lay_lns Ls h
  unfold SeqAt.shaped dLines
  rw [Bool.and_eq_true]
  refine ⟨by simp only [PyData.canLay0, g1], decide_eq_true ?_⟩
  simp only [PyData.depth]
  omega
/-! ### the class as a type -/
structure ClsI (K : PySem.W.Frag) (C : Addr) : Prop where
  cl : Cls K C
  ga : PySem.W.findIn K (.ref C) "__class__" = some (some (.builtin "object.__class__"))
  gn : PySem.W.specialIn K (.builtin "object.__class__") "__get__" = some (some (.builtin "getset_descriptor.__get__"))
  gt : PySem.W.takesIn K (.builtin "object.__class__") = some true
  gm : PySem.W.mroIn K C (.type "object") = some true
  self : PySem.W.kitOne K (.ref C) (.ref C) = some true
  str : PySem.W.kitOne K (.ref C) (.type "str") = some false
theorem ty_scene {K : PySem.W.Frag} {C x : Addr} {H : Hp} {Ls : List Ln} (I : ClsI K C) (h : SceneAt C H x Ls) : TyX K H (.ref x) (.ref C) := by
  obtain ⟨dx, pl, pt, pc, pg, pf, dc, dk, h1, _⟩ := h
  exact .base (.ins h1 I.cl I.ga I.gn I.gt I.gm)
/-! ### scene == value -/
abbrev s_eq : Stmt := inClass (topS 17) 19
abbrev N_eq : List Str := ["self", "other"]
theorem sc_eq : FnScope N_eq ["self", "other"] (defScope s_eq) := ⟨rfl, rfl, rfl, by decide +kernel, rfl, by decide +kernel, by decide +kernel⟩
def NoScene (K : PySem.W.Frag) (C : Addr) (H : Hp) (v : V) : Prop := ∃ t, TyX K H v t ∧ PySem.W.kitOne K t (.ref C) = some false
def spEq (K : PySem.W.Frag) (C : Addr) : Sp := fun vs H Q _ => ∃ x v Ls, vs = [.ref x, v] ∧ SceneAt C H x Ls ∧ (∀ l ∈ Ls, l.Ok) ∧
  ((NoScene K C H v ∧ Q (.bl false) H) ∨ ∃ y Ms, v = .ref y ∧ SceneAt C H y Ms ∧ (∀ l ∈ Ms, l.Ok) ∧ ∀ b : Bool, (b = true ↔ Ls = Ms) → Q (.bl b) H)
/-! ### len(scene), iter(scene), str(scene) -/
abbrev s_len : Stmt := inClass (topS 17) 17
abbrev s_it : Stmt := inClass (topS 17) 18
abbrev s_str : Stmt := inClass (topS 17) 20
abbrev N_1 : List Str := ["self"]
theorem sc_len : FnScope N_1 ["self"] (defScope s_len) := ⟨rfl, rfl, rfl, by decide +kernel, rfl, by decide +kernel, by decide +kernel⟩
theorem sc_it : FnScope N_1 ["self"] (defScope s_it) := ⟨rfl, rfl, rfl, by decide +kernel, rfl, by decide +kernel, by decide +kernel⟩
theorem sc_str : FnScope N_1 ["self"] (defScope s_str) := ⟨rfl, rfl, rfl, by decide +kernel, rfl, by decide +kernel, by decide +kernel⟩
def spLen (C : Addr) : Sp := fun vs H Q _ => ∃ x Ls, vs = [.ref x] ∧ SceneAt C H x Ls ∧ Q (.int Ls.length) H
def spIt (C : Addr) : Sp := fun vs H Q _ => ∃ x Ls, vs = [.ref x] ∧ SceneAt C H x Ls ∧ ∀ pt it, H pt = some (.tup ((tabsOf Ls).map V.str)) → H it = none → Q (.ref it) (upd H it (K1.TIt pt it 0))
/-- what str(scene) tells -/
def txtScene (n m : Nat) : Str := Str.empty ++ "scene of " ++ toString (n : Int) ++ " tables, " ++ toString (m : Int) ++ " columns"
theorem txt_len : ∀ (n : Fin 7) (m : Fin 25), (Str.empty ++ ("scene of " : Str)).length ≤ 1000 ∧ (Str.empty ++ ("scene of " : Str) ++ toString ((n.val : Nat) : Int)).length ≤ 1000 ∧ (Str.empty ++ ("scene of " : Str) ++ toString ((n.val : Nat) : Int) ++ (" tables, " : Str)).length ≤ 1000 ∧
    (Str.empty ++ ("scene of " : Str) ++ toString ((n.val : Nat) : Int) ++ (" tables, " : Str) ++ toString ((m.val : Nat) : Int)).length ≤ 1000 ∧ (txtScene n.val m.val).length ≤ 1000 := by decide +kernel
theorem log_small : ∀ n : Fin 25, ((n.val : Nat) : Int).natAbs.log2 < 1920 := by decide +kernel
def spStr (C : Addr) : Sp := fun vs H Q _ => ∃ x Ls, vs = [.ref x] ∧ SceneAt C H x Ls ∧ Ls.length ≤ 6 ∧ (colsOf Ls).length ≤ 24 ∧ Q (.str (txtScene Ls.length (colsOf Ls).length)) H
section
variable {P : Program} {w : World} {K : PySem.W.Frag} {mg : Str → Option Value} {base : Heap}
theorem ok_eq {f C : Addr} {fd : FuncData} (F : Fun K "__eq__" "Scene.__eq__" s_eq f fd) (T : NamesS mg) (TC : ClsS K mg C) (I : ClsI K C) (kC : PySem.W.keepIn K (.ref C) = true) : FnOk P w K mg base CX0 1 f fd ["self", "other"] (spEq K C) := by
  have nd := sc_eq.nd
  refine F.ok sc_eq (fun vs H Q E h => ?_) (fun cdv A outer s H vs Q E hr h => ?_)
  · obtain ⟨x, v, Ls, rfl, _⟩ := h
    rfl
  · obtain ⟨x, v, Ls, rfl, hx, ok, k⟩ := h
    have hu : (A.deeper (envOfC "Scene.__eq__" (defScope s_eq) s.heap.objs.size f cdv)).units + 64 < cLine := by have := hr.un; omega
    refine ⟨_, pss_one (ps_ret (pe_and (pe_callB (r := rIsi K) call_isi (by rfl) T.isinstance (by decide +kernel) (pa_cons (pv 1) (pa_cons (pe_glob (v := .ref C) rfl TC.mgC rfl) pa_nil))) (pe_one (pe_cmpR (op_eqD hu) (pe_fld (pv 0) rfl) (pe_fld (pv 1) rfl) (nomark _))))), ?_⟩
    rcases k with ⟨⟨t, ty, kit⟩, q⟩ | ⟨y, Ms, rfl, hy, ok2, q⟩
    · exact ⟨_, rfl, _, _, t, _, false, rfl, .own C, ty, kit, false, rfl, iteF q⟩
    · refine ⟨_, rfl, _, _, .ref C, _, true, rfl, .own C, ty_scene I hy, I.self, true, rfl, iteT ?_⟩
      obtain ⟨dx, pl, pt, pc, pg, pf, dc, dk, h1, h2⟩ := hx
      obtain ⟨dx', pl', pt', pc', pg', pf', dc', dk', g1, g2⟩ := hy
      obtain ⟨rs, e1, r1⟩ := h2.lines
      obtain ⟨rs', e2, r2⟩ := g2.lines
      exact ⟨.ref x, rfl, x, C, dx, _, .ref pl, rfl, h1, TC.cl, TC.nl, rfl, .ref y, rfl, y, C, dx', _, .ref pl', rfl, g1, TC.cl, TC.nl, rfl, dLines Ls, dLines Ms, dp_lines e1 r1, dp_lines e2 r2, shaped_lines _ ok, shaped_lines _ ok2, q _ (eqv_lines Ls Ms)⟩
theorem ok_len {f C : Addr} {fd : FuncData} (F : Fun K "__len__" "Scene.__len__" s_len f fd) (T : NamesS mg) (TC : ClsS K mg C) : FnOk P w K mg base CX0 1 f fd ["self"] (spLen C) := by
  have nd := sc_len.nd
  refine F.ok sc_len (fun vs H Q E h => ?_) (fun cdv A outer s H vs Q E hr h => ?_)
  · obtain ⟨x, Ls, rfl, _⟩ := h
    rfl
  · obtain ⟨x, Ls, rfl, hx, q⟩ := h
    refine ⟨_, pss_one (ps_ret (pe_callB call_len_seq (by rfl) T.len (by decide +kernel) (pa_cons (pe_fld (pv 0) rfl) pa_nil))), ?_⟩
    obtain ⟨dx, pl, pt, pc, pg, pf, dc, dk, h1, h2⟩ := hx
    refine ⟨.ref x, rfl, x, C, dx, _, .ref pt, rfl, h1, TC.cl, TC.nt, rfl, pt, _, rfl, .inr (SqT.of h2.tabs), ?_⟩
    rw [List.length_map, show (tabsOf Ls).length = Ls.length from List.length_map ..]
    exact q
theorem ok_it {f C : Addr} {fd : FuncData} (F : Fun K "__iter__" "Scene.__iter__" s_it f fd) (hit : mg "iter" = none) (TC : ClsS K mg C) : FnOk P w K mg base CX0 1 f fd ["self"] (spIt C) := by
  have nd := sc_it.nd
  refine F.ok sc_it (fun vs H Q E h => ?_) (fun cdv A outer s H vs Q E hr h => ?_)
  · obtain ⟨x, Ls, rfl, _⟩ := h
    rfl
  · obtain ⟨x, Ls, rfl, hx, q⟩ := h
    refine ⟨_, pss_one (ps_ret (pe_callB K1.call_iterT (by rfl) hit (by decide +kernel) (pa_cons (pe_fld (pv 0) rfl) pa_nil))), ?_⟩
    obtain ⟨dx, pl, pt, pc, pg, pf, dc, dk, h1, h2⟩ := hx
    exact ⟨.ref x, rfl, x, C, dx, _, .ref pt, rfl, h1, TC.cl, TC.nt, rfl, pt, _, rfl, SqT.of h2.tabs, fun it n => q pt it h2.tabs n⟩
theorem ok_str {f C : Addr} {fd : FuncData} (F : Fun K "__str__" "Scene.__str__" s_str f fd) (T : NamesS mg) (TC : ClsS K mg C) : FnOk P w K mg base CX0 1 f fd ["self"] (spStr C) := by
  have nd := sc_str.nd
  refine F.ok sc_str (fun vs H Q E h => ?_) (fun cdv A outer s H vs Q E hr h => ?_)
  · obtain ⟨x, Ls, rfl, _⟩ := h
    rfl
  · obtain ⟨x, Ls, rfl, hx, n1, n2, q⟩ := h
    refine ⟨_, pss_one (ps_ret (pe_joined (PJ.cons pe_str (PJ.cons (pe_fmt (pe_callB call_len_seq (by rfl) T.len (by decide +kernel) (pa_cons (pe_fld (pv 0) rfl) pa_nil))) (PJ.cons pe_str (PJ.cons (pe_fmt (pe_callB call_len_seq (by rfl) T.len (by decide +kernel) (pa_cons (pe_fld (pv 0) rfl) pa_nil))) (PJ.cons pe_str PJ.nil))))))), ?_⟩
    obtain ⟨dx, pl, pt, pc, pg, pf, dc, dk, h1, h2⟩ := hx
    have few : 1000 ≤ sizeLine := by rw [sizeLine_eq]; decide
    obtain ⟨l1, l2, l3, l4, l5⟩ := txt_len ⟨Ls.length, by omega⟩ ⟨(colsOf Ls).length, by omega⟩
    refine ⟨_, rfl, Nat.le_trans l1 few, ⟨.ref x, rfl, x, C, dx, _, .ref pt, rfl, h1, TC.cl, TC.nt, rfl, pt, _, rfl, .inr (SqT.of h2.tabs), ?_⟩⟩
    rw [List.length_map, show (tabsOf Ls).length = Ls.length from List.length_map ..]
    refine .inr ⟨_, rfl, log_small ⟨Ls.length, by omega⟩, _, rfl, Nat.le_trans l2 few, _, rfl, Nat.le_trans l3 few, ⟨.ref x, rfl, x, C, dx, _, .ref pc, rfl, h1, TC.cl, TC.nc, rfl, pc, _, rfl, .inr (SqT.of h2.cols), ?_⟩⟩
    rw [List.length_map]
    exact .inr ⟨_, rfl, log_small ⟨(colsOf Ls).length, by omega⟩, _, rfl, Nat.le_trans l4 few, _, rfl, Nat.le_trans l5 few, q⟩
end
end B30_

/-! ## B30_18 -/
set_option Elab.async false
set_option linter.all false
set_option maxRecDepth 100000
set_option maxHeartbeats 8000000
namespace B30_
open PySem PySem.Spec PyProof.Rows L2
/-! ### plain scenes, as the law tells them: a dict from tables to (columns, kind) -/
def PlAt (H : Hp) (v : V) (l : Ln) : Prop := ∃ p c kv, v = .ref p ∧ H p = some (.tup [.ref c, kv]) ∧ H c = some (.tup (l.cs.map V.str)) ∧ KdAt H kv l.k
def PlainAt (H : Hp) (d : Addr) (Ls : List Ln) : Prop := ∃ kvs, H d = some (.dK kvs) ∧ Paired (fun kv l => kv.1 = Sum.inr l.t ∧ PlAt H kv.2 l) kvs Ls
/-- a drawn one: lines in order, whose columns and keys are in order -/
structure PlOk (Ls : List Ln) : Prop extends LnsOk Ls where
  inord : ordL Ls = Ls
  each : ∀ l ∈ Ls, l.srt = l
theorem PlAt.same {H H' : Hp} {v : V} {l : Ln} (h : PlAt H v l) (s : Same H H') : PlAt H' v l := by
  obtain ⟨p, c, kv, rfl, e1, e2, e3⟩ := h
  exact ⟨p, c, kv, rfl, s _ _ e1, s _ _ e2, e3.same s⟩
theorem tup_but {d p : Addr} {H H' : Hp} {xs : List V} (h : H p = some (.tup xs)) (hd : Dice H d) (s : But d H H') : H' p = some (.tup xs) := by
  obtain ⟨a, b, c, e⟩ := hd
  have n : p ≠ d := fun z => by rw [z, e] at h; cases h
  exact s _ _ n h
theorem dK_but {d p : Addr} {H H' : Hp} {xs : List (Key × V)} (h : H p = some (.dK xs)) (hd : Dice H d) (s : But d H H') : H' p = some (.dK xs) := by
  obtain ⟨a, b, c, e⟩ := hd
  have n : p ≠ d := fun z => by rw [z, e] at h; cases h
  exact s _ _ n h
theorem KdAt.but {d : Addr} {H H' : Hp} {v : V} {k : Kd} (h : KdAt H v k) (hd : Dice H d) (s : But d H H') : KdAt H' v k := by
  cases k with
  | chg => exact h
  | fix => exact h
  | key ks => exact h.imp fun q g => ⟨g.1, tup_but g.2 hd s⟩
theorem tup_ne {d p : Addr} {H : Hp} {xs : List V} (h : H p = some (.tup xs)) (hd : Dice H d) : p ≠ d := by
  obtain ⟨a, b, c, e⟩ := hd
  intro z
  rw [z, e] at h
  cases h
theorem PlAt.but {d : Addr} {H H' : Hp} {v : V} {l : Ln} (h : PlAt H v l) (hd : Dice H d) (s : But d H H') : PlAt H' v l := by
  obtain ⟨p, c, kv, rfl, e1, e2, e3⟩ := h
  exact ⟨p, c, kv, rfl, tup_but e1 hd s, tup_but e2 hd s, e3.but hd s⟩
theorem PlainAt.same {H H' : Hp} {d : Addr} {Ls : List Ln} (h : PlainAt H d Ls) (s : Same H H') : PlainAt H' d Ls := h.imp fun kvs q => ⟨s _ _ q.1, Paired.mapP q.2 fun kv l r => ⟨r.1, r.2.same s⟩⟩
theorem PlainAt.but {e : Addr} {H H' : Hp} {d : Addr} {Ls : List Ln} (h : PlainAt H d Ls) (hd : Dice H e) (s : But e H H') : PlainAt H' d Ls := h.imp fun kvs q => ⟨dK_but q.1 hd s, Paired.mapP q.2 fun kv l r => ⟨r.1, r.2.but hd s⟩⟩
/-! ### _law_kind -/
abbrev s_kind : Stmt := topS 51
abbrev N_kind : List Str := ["dice", "columns", "still"]
theorem sc_kind : FnScope N_kind ["dice", "columns", "still"] (defScope s_kind) := ⟨rfl, rfl, rfl, by decide +kernel, rfl, by decide +kernel, by decide +kernel⟩
def spKind : Sp := fun vs H Q _ => ∃ (d c : Addr) (cs : List Str) (n : Int), vs = [.ref d, .ref c, .int n] ∧ Dice H d ∧ H c = some (.tup (cs.map V.str)) ∧ (∀ z ∈ cs, nameB z = true) ∧ cs.Nodup ∧ cs.length ≤ 4 ∧ 0 < n ∧ n < 1073741824 ∧
  ∀ (k : Kd) v H', k.Ok cs → k.srt = k → But d H H' → Dice H' d → KdAt H' v k → Q v H'
section
variable {P : Program} {w : World} {K : PySem.W.Frag} {mg : Str → Option Value} {base : Heap}
theorem ok_kind {f : Addr} {fd : FuncData} (F : Fun K "_law_kind" "_law_kind" s_kind f fd) (T : NamesS mg) (C1 : Callee P w K mg base CX0 1 "_law_roll" ["dice", "upto"] spRoll) (C3 : Callee P w K mg base CX0 3 "_law_some" ["dice", "items", "least", "most"] spSome) : FnOk P w K mg base CX0 4 f fd ["dice", "columns", "still"] spKind := by
  have nd := sc_kind.nd
  refine F.ok sc_kind (fun vs H Q E h => ?_) (fun cdv A outer s H vs Q E hr h => ?_)
  · obtain ⟨d, c, cs, n, rfl, _⟩ := h
    rfl
  · obtain ⟨d, c, cs, n, rfl, hd, hc, nm, cn, few, n0, n1, k⟩ := h
    have hr1 : Room 1 _ := hr.mono (by decide)
    refine ⟨_, (pss_cons
    (ps_if (pt_cmpR op_gt (pe_use C1 hr1 rfl pass0 (pa_cons (pv 0) (pa_cons (pv 2) pa_nil))) pe_int (nomark _)) (pss_one
      (ps_ret pe_str)) pss_nil)
    (pss_one
    (ps_ret (pe_ifExp (pt_cmpR op_eq (pe_use C1 hr1 rfl pass0 (pa_cons (pv 0) (pa_cons pe_int pa_nil))) pe_int (nomark _)) pe_non (pe_callTy call_tuple_of (by rfl) T.tuple (by decide +kernel) (pa_cons (pe_callB cr_sortedS (by rfl) T.sorted (by decide +kernel) (pa_cons (pe_use C3 hr rfl pass0 (pa_cons (pv 0) (pa_cons (pv 1) (pa_cons pe_int (pa_cons pe_int pa_nil))))) pa_nil)) pa_nil)))))), ?_⟩
    refine ⟨_, rfl, _, rfl, d, n, rfl, hd, n0, n1, fun r H1 r0 r1 s1 hd1 => ?_⟩
    refine ⟨r, 0, rfl, rfl, decide (0 < r), rfl, ?_⟩
    by_cases q : (0 : Int) < r
    · rw [decide_eq_true q]
      exact iteT (k .chg _ H1 trivial rfl s1 hd1 rfl)
    · rw [decide_eq_false q]
      refine iteF ?_
      refine ⟨_, rfl, d, 2, rfl, hd1, by decide, by decide, fun t H2 t0 t1 s2 hd2 => ?_⟩
      have s12 := s1.trans s2
      have hc2 := tup_but hc hd s12
      refine ⟨rfl, decide (V.int t = V.int 0), rfl, ?_⟩
      by_cases q : V.int t = V.int 0
      · rw [decide_eq_true q]
        exact iteT (k .fix _ H2 trivial rfl s12 hd2 rfl)
      · rw [decide_eq_false q]
        refine iteF ?_
        refine ⟨_, rfl, _, rfl, d, c, cs, 0, 3, rfl, by decide, by decide, hd2, .inr hc2, tup_ne hc2 hd2, by omega, fun x hx => name_strOk (nm x hx), fun ys m p H3 pm m1 m2 np s3 hd3 h3 => ?_⟩
        have ndp : p ≠ d := (hd2.ne_none np).symm
        refine ⟨p, _, rfl, SqL.of h3, by rw [List.length_take, pm.length_eq]; omega, fun zs q0 zp zo nq => ?_⟩
        obtain rfl := srtd_of zp zo
        refine ⟨q0, _, rfl, .inl ⟨SqL.of upd_same, fun l nl => ?_⟩⟩
        have sN : But d H3 (upd (upd H3 q0 (.lst ((srtd (ys.take m)).map V.str))) l (.tup ((srtd (ys.take m)).map V.str))) := ((But.refl d H3).new nq).new nl
        have ys_nd : (ys.take m).Nodup := (pm.nodup_iff.mpr cn).sublist (List.take_sublist _ _)
        have ys_in : ∀ z ∈ ys.take m, z ∈ cs := fun z hz => pm.mem_iff.mp (List.mem_of_mem_take hz)
        refine k (.key (srtd (ys.take m))) _ _ ⟨fun z hz => nm z (ys_in z (mem_srtd.mp hz)), (srtd_perm _).nodup_iff.mpr ys_nd, fun z hz => ys_in z (mem_srtd.mp hz)⟩ (by show Kd.key (srtd (srtd _)) = _; rw [srtd_idem]) (s12.trans (s3.trans sN)) ((hd3.new nq).new nl) ⟨l, rfl, upd_same⟩
end
end B30_

/-! ## C17 -/
set_option Elab.async false
set_option linter.all false
set_option maxRecDepth 100000
set_option maxHeartbeats 4000000
namespace K1
open PySem PySem.Spec PyProof.Rows L2
open PySem.Froz (SD sObj TxOk addTx tailTx)
/-! ### set(l) of a list of texts -/
section
variable {P : Program} {w : World} {A : Around} {E : Value → Shared → Prop} {s : Shared}
set_option maxHeartbeats 6400000 in
theorem call_set_textsL {l : Addr} {items : Array Value} {zs : List Str} {Q : Value → Shared → Prop} (hh : A.handled = none) (tup : s.heap.IsList l items) (txts : StrsAre items.toList zs) (room : zs.length + 1 < scanBound) (k : ∀ s2, SetDone P w s zs s2 → Q (.ref s.heap.objs.size) s2) :
    wpAny (model P w) A (call (.type "set") [.ref l]) Q E s := by
  have isz : zs.length = items.size := by rw [← StrsAre.len_eq txts, Array.length_toList]
  obtain ⟨c, tl, hmro⟩ := PySem.F.called_set.mro
  have hmade := PySem.F.called_set.made
  have hsub := PySem.F.called_set.sub
  refine wpAny_call (codeAny_of_tree ?_); show wpAny _ _ (callAny (.type "set") _) _ _ _
  refine wpAny_pure ⟨Code.quiet_builtin _ (by decide +kernel), codeAny_builtin PySem.F.entry_type_call ?_⟩
  rw [Around.under_plain (weight_type_call_type "set" [.ref l] []) rfl]
  have h1 := PySem.F.called_set.notType
  have h2 := PySem.F.called_set.canCreate
  have hct := PySem.F.typeCall_set_1 (.ref l)
  repeat (any_goals (first | assumption | wp_step))
  refine codeAny_mono (code_set_led1 (.ref l) (E := E) (Q₁ := fun obj s₁ => obj = .ref s.heap.objs.size ∧ s₁ = { s with heap := s.heap.push (newSetObj w) }) ⟨rfl, rfl⟩) fun r s₁ hr => ?_
  cases r with
  | error e => exact hr
  | ok fl =>
    cases fl with
    | ret obj =>
      obtain ⟨rfl, rfl⟩ := hr
      have new : (s.heap.push (newSetObj w)).get? s.heap.objs.size = some (newSetObj w) := Heap.get?_push_size _ rfl
      have ty : Shared.TypeIs { s with heap := s.heap.push (newSetObj w) } (.ref s.heap.objs.size) "set" := ⟨_, new, rfl⟩
      have hli := PySem.F.called_set.init.lookup
      have hbi := PySem.F.called_set.init.bind (.ref s.heap.objs.size)
      repeat (any_goals (first | assumption | wp_step))
      refine codeAny_mono (codeAny_call_builtin (R := wants (fun r s₂ => r = .none ∧ SetDone P w s zs s₂) E) PySem.F.called_set.init.plain PySem.F.entry_set_init (check_set_init_1 ty ?_)) fun r₂ s₂ hr₂ => ?_
      · obtain ⟨⟨ocls, odict, odata, oslots⟩, hol, hcl, nl, hdl⟩ := tup
        simp only at hcl hdl
        subst hcl; subst hdl
        have hol' : (s.heap.push (newSetObj w)).get? l = some { cls := .type "list", dict := odict, data := .seq items nl, slots := oslots } := Heap.get?_push_of_some _ hol
        have hsls := PySem.F.sub_list_set
        have hslf := PySem.F.sub_list_frozenset
        have hne : (Value.type "list" == Value.type "dict") = false := by decide
        have tup1 : (s.heap.push (newSetObj w)).IsList l items := ⟨_, hol', rfl, nl, rfl⟩
        unfold Builtin.«set.__init__» noKeywords Builtin.Frozenset.updateFrom
        generalize hPI : pyIter = PI
        wp_walk
        subst hPI
        refine wpAny_pyIter_list tup1 (wpAny_bind (wpAny_runValue ?_))
        have below : l < s.heap.objs.size := Heap.lt_size hol
        have hh3 : A.in1.in1.in1.handled = none := by simp [hh]
        have len1 : (s.heap.push (newSetObj w)).objs.size = s.heap.objs.size + 1 := Heap.size_push ..
        have ne1 : l ≠ (s.heap.push (newSetObj w)).objs.size := by rw [len1]; exact Nat.ne_of_lt (Nat.lt_succ_of_lt below)
        have out : s.heap.objs.size ∉ [(s.heap.push (newSetObj w)).objs.size, l] := by
          rw [len1]; simp only [List.mem_cons, List.mem_singleton, List.not_mem_nil, or_false, not_or]
          exact ⟨Nat.ne_of_lt (Nat.lt_succ_self _), Nat.ne_of_gt below⟩
        refine tx_loop ((Walks.list hh3 _ l ne1 items).toS) out zs isz.symm room (fun i v hv => ?_) (items.size - 0) 0 _ (by omega) (Nat.zero_le _) ⟨⟨_, Heap.get?_push_size _ rfl, rfl, rfl⟩, tup1.push _⟩ ⟨[], tx_new (Heap.get?_push_of_some _ new), fun z => by simp, Nat.le_refl _⟩ fun s' l' mv T mem few => ?_
        · have hi : i < zs.length := by rw [isz]; exact (Array.getElem?_eq_some_iff.mp hv).1
          obtain ⟨t, e⟩ := SS.strs_at txts i v (by rw [Array.getElem?_toList]; exact hv)
          exact ⟨zs[i], t, List.getElem?_eq_getElem hi, by rw [e, List.getD_eq_getElem?_getD, List.getElem?_eq_getElem hi] <;> rfl⟩
        · obtain ⟨h', g2, d', tk', os'⟩ := s'
          obtain rfl : g2 = s.gens := mv.gens
          obtain rfl : d' = s.drawn := mv.drawn
          obtain rfl : os' = s.os := mv.os
          show wpAny _ _ _ _ _ _
          refine wpAny_pure ?_
          show wpAny _ _ (ret Value.none) _ _ _
          refine wpAny_pure ⟨rfl, h', tk', l', rfl, T, mem, by rw [isz]; exact few, fun b o q => mv.heap b o (fun m => ?_) (Heap.get?_push_of_some _ (Heap.get?_push_of_some _ q))⟩
          have lt := Heap.lt_size q
          rcases List.mem_cons.mp m with z | m
          · rw [z] at lt; exact Nat.lt_irrefl _ lt
          · rw [List.mem_singleton.mp m, len1] at lt; exact Nat.lt_irrefl _ (Nat.lt_of_succ_lt lt)
      · cases r₂ with
        | error e => exact hr₂
        | ok fl₂ =>
          cases fl₂ with
          | ret r =>
            obtain ⟨rfl, done⟩ := hr₂
            repeat (any_goals (first | assumption | wp_step))
            exact k _ done
          | _ => exact hr₂.elim
    | _ => exact hr.elim
end
section
variable {X : Cx}
theorem cr_setLS (hc : X.calm = true) : CallR X (.type "set") (fun xs H Q => ∃ (a : Addr) (zs : List Str), xs = [.ref a] ∧ SqL X.K H a (zs.map V.str) ∧ zs.length < 64 ∧ ∀ p, H p = none → Q (.ref p) (upd H p (SetS X.prog X.w p zs))) := by
  intro pins s σ H xs us Q I r h
  obtain ⟨a, zs, rfl, t, few, q⟩ := h
  obtain ⟨u, rfl, ru⟩ := vals1 r
  cases ru
  obtain ⟨its, rv, tup, _⟩ := I.list t
  refine call_set_textsL (zs := zs) (I.ok.hd hc) tup.isList (by simpa using rv.strs) (by unfold scanBound; omega) fun s2 done => ?_
  obtain ⟨h', tk, l, rfl, T, mem, short, kept⟩ := done
  have ok : ObjOk X.prog X.w (upd H s.heap.objs.size (SetS X.prog X.w s.heap.objs.size zs)) h' s.heap.objs.size (SetS X.prog X.w s.heap.objs.size zs) := by
    obtain ⟨D, g, _⟩ := id T
    exact ⟨⟨l, T, mem, short⟩, ⟨_, g⟩, fun h1 h2 p k => by
      obtain ⟨l', T', m, f⟩ := p
      exact ⟨l', T'.at k, m, f⟩⟩
  exact ⟨.ref _, _, I.laid (t' := tk) kept (Nat.le_refl _) ok, rfl, q _ (I.hok.fresh (Nat.le_refl _))⟩
end
end K1

/-! ## B30_19 -/
set_option Elab.async false
set_option linter.all false
set_option maxRecDepth 100000
set_option maxHeartbeats 8000000
namespace B30_
open PySem PySem.Spec PyProof.Rows L2
/-- all but the dice and the dict -/
def But2 (d f : Addr) (H H' : Hp) : Prop := ∀ b o, b ≠ d → b ≠ f → H b = some o → H' b = some o
theorem But2.refl (d f : Addr) (H : Hp) : But2 d f H H := fun _ _ _ _ h => h
theorem But2.trans {d f : Addr} {H H1 H2 : Hp} (a : But2 d f H H1) (b : But2 d f H1 H2) : But2 d f H H2 := fun c o n m h => b c o n m (a c o n m h)
theorem But2.but {d f : Addr} {H H1 : Hp} (a : But d H H1) : But2 d f H H1 := fun c o n _ h => a c o n h
theorem But2.new {d f p : Addr} {H H1 : Hp} {o : HO} (a : But2 d f H H1) (h : H1 p = none) : But2 d f H (upd H1 p o) := fun c u n m e => by
  have q := a c u n m e
  rw [upd_ne (ne_of_none q h)]
  exact q
theorem But2.put {d f : Addr} {H H1 : Hp} {o : HO} (a : But2 d f H H1) : But2 d f H (upd H1 f o) := fun c u n m e => by
  rw [upd_ne m]
  exact a c u n m e
theorem tup_putF {F p : Addr} {H : Hp} {kvs : List (Key × V)} {o : HO} {xs : List V} (h : H p = some (.tup xs)) (hF : H F = some (.dK kvs)) : (upd H F o) p = some (.tup xs) := by
  have n : p ≠ F := fun z => by rw [z, hF] at h; cases h
  rw [upd_ne n]
  exact h
theorem KdAt.putF {F : Addr} {H : Hp} {kvs : List (Key × V)} {o : HO} {v : V} {k : Kd} (h : KdAt H v k) (hF : H F = some (.dK kvs)) : KdAt (upd H F o) v k := by
  cases k with
  | chg => exact h
  | fix => exact h
  | key ks => exact h.imp fun q g => ⟨g.1, tup_putF g.2 hF⟩
theorem PlAt.putF {F : Addr} {H : Hp} {kvs : List (Key × V)} {o : HO} {v : V} {l : Ln} (h : PlAt H v l) (hF : H F = some (.dK kvs)) : PlAt (upd H F o) v l := by
  obtain ⟨p, c, kv, rfl, e1, e2, e3⟩ := h
  exact ⟨p, c, kv, rfl, tup_putF e1 hF, tup_putF e2 hF, e3.putF hF⟩
theorem Dice.putF {F d : Addr} {H : Hp} {kvs : List (Key × V)} {o : HO} (h : Dice H d) (hF : H F = some (.dK kvs)) : Dice (upd H F o) d := by
  obtain ⟨a, b, c, e⟩ := h
  have n : d ≠ F := fun z => by rw [z, hF] at e; cases e
  exact ⟨a, b, c, by rw [upd_ne n]; exact e⟩
/-! ### seq_split, as for k01 -/
theorem seq_split {a b : TS} {D : Ends} {σ : L2.St} {H : Hp} (I : L2.St → Hp → Prop) (h2 : ∀ σ' H', I σ' H' → b D σ' H') (h1 : ∀ nx : L2.St → Hp → Prop, (∀ σ' H', I σ' H' → nx σ' H') → a { D with nx := nx } σ H) : tSeq a b D σ H := h1 _ h2
/-! ### _law_scene -/
abbrev s_lsc : Stmt := topS 52
abbrev N_lsc : List Str := ["dice", "most_tables", "most_columns", "still", "names", "pool", "way", "found", "at", "name", "some", "here"]
theorem sc_lsc : FnScope N_lsc ["dice", "most_tables", "most_columns", "still"] (defScope s_lsc) := ⟨rfl, rfl, rfl, by decide +kernel, rfl, by decide +kernel, by decide +kernel⟩
def spLsc : Sp := fun vs H Q _ => ∃ (d : Addr) (nt nc : Nat) (n : Int), vs = [.ref d, .int nt, .int nc, .int n] ∧ Dice H d ∧ 1 ≤ nt ∧ nt ≤ 6 ∧ 1 ≤ nc ∧ nc ≤ 6 ∧ 0 < n ∧ n < 1073741824 ∧
  ∀ (q : Addr) (Ls : List Ln) H', PlOk Ls → (∀ l ∈ Ls, l.t ∈ words14) → H q = none → But d H H' → Dice H' d → PlainAt H' q Ls → Q (.ref q) H'
theorem names_words {z : Str} (h : z ∈ words14) : nameB z = true := by
  have : ∀ z ∈ words14, nameB z = true := by decide +kernel
  exact this z h
theorem merge_nodup_aux {kvs acc : List (Key × V)} (h : ((acc ++ kvs).map (·.1)).Nodup) : mergeK acc kvs = acc ++ kvs := by
  induction kvs generalizing acc with
  | nil => simp [mergeK]
  | cons p r ih =>
    show mergeK (putK acc p.1 p.2) r = acc ++ p :: r
    have hn : valV acc p.1 = none := by
      cases q : valV acc p.1 with
      | none => rfl
      | some v =>
        have m := valV_in q
        rw [List.map_append, List.nodup_append] at h
        exact absurd rfl (h.2.2 _ m _ (by simp))
    rw [putK_new p.2 hn, ih (by simpa using h)]
    simp
theorem merge_nodup {kvs : List (Key × V)} (h : (kvs.map (·.1)).Nodup) : mergeK [] kvs = kvs := by
  have := merge_nodup_aux (acc := []) (kvs := kvs) (by simpa using h)
  simpa using this
/-- a pair (table, what it is) -/
def PairAt (H : Hp) (v : V) (l : Ln) : Prop := ∃ p x, v = .ref p ∧ H p = some (.tup [.str l.t, x]) ∧ PlAt H x l
theorem PlAt.off {d : Addr} {H H' : Hp} {v : V} {l : Ln} (h : PlAt H v l) (s : K1.Off d H H') (hd : ∀ xs, H d ≠ some (.tup xs)) : PlAt H' v l := by
  obtain ⟨p, c, kv, e, h1, h2, h3⟩ := h
  exact ⟨p, c, kv, e, s _ _ (fun z => hd _ (z ▸ h1)) h1, s _ _ (fun z => hd _ (z ▸ h2)) h2, h3.off s hd⟩
theorem PairAt.off {d : Addr} {H H' : Hp} {v : V} {l : Ln} (h : PairAt H v l) (s : K1.Off d H H') (hd : ∀ xs, H d ≠ some (.tup xs)) : PairAt H' v l := by
  obtain ⟨p, x, e, h1, h2⟩ := h
  exact ⟨p, x, e, s _ _ (fun z => hd _ (z ▸ h1)) h1, h2.off s hd⟩
theorem pairs_of {K : PySem.W.Frag} {H : Hp} : ∀ {acc : List V} {Ls : List Ln}, Paired (PairAt H) acc Ls → ∃ (ps : List Addr) (kvs : List (Key × V)), acc = ps.map V.ref ∧ Paired (fun p kv => SqT K H p [kV kv.1, kv.2]) ps kvs ∧ Paired (fun kv l => kv.1 = Sum.inr l.t ∧ PlAt H kv.2 l) kvs Ls ∧ kvs.map (·.1) = Ls.map fun l => (Sum.inr l.t : Key)
  | _, _, .nil => ⟨[], [], rfl, .nil, .nil, rfl⟩
  | _, _, .cons a b => by
    obtain ⟨p, x, rfl, h1, h2⟩ := a
    obtain ⟨ps, kvs, rfl, q1, q2, q3⟩ := pairs_of (K := K) b
    exact ⟨p :: ps, (Sum.inr _, x) :: kvs, rfl, .cons (SqT.of h1) q1, .cons ⟨rfl, h2⟩ q2, by rw [List.map_cons, List.map_cons, q3]⟩
/-- a cut of texts -/
def cutL (xs : List Str) (lo hi : Option Int) : List Str := (xs.drop (HT.sIx xs.length 0 lo)).take (HT.sIx xs.length xs.length hi - HT.sIx xs.length 0 lo)
theorem cutV_map (xs : List Str) (lo hi : Option Int) : cutV (xs.map V.str) lo hi = (cutL xs lo hi).map V.str := by
  unfold cutV cutL
  rw [List.length_map, List.map_take, List.map_drop]
theorem cutL_in {xs : List Str} {lo hi : Option Int} {z : Str} (h : z ∈ cutL xs lo hi) : z ∈ xs := List.mem_of_mem_drop (List.mem_of_mem_take h)
theorem cutL_two (xs : List Str) (i : Nat) : (cutL xs (some (i : Int)) (some ((i : Int) + 2))).length ≤ 2 := by
  unfold cutL
  rw [show ((i : Int) + 2) = ((i + 2 : Nat) : Int) from rfl, HT.sIx_nat, HT.sIx_nat, List.length_take]
  omega
theorem cutL_up (xs : List Str) (k : Nat) : (cutL xs none (some (k : Int))).length ≤ k := by
  unfold cutL
  rw [HT.sIx_nat, HT.sIx_none, List.length_take]
  omega
section
variable {P : Program} {w : World} {K : PySem.W.Frag} {mg : Str → Option Value} {base : Heap}
theorem ok_lsc {f : Addr} {fd : FuncData} (F : Fun K "_law_scene" "_law_scene" s_lsc f fd) (T : NamesS mg) (hen : mg "enumerate" = none) (C1 : Callee P w K mg base CX0 1 "_law_roll" ["dice", "upto"] spRoll) (C2 : Callee P w K mg base CX0 2 "_law_mixed" ["dice", "items"] spMixed) (C3 : Callee P w K mg base CX0 3 "_law_some" ["dice", "items", "least", "most"] spSome)
    (CW : Callee P w K mg base CX0 3 "_law_words" ["dice", "upto"] spWords) (CK : Callee P w K mg base CX0 4 "_law_kind" ["dice", "columns", "still"] spKind) : FnOk P w K mg base CX0 5 f fd ["dice", "most_tables", "most_columns", "still"] spLsc := by
  have nd := sc_lsc.nd
  refine F.ok sc_lsc (fun vs H Q E h => ?_) (fun cdv A outer s H vs Q E hr h => ?_)
  · obtain ⟨d, nt, nc, n, rfl, _⟩ := h
    rfl
  · obtain ⟨d, nt, nc, n, rfl, hd, t1, t2, c1, c2, n0, n1, k⟩ := h
    have hr1 : Room 1 _ := hr.mono (by decide)
    have hr2 : Room 2 _ := hr.mono (by decide)
    have hr3 : Room 3 _ := hr.mono (by decide)
    have hu : (A.deeper (envOfC "_law_scene" (defScope s_lsc) s.heap.objs.size f cdv)).units + 1 < cLine := by have := hr.un; omega
    refine ⟨_, (pss_cons
    (ps_set (i := 4) nd rfl (Or.inl rfl) (pe_callB cr_sortedS (by rfl) T.sorted (by decide +kernel) (pa_cons (pe_use CW hr3 rfl pass0 (pa_cons (pv 0) (pa_cons (pe_op op_add pe_int (pe_use C1 hr1 rfl pass0 (pa_cons (pv 0) (pa_cons (pv 1) pa_nil)))) pa_nil))) pa_nil)))
    (pss_cons
    (ps_set (i := 5) nd rfl (Or.inl rfl) (pe_use CW hr3 rfl pass0 (pa_cons (pv 0) (pa_cons (pe_op op_add pe_int (pe_use C1 hr1 rfl pass0 (pa_cons (pv 0) (pa_cons (pv 2) pa_nil)))) pa_nil))))
    (pss_cons
    (ps_asg (pe_tup (pa_cons (pe_use C1 hr1 rfl pass0 (pa_cons (pv 0) (pa_cons pe_int pa_nil))) (pa_cons pe_dnewK pa_nil))) (pg_tup rfl (pgs_cons (pg_name (i := 6) nd rfl (Or.inl rfl)) (pgs_cons (pg_name (i := 7) nd rfl (Or.inr rfl)) pgs_nil))))
    (pss_cons
    (ps_for PassesOwn.never rfl (pi_enum (by rfl) hen (pa_cons (pe_use C2 hr2 rfl pass0 (pa_cons (pv 0) (pa_cons (pv 4) pa_nil))) pa_nil)) (pg_tup rfl (pgs_cons (pg_name (i := 8) nd rfl (Or.inl rfl)) (pgs_cons (pg_name (i := 9) nd rfl (Or.inl rfl)) pgs_nil))) (pss_cons
      (ps_set (i := 10) nd rfl (Or.inl rfl) (pe_use C3 hr3 rfl pass0 (pa_cons (pv 0) (pa_cons (pv 5) (pa_cons pe_int (pa_cons pe_int pa_nil))))))
      (pss_cons
      (ps_if (pt_cmpR op_eq (pv 6) pe_int (nomark _)) (pss_one
        (ps_set (i := 10) nd rfl (Or.inl rfl) (pe_op op_cat (pe_slice sl_list (pv 5) (po_some (pv 8)) (po_some (pe_op op_add (pv 8) pe_int))) (pe_slice sl_list (pv 10) po_none (po_some (pe_use C1 hr1 rfl pass0 (pa_cons (pv 0) (pa_cons pe_int pa_nil)))))))) pss_nil)
      (pss_cons
      (ps_if (pt_cmpR op_eq (pv 6) pe_int (nomark _)) (pss_one
        (ps_set (i := 10) nd rfl (Or.inl rfl) (pe_op op_cat (pe_slice sl_list (pv 5) po_none (po_some pe_int)) (pe_slice sl_list (pv 10) po_none (po_some pe_int))))) pss_nil)
      (pss_cons
      (ps_set (i := 11) nd rfl (Or.inl rfl) (pe_callTy call_tuple_of (by rfl) T.tuple (by decide +kernel) (pa_cons (pe_callB (K1.cr_sortedSS rfl) (by rfl) T.sorted (by decide +kernel) (pa_cons (pe_callTy (K1.cr_setLS rfl) (by rfl) T.set (by decide +kernel) (pa_cons (pv 10) pa_nil)) pa_nil)) pa_nil)))
      (pss_one
      (ps_dput hu (pv 7) (pv 9) (pe_tup (pa_cons (pv 11) (pa_cons (pe_use CK hr rfl pass0 (pa_cons (pv 0) (pa_cons (pv 11) (pa_cons (pv 3) pa_nil)))) pa_nil))) rfl)))))))
    (pss_one
    (ps_ret (pe_callTy (call_dictP rfl) (by rfl) T.dict (by decide +kernel) (pa_cons (pe_lc (own := [("name", 9)]) (g := (gName 9)) rfl nd (pi_list (pv 4)) (blkOk_by (N := N_lsc) (sc := defScope s_lsc) (by decide +kernel)) (fun _ _ _ _ _ => (pg_name (i := 9) nd rfl (Or.inl rfl))) (fun _ _ _ _ _ => pts_nil) (fun _ _ _ _ _ => (pe_tup (pa_cons (pv 9) (pa_cons (pe_dget hu (pv 7) (pv 9) (fun _ _ => rfl)) pa_nil))))) pa_nil)))))))), ?_⟩
    -- names, in order
    refine ⟨_, rfl, _, rfl, _, rfl, d, (nt : Int), rfl, hd, by omega, by omega, fun r H1 r0 r1 s1 hd1 => ?_⟩
    obtain ⟨r, rfl⟩ := Int.eq_ofNat_of_zero_le r0
    refine ⟨1, r, rfl, rfl, d, 1 + r, rfl, by omega, hd1, fun ws pw H2 pm hpw s2 hd2 h2 => ?_⟩
    have wl : (ws.take (1 + r)).length ≤ 6 := by rw [List.length_take]; omega
    refine ⟨pw, ws.take (1 + r), rfl, SqL.of h2, by omega, fun ys pn yp yo npn => ?_⟩
    obtain rfl := srtd_of yp yo
    have ynd : (srtd (ws.take (1 + r))).Nodup := (srtd_perm _).nodup_iff.mpr ((pm.nodup_iff.mpr (by decide +kernel)).sublist (List.take_sublist _ _))
    have yin : ∀ z ∈ srtd (ws.take (1 + r)), nameB z = true := fun z hz => names_words (pm.mem_iff.mp (List.mem_of_mem_take (mem_srtd.mp hz)))
    have yw : ∀ z ∈ srtd (ws.take (1 + r)), z ∈ words14 := fun z hz => pm.mem_iff.mp (List.mem_of_mem_take (mem_srtd.mp hz))
    have yone : 1 ≤ (srtd (ws.take (1 + r))).length := by rw [srtd_len, List.length_take, pm.length_eq]; simp [words14]; omega
    have ysix : (srtd (ws.take (1 + r))).length ≤ 6 := by rw [srtd_len]; exact wl
    have yord : srtd (srtd (ws.take (1 + r))) = srtd (ws.take (1 + r)) := srtd_idem _
    have nd3 := hd2.new (o := .lst ((srtd (ws.take (1 + r))).map V.str)) npn
    have s3 : But d H (upd H2 pn (.lst ((srtd (ws.take (1 + r))).map V.str))) := (s1.trans s2).new npn
    have hn3 : (upd H2 pn (.lst ((srtd (ws.take (1 + r))).map V.str))) pn = some (.lst ((srtd (ws.take (1 + r))).map V.str)) := upd_same
    have pnd : pn ≠ d := (hd2.ne_none npn).symm
    generalize upd H2 pn (.lst ((srtd (ws.take (1 + r))).map V.str)) = H3 at *
    generalize srtd (ws.take (1 + r)) = ys at *
    clear yp yo npn h2 hpw s2 s1 hd1 hd2 wl
    -- the pool
    refine ⟨_, rfl, _, rfl, _, rfl, d, (nc : Int), rfl, nd3, by omega, by omega, fun r4 H4 r0 r41 s4 hd4 => ?_⟩
    obtain ⟨r4, rfl⟩ := Int.eq_ofNat_of_zero_le r0
    refine ⟨1, r4, rfl, rfl, d, 1 + r4, rfl, by omega, hd4, fun ws2 p5 H5 pm2 hp5 s5 hd5 h5 => ?_⟩
    have p5d : p5 ≠ d := (hd4.ne_none hp5).symm
    have hn5 := (s4.trans s5) _ _ pnd hn3
    have s35 := s3.trans (s4.trans s5)
    have poolN : ∀ z ∈ ws2.take (1 + r4), nameB z = true := fun z hz => names_words (pm2.mem_iff.mp (List.mem_of_mem_take hz))
    have poolL : (ws2.take (1 + r4)).length ≤ 6 := by rw [List.length_take]; omega
    have poolD : (ws2.take (1 + r4)).Nodup := (pm2.nodup_iff.mpr (by decide +kernel)).sublist (List.take_sublist _ _)
    generalize ws2.take (1 + r4) = pool at *
    clear s4 hd4 hp5 s5 hn3 nd3 s3
    -- way, found
    refine ⟨_, rfl, d, 4, rfl, hd5, by decide, by decide, fun way H6 w0 w1 s6 hd6 => ?_⟩
    refine fun F nF => ⟨by show 2 ≤ sizeLine; decide, fun pt npt => ?_⟩
    have hn6 := s6 _ _ pnd hn5
    have h56 := s6 _ _ p5d h5
    have Fd : F ≠ d := (hd6.ne_none nF).symm
    have s7 : But d H (upd (upd H6 F (.dK [])) pt (.tup [.int way, .ref F])) := ((s35.trans s6).new nF).new npt
    have hd7 : Dice (upd (upd H6 F (.dK [])) pt (.tup [.int way, .ref F])) d := (hd6.new nF).new npt
    have hn7 : (upd (upd H6 F (.dK [])) pt (.tup [.int way, .ref F])) pn = some (.lst (ys.map V.str)) := (((But.refl d H6).new nF).new npt) _ _ pnd hn6
    have h57 : (upd (upd H6 F (.dK [])) pt (.tup [.int way, .ref F])) p5 = some (.lst (pool.map V.str)) := (((But.refl d H6).new nF).new npt) _ _ p5d h56
    have hF7 : (upd (upd H6 F (.dK [])) pt (.tup [.int way, .ref F])) F = some (.dK []) := (upd_ne (ne_of_none upd_same npt)).trans upd_same
    refine ⟨pt, _, rfl, SqT.of upd_same, rfl, _, _, rfl, _, _, rfl, rfl, ?_⟩
    generalize upd (upd H6 F (.dK [])) pt (.tup [.int way, .ref F]) = H7 at *
    have FH : H F = none := (s35.trans s6).free Fd nF
    clear hn6 h56 hd6 nF npt s6 hn5 h5 hd5 s35
    -- for at, name in enumerate(..)
    refine ⟨_, rfl, _, rfl, d, pn, ys, rfl, hd7, .inl hn7, pnd, by omega, fun x hx => name_strOk (yin x hx), fun zs pz H8 zp npz s8 hd8 hz8 => ?_⟩
    have F8 : H8 F = some (.dK []) := dK_but hF7 hd7 s8
    have hn8 := s8 _ _ pnd hn7
    have h58 := s8 _ _ p5d h57
    have s88 : But d H H8 := s7.trans s8
    have zin : ∀ z ∈ zs, nameB z = true := fun z hz => yin z (zp.mem_iff.mp hz)
    have znd : zs.Nodup := zp.nodup_iff.mpr ynd
    have zlen : zs.length ≤ 6 := by rw [zp.length_eq]; exact ysix
    have pzd : pz ≠ d := (hd7.ne_none npz).symm
    clear hd7 s8 hn7 h57 hF7 s7
    refine ⟨pz, _, rfl, SqL.of hz8, ?_⟩
    have pzF : pz ≠ F := fun z => by rw [z, F8] at hz8; cases hz8
    have pnF : pn ≠ F := fun z => by rw [z, F8] at hn8; cases hn8
    have p5F : p5 ≠ F := fun z => by rw [z, F8] at h58; cases h58
    refine for_it (walk_enum (xs := zs.map V.str)) (fun i σ H' => ∃ (v8 v9 v10 v11 : Option V) (kvs : List (Key × V)) (ls : List Ln), σ = [some (.ref d), some (.int nt), some (.int nc), some (.int n), some (.ref pn), some (.ref p5), some (.int way), some (.ref F), v8, v9, v10, v11] ∧ But2 d F H8 H' ∧ Dice H' d ∧ H' F = some (.dK kvs) ∧
      Paired (fun kv l => kv.1 = Sum.inr l.t ∧ PlAt H' kv.2 l) kvs ls ∧ ls.map (·.t) = zs.take i ∧ ∀ l ∈ ls, l.Ok ∧ l.srt = l ∧ ∀ z ∈ l.cs, z ∈ pool) ⟨none, none, none, none, [], [], rfl, But2.refl d F H8, hd8, F8, .nil, rfl, fun l h => nomatch h⟩ (fun i σ H1 _ p => ?_) (fun i x σ HA H1 hi p y => ?_) (fun σ H1 p => ?_)
    · obtain ⟨_, _, _, _, _, _, _, off, _⟩ := p
      exact SqL.of (off _ _ pzd pzF hz8)
    · obtain ⟨v8, v9, v10, v11, kvs, ls, rfl, off, hd, hF, pr, tk, each⟩ := p
      obtain ⟨T0, x0, z0, rfl, nT, rfl, ex, ez⟩ := y
      cases ex
      replace ez : (zs.map V.str)[i]? = some z0 := ez
      rw [List.getElem?_map] at ez
      obtain ⟨z, hz, rfl⟩ := Option.map_eq_some_iff.mp ez
      have sT : But d HA (upd HA T0 (.tup [.int (i : Nat), .str z])) := (But.refl d HA).new nT
      refine ⟨T0, _, rfl, SqT.of upd_same, rfl, _, _, rfl, _, _, rfl, rfl, ?_⟩
      have hdT := hd.new (o := .tup [.int (i : Nat), .str z]) nT
      have hFT := dK_but hF hd sT
      have h5T := sT _ _ p5d (off _ _ p5d p5F h58)
      have offT := off.trans (But2.but (f := F) sT)
      have prT : Paired (fun kv l => kv.1 = Sum.inr l.t ∧ PlAt (upd HA T0 (.tup [.int (i : Nat), .str z])) kv.2 l) kvs ls := Paired.mapP pr fun kv l r => ⟨r.1, r.2.but hd sT⟩
      generalize upd HA T0 (.tup [.int (i : Nat), .str z]) = HB at *
      clear sT nT hd hF off pr
      -- some
      refine ⟨_, rfl, _, rfl, d, p5, pool, 0, 3, rfl, by decide, by decide, hdT, .inl h5T, p5d, by omega, fun x hx => name_strOk (poolN x hx), fun qs m ps HC qp m1 m2 nps sC hdC hC => ?_⟩
      have psd : ps ≠ d := (hdT.ne_none nps).symm
      dsimp only [gName]
      have len3 : (qs.take m).length ≤ 3 := by rw [List.length_take]; omega
      have in3 : ∀ z ∈ qs.take m, z ∈ pool := fun z hz => qp.mem_iff.mp (List.mem_of_mem_take hz)
      generalize qs.take m = us at *
      clear m1 m2 qp nps
      refine seq_split (fun σ' H' => ∃ (q10 : Addr) (us : List Str), σ' = [some (.ref d), some (.int nt), some (.int nc), some (.int n), some (.ref pn), some (.ref p5), some (.int way), some (.ref F), some (.int (i : Nat)), some (.str z), some (.ref q10), v11] ∧ But d HB H' ∧ Dice H' d ∧ q10 ≠ d ∧ H' q10 = some (.lst (us.map V.str)) ∧ us.length ≤ 3 ∧ ∀ z ∈ us, z ∈ pool) (fun σ' H' h' => ?_) (fun nx hn => ?_)
      · obtain ⟨q10, us, rfl, sC, hdC, q10d, hC, len3, in3⟩ := h'
        refine seq_split (fun σ' H' => ∃ (q10 : Addr) (us : List Str), σ' = [some (.ref d), some (.int nt), some (.int nc), some (.int n), some (.ref pn), some (.ref p5), some (.int way), some (.ref F), some (.int (i : Nat)), some (.str z), some (.ref q10), v11] ∧ But d HB H' ∧ Dice H' d ∧ q10 ≠ d ∧ H' q10 = some (.lst (us.map V.str)) ∧ us.length ≤ 3 ∧ ∀ z ∈ us, z ∈ pool) (fun σ' H' h' => ?_) (fun nx hn => ?_)
        · obtain ⟨q10, us, rfl, sC, hdC, q10d, hC, len3, in3⟩ := h'
          refine ⟨_, rfl, q10, us, rfl, SqL.of hC, by omega, fun D nD => ⟨D, us, rfl, upd_same, by omega, fun cs q1 ndy memy sty nq1 => ⟨q1, _, rfl, .inl ⟨SqL.of upd_same, fun hc nhc => ?_⟩⟩⟩⟩
          have sE : But d HB (upd (upd (upd H' D (K1.SetS P w D us)) q1 (.lst (cs.map V.str))) hc (.tup (cs.map V.str))) := ((sC.new nD).new nq1).new nhc
          have hdE : Dice (upd (upd (upd H' D (K1.SetS P w D us)) q1 (.lst (cs.map V.str))) hc (.tup (cs.map V.str))) d := ((hdC.new nD).new nq1).new nhc
          have hcE : (upd (upd (upd H' D (K1.SetS P w D us)) q1 (.lst (cs.map V.str))) hc (.tup (cs.map V.str))) hc = some (.tup (cs.map V.str)) := upd_same
          have csl : cs.length ≤ 3 := Nat.le_trans (ndy.length_le_of_subset fun z hz => (memy z).mp hz) len3
          have csN : ∀ z ∈ cs, nameB z = true := fun z hz => poolN z (in3 z ((memy z).mp hz))
          have csS : srtd cs = cs := (srtd_of (List.Perm.refl cs) sty).symm
          have csP : ∀ z ∈ cs, z ∈ pool := fun z hz => in3 z ((memy z).mp hz)
          clear nq1 nD hC in3 len3 memy sty
          refine ⟨_, rfl, _, rfl, _, rfl, _, rfl, d, hc, cs, n, rfl, hdE, hcE, csN, ndy, by omega, n0, n1, fun kd kv HK kok ksrt sK hdK hkv => ⟨by show 2 ≤ sizeLine; decide, fun tp ntp => ?_⟩⟩
          have hcK := tup_but hcE hdE sK
          clear nhc hcE
          have sL : But d HB (upd HK tp (.tup [.ref hc, kv])) := (sE.trans sK).new ntp
          have hdL := hdK.new (o := .tup [.ref hc, kv]) ntp
          have sN : Same HK (upd HK tp (.tup [.ref hc, kv])) := Same.new (Same.refl HK) ntp
          have plL : PlAt (upd HK tp (.tup [.ref hc, kv])) (.ref tp) ⟨z, cs, kd⟩ := ⟨tp, hc, kv, rfl, upd_same, sN _ _ hcK, hkv.same sN⟩
          have hFL := dK_but hFT hdT sL
          generalize upd HK tp (.tup [.ref hc, kv]) = HL at *
          have prL : Paired (fun kv l => kv.1 = Sum.inr l.t ∧ PlAt HL kv.2 l) kvs ls := Paired.mapP prT fun kv l r => ⟨r.1, r.2.but hdT sL⟩
          have nt : valV kvs (Sum.inr z) = none := by
            refine val_no prL ?_
            rw [tk]
            intro m
            rw [← List.take_append_drop i zs] at znd
            have h2 := (List.nodup_append.mp znd).2.2 z m z
            have lt : i < zs.length := (List.getElem?_eq_some_iff.mp hz).1
            rw [List.drop_eq_getElem_cons lt] at h2
            have e := (List.getElem?_eq_some_iff.mp hz).2
            exact h2 (by rw [e]; exact List.mem_cons_self) rfl
          have short : kvs.length ≤ 6 := by
            have h1 := prL.length
            have h2 := congrArg List.length tk
            rw [List.length_map, List.length_take] at h2
            omega
          refine ⟨_, rfl, _, rfl, F, _, rfl, DPut.k (k := Sum.inr z) hFL (Nat.lt_of_le_of_lt short (by decide)), ?_⟩
          rw [putK_new _ nt]
          refine ⟨_, _, _, _, _, ls ++ [⟨z, cs, kd⟩], rfl, (offT.trans (But2.but sL)).put, hdL.putF hFL, upd_same, Paired.snoc (Paired.mapP prL fun kv l r => ⟨r.1, r.2.putF hFL⟩) ⟨rfl, plL.putF hFL⟩, ?_, fun l hl => ?_⟩
          · rw [List.map_append, tk, List.take_add_one, hz]
            rfl
          · rcases List.mem_append.mp hl with hl | hl
            · exact each l hl
            · obtain rfl := List.mem_singleton.mp hl
              refine ⟨⟨zin z (List.mem_of_getElem? hz), csN, ndy, by show cs.length ≤ 4; omega, kok⟩, ?_, csP⟩
              show Ln.mk z (srtd cs) kd.srt = _
              rw [csS, ksrt]
        · refine ⟨_, rfl, rfl, decide (V.int way = V.int 2), rfl, ?_⟩
          by_cases w1 : V.int way = V.int 2
          · rw [decide_eq_true w1]
            refine iteT ?_
            have h5C := sC _ _ p5d h5T
            refine ⟨_, rfl, _, rfl, p5, _, rfl, SqL.of h5C, fun q1 nq1 => ?_⟩
            rw [cutV_map]
            have l2 := cutL_up pool 1
            have i2 : ∀ z ∈ cutL pool none (some ((1 : Nat) : Int)), z ∈ pool := fun z h => cutL_in h
            replace l2 : (cutL pool none (some 1)).length ≤ 1 := l2
            replace i2 : ∀ z ∈ cutL pool none (some 1), z ∈ pool := i2
            generalize cutL pool none (some 1) = ua at *
            have hd1 := hdC.new (o := .lst (ua.map V.str)) nq1
            have s1 : But d HB (upd H' q1 (.lst (ua.map V.str))) := sC.new nq1
            have q1d : q1 ≠ d := (hdC.ne_none nq1).symm
            have hps := ((But.refl d H').new (o := .lst (ua.map V.str)) nq1) _ _ q10d hC
            have hq1 : (upd H' q1 (.lst (ua.map V.str))) q1 = some (.lst (ua.map V.str)) := upd_same
            generalize upd H' q1 (.lst (ua.map V.str)) = HC1 at *
            refine ⟨_, rfl, _, rfl, q10, _, rfl, SqL.of hps, fun q2 nq2 => ?_⟩
            rw [cutV_map]
            have l1 := cutL_up us 2
            have i1 : ∀ z ∈ cutL us none (some ((2 : Nat) : Int)), z ∈ pool := fun z h => in3 z (cutL_in h)
            replace l1 : (cutL us none (some 2)).length ≤ 2 := l1
            replace i1 : ∀ z ∈ cutL us none (some 2), z ∈ pool := i1
            generalize cutL us none (some 2) = ub at *
            have sE := (But.refl d HC1).new (o := .lst (ub.map V.str)) nq2
            refine ⟨q1, q2, _, _, rfl, rfl, sE _ _ q1d hq1, upd_same, by rw [List.length_map, List.length_map, sizeLine_eq]; omega, fun q3 nq3 => ?_⟩
            have hdE := hd1.new (o := .lst (ub.map V.str)) nq2
            refine hn _ _ ⟨q3, ua ++ ub, rfl, (s1.trans sE).new nq3, hdE.new nq3, (hdE.ne_none nq3).symm, by rw [List.map_append]; exact upd_same, by rw [List.length_append]; omega, fun z hz => ?_⟩
            rcases List.mem_append.mp hz with hz | hz
            · exact i2 z hz
            · exact i1 z hz
          · rw [decide_eq_false w1]
            exact iteF (hn _ _ ⟨q10, us, rfl, sC, hdC, q10d, hC, len3, in3⟩)
      · refine ⟨_, rfl, rfl, decide (V.int way = V.int 1), rfl, ?_⟩
        by_cases w1 : V.int way = V.int 1
        · rw [decide_eq_true w1]
          refine iteT ?_
          have h5C := sC _ _ p5d h5T
          refine ⟨_, rfl, _, rfl, _, rfl, _, rfl, _, _, rfl, rfl, _, rfl, p5, _, rfl, SqL.of h5C, fun q1 nq1 => ?_⟩
          rw [cutV_map]
          have l2 := cutL_two pool i
          have i2 : ∀ z ∈ cutL pool (some (i : Int)) (some ((i : Int) + 2)), z ∈ pool := fun z h => cutL_in h
          generalize cutL pool (some (i : Int)) (some ((i : Int) + 2)) = ua at *
          have hd1 := hdC.new (o := .lst (ua.map V.str)) nq1
          have s1 : But d HB (upd HC q1 (.lst (ua.map V.str))) := sC.new nq1
          have q1d : q1 ≠ d := (hdC.ne_none nq1).symm
          have hps := ((But.refl d HC).new (o := .lst (ua.map V.str)) nq1) _ _ psd hC
          have hq1 : (upd HC q1 (.lst (ua.map V.str))) q1 = some (.lst (ua.map V.str)) := upd_same
          generalize upd HC q1 (.lst (ua.map V.str)) = HC1 at *
          refine ⟨_, rfl, _, rfl, d, 2, rfl, hd1, by decide, by decide, fun r HD r0 r1 sD hdD => ?_⟩
          obtain ⟨r, rfl⟩ := Int.eq_ofNat_of_zero_le r0
          refine ⟨_, rfl, ps, _, rfl, SqL.of (sD _ _ psd hps), fun q2 nq2 => ?_⟩
          rw [cutV_map]
          have l1 := cutL_up us r
          have i1 : ∀ z ∈ cutL us none (some (r : Int)), z ∈ pool := fun z h => in3 z (cutL_in h)
          generalize cutL us none (some (r : Int)) = ub at *
          have sE := (But.refl d HD).new (o := .lst (ub.map V.str)) nq2
          refine ⟨q1, q2, _, _, rfl, rfl, sE _ _ q1d (sD _ _ q1d hq1), upd_same, by rw [List.length_map, List.length_map, sizeLine_eq]; omega, fun q3 nq3 => ?_⟩
          have hdE := hdD.new (o := .lst (ub.map V.str)) nq2
          refine hn _ _ ⟨q3, ua ++ ub, rfl, (s1.trans (sD.trans sE)).new nq3, hdE.new nq3, (hdE.ne_none nq3).symm, by rw [List.map_append]; exact upd_same, by rw [List.length_append]; omega, fun z hz => ?_⟩
          rcases List.mem_append.mp hz with hz | hz
          · exact i2 z hz
          · exact i1 z hz
        · rw [decide_eq_false w1]
          exact iteF (hn _ _ ⟨ps, us, rfl, sC, hdC, psd, hC, len3, in3⟩)
    · obtain ⟨v8, v9, v10, v11, kvs, ls, rfl, off, hd, hF, pr, tk, each⟩ := p
      rw [List.length_map, List.take_length] at tk
      have lsrt : ls.map Ln.srt = ls := by
        refine (List.map_congr_left fun l hl => (each l hl).2.1).trans (List.map_id _)
      have lnd : (ls.map (·.t)).Nodup := by rw [tk]; exact znd
      have Lts : (ordL ls).map (·.t) = ys := by rw [ordL_ts, tk, srtd_congr zp, yord]
      have Lin : ∀ l ∈ ordL ls, l ∈ ls := fun l hl => by
        have h := (ordL_perm ls).mem_iff.mp hl
        rw [lsrt] at h
        exact h
      have Llen : (ordL ls).length = ys.length := by rw [← Lts, List.length_map]
      have Lsrt : ∀ l ∈ ordL ls, l.srt = l := fun l hl => (each l (Lin l hl)).2.1
      have LOk : PlOk (ordL ls) := by
        refine ⟨⟨fun l hl => (each l (Lin l hl)).1, by rw [Lts]; exact ynd, by rw [Llen]; exact yone, by rw [Llen]; exact ysix, pool, poolL, fun l hl => (each l (Lin l hl)).2.2⟩, ?_, Lsrt⟩
        refine (ordL_of (by rw [Lts]; exact ynd) ?_ (ordL_pair ls)).symm
        rw [(List.map_congr_left Lsrt).trans (List.map_id _)]
      have hn1 := off _ _ pnd pnF hn8
      refine ⟨_, rfl, pn, rfl, ⟨_, SqL.of hn1⟩, fun D hD => ?_⟩
      refine K1.lc_rel (walk_list (xs := ys.map V.str)) PairAt (fun i => (ordL ls)[i]?) hD (by rw [List.length_map, sizeLine_eq]; omega) (fun H H' v l r e o => r.off o fun xs z => by obtain ⟨a, e⟩ := e; rw [e] at z; cases z) (fun H2 s2 => SqL.of (s2 _ _ hn1)) (fun i x H2 H3 N hi s2 lD y keep skip => ?_) (fun H2 acc s2 hL pL => ?_)
      · obtain ⟨rfl, hx⟩ := y
        rw [List.getElem?_map] at hx
        obtain ⟨z, hz, rfl⟩ := Option.map_eq_some_iff.mp hx
        have hz2 : ((ordL ls).map (·.t))[i]? = some z := by rw [Lts]; exact hz
        rw [List.getElem?_map] at hz2
        obtain ⟨l, hl, rfl⟩ := Option.map_eq_some_iff.mp hz2
        have mz : l.t ∈ ls.map (·.t) := List.mem_map.mpr ⟨l, Lin l (List.mem_of_getElem? hl), rfl⟩
        obtain ⟨v, m, e1, e2, e3, pl⟩ := val_at pr mz
        obtain rfl := same_line lnd (Lin l (List.mem_of_getElem? hl)) e2 e3
        refine ⟨rfl, _, rfl, _, rfl, _, rfl, F, v, rfl, e1 ▸ DGet.k (k := Sum.inr _) (s2 _ _ hF), by show 2 ≤ sizeLine; decide, fun q hq => ?_⟩
        have sN : Same H3 (upd H3 q (.tup [.str m.t, v])) := Same.new (Same.refl _) hq
        exact keep _ (.ref q) m sN hl ⟨q, v, rfl, upd_same, (pl.same s2).same sN⟩
      · rw [List.length_map, ← Llen, K1.pickT_all] at pL
        obtain ⟨ps, kvs2, rfl, q1, q2, q3⟩ := pairs_of (K := K) pL
        have knd : (kvs2.map (·.1)).Nodup := by
          have e : ((ordL ls).map fun l => (Sum.inr l.t : Key)) = (((ordL ls).map (·.t)).map fun z => (Sum.inr z : Key)) := by rw [List.map_map]; rfl
          rw [q3, e, Lts]
          exact (List.pairwise_map.mpr (ynd.imp fun n z => n (Sum.inr.inj z)))
        refine ⟨D, ps, kvs2, rfl, SqL.of hL, q1, fun q nq => ?_⟩
        rw [merge_nodup knd]
        have nq1 : H1 q = none := s2.free nq
        have qd : q ≠ d := (hd.ne_none nq1).symm
        have qF : q ≠ F := fun z => by rw [z, hF] at nq1; cases nq1
        have nq8 : H8 q = none := by
          cases e : H8 q with
          | none => rfl
          | some o => rw [off _ _ qd qF e] at nq1; cases nq1
        have sQ : Same H2 (upd H2 q (.dK kvs2)) := Same.new (Same.refl _) nq
        refine k q (ordL ls) _ LOk (fun l hl => yw _ (by rw [← Lts]; exact List.mem_map.mpr ⟨l, hl, rfl⟩)) (s88.free qd nq8) (fun b o n e => ?_) ((hd.same s2).new nq) ⟨kvs2, upd_same, Paired.mapP q2 fun kv l r => ⟨r.1, r.2.same sQ⟩⟩
        exact sQ _ _ (s2 _ _ (off _ _ n (fun z => by rw [z, FH] at e; cases e) (s88 _ _ n e)))
end
end B30_

/-! ## B30_28w -/
set_option Elab.async false
set_option linter.all false
set_option maxRecDepth 100000
set_option maxHeartbeats 16000000
namespace B30_
open PySem PySem.Spec PyProof.Rows L2
/-- a property that reads a field -/
structure Prp (P : Program) (w : World) (K : PySem.W.Frag) (mg : Str → Option Value) (base : Heap) (C : Addr) (f g : Str) : Prop where
  ex : ∃ p gf fd, PropOf K C f p gf ∧ FnOk P w K mg base CX0 1 gf fd ["self"] (getSp C g) ∧ Binds K fd ["self"] []
theorem pe_prp {X : Cx} {C : Addr} {f g : Str} {e : Expr} {ta : TE} {pos : Pos} (M : Prp X.prog X.w X.K X.mg X.base C f g) (c : Cls X.K C) (hr : Room 2 X.A) (he : PE X e ta) (hab : attributeBase e f X.env (eval e X.env) = eval e X.env := by rfl) : PE X (.Attribute e f pos) (tProp C (getSp C g) [] E0 ta) := by
  obtain ⟨p, gf, fd, h1, h2, h3⟩ := M.ex
  exact pe_prop he c h1 h2 hr h3 .nil pass0 hab
/-- all that a scene can be asked for -/
structure Ways (P : Program) (w : World) (K : PySem.W.Frag) (mg : Str → Option Value) (base : Heap) (C : Addr) : Prop where
  cl : ClsS K mg C
  ci : ClsI K C
  neo : K1.NeO K C
  con : Mth P w K mg base C 1 "__contains__" ["self", "value"] (spCon K C)
  len : Mth P w K mg base C 1 "__len__" ["self"] (spLen C)
  iter : Mth P w K mg base C 1 "__iter__" ["self"] (spIt C)
  eq : Mth P w K mg base C 1 "__eq__" ["self", "other"] (spEq K C)
  str : Mth P w K mg base C 1 "__str__" ["self"] (spStr C)
  cof : Mth P w K mg base C 3 "columns_of" ["self", "table"] (spCof C)
  kof : Mth P w K mg base C 3 "key_of" ["self", "table"] (spKof C)
  tables : Prp P w K mg base C "tables" "_tables"
  changing : Prp P w K mg base C "changing" "_changing"
  fixed : Prp P w K mg base C "fixed" "_fixed"
  columns : Prp P w K mg base C "columns" "_columns"
  lines : Prp P w K mg base C "lines" "_lines"
structure NamesR (mg : Str → Option Value) : Prop extends NamesS mg where
  repr : mg "repr" = none
  iter : mg "iter" = none
  enum : mg "enumerate" = none
end B30_

/-! ## B30_29o -/
set_option Elab.async false
set_option linter.all false
set_option maxRecDepth 100000
set_option maxHeartbeats 16000000
namespace B30_
open PySem PySem.Spec PyProof.Rows L2
/-! ### Scene.of(..) -/
structure OfM (P : Program) (w : World) (K : PySem.W.Frag) (mg : Str → Option Value) (base : Heap) (C : Addr) : Prop where
  ex : ∃ mc p g fd, ClX.CRead K C mc ∧ ClX.CMet K C mc "of" p g ∧ FnOk P w K mg base CX0 10 g fd ["cls", "lines"] (spOf C) ∧ Binds K fd ["cls", "lines"] []
theorem pe_of {X : Cx} {C : Addr} {e : Expr} {es : List Expr} {t : TA} {p apos pos : Pos} {pl : Sem Bool} (M : OfM X.prog X.w X.K X.mg X.base C) (hm : X.mg "Scene" = some (.ref C)) (hg : Gl X "Scene") (hr : Room 10 X.A) (ha : PA X (e :: es) t)
    (hst : starEach (e :: es) X.env = (false, eval e X.env) :: starEach es X.env := by rfl) (hpl : (backTo pos (starEach es X.env)).any (·.1) = false := by rfl)
    (ht : eval (.Call (.Attribute (.Name "Scene" p) "of" apos) (e :: es) [] pos) X.env = (do
      let ov ← eval (.Name "Scene" p) X.env
      standAt apos.atName
      let (f, first) ← holding [ov] (getMethod ov "of" pl)
      callWith pos f first (backTo pos (starEach (e :: es) X.env)) (backToKw pos (keywordEach [] X.env))) := by rfl) :
    PE X (.Call (.Attribute (.Name "Scene" p) "of" apos) (e :: es) [] pos) (ClX.tCMeth C (fun vs H Q E => spOf C (vs ++ []) H Q E) E0 (tC (.ref C)) t) := by
  obtain ⟨mc, q, g, fd, h1, h2, h3, h4⟩ := M.ex
  exact ClX.pe_cmeth (pe_glob hg hm rfl) h1 h2 (h3.raw h4 .nil) hr pass0 ha hst hpl ht
end B30_

/-! ## CG -/
set_option Elab.async false
set_option linter.all false
set_option maxRecDepth 100000
set_option maxHeartbeats 4000000
namespace K1
open PySem PySem.Spec PyProof.Rows L2
/-! ### defs that are called where nothing is being written out: A.guards = some [] -/
structure FnOkG (P : Program) (w : World) (K : PySem.W.Frag) (mg : Str → Option Value) (base : Heap) (k : Nat) (f : Addr) (fd : FuncData) (ps : List Str) (sp : Sp) : Prop where
  len : ∀ vs H Q E, sp vs H Q E → vs.length = ps.length
  run : ∀ (A : Around) (outer : List Env) (s : Shared) (H : Hp) (args : Args) (us : List Value) (vs : List V) (Q : VK), Room k A → A.guards = some [] → Env0 P w K mg base A outer s H → BindsTo s fd args (ps.zip us) → Vals vs us → sp vs H Q E0 →
    codeAny (model P w) A (.call (.ref f) args) (CR CX0 outer P w H s Q E0) s
theorem FnOkG.of {P : Program} {w : World} {K : PySem.W.Frag} {mg : Str → Option Value} {base : Heap} {k : Nat} {f : Addr} {fd : FuncData} {ps : List Str} {sp : Sp} (F : FnOk P w K mg base CX0 k f fd ps sp) : FnOkG P w K mg base k f fd ps sp :=
  ⟨F.len, fun A outer s H args us vs Q hr _ => F.run A outer s H args us vs Q E0 hr⟩
section
variable {P : Program} {w : World} {K : PySem.W.Frag} {mg : Str → Option Value} {base : Heap}
/-- a def's promise by its body, where nothing is being written out -/
theorem fn_ofG {k : Nat} {x qual : Str} {st : Stmt} {f : Addr} {fd : FuncData} {N ps : List Str} {sp : Sp} (F : Fun K x qual st f fd) (S : FnScope N ps (defScope st)) (len : ∀ vs H Q E, sp vs H Q E → vs.length = ps.length)
    (body : ∀ (cdv : Value) (A : Around) (outer : List Env) (s : Shared) (H : Hp) (vs : List V) (Q : VK), Room k (A.deeper (envOfC qual (defScope st) s.heap.objs.size f cdv)) → (A.deeper (envOfC qual (defScope st) s.heap.objs.size f cdv)).guards = some [] → sp vs H Q E0 →
      ∃ t, PSs (cxOf CX0 P w K mg base N qual (defScope st) f cdv A outer s H E0).nox (defBody st) t ∧ t { nx := fun _ H' => Q .non H', rt := Q } (L2.start N vs) H) : FnOkG P w K mg base (k + 1) f fd ps sp := by
  obtain ⟨oc, od, kV, doc, pm, an, cdv, ct, osl, rfl, lk, hcd⟩ := F.ex
  refine ⟨len, fun A outer s H args us vs Q hr hg e0 hb r hsp => LamX.run_ofS lk hcd S hr e0 hb r (len _ _ _ _ hsp) fun hr' => ?_⟩
  obtain ⟨t, h1, h2⟩ := body cdv A outer s H vs Q hr' hg hsp
  exact ⟨t, h1.nox, h2⟩
end
structure CalleeG (P : Program) (w : World) (K : PySem.W.Frag) (mg : Str → Option Value) (base : Heap) (k : Nat) (x : Str) (ps : List Str) (sp : Sp) : Prop where
  ex : ∃ f fd, mg x = some (.ref f) ∧ PySem.W.keepIn K (.ref f) = true ∧ FnOkG P w K mg base k f fd ps sp ∧ Binds K fd ps []
section
variable {X : Cx}
/-- its call -/
theorem pe_useG {k : Nat} {x : Str} {ps : List Str} {sp : Sp} {e : Expr} {es : List Expr} {t : TA} {p pos : Pos} (C : CalleeG X.prog X.w X.K X.mg X.base k x ps sp) (room : Room k X.A) (quiet : X.A.guards = some []) (hg : Gl X x) (ha : PA X (e :: es) t)
    (hd : (x == ("__debug__" : Str)) = false := by decide) (hst : starEach (e :: es) X.env = (false, eval e X.env) :: starEach es X.env := by rfl) (hpl : (backTo pos (starEach es X.env)).any (·.1) = false := by rfl) :
    PE X (.Call (.Name x p) (e :: es) [] pos) (tCall sp [] E0 t) := by
  obtain ⟨f, fd, gl, kept, F, bind⟩ := C.ex
  constructor
  intro pins s σ H Q I h
  have step : ∀ us s1, AP X pins σ (fun vs H1 => sp (vs ++ []) H1 Q E0) us s1 → X.K.In s1.heap ∧ wpAny (model X.prog X.w) X.A (call (.ref f) us) (EP X pins σ Q) X.xe s1 := by
    rintro us s1 ⟨vs, H1, J, r, q⟩
    rw [List.append_nil] at q
    have n : us.length = ps.length := r.length ▸ F.len _ _ _ _ q
    have b := bind s1 us J.kIn (by rw [List.append_nil]; exact n)
    rw [List.append_nil] at b
    refine ⟨J.kIn, wpAny_call (codeAny_mono (F.run X.A X.stack s1 H1 ⟨us, []⟩ us vs Q room quiet J.env0 b r q) fun z s2 done => ?_)⟩
    match z, done with
    | .ok (.ret u), d => exact J.after d
  exact wpAny_Call_Name_kw (ld_glob I hg gl (PySem.W.callWith_K (h₀ := X.base) I.ok.mod.kin kept (thn (ha.run pos pins s σ H _ I h) step) hst hpl) hd)
/-- repr of data -/
theorem call_reprD (quiet : X.A.guards = some []) (hu : X.A.units + 100 < cLine) : CallR X (.builtin "repr") (fun xs H Q => ∃ (x : V) (d : PyData), xs = [x] ∧ Dp X.K H x d ∧ d.showable = true ∧ d.hasDict = false ∧ d.depth ≤ 64 ∧ d.shown.length ≤ sizeLine ∧
    ((∃ a, x = .ref a) ∨ (∃ b, x = .bl b) ∨ x = .non) ∧ Q (.str d.shown) H) := by
  intro pins s σ H xs us Q I r h
  obtain ⟨x, d, rfl, dp, hs, hnd, hdep, hsz, hk, q⟩ := h
  obtain ⟨u, rfl, ru⟩ := vals1 r
  rcases hk with ⟨a, rfl⟩ | ⟨b, rfl⟩ | rfl
  · obtain ⟨as, rd⟩ := Dp.reads I d _ u dp ru
    cases ru
    refine repr_of_reads' rd hs (PyData.noDict_hsm hnd) quiet (by omega) (fun _ _ e => e) (fun h' v tk hk => ?_) hsz
    exact ⟨.str d.shown, H, I.kept (t' := tk) hk, ⟨v, rfl⟩, q⟩
  · cases dp
    cases ru
    exact PySem.P.repr_of_bool ⟨.str _, H, I.tok _, ⟨_, rfl⟩, q⟩
  · cases dp
    cases ru
    exact PySem.P.repr_of_none ⟨.str _, H, I.tok _, ⟨_, rfl⟩, q⟩
end
end K1

/-! ## C19 -/
set_option Elab.async false
set_option linter.all false
set_option maxRecDepth 100000
set_option maxHeartbeats 4000000
namespace K1
open PySem PySem.Spec PyProof.Rows L2
/-- the letters of a text, each a text -/
def ltrs (x : Str) : List Str := x.cps.toList.map fun c => ⟨#[c]⟩
/-- list(text) -/
theorem call_listStr {X : Cx} (hc : X.calm = true) : CallR X (.type "list") (fun xs H Q => ∃ x : Str, xs = [.str x] ∧ x.cps.size ≤ sizeLine ∧ ∀ p, H p = none → Q (.ref p) (upd H p (.lst ((ltrs x).map V.str)))) := by
  intro pins s σ H xs us Q I rv h
  obtain ⟨x, rfl, hz, q⟩ := h
  obtain ⟨u, rfl, r⟩ := vals1 rv
  obtain ⟨t, rfl⟩ := r
  refine call_list_str (I.ok.hd hc) x t (hn := hz) fun h' tk acc c' hk e hi => ?_
  refine ⟨.ref s.heap.objs.size, upd H s.heap.objs.size (.lst ((ltrs x).map V.str)), I.laid hk (Nat.le_refl _) ⟨by simpa [ltrs] using hz, acc.toList, c', ?_, by rw [Array.toArray_toList]; exact e⟩, rfl, q _ (I.hok.fresh (Nat.le_refl _))⟩
  refine vals_of_idx _ _ (by simpa [ltrs] using hi.1) fun j u hj => ?_
  obtain ⟨c, t', hc, rfl⟩ := hi.2 j u (by rw [← Array.getElem?_toList]; exact hj)
  exact ⟨.str ⟨#[c]⟩, by simp [ltrs, hc], ⟨_, rfl⟩⟩
end K1

/-! ## C20 -/
set_option Elab.async false
set_option linter.all false
set_option maxRecDepth 100000
set_option maxHeartbeats 4000000
namespace K1
open PySem PySem.Spec PyProof.Rows L2
theorem sql_same {K : PySem.W.Frag} {H H' : Hp} {a : Addr} {xs : List V} (h : SqL K H a xs) (s : Same H H') : SqL K H' a xs := by
  rcases h with (h | ⟨o, h⟩) | h
  · exact .inl (.inl (s _ _ h))
  · exact .inl (.inr ⟨o, s _ _ h⟩)
  · exact .inr h
theorem sqt_same {K : PySem.W.Frag} {H H' : Hp} {a : Addr} {xs : List V} (h : SqT K H a xs) (s : Same H H') : SqT K H' a xs := by
  rcases h with (h | ⟨o, h⟩) | h
  · exact .inl (.inl (s _ _ h))
  · exact .inl (.inr ⟨o, s _ _ h⟩)
  · exact .inr h
mutual
theorem dp_same {K : PySem.W.Frag} {H H' : Hp} (s : Same H H') : ∀ (d : PyData) (v : V), Dp K H v d → Dp K H' v d
  | .list ds, _, h => by
    cases h with
    | lst a b => exact .lst (sql_same a s) (dpa_same s ds _ b)
  | .tuple ds, _, h => by
    cases h with
    | tup a b => exact .tup (sqt_same a s) (dpa_same s ds _ b)
  | .none, _, h => by cases h; exact .non
  | .bool _, _, h => by cases h; exact .bl _
  | .int _, _, h => by cases h; exact .int _
  | .str _, _, h => by cases h; exact .str _
  | .dict _, _, h => by cases h
theorem dpa_same {K : PySem.W.Frag} {H H' : Hp} (s : Same H H') : ∀ (ds : List PyData) (vs : List V), DpAll K H vs ds → DpAll K H' vs ds
  | [], _, h => by cases h; exact .nil
  | d :: r, _, h => by
    cases h with
    | cons a b => exact .cons (dp_same s d _ a) (dpa_same s r _ b)
end
/-! ### a written value: its reading lays it -/
mutual
inductive WR : TE → PyData → Prop
  | str (x : Str) : WR (tC (.str x)) (.str x)
  | int (i : Int) : WR (tC (.int i)) (.int i)
  | bl (b : Bool) : WR (tC (.bl b)) (.bool b)
  | non : WR (tC .non) .none
  | tup {t : TA} {ds : List PyData} : WRs t ds → ds.length ≤ 100 → WR (tTup t) (.tuple ds)
  | lst {t : TA} {ds : List PyData} : WRs t ds → ds.length ≤ 100 → WR (tLst t) (.list ds)
inductive WRs : TA → List PyData → Prop
  | nil : WRs tNil []
  | cons {te : TE} {t : TA} {d : PyData} {ds : List PyData} : WR te d → WRs t ds → WRs (tCons te t) (d :: ds)
end
theorem dpa_len {K : PySem.W.Frag} {H : Hp} : ∀ {xs : List V} {ds : List PyData}, DpAll K H xs ds → xs.length = ds.length
  | _, _, .nil => rfl
  | _, _, .cons _ h => by rw [List.length_cons, List.length_cons, dpa_len h]
mutual
theorem WR.read {K : PySem.W.Frag} {σ : L2.St} : ∀ {te : TE} {d : PyData}, WR te d → ∀ {H : Hp} {Q : VK}, (∀ v H', Same H H' → Dp K H' v d → Q v H') → te σ H Q
  | _, _, .str x, H, Q, h => h _ H (Same.refl H) (.str x)
  | _, _, .int x, H, Q, h => h _ H (Same.refl H) (.int x)
  | _, _, .bl x, H, Q, h => h _ H (Same.refl H) (.bl x)
  | _, _, .non, H, Q, h => h _ H (Same.refl H) .non
  | _, _, .tup (ds := ds) r l, H, Q, h => by
    refine WRs.read (K := K) r fun xs H1 s1 dp => ⟨?_, fun p hp => ?_⟩
    · rw [dpa_len dp, sizeLine_eq]; omega
    · have s2 : Same H1 (upd H1 p (.tup xs)) := fun b u e => by rw [upd_ne (ne_of_none e hp)]; exact e
      exact h _ _ (fun b u e => s2 _ _ (s1 _ _ e)) (.tup (SqT.of upd_same) (dpa_same s2 _ _ dp))
  | _, _, .lst (ds := ds) r l, H, Q, h => by
    refine WRs.read (K := K) r fun xs H1 s1 dp => ⟨?_, fun p hp => ?_⟩
    · rw [dpa_len dp, sizeLine_eq]; omega
    · have s2 : Same H1 (upd H1 p (.lst xs)) := fun b u e => by rw [upd_ne (ne_of_none e hp)]; exact e
      exact h _ _ (fun b u e => s2 _ _ (s1 _ _ e)) (.lst (SqL.of upd_same) (dpa_same s2 _ _ dp))
theorem WRs.read {K : PySem.W.Frag} {σ : L2.St} : ∀ {t : TA} {ds : List PyData}, WRs t ds → ∀ {H : Hp} {Q : List V → Hp → Prop}, (∀ xs H', Same H H' → DpAll K H' xs ds → Q xs H') → t σ H Q
  | _, _, .nil, H, Q, h => h [] H (Same.refl H) .nil
  | _, _, .cons (d := d) a b, H, Q, h => WR.read (K := K) a fun v H1 s1 dv => WRs.read (K := K) b fun xs H2 s2 dx => h (v :: xs) H2 (fun b u e => s2 _ _ (s1 _ _ e)) (.cons (dp_same s2 _ _ dv) dx)
end
end K1

/-! ## B30_30a -/
set_option Elab.async false
set_option linter.all false
set_option maxRecDepth 100000
set_option maxHeartbeats 16000000
namespace B30_
open PySem PySem.Spec PyProof.Rows L2
/-! ### written scenes -/
def insT (l : Str) : List Str → List Str
  | [] => [l]
  | a :: r => if leT l a = true then l :: a :: r else a :: insT l r
def srtI : List Str → List Str
  | [] => []
  | l :: r => insT l (srtI r)
theorem insT_perm (l : Str) : ∀ r : List Str, (insT l r).Perm (l :: r)
  | [] => .refl _
  | a :: r => by
    unfold insT
    split
    · exact .refl _
    · exact ((insT_perm l r).cons a).trans (.swap l a r)
theorem srtI_perm : ∀ r : List Str, (srtI r).Perm r
  | [] => .refl _
  | l :: r => (insT_perm l (srtI r)).trans ((srtI_perm r).cons l)
theorem leT_refl (a : Str) : leT a a = true := by
  have := leT_total a a
  simpa using this
theorem leT_of_not {a b : Str} (h : ¬ leT a b = true) : leT b a = true := by
  have := leT_total a b
  rcases Bool.or_eq_true _ _ |>.mp this with q | q
  · exact absurd q h
  · exact q
theorem insT_pair (l : Str) : ∀ r : List Str, (r.Pairwise fun a b => leT a b = true) → (insT l r).Pairwise fun a b => leT a b = true
  | [], _ => List.pairwise_singleton _ _
  | a :: r, h => by
    unfold insT
    have h' := List.pairwise_cons.mp h
    split
    · rename_i q
      refine List.pairwise_cons.mpr ⟨fun b hb => ?_, h⟩
      rcases List.mem_cons.mp hb with rfl | hb
      · exact q
      · exact leT_trans _ _ _ q (h'.1 b hb)
    · rename_i q
      refine List.pairwise_cons.mpr ⟨fun b hb => ?_, insT_pair l r h'.2⟩
      rcases List.mem_cons.mp ((insT_perm l r).mem_iff.mp hb) with rfl | hb
      · exact leT_of_not q
      · exact h'.1 b hb
theorem srtI_pair : ∀ r : List Str, (srtI r).Pairwise fun a b => leT a b = true
  | [] => .nil
  | l :: r => insT_pair l _ (srtI_pair r)
theorem srtd_I (zs : List Str) : srtd zs = srtI zs :=
  List.Perm.eq_of_pairwise (le := fun a b => leT a b = true) (fun a b _ _ h1 h2 => leT_anti h1 h2) (srtd_pair zs) (srtI_pair zs) ((srtd_perm zs).trans (srtI_perm zs).symm)
def insL (l : Ln) : List Ln → List Ln
  | [] => [l]
  | a :: r => if leT l.t a.t = true then l :: a :: r else a :: insL l r
def ordI : List Ln → List Ln
  | [] => []
  | l :: r => insL l (ordI r)
theorem insL_perm (l : Ln) : ∀ r : List Ln, (insL l r).Perm (l :: r)
  | [] => .refl _
  | a :: r => by
    unfold insL
    split
    · exact .refl _
    · exact ((insL_perm l r).cons a).trans (.swap l a r)
theorem ordI_perm : ∀ r : List Ln, (ordI r).Perm r
  | [] => .refl _
  | l :: r => (insL_perm l (ordI r)).trans ((ordI_perm r).cons l)
theorem insL_pair (l : Ln) : ∀ r : List Ln, (r.Pairwise fun a b => leT a.t b.t = true) → (insL l r).Pairwise fun a b => leT a.t b.t = true
  | [], _ => List.pairwise_singleton _ _
  | a :: r, h => by
    unfold insL
    have h' := List.pairwise_cons.mp h
    split
    · rename_i q
      refine List.pairwise_cons.mpr ⟨fun b hb => ?_, h⟩
      rcases List.mem_cons.mp hb with rfl | hb
      · exact q
      · exact leT_trans _ _ _ q (h'.1 b hb)
    · rename_i q
      refine List.pairwise_cons.mpr ⟨fun b hb => ?_, insL_pair l r h'.2⟩
      rcases List.mem_cons.mp ((insL_perm l r).mem_iff.mp hb) with rfl | hb
      · exact leT_of_not q
      · exact h'.1 b hb
theorem ordI_pair : ∀ r : List Ln, (ordI r).Pairwise fun a b => leT a.t b.t = true
  | [] => .nil
  | l :: r => insL_pair l _ (ordI_pair r)
def Kd.srtI : Kd → Kd
  | .key ks => .key (B30_.srtI ks)
  | k => k
def Ln.srtI (l : Ln) : Ln := ⟨l.t, B30_.srtI l.cs, l.k.srtI⟩
theorem Ln.srt_I (l : Ln) : l.srt = l.srtI := by
  unfold Ln.srt Ln.srtI
  rw [srtd_I]
  congr 1
  cases l.k with
  | chg => rfl
  | fix => rfl
  | key ks => show Kd.key (srtd ks) = Kd.key (B30_.srtI ks); rw [srtd_I]
theorem ordL_I {ls : List Ln} (n : (ls.map (·.t)).Nodup) : ordL ls = ordI (ls.map Ln.srtI) := by
  refine (ordL_of n ?_ (ordI_pair _)).symm
  refine (ordI_perm _).trans ?_
  rw [show ls.map Ln.srtI = ls.map Ln.srt from List.map_congr_left fun l _ => (Ln.srt_I l).symm]
def lnB (l : Ln) : Bool := nameB l.t && l.cs.all nameB && decide l.cs.Nodup && decide (l.cs.length ≤ 4) && match l.k with
  | .key ks => ks.all nameB && decide ks.Nodup && ks.all fun z => decide (z ∈ l.cs)
  | _ => true
theorem lnB_ok {l : Ln} (h : lnB l = true) : l.Ok := by
  unfold lnB at h
  simp only [Bool.and_eq_true, decide_eq_true_eq, List.all_eq_true] at h
  obtain ⟨⟨⟨⟨h1, h2⟩, h3⟩, h4⟩, h5⟩ := h
  refine ⟨h1, h2, h3, h4, ?_⟩
  cases e : l.k with
  | chg => trivial
  | fix => trivial
  | key ks =>
    rw [e] at h5
    simp only [Bool.and_eq_true, decide_eq_true_eq, List.all_eq_true] at h5
    exact ⟨h5.1.1, h5.1.2, h5.2⟩
def lnsB (ls : List Ln) : Bool := ls.all lnB && decide (ls.map (·.t)).Nodup && decide (1 ≤ ls.length) && decide (ls.length ≤ 6) && decide ((dedupS (ls.flatMap (·.cs))).length ≤ 6)
theorem lnsB_ok {ls : List Ln} (h : lnsB ls = true) : LnsOk ls := by
  unfold lnsB at h
  simp only [Bool.and_eq_true, decide_eq_true_eq, List.all_eq_true] at h
  obtain ⟨⟨⟨⟨h1, h2⟩, h3⟩, h4⟩, h5⟩ := h
  exact ⟨fun l hl => lnB_ok (h1 l hl), h2, h3, h4, dedupS (ls.flatMap (·.cs)), h5, fun l hl z hz => mem_dedupS.mpr (List.mem_flatMap.mpr ⟨l, hl, hz⟩)⟩
/-! ### displays of dicts of tables, tuples of texts -/
def tws : List Str → TA
  | [] => tNil
  | x :: r => tCons (tC (.str x)) (tws r)
theorem tws_read {σ : L2.St} {H : Hp} : ∀ {cs : List Str} {Q : List V → Hp → Prop}, Q (cs.map V.str) H → tws cs σ H Q
  | [], _, h => h
  | _ :: r, Q, h => tws_read (cs := r) (Q := fun xs H2 => Q (_ :: xs) H2) h
def dprs (m : Told) : List (TE × TE) := m.map fun e => (tC (.str e.1), tTup (tws e.2))
theorem pairs_read {σ : L2.St} : ∀ {m : Told} {H : Hp} {Q : List (V × V) → Hp → Prop}, (∀ e ∈ m, e.2.length ≤ sizeLine) →
    (∀ (kvs : List (Key × V)) H', Same H H' → Paired (fun kv e => kv.1 = Sum.inr e.1 ∧ ColsOf H' kv.2 e) kvs m → Q (kvs.map fun kv => (kV kv.1, kv.2)) H') → tPairs (dprs m) σ H Q
  | [], H, Q, _, h => h [] H (Same.refl H) .nil
  | e :: r, H, Q, few, h => by
    refine tws_read ⟨by rw [List.length_map]; exact few e List.mem_cons_self, fun p hp => ?_⟩
    refine pairs_read (m := r) (fun x hx => few x (List.mem_cons_of_mem _ hx)) fun kvs H' s pr => ?_
    exact h ((Sum.inr e.1, .ref p) :: kvs) H' ((Same.new (Same.refl H) hp).trans s) (.cons ⟨rfl, p, rfl, s _ _ upd_same⟩ pr)
theorem disp_read {m : Told} {σ : L2.St} {H : Hp} {Q : VK} (few : ∀ e ∈ m, e.2.length ≤ sizeLine) (n : (m.map (·.1)).Nodup) (l15 : m.length ≤ 15)
    (h : ∀ p H', H p = none → Same H H' → TupD H' p m → Q (.ref p) H') : tDisp (dprs m) σ H Q := by
  refine fun p hp => pairs_read few fun kvs H' s pr => ?_
  have e := s _ _ upd_same
  have ln := pr.length
  have nk : (kvs.map (·.1)).Nodup := by
    rw [keysOf pr]
    exact List.pairwise_map.mpr (n.imp fun h q => h (Sum.inr.inj q))
  refine ⟨e, kvs, rfl, by omega, ?_⟩
  rw [merge_nodup nk]
  have s2 : Same H (upd H' p (.dK kvs)) := fun b o q => by
    have ne : b ≠ p := ne_of_none q hp
    rw [upd_ne ne]
    exact s _ _ (by rw [upd_ne ne]; exact q)
  refine h p _ hp s2 ⟨kvs, upd_same, Paired.mapP pr fun kv e' q => ⟨q.1, ?_⟩⟩
  obtain ⟨c, ec, hc⟩ := q.2
  exact ⟨c, ec, by rw [upd_ne (fun z => by subst z; rw [e] at hc; cases hc)]; exact hc⟩
def toldB (mv st gv : Told) : Bool := lnsB (lnsOf mv st gv) && gv.all fun e => decide (e.1 ∈ st.map (·.1))
theorem toldB_ok {mv st gv : Told} (h : toldB mv st gv = true) : ToldOk mv st gv := by
  unfold toldB at h
  simp only [Bool.and_eq_true, List.all_eq_true, decide_eq_true_eq] at h
  exact ⟨lnsB_ok h.1, h.2⟩
theorem told_ord {mv st gv : Told} (h : toldB mv st gv = true) : ordL (lnsOf mv st gv) = ordI ((lnsOf mv st gv).map Ln.srtI) := ordL_I (toldB_ok h).ok.nd
theorem colsOf_I (Ls : List Ln) : colsOf Ls = srtI (dedupS (Ls.flatMap (·.cs))) := srtd_I _
theorem iteFk {b : Bool} {p q : Prop} (e : b = false) (h : q) : if b = true then p else q := by subst e; exact h
theorem iteTk {b : Bool} {p q : Prop} (e : b = true) (h : p) : if b = true then p else q := by subst e; exact h
end B30_

/-! ## B30_40 -/
set_option Elab.async false
set_option linter.all false
set_option maxRecDepth 100000
set_option maxHeartbeats 4000000
namespace B30_
open PySem PySem.Spec PyProof.Rows L2
/-- what may change: no tuple, no instance -/
def Mo (o : HO) : Prop := (∀ xs, o ≠ .tup xs) ∧ ∀ C dx fs, o ≠ .ins C dx fs
theorem mo_lst (xs : List V) : Mo (.lst xs) := ⟨fun _ z => (by cases z), fun _ _ _ z => (by cases z)⟩
theorem mo_dK (xs : List (Key × V)) : Mo (.dK xs) := ⟨fun _ z => (by cases z), fun _ _ _ z => (by cases z)⟩
def Fm (F : Addr → Prop) (H : Hp) : Prop := ∀ p, F p → ∃ o, H p = some o ∧ Mo o
/-- all is kept but what lies in A -/
def Kp (A : Addr → Prop) (H H' : Hp) : Prop := ∀ b o, ¬ A b → H b = some o → H' b = some o
abbrev Nil : Addr → Prop := fun _ => False
theorem mo_set (P : Program) (w : World) (a : Addr) (zs : List Str) : Mo (K1.SetS P w a zs) := ⟨fun _ z => (by cases z), fun _ _ _ z => (by cases z)⟩
/-- a value of any other kind, by what is known of it in a heap -/
structure Abs where
  rel : (Addr → Prop) → Hp → V → Prop
  ref : ∀ {F : Addr → Prop} {H : Hp} {v : V}, rel F H v → ∃ p, v = .ref p
  kpG : ∀ {F G : Addr → Prop} {H H' : Hp} {v : V}, Fm F H → Kp F H H' → (∀ p, F p → G p) → rel G H v → rel G H' v
  mono : ∀ {F G : Addr → Prop} {H : Hp} {v : V}, (∀ p, G p → F p) → rel F H v → rel G H v
  grow : ∀ {F G : Addr → Prop} {H : Hp} {v : V}, (∀ p, G p → F p ∨ H p = none) → rel F H v → rel G H v
/-! ### values as data -/
inductive Ob where
  | non | bl (b : Bool) | int (i : Int) | str (x : Str)
  | tup (os : List Ob) | lst (os : List Ob)
  | pln (Ls : List Ln) | scn (Ls : List Ln)
  | own (p : Addr)
  | ks (ks : List Str)
  | ab (A : Abs)
abbrev Ob.txs (cs : List Str) : Ob := .tup (cs.map .str)
abbrev Ob.lxs (cs : List Str) : Ob := .lst (cs.map .str)
def ScN (C : Addr) (F : Addr → Prop) (H : Hp) (x : Addr) (Ls : List Ln) : Prop := ∃ dx pl pt pc pg pf dc dk, H x = some (.ins C dx (flds pl pt pc pg pf dc dk)) ∧ SceneIs H Ls pl pt pc pg pf dc dk ∧ ¬ F dc ∧ ¬ F dk
mutual
inductive VR (C : Addr) (F : Addr → Prop) (H : Hp) : V → Ob → Prop
  | non : VR C F H .non .non
  | bl (b : Bool) : VR C F H (.bl b) (.bl b)
  | int (i : Int) : VR C F H (.int i) (.int i)
  | str (x : Str) : VR C F H (.str x) (.str x)
  | tup {p : Addr} {xs : List V} {os : List Ob} : H p = some (.tup xs) → VRs C F H xs os → VR C F H (.ref p) (.tup os)
  | lst {p : Addr} {xs : List V} {os : List Ob} : ¬ F p → H p = some (.lst xs) → VRs C F H xs os → VR C F H (.ref p) (.lst os)
  | pln {q : Addr} {Ls : List Ln} : ¬ F q → PlainAt H q Ls → VR C F H (.ref q) (.pln Ls)
  | scn {x : Addr} {Ls : List Ln} : ScN C F H x Ls → VR C F H (.ref x) (.scn Ls)
  | own (p : Addr) : VR C F H (.ref p) (.own p)
  | ks {p : Addr} {kvs : List (Key × V)} {ks : List Str} : ¬ F p → H p = some (.dK kvs) → kvs.map (·.1) = ks.map Sum.inr → VR C F H (.ref p) (.ks ks)
  | ab {v : V} {A : Abs} : A.rel F H v → VR C F H v (.ab A)
inductive VRs (C : Addr) (F : Addr → Prop) (H : Hp) : List V → List Ob → Prop
  | nil : VRs C F H [] []
  | cons {v : V} {vs : List V} {o : Ob} {os : List Ob} : VR C F H v o → VRs C F H vs os → VRs C F H (v :: vs) (o :: os)
end
theorem Kp.refl (A : Addr → Prop) (H : Hp) : Kp A H H := fun _ _ _ h => h
theorem Kp.trans {A : Addr → Prop} {H H1 H2 : Hp} (a : Kp A H H1) (b : Kp A H1 H2) : Kp A H H2 := fun c o n h => b c o n (a c o n h)
theorem Kp.mono {A B : Addr → Prop} {H H' : Hp} (s : Kp A H H') (h : ∀ p, A p → B p) : Kp B H H' := fun b o n e => s b o (fun z => n (h b z)) e
theorem Kp.same {A : Addr → Prop} {H H' : Hp} (s : Same H H') : Kp A H H' := fun b o _ e => s b o e
theorem Kp.toSame {H H' : Hp} (s : Kp Nil H H') : Same H H' := fun b o e => s b o (fun z => z) e
theorem Fm.same {F : Addr → Prop} {H H' : Hp} (h : Fm F H) (s : Same H H') : Fm F H' := fun p hp => (h p hp).imp fun o e => ⟨s _ _ e.1, e.2⟩
theorem Fm.fresh {F : Addr → Prop} {H : Hp} (h : Fm F H) {p : Addr} (e : H p = none) : ¬ F p := fun z => by
  obtain ⟨o, q, _⟩ := h p z
  rw [e] at q; cases q
theorem Fm.tup {F : Addr → Prop} {H : Hp} (h : Fm F H) {p : Addr} {xs : List V} (e : H p = some (.tup xs)) : ¬ F p := fun z => by
  obtain ⟨o, q, m, _⟩ := h p z
  rw [e] at q; cases q; exact m _ rfl
theorem Fm.ins {F : Addr → Prop} {H : Hp} (h : Fm F H) {p C dx : Addr} {fs : List (Str × V)} (e : H p = some (.ins C dx fs)) : ¬ F p := fun z => by
  obtain ⟨o, q, _, m⟩ := h p z
  rw [e] at q; cases q; exact m _ _ _ rfl
section
variable {C : Addr} {F G : Addr → Prop} {H H' : Hp}
theorem KdAt.kp (fm : Fm F H) (s : Kp F H H') {v : V} {k : Kd} (h : KdAt H v k) : KdAt H' v k := by
  cases k with
  | chg => exact h
  | fix => exact h
  | key ks => exact h.imp fun q e => ⟨e.1, s _ _ (fm.tup e.2) e.2⟩
theorem PlAt.kp (fm : Fm F H) (s : Kp F H H') {v : V} {l : Ln} (h : PlAt H v l) : PlAt H' v l := by
  obtain ⟨p, c, kv, rfl, e1, e2, e3⟩ := h
  exact ⟨p, c, kv, rfl, s _ _ (fm.tup e1) e1, s _ _ (fm.tup e2) e2, KdAt.kp fm s e3⟩
theorem PlainAt.kp (fm : Fm F H) (s : Kp F H H') {q : Addr} {Ls : List Ln} (n : ¬ F q) (h : PlainAt H q Ls) : PlainAt H' q Ls := h.imp fun kvs z => ⟨s _ _ n z.1, Paired.mapP z.2 fun kv l r => ⟨r.1, PlAt.kp fm s r.2⟩⟩
theorem LnAt.kp (fm : Fm F H) (s : Kp F H H') {v : V} {l : Ln} (h : LnAt H v l) : LnAt H' v l := by
  obtain ⟨p, c, kv, rfl, e1, e2, e3⟩ := h
  exact ⟨p, c, kv, rfl, s _ _ (fm.tup e1) e1, s _ _ (fm.tup e2) e2, KdAt.kp fm s e3⟩
theorem ScN.kp (fm : Fm F H) (s : Kp F H H') (sub : ∀ p, F p → G p) {x : Addr} {Ls : List Ln} (h : ScN C G H x Ls) : ScN C G H' x Ls := by
  obtain ⟨dx, pl, pt, pc, pg, pf, dc, dk, h1, h2, n1, n2⟩ := h
  refine ⟨dx, pl, pt, pc, pg, pf, dc, dk, s _ _ (fm.ins h1) h1, ?_, n1, n2⟩
  exact ⟨h2.lines.imp fun rs q => ⟨s _ _ (fm.tup q.1) q.1, Paired.mapP q.2 fun v l r => LnAt.kp fm s r⟩, s _ _ (fm.tup h2.tabs) h2.tabs, s _ _ (fm.tup h2.cols) h2.cols, s _ _ (fm.tup h2.chg) h2.chg, s _ _ (fm.tup h2.fix) h2.fix,
    h2.cby.imp fun kvs q => ⟨s _ _ (fun z => n1 (sub _ z)) q.1, Paired.mapP q.2 fun kv l r => ⟨r.1, r.2.imp fun c e => ⟨e.1, s _ _ (fm.tup e.2) e.2⟩⟩⟩,
    h2.kby.imp fun kvs q => ⟨s _ _ (fun z => n2 (sub _ z)) q.1, Paired.mapP q.2 fun kv l r => ⟨r.1, KdAt.kp fm s r.2⟩⟩⟩
mutual
theorem VR.kpG (fm : Fm F H) (s : Kp F H H') (sub : ∀ p, F p → G p) : ∀ {v : V} {o : Ob}, VR C G H v o → VR C G H' v o
  | _, _, .non => .non
  | _, _, .bl b => .bl b
  | _, _, .int b => .int b
  | _, _, .str b => .str b
  | _, _, .tup e r => .tup (s _ _ (fm.tup e) e) (VRs.kpG fm s sub r)
  | _, _, .lst n e r => .lst n (s _ _ (fun z => n (sub _ z)) e) (VRs.kpG fm s sub r)
  | _, _, .pln n e => .pln n (PlainAt.kp fm s (fun z => n (sub _ z)) e)
  | _, _, .scn e => .scn (ScN.kp fm s sub e)
  | _, _, .own p => .own p
  | _, _, .ks n e r => .ks n (s _ _ (fun z => n (sub _ z)) e) r
  | _, _, @VR.ab _ _ _ _ A e => .ab (A.kpG fm s sub e)
theorem VRs.kpG (fm : Fm F H) (s : Kp F H H') (sub : ∀ p, F p → G p) : ∀ {vs : List V} {os : List Ob}, VRs C G H vs os → VRs C G H' vs os
  | _, _, .nil => .nil
  | _, _, .cons a b => .cons (VR.kpG fm s sub a) (VRs.kpG fm s sub b)
end
theorem VR.kp (fm : Fm F H) (s : Kp F H H') {v : V} {o : Ob} (h : VR C F H v o) : VR C F H' v o := h.kpG fm s fun _ z => z
theorem VRs.kp (fm : Fm F H) (s : Kp F H H') {v : List V} {o : List Ob} (h : VRs C F H v o) : VRs C F H' v o := h.kpG fm s fun _ z => z
mutual
/-- fewer things that may change -/
theorem VR.mono (h : ∀ p, G p → F p) : ∀ {v : V} {o : Ob}, VR C F H v o → VR C G H v o
  | _, _, .non => .non
  | _, _, .bl b => .bl b
  | _, _, .int b => .int b
  | _, _, .str b => .str b
  | _, _, .tup e r => .tup e (VRs.mono h r)
  | _, _, .lst n e r => .lst (fun z => n (h _ z)) e (VRs.mono h r)
  | _, _, .pln n e => .pln (fun z => n (h _ z)) e
  | _, _, .scn ⟨dx, pl, pt, pc, pg, pf, dc, dk, h1, h2, n1, n2⟩ => .scn ⟨dx, pl, pt, pc, pg, pf, dc, dk, h1, h2, fun z => n1 (h _ z), fun z => n2 (h _ z)⟩
  | _, _, .own p => .own p
  | _, _, .ks n e r => .ks (fun z => n (h _ z)) e r
  | _, _, @VR.ab _ _ _ _ A e => .ab (A.mono h e)
theorem VRs.mono (h : ∀ p, G p → F p) : ∀ {vs : List V} {os : List Ob}, VRs C F H vs os → VRs C G H vs os
  | _, _, .nil => .nil
  | _, _, .cons a b => .cons (VR.mono h a) (VRs.mono h b)
end
mutual
/-- more that may change, none of it there before -/
theorem VR.grow (h : ∀ p, G p → F p ∨ H p = none) : ∀ {v : V} {o : Ob}, VR C F H v o → VR C G H v o
  | _, _, .non => .non
  | _, _, .bl b => .bl b
  | _, _, .int b => .int b
  | _, _, .str b => .str b
  | _, _, .tup e r => .tup e (VRs.grow h r)
  | _, _, .lst n e r => .lst (fun z => (h _ z).elim n fun q => by rw [e] at q; cases q) e (VRs.grow h r)
  | _, _, .pln n e => .pln (fun z => (h _ z).elim n fun q => by obtain ⟨kvs, e1, _⟩ := e; rw [e1] at q; cases q) e
  | _, _, .scn ⟨dx, pl, pt, pc, pg, pf, dc, dk, h1, h2, n1, n2⟩ => .scn ⟨dx, pl, pt, pc, pg, pf, dc, dk, h1, h2,
      (fun z => (h _ z).elim n1 fun q => (by obtain ⟨kvs, e1, _⟩ := h2.cby; rw [e1] at q; cases q)), (fun z => (h _ z).elim n2 fun q => (by obtain ⟨kvs, e1, _⟩ := h2.kby; rw [e1] at q; cases q))⟩
  | _, _, .own p => .own p
  | _, _, .ks n e r => .ks (fun z => (h _ z).elim n fun q => by rw [e] at q; cases q) e r
  | _, _, @VR.ab _ _ _ _ A e => .ab (A.grow h e)
theorem VRs.grow (h : ∀ p, G p → F p ∨ H p = none) : ∀ {vs : List V} {os : List Ob}, VRs C F H vs os → VRs C G H vs os
  | _, _, .nil => .nil
  | _, _, .cons a b => .cons (VR.grow h a) (VRs.grow h b)
end
theorem VR.same (fm : Fm F H) (s : Same H H') {v : V} {o : Ob} (h : VR C F H v o) : VR C F H' v o := h.kp fm (.same s)
theorem VRs.same (fm : Fm F H) (s : Same H H') {v : List V} {o : List Ob} (h : VRs C F H v o) : VRs C F H' v o := h.kp fm (.same s)
theorem VRs.length : ∀ {vs : List V} {os : List Ob}, VRs C F H vs os → vs.length = os.length
  | _, _, .nil => rfl
  | _, _, .cons _ b => by rw [List.length_cons, List.length_cons, b.length]
theorem VRs.get : ∀ {vs : List V} {os : List Ob} {i : Nat} {v : V}, VRs C F H vs os → vs[i]? = some v → ∃ o, os[i]? = some o ∧ VR C F H v o
  | _, _, _, _, .nil, e => by simp at e
  | _, _, 0, _, .cons a _, e => by simp at e; subst e; exact ⟨_, rfl, a⟩
  | _, _, i + 1, _, .cons _ b, e => by
    obtain ⟨o, h1, h2⟩ := VRs.get (i := i) b (by simpa using e)
    exact ⟨o, by simpa using h1, h2⟩
theorem VRs.at : ∀ {vs : List V} {os : List Ob} {i : Nat} {o : Ob}, VRs C F H vs os → os[i]? = some o → ∃ v, vs[i]? = some v ∧ VR C F H v o
  | _, _, _, _, .nil, e => by simp at e
  | _, _, 0, _, .cons a _, e => by simp at e; subst e; exact ⟨_, rfl, a⟩
  | _, _, i + 1, _, .cons _ b, e => by
    obtain ⟨o, h1, h2⟩ := VRs.at (i := i) b (by simpa using e)
    exact ⟨o, by simpa using h1, h2⟩
theorem VRs.app : ∀ {vs ws : List V} {os us : List Ob}, VRs C F H vs os → VRs C F H ws us → VRs C F H (vs ++ ws) (os ++ us)
  | _, _, _, _, .nil, h => h
  | _, _, _, _, .cons a b, h => .cons a (b.app h)
theorem VRs.strs : ∀ {vs : List V} {cs : List Str}, VRs C F H vs (cs.map .str) → vs = cs.map V.str
  | [], [], .nil => rfl
  | _ :: _, _ :: _, .cons (.str _) b => by rw [b.strs]; rfl
theorem vrs_strs : ∀ cs : List Str, VRs C F H (cs.map V.str) (cs.map .str)
  | [] => .nil
  | _ :: r => .cons (.str _) (vrs_strs r)
theorem VR.txs {v : V} {cs : List Str} (h : VR C F H v (.txs cs)) : ∃ p, v = .ref p ∧ H p = some (.tup (cs.map V.str)) := by
  cases h with
  | tup e r => exact ⟨_, rfl, by rw [e, r.strs]⟩
theorem VR.lxs {v : V} {cs : List Str} (h : VR C F H v (.lxs cs)) : ∃ p, v = .ref p ∧ ¬ F p ∧ H p = some (.lst (cs.map V.str)) := by
  cases h with
  | lst n e r => exact ⟨_, rfl, n, by rw [e, r.strs]⟩
theorem vr_txs {p : Addr} {cs : List Str} (h : H p = some (.tup (cs.map V.str))) : VR C F H (.ref p) (.txs cs) := .tup h (vrs_strs cs)
theorem vr_lxs {p : Addr} {cs : List Str} (n : ¬ F p) (h : H p = some (.lst (cs.map V.str))) : VR C F H (.ref p) (.lxs cs) := .lst n h (vrs_strs cs)
end
/-! ### data for == -/
mutual
def Ob.pd : Ob → PyData
  | .non => .none
  | .bl b => .bool b
  | .int i => .int i
  | .str x => .str x
  | .tup os => .tuple (pds os)
  | .lst os => .list (pds os)
  | .pln _ => .none
  | .scn _ => .none
  | .own _ => .none
  | .ks _ => .none
  | .ab _ => .none
def pds : List Ob → List PyData
  | [] => []
  | o :: r => o.pd :: pds r
end
mutual
def Ob.isD : Ob → Bool
  | .tup os => areD os
  | .lst os => areD os
  | .pln _ => false
  | .scn _ => false
  | .own _ => false
  | .ks _ => false
  | .ab _ => false
  | _ => true
def areD : List Ob → Bool
  | [] => true
  | o :: r => o.isD && areD r
end
mutual
theorem VR.dp {C : Addr} {F : Addr → Prop} {K : PySem.W.Frag} {H : Hp} : ∀ {v : V} {o : Ob}, VR C F H v o → o.isD = true → Dp K H v o.pd
  | _, _, .non, _ => .non
  | _, _, .bl b, _ => .bl b
  | _, _, .int b, _ => .int b
  | _, _, .str b, _ => .str b
  | _, _, .tup e r, h => .tup (SqT.of e) (VRs.dp r h)
  | _, _, .lst n e r, h => .lst (SqL.of e) (VRs.dp r h)
  | _, _, .pln _ _, h => by simp [Ob.isD] at h
  | _, _, .scn _, h => by simp [Ob.isD] at h
  | _, _, .own _, h => by simp [Ob.isD] at h
  | _, _, .ks _ _ _, h => by simp [Ob.isD] at h
  | _, _, .ab _, h => by simp [Ob.isD] at h
theorem VRs.dp {C : Addr} {F : Addr → Prop} {K : PySem.W.Frag} {H : Hp} : ∀ {vs : List V} {os : List Ob}, VRs C F H vs os → areD os = true → DpAll K H vs (pds os)
  | _, _, .nil, _ => .nil
  | _, _, .cons a b, h => by
    simp only [areD, Bool.and_eq_true] at h
    exact .cons (VR.dp a h.1) (VRs.dp b h.2)
end
theorem pds_strs (cs : List Str) : pds (cs.map .str) = cs.map .str := by
  induction cs with
  | nil => rfl
  | cons c r ih => simp only [List.map_cons, pds, ih, Ob.pd]
theorem areD_strs (cs : List Str) : areD (cs.map .str) = true := by
  induction cs with
  | nil => rfl
  | cons c r ih => simp only [List.map_cons, areD, ih, Ob.isD]; rfl
end B30_

/-! ## B30_41 -/
set_option Elab.async false
set_option linter.all false
set_option maxRecDepth 100000
set_option maxHeartbeats 4000000
namespace B30_
open PySem PySem.Spec PyProof.Rows L2
/-! ### locals as data; readings -/
def EnvD (C : Addr) (F : Addr → Prop) (H : Hp) (σ : L2.St) (ρ : List (Option Ob)) : Prop := σ.length = ρ.length ∧ ∀ (i : Nat) (o : Ob), ρ[i]? = some (some o) → ∃ v, σ[i]? = some (some v) ∧ VR C F H v o
theorem EnvD.kp {C : Addr} {F : Addr → Prop} {H H' : Hp} {σ : L2.St} {ρ : List (Option Ob)} (h : EnvD C F H σ ρ) (fm : Fm F H) (s : Kp F H H') : EnvD C F H' σ ρ := ⟨h.1, fun i o e => (h.2 i o e).imp fun v q => ⟨q.1, q.2.kp fm s⟩⟩
theorem EnvD.same {C : Addr} {F : Addr → Prop} {H H' : Hp} {σ : L2.St} {ρ : List (Option Ob)} (h : EnvD C F H σ ρ) (fm : Fm F H) (s : Same H H') : EnvD C F H' σ ρ := h.kp fm (.same s)
theorem EnvD.set {C : Addr} {F : Addr → Prop} {H : Hp} {σ : L2.St} {ρ : List (Option Ob)} {v : V} {o : Ob} (h : EnvD C F H σ ρ) (i : Nat) (r : VR C F H v o) : EnvD C F H (σ.set i (some v)) (ρ.set i (some o)) := by
  refine ⟨by simp [h.1], fun j u e => ?_⟩
  rw [List.getElem?_set] at e
  by_cases q : i = j
  · subst q
    rw [if_pos rfl] at e
    split at e
    · rename_i l
      cases e
      exact ⟨v, by rw [List.getElem?_set, if_pos rfl, if_pos (h.1 ▸ l)], r⟩
    · cases e
  · rw [if_neg q] at e
    obtain ⟨w, h1, h2⟩ := h.2 j u e
    exact ⟨w, by rw [List.getElem?_set, if_neg q]; exact h1, h2⟩
/-- what is known of a place is forgotten -/
theorem EnvD.drop {C : Addr} {F : Addr → Prop} {H : Hp} {σ : L2.St} {ρ : List (Option Ob)} (h : EnvD C F H σ ρ) (i : Nat) : EnvD C F H σ (ρ.set i none) := by
  refine ⟨by simp [h.1], fun j u e => ?_⟩
  rw [List.getElem?_set] at e
  by_cases q : i = j
  · subst q
    rw [if_pos rfl] at e
    split at e <;> cases e
  · rw [if_neg q] at e
    exact h.2 j u e
/-- a place written, nothing known of it -/
theorem EnvD.put {C : Addr} {F : Addr → Prop} {H : Hp} {σ : L2.St} {ρ : List (Option Ob)} (h : EnvD C F H σ ρ) (i : Nat) (v : Option V) : EnvD C F H (σ.set i v) (ρ.set i none) := by
  refine ⟨by simp [h.1], fun j u e => ?_⟩
  rw [List.getElem?_set] at e
  by_cases q : i = j
  · subst q
    rw [if_pos rfl] at e
    split at e <;> cases e
  · rw [if_neg q] at e
    obtain ⟨w, h1, h2⟩ := h.2 j u e
    exact ⟨w, by rw [List.getElem?_set, if_neg q]; exact h1, h2⟩
def wipeR (ρ : List (Option Ob)) : List Nat → List (Option Ob)
  | [] => ρ
  | v :: vs => (wipeR ρ vs).set v none
theorem EnvD.wipe {C : Addr} {F : Addr → Prop} {H : Hp} {σ : L2.St} {ρ : List (Option Ob)} (h : EnvD C F H σ ρ) : ∀ vs : List Nat, EnvD C F H (wipe σ vs) (wipeR ρ vs)
  | [] => h
  | v :: vs => (h.wipe vs).put v none
def RD (C : Addr) (ρ : List (Option Ob)) (te : TE) (o : Ob) : Prop := ∀ (F : Addr → Prop) σ H Q, EnvD C F H σ ρ → Fm F H → (∀ v H', Same H H' → VR C F H' v o → Q v H') → te σ H Q
def RDs (C : Addr) (ρ : List (Option Ob)) (t : TA) (os : List Ob) : Prop := ∀ (F : Addr → Prop) σ H Q, EnvD C F H σ ρ → Fm F H → (∀ vs H', Same H H' → VRs C F H' vs os → Q vs H') → t σ H Q
def RT (C : Addr) (ρ : List (Option Ob)) (tt : TT) (b : Bool) : Prop := ∀ (F : Addr → Prop) σ H Q, EnvD C F H σ ρ → Fm F H → (∀ H', Same H H' → Q b H') → tt σ H Q
section
variable {C : Addr} {ρ : List (Option Ob)} {K : PySem.W.Frag} {te ta tb : TE} {t : TA} {tt tu : TT} {o : Ob} {os us : List Ob}
theorem RD.cast {o' : Ob} (h : RD C ρ te o) (e : o = o') : RD C ρ te o' := e ▸ h
theorem rd_var {i : Nat} (h : ρ[i]? = some (some o)) : RD C ρ (tVar i) o := fun F σ H Q e fm k => by
  obtain ⟨v, h1, h2⟩ := e.2 i o h
  exact ⟨v, h1, k v H (Same.refl H) h2⟩
theorem rd_str (x : Str) : RD C ρ (tC (.str x)) (.str x) := fun F σ H Q e fm k => k _ H (Same.refl H) (.str x)
theorem rd_int (x : Int) : RD C ρ (tC (.int x)) (.int x) := fun F σ H Q e fm k => k _ H (Same.refl H) (.int x)
theorem rd_bl (x : Bool) : RD C ρ (tC (.bl x)) (.bl x) := fun F σ H Q e fm k => k _ H (Same.refl H) (.bl x)
theorem rd_non : RD C ρ (tC .non) .non := fun F σ H Q e fm k => k _ H (Same.refl H) .non
theorem rds_nil : RDs C ρ tNil [] := fun F σ H Q e fm k => k [] H (Same.refl H) .nil
theorem rds_cons (a : RD C ρ te o) (b : RDs C ρ t os) : RDs C ρ (tCons te t) (o :: os) := fun F σ H Q e fm k => by
  refine a F σ H _ e fm fun v H1 s1 r1 => b F σ H1 _ (e.same fm s1) (fm.same s1) fun vs H2 s2 r2 => ?_
  exact k (v :: vs) H2 (s1.trans s2) (.cons (r1.same (fm.same s1) s2) r2)
theorem rds_one (a : RD C ρ te o) : RDs C ρ (tCons te tNil) [o] := rds_cons a rds_nil
theorem Same.add {H : Hp} {p : Addr} {u : HO} (h : H p = none) : Same H (upd H p u) := fun b o e => by rw [upd_ne (ne_of_none e h)]; exact e
theorem rd_tup (a : RDs C ρ t os) (few : os.length ≤ 1000) : RD C ρ (tTup t) (.tup os) := fun F σ H Q e fm k => by
  refine a F σ H _ e fm fun vs H1 s1 r1 => ⟨by rw [r1.length, sizeLine_eq]; omega, fun p hp => ?_⟩
  have s2 : Same H1 (upd H1 p (.tup vs)) := Same.add hp
  exact k _ _ (s1.trans s2) (.tup upd_same (r1.same (fm.same s1) s2))
theorem rd_lst (a : RDs C ρ t os) (few : os.length ≤ 1000) : RD C ρ (tLst t) (.lst os) := fun F σ H Q e fm k => by
  refine a F σ H _ e fm fun vs H1 s1 r1 => ⟨by rw [r1.length, sizeLine_eq]; omega, fun p hp => ?_⟩
  have s2 : Same H1 (upd H1 p (.lst vs)) := Same.add hp
  exact k _ _ (s1.trans s2) (.lst ((fm.same s1).fresh hp) upd_same (r1.same (fm.same s1) s2))
/-! tests -/
theorem rt_b (a : RD C ρ te (.bl b)) : RT C ρ (tB te) b := fun F σ H Q e fm k => a F σ H _ e fm fun v H1 s1 r1 => by
  cases r1; exact ⟨b, rfl, k H1 s1⟩
theorem rt_test (a : RD C ρ te (.bl b)) : RT C ρ (tTest te) b := fun F σ H Q e fm k => a F σ H _ e fm fun v H1 s1 r1 => by
  cases r1; exact ⟨b, rfl, k H1 s1⟩
theorem rt_yes : RT C ρ tYes true := fun F σ H Q e fm k => k H (Same.refl H)
theorem rt_not {b : Bool} (a : RT C ρ tt b) : RT C ρ (tNot tt) (!b) := fun F σ H Q e fm k => a F σ H _ e fm fun H1 s1 => k H1 s1
theorem rt_and {b c : Bool} (x : RT C ρ tt b) (y : b = true → RT C ρ tu c) : RT C ρ (tAnd tt tu) (b && c) := fun F σ H Q e fm k => by
  refine x F σ H _ e fm fun H1 s1 => ?_
  cases b with
  | true => exact iteTk rfl (y rfl F σ H1 _ (e.same fm s1) (fm.same s1) fun H2 s2 => k H2 (s1.trans s2))
  | false => exact iteFk rfl (k H1 s1)
theorem rt_or {b c : Bool} (x : RT C ρ tt b) (y : b = false → RT C ρ tu c) : RT C ρ (tOr tt tu) (b || c) := fun F σ H Q e fm k => by
  refine x F σ H _ e fm fun H1 s1 => ?_
  cases b with
  | false => exact iteFk rfl (y rfl F σ H1 _ (e.same fm s1) (fm.same s1) fun H2 s2 => k H2 (s1.trans s2))
  | true => exact iteTk rfl (k H1 s1)
theorem rd_and {b c : Bool} (x : RD C ρ ta (.bl b)) (y : b = true → RD C ρ tb (.bl c)) : RD C ρ (tAndV ta tb) (.bl (b && c)) := fun F σ H Q e fm k => by
  refine x F σ H _ e fm fun v H1 s1 r1 => ?_
  cases r1
  refine ⟨b, rfl, ?_⟩
  cases b with
  | true => exact iteTk rfl (y rfl F σ H1 _ (e.same fm s1) (fm.same s1) fun v H2 s2 r2 => k v H2 (s1.trans s2) r2)
  | false => exact iteFk rfl (k _ H1 s1 (.bl false))
theorem rd_not {b : Bool} (x : RD C ρ ta (.bl b)) : RD C ρ (tNotV ta) (.bl (!b)) := fun F σ H Q e fm k => by
  refine x F σ H _ e fm fun v H1 s1 r1 => ?_
  cases r1
  exact ⟨b, rfl, k _ H1 s1 (.bl _)⟩
theorem rd_ifx {b : Bool} (x : RT C ρ tt b) (y : b = true → RD C ρ ta o) (z : b = false → RD C ρ tb o) : RD C ρ (tIf tt ta tb) o := fun F σ H Q e fm k => by
  refine x F σ H _ e fm fun H1 s1 => ?_
  cases b with
  | true => exact iteTk rfl (y rfl F σ H1 _ (e.same fm s1) (fm.same s1) fun v H2 s2 r2 => k v H2 (s1.trans s2) r2)
  | false => exact iteFk rfl (z rfl F σ H1 _ (e.same fm s1) (fm.same s1) fun v H2 s2 r2 => k v H2 (s1.trans s2) r2)
/-! the two sides of an operator -/
theorem rd_op {r : R2} {x y : Ob} (a : RD C ρ ta x) (b : RD C ρ tb y) (h : ∀ (F : Addr → Prop) v w H Q, Fm F H → VR C F H v x → VR C F H w y → (∀ u H', Same H H' → VR C F H' u o → Q u H') → r v w H Q) : RD C ρ (tOp r ta tb) o := fun F σ H Q e fm k => by
  refine a F σ H _ e fm fun v H1 s1 r1 => b F σ H1 _ (e.same fm s1) (fm.same s1) fun w H2 s2 r2 => ?_
  exact h F v w H2 Q ((fm.same s1).same s2) (r1.same (fm.same s1) s2) r2 fun u H3 s3 r3 => k u H3 ((s1.trans s2).trans s3) r3
theorem rd_in {z : Str} {cs : List Str} (y : Ob) (hy : y = .txs cs ∨ y = .lxs cs) (a : RD C ρ ta (.str z)) (b : RD C ρ tb y) : RD C ρ (tOp (rIn K false) ta tb) (.bl (decide (z ∈ cs))) :=
  rd_op a b fun F v w H Q fm r1 r2 k => by
    cases r1
    have ⟨p, e, sq⟩ : ∃ p, w = .ref p ∧ (SqL K H p (cs.map V.str) ∨ SqT K H p (cs.map V.str)) := by
      rcases hy with rfl | rfl
      · obtain ⟨p, e, h⟩ := r2.txs; exact ⟨p, e, .inr (SqT.of h)⟩
      · obtain ⟨p, e, _, h⟩ := r2.lxs; exact ⟨p, e, .inl (SqL.of h)⟩
    subst e
    refine ⟨p, _, rfl, sq, rfl, flat_texts cs, ?_⟩
    rw [in_texts]
    exact k _ H (Same.refl H) (.bl _)
theorem rd_notIn {z : Str} {cs : List Str} (y : Ob) (hy : y = .txs cs ∨ y = .lxs cs) (a : RD C ρ ta (.str z)) (b : RD C ρ tb y) : RD C ρ (tOp (rIn K true) ta tb) (.bl (!decide (z ∈ cs))) :=
  rd_op a b fun F v w H Q fm r1 r2 k => by
    cases r1
    have ⟨p, e, sq⟩ : ∃ p, w = .ref p ∧ (SqL K H p (cs.map V.str) ∨ SqT K H p (cs.map V.str)) := by
      rcases hy with rfl | rfl
      · obtain ⟨p, e, h⟩ := r2.txs; exact ⟨p, e, .inr (SqT.of h)⟩
      · obtain ⟨p, e, _, h⟩ := r2.lxs; exact ⟨p, e, .inl (SqL.of h)⟩
    subst e
    refine ⟨p, _, rfl, sq, rfl, flat_texts cs, ?_⟩
    rw [in_texts]
    exact k _ H (Same.refl H) (.bl _)
theorem rd_eqD {x y : Ob} (a : RD C ρ ta x) (b : RD C ρ tb y) (dx : x.isD = true) (dy : y.isD = true) (sx : SeqAt.shaped x.pd = true) (sy : SeqAt.shaped y.pd = true) : RD C ρ (tOp (rEqD K) ta tb) (.bl (PyData.eqv x.pd y.pd)) :=
  rd_op a b fun F v w H Q fm r1 r2 k => ⟨_, _, r1.dp dx, r2.dp dy, sx, sy, k _ H (Same.refl H) (.bl _)⟩
theorem rd_neD {x y : Ob} (a : RD C ρ ta x) (b : RD C ρ tb y) (dx : x.isD = true) (dy : y.isD = true) (sx : SeqAt.shaped x.pd = true) (sy : SeqAt.shaped y.pd = true) : RD C ρ (tOp (rNeD K) ta tb) (.bl (!PyData.eqv x.pd y.pd)) :=
  rd_op a b fun F v w H Q fm r1 r2 k => ⟨_, _, r1.dp dx, r2.dp dy, sx, sy, k _ H (Same.refl H) (.bl _)⟩
/-- == of two texts -/
theorem rd_eqS {x y : Str} (a : RD C ρ ta (.str x)) (b : RD C ρ tb (.str y)) : RD C ρ (tOp rEq ta tb) (.bl (decide (x = y))) :=
  rd_op a b fun F v w H Q fm r1 r2 k => by
    cases r1; cases r2
    refine ⟨rfl, ?_⟩
    rw [show decide (V.str x = V.str y) = decide (x = y) by simp]
    exact k _ H (Same.refl H) (.bl _)
/-! calls of built-in functions -/
theorem rd_cb {r : List V → Hp → VK → Prop} (a : RDs C ρ t os) (h : ∀ (F : Addr → Prop) vs H Q, Fm F H → VRs C F H vs os → (∀ u H', Same H H' → VR C F H' u o → Q u H') → r vs H Q) : RD C ρ (tCB r t) o := fun F σ H Q e fm k => by
  refine a F σ H _ e fm fun vs H1 s1 r1 => ?_
  exact h F vs H1 Q (fm.same s1) r1 fun u H2 s2 r2 => k u H2 (s1.trans s2) r2
theorem rd_call1 {r : List V → Hp → VK → Prop} {x : Ob} (a : RD C ρ te x) (h : ∀ (F : Addr → Prop) v H Q, Fm F H → VR C F H v x → (∀ u H', Same H H' → VR C F H' u o → Q u H') → r [v] H Q) : RD C ρ (tCB r (tCons te tNil)) o :=
  rd_cb (rds_one a) fun F vs H Q fm r k => by
    cases r with
    | cons a b => cases b; exact h F _ H Q fm a k
/-- len of a list or tuple -/
theorem rd_len {y : Ob} (hy : y = .tup os ∨ y = .lst os) (a : RD C ρ te y) : RD C ρ (tCB (fun xs H Q => ∃ p ys, xs = [.ref p] ∧ (SqL K H p ys ∨ SqT K H p ys) ∧ Q (.int ys.length) H) (tCons te tNil)) (.int os.length) :=
  rd_call1 a fun F v H Q fm r k => by
    rcases hy with rfl | rfl
    · cases r with
      | tup e rs => exact ⟨_, _, rfl, .inr (SqT.of e), by rw [rs.length]; exact k _ H (Same.refl H) (.int _)⟩
    · cases r with
      | lst n e rs => exact ⟨_, _, rfl, .inl (SqL.of e), by rw [rs.length]; exact k _ H (Same.refl H) (.int _)⟩
/-- tuple of a list or tuple -/
theorem rd_tupleOf {y : Ob} (hy : y = .tup os ∨ y = .lst os) (a : RD C ρ te y) : RD C ρ (tCB (fun xs H Q => ∃ p ys, xs = [.ref p] ∧ ((SqL K H p ys ∧ ∀ l, H l = none → Q (.ref l) (upd H l (.tup ys))) ∨ (SqT K H p ys ∧ Q (.ref p) H))) (tCons te tNil)) (.tup os) :=
  rd_call1 a fun F v H Q fm r k => by
    rcases hy with rfl | rfl
    · cases r with
      | tup e rs => exact ⟨_, _, rfl, .inr ⟨SqT.of e, k _ H (Same.refl H) (.tup e rs)⟩⟩
    · cases r with
      | lst n e rs => exact ⟨_, _, rfl, .inl ⟨SqL.of e, fun l hl => k _ _ (Same.add hl) (.tup upd_same (rs.same fm (Same.add hl)))⟩⟩
theorem rd_listOf {y : Ob} (hy : y = .tup os ∨ y = .lst os) (a : RD C ρ te y) : RD C ρ (tCB (fun xs H Q => ∃ p ys, xs = [.ref p] ∧ (SqL K H p ys ∨ SqT K H p ys) ∧ ∀ l, H l = none → Q (.ref l) (upd H l (.lst ys))) (tCons te tNil)) (.lst os) :=
  rd_call1 a fun F v H Q fm r k => by
    rcases hy with rfl | rfl
    · cases r with
      | tup e rs => exact ⟨_, _, rfl, .inr (SqT.of e), fun l hl => k _ _ (Same.add hl) (.lst (fm.fresh hl) upd_same (rs.same fm (Same.add hl)))⟩
    · cases r with
      | lst n e rs => exact ⟨_, _, rfl, .inl (SqL.of e), fun l hl => k _ _ (Same.add hl) (.lst (fm.fresh hl) upd_same (rs.same fm (Same.add hl)))⟩
theorem rd_sortedS {cs : List Str} (few : cs.length < 64) (a : RD C ρ te (.lxs cs)) : RD C ρ (tCB (rSortedS K) (tCons te tNil)) (.lxs (srtd cs)) :=
  rd_call1 a fun F v H Q fm r k => by
    obtain ⟨p, rfl, n, h⟩ := r.lxs
    refine ⟨p, cs, rfl, SqL.of h, few, fun ys q pm so hq => ?_⟩
    obtain rfl := srtd_of pm so
    exact k _ _ (Same.add hq) (vr_lxs (fm.fresh hq) upd_same)
/-- all of a list of truths -/
theorem rd_all {bs : List Bool} (a : RD C ρ te (.lst (bs.map .bl))) : RD C ρ (tCB (rAll K) (tCons te tNil)) (.bl (bs.all id)) :=
  rd_call1 a fun F v H Q fm r k => by
    cases r with
    | lst n e rs =>
      have : ∀ {vs : List V} {bs : List Bool}, VRs C F H vs (bs.map .bl) → vs = bs.map V.bl := by
        intro vs bs
        induction bs generalizing vs with
        | nil => intro h; cases h; rfl
        | cons b r ih => intro h; cases h with | cons a b => cases a; rw [ih b]; rfl
      rw [this rs] at e
      exact ⟨_, bs, rfl, SqL.of e, k _ H (Same.refl H) (.bl _)⟩
theorem rd_any {bs : List Bool} (a : RD C ρ te (.lst (bs.map .bl))) : RD C ρ (tCB (rAny K) (tCons te tNil)) (.bl (bs.any id)) :=
  rd_call1 a fun F v H Q fm r k => by
    cases r with
    | lst n e rs =>
      have : ∀ {vs : List V} {bs : List Bool}, VRs C F H vs (bs.map .bl) → vs = bs.map V.bl := by
        intro vs bs
        induction bs generalizing vs with
        | nil => intro h; cases h; rfl
        | cons b r ih => intro h; cases h with | cons a b => cases a; rw [ih b]; rfl
      rw [this rs] at e
      exact ⟨_, bs, rfl, SqL.of e, k _ H (Same.refl H) (.bl _)⟩
end
end B30_

/-! ## C21 -/
set_option Elab.async false
set_option linter.all false
set_option maxRecDepth 100000
set_option maxHeartbeats 8000000
namespace K1
open PySem PySem.Spec PyProof.Rows L2
/-! ### the law's call: no text is being written out when the law is asked; no inner code -/
def Keeps (s s' : Shared) : Prop := OldK s.heap s'.heap ∧ s'.os = s.os ∧ AllBare s'.gens
structure Begin (K : PySem.W.Frag) (mg : Str → Option Value) (s : Shared) (a : Addr) (vs : List Value) (ns : List Int) : Prop where
  kin : K.In s.heap
  glob : s.heap.Ns mainGlobals mg
  built : ∃ mb, s.heap.Ns builtinsNs mb ∧
    ∀ x : Str, x ≠ "__name__" → mb x = bootBuiltins x
  calm : s.heap.NoLimit
  idle : s.gens = #[]
  arg : s.heap.get? a = some { cls := .type "list", data := .seq vs.toArray }
  ints_ : IntsAre vs ns
  few : ns.length ≤ sizeLine
/-- what is tracked when the law begins: the script, unless it lies in the written part -/
def HB (K : PySem.W.Frag) (a : Addr) (vs : List Value) (ns : List Int) : Hp := fun b =>
  if b = a ∧ K.lookup a = none then
    some (.frz { cls := .type "list", data := .seq vs.toArray } (.lst (ns.map V.int)))
  else none
section
variable {P : Program} {w : World} {K : PySem.W.Frag} {mg : Str → Option Value} {s : Shared} {a : Addr} {vs : List Value} {ns : List Int}
theorem hb_cases {b : Addr} {u : HO} (h : HB K a vs ns b = some u) : b = a ∧ K.lookup a = none ∧ u = .frz { cls := .type "list", data := .seq vs.toArray } (.lst (ns.map V.int)) := by
  unfold HB at h
  split at h
  · next e => exact ⟨e.1, e.2, (Option.some.inj h).symm⟩
  · cases h
theorem Begin.seq (S : Begin K mg s a vs ns) : SqL K (HB K a vs ns) a (ns.map V.int) := by
  cases e : K.lookup a with
  | none =>
    refine .inl (.inr ⟨⟨.type "list", none, .seq vs.toArray, #[]⟩, ?_⟩)
    unfold HB
    rw [if_pos ⟨rfl, e⟩]
  | some o =>
    have h := S.kin a o e
    rw [S.arg] at h
    cases h
    refine .inr ⟨_, vs.toArray, _, e, rfl, rfl, rfl, ?_, ?_⟩
    · rw [List.size_toArray, S.ints_.length]; exact S.few
    · simpa using vals_ints S.ints_
theorem Begin.hok (S : Begin K mg s a vs ns) : HOk P w (HB K a vs ns) s.heap := fun b u h => by
  obtain ⟨rfl, _, rfl⟩ := hb_cases h
  exact ⟨S.arg, by rw [List.length_map]; exact S.few, vs, _, vals_ints S.ints_, S.arg⟩
/-- an object that is not the script stays in the ground -/
theorem Begin.rest {b : Addr} (m : b = a → K.lookup a ≠ none) : HB K a vs ns b = none := by
  unfold HB
  rw [if_neg fun z => m z.1 z.2]
theorem Begin.plain (S : Begin K mg s a vs ns) {b : Addr} {o : Obj} (e : s.heap.get? b = some o) (n2 : ∀ xs k, o.data ≠ .seq xs k) : (hidT s.heap (HB K a vs ns)).get? b = some o := by
  refine hidT_get e (Begin.rest fun z => ?_)
  rw [z, S.arg] at e
  cases e
  exact absurd rfl (n2 _ _)
theorem Begin.names (S : Begin K mg s a vs ns) {b : Addr} {m : Str → Option Value} (h : s.heap.Ns b m) : (hidT s.heap (HB K a vs ns)).Ns b m := by
  obtain ⟨o, es, ep, e, d, r⟩ := h
  refine ⟨o, es, ep, S.plain e ?_, d, r⟩
  intro xs k z; rw [d] at z; cases z
theorem Begin.low (S : Begin K mg s a vs ns) : K.In (hidT s.heap (HB K a vs ns)) := fun b o e => by
  refine hidT_get (S.kin b o e) (Begin.rest fun z => ?_)
  rw [← z, e]; exact fun q => by cases q
theorem Begin.env (S : Begin K mg s a vs ns) : Env0 P w K mg (hidT s.heap (HB K a vs ns)) callerA [] s (HB K a vs ns) where
  frames := rfl
  mod := by
    obtain ⟨mb, b1, b2⟩ := S.built
    obtain ⟨mc, c1, c2⟩ := S.calm
    exact ⟨S.low, S.names S.glob, ⟨mb, S.names b1, b2⟩, ⟨mc, S.names c1, c2⟩⟩
  bs := fun _ _ e => of_hidT e
  bsz := Nat.le_of_eq (hidT_size _ _)
  funs := trivial
  frf := fun b hb => by cases hb
  hok := S.hok
  bare := .of_eq S.idle
theorem callB {k : Nat} {fa : Addr} {fd : FuncData} {x : Str} {sp : Sp} (S : Begin K mg s a vs ns) (room : Room k callerA)
    (F : ∀ base : Heap, K.In base → base.Ns mainGlobals mg → FnOkG P w K mg base k fa fd [x] sp) (bind : ∀ (s : Shared) (u : Value), BindsTo s fd ⟨[u], []⟩ [(x, u)])
    (goal : ∀ H : Hp, SqL K H a (ns.map V.int) → sp [.ref a] H (fun v _ => v = .bl true) E0) :
    codeAny (model P w) callerA (.call (.ref fa) ⟨[.ref a], []⟩) (fun r s' => r = .ok (.ret (.bool true)) ∧ Keeps s s') s := by
  have ran := (F _ S.low (S.names S.glob)).run callerA [] s _ ⟨[.ref a], []⟩ [.ref a] [.ref a] _ room rfl S.env (bind s _) (.cons rfl .nil) (goal _ S.seq)
  refine codeAny_mono ran fun r s' h => ?_
  match r, h with
  | .ok (.ret u), h =>
    obtain ⟨v, H', same, bare, un, ok', rel, q⟩ := h
    subst q
    obtain rfl : u = Value.bool true := rel
    refine ⟨rfl, OldK.of_keep fun b o e => ?_, same, bare⟩
    cases q : HB K a vs ns b with
    | none => exact un.keep b o e q (fun z => by cases z) (fun z => by cases z)
    | some u =>
      obtain ⟨rfl, _, rfl⟩ := hb_cases q
      have e1 := (ok' _ _ (un.frzs _ _ _ q)).1
      rw [S.arg] at e
      cases e
      exact e1
/-- the law's walk -/
theorem walkB {l : PySem.W.OpenLaw} {q : Program} {loose : List Str} {XP : (Str → Option Value) → Heap → Prop} {YP : World → Heap → Prop} {d : DefRec} {K : Params → PySem.W.Frag} {k : Nat} {sp : PySem.W.Frag → Sp} (most : l.most = some 63) (plain : d.params.defaults = []) (room : Room k callerA)
    (low : ∀ (w : World) (h : Heap), YP w h → (K w.params).In h)
    (goal : ∀ (K : PySem.W.Frag) (H : Hp) (a : Addr) (ns : List Int), SqL K H a (ns.map V.int) → sp K [.ref a] H (fun v _ => v = .bl true) E0)
    (parts : ∀ (w : World) (mg : Str → Option Value) (fa : Addr) (h : Heap), (K w.params).In h → h.Ns mainGlobals mg → mg d.name = some (.ref fa) →
      ∃ fd : FuncData, (∀ (s : Shared) (v : Value), BindsTo s fd ⟨[v], []⟩ [("script", v)]) ∧
        ∀ base : Heap, (K w.params).In base → base.Ns mainGlobals mg → FnOkG l.prog w (K w.params) mg base k fa fd ["script"] (sp (K w.params))) :
    PySem.W.WalkO q loose XP YP l.row.toRowW d [] (fun f vs => PySem.call f vs) := by
  refine Att.attach_call most plain fun w s₀ s₁ mg mb fa o pm cd doc a vs ns G Y _ _ _ named obj its short idle => ?_
  have X := low w _ Y
  obtain ⟨fd, bind, ok⟩ := parts w mg fa _ X G.T.g named
  have S : Begin (K w.params) mg s₁ a vs ns := ⟨X, G.T.g, ⟨mb, G.T.b, G.T.builtins⟩, G.T.nolimit, idle, obj, its, Nat.le_trans short (by decide)⟩
  exact callB S room ok bind fun H hS => goal _ H a ns hS
end
end K1

/-! ## C22 -/
set_option Elab.async false
set_option linter.all false
set_option maxRecDepth 100000
set_option maxHeartbeats 8000000
namespace K1
open PySem PySem.Spec PyProof.Rows L2
/-! ### {elt for tg in iter}, of texts -/
def txOf (tx : Nat → Str) (n : Nat) : List Str := (List.range n).map tx
theorem txOf_succ (tx : Nat → Str) (n : Nat) : txOf tx (n + 1) = txOf tx n ++ [tx n] := by simp [txOf, List.range_succ]
theorem txOf_len (tx : Nat → Str) (n : Nat) : (txOf tx n).length = n := by simp [txOf]
def tTexts1 (P : Program) (w : World) (wi : TI) (g : TG) (te : TE) (vs : List Nat) : TE := fun σ H Q => wi σ H fun J H1 =>
  ∃ (n : Nat) (G : Hp → Prop) (Y : Nat → Hp → V → Hp → Prop) (tx : Nat → Str), Walk J n G Y ∧ n + 1 < scanBound ∧ ∀ D, H1 D = none → (∀ H', Off D H1 H' → G H') ∧
    (∀ i x H2 H3, i < n → Off D H1 H2 → Y i H2 x H3 → g x (wipe σ vs) H3 fun σ2 H4 => wipe σ2 vs = wipe σ vs ∧ te σ2 H4 fun v H5 => Off D H2 H5 ∧ (∀ o, H2 D = some o → H5 D = some o) ∧ v = .str (tx i)) ∧
    ∀ H', Same H1 H' → H' D = some (SetS P w D (txOf tx n)) → Q (.ref D) H'
section
variable {X : Cx}
theorem sc1_texts {pins : List (Addr × Obj)} {s : Shared} {σ : L2.St} {H : Hp} {Q : VK} {elt tg iter : Expr} {scope : Scope} {own : List (Str × Nat)} {pos pos' : Pos} {wi : TI} {g : TG} {te : TE}
    (calm : X.calm = true) (nod : X.N.Nodup) (I : Inv X pins σ H s) (hi : PI X tg iter wi) (ok : BlkOk X.N X.env.scope scope own)
    (hg : ∀ s0 H0 C cl fp, PG (X.blk s0 H0 scope (compEnvC scope cl C X.env) fp) tg g)
    (he : ∀ s0 H0 C cl fp, PE (X.blk s0 H0 scope (compEnvC scope cl C X.env) fp) elt te) (fold : ∀ x, foldedSetIterable iter X.env x = pure x) (h : tTexts1 X.prog X.w wi g te (own.map (·.2)) σ H Q) :
    wpAny (model X.prog X.w) X.A (comprehension (.SetComp elt [⟨tg, iter, [], 0⟩] scope pos) scope X.env pos' (newSet (.type "set")) false (eval iter X.env)) (EP X pins σ Q) X.xe s := by
  have cellsThere : ∀ y ∈ scope.names, y.2 = .free → ∃ c, X.env.cells.lookup y.1 = some c := fun y hy e => (ok.free y hy e).elim (fun k => I.ok.has _ (.inl k)) fun k => I.ok.has _ (.inr k)
  refine wpAny_comprehension_free rfl fold (closure_ok cellsThere) ok.kind (fun y hy e => by rw [ok.uniq y hy, e]) (thn (hi.run pins s σ H _ I h) fun src s1 hx => thn hx fun itv s2 came => ?_)
  obtain ⟨it, fp, tn, J, H1, rfl, I2, T, st2, far2, n, G, Y, tx, wk, room, rest⟩ := came
  refine PpSet.newSet_ok (newEnv_comp ?_)
  generalize eD : s2.heap.objs.size = D
  have nD : H1 D = none := I2.hok.fresh (Nat.le_of_eq eD)
  obtain ⟨hG, body, fin⟩ := rest D nD
  generalize es3 : ({ s2 with heap := s2.heap.push (newSetObj X.w) } : Shared) = s3
  have heap3 : s3.heap = s2.heap.push (newSetObj X.w) := by rw [← es3]
  have up3 : ∀ b o, s2.heap.get? b = some o → s3.heap.get? b = some o := fun b o e => by rw [heap3]; exact Heap.get?_push_of_some _ e
  generalize eH2 : upd H1 D (SetS X.prog X.w D []) = H2
  have I3 : Inv X pins σ H2 s3 := by
    rw [← es3, ← eH2]
    refine I2.laid (t' := s2.toks) (fun b o e => Heap.get?_push_of_some _ e) (Nat.le_of_eq eD) ?_
    exact setS_ok (tx_new (by rw [← eD]; exact Heap.get?_push_size _ rfl)) (fun _ => Iff.rfl) (Nat.le_refl _)
  have D2 : H2 D = some (SetS X.prog X.w D []) := by rw [← eH2]; exact upd_same
  have same12 : Same H1 H2 := by rw [← eH2]; exact setD_new nD
  have young : ∀ b ∈ fp, b < s2.heap.objs.size := fun b hb => let ⟨_, e, _⟩ := T.obj _ _ st2 b hb; Heap.lt_size e
  have far3 : ∀ b ∈ fp, FpOk X pins H2 b ∧ b < s3.heap.objs.size := fun b hb => by
    have lt := young b hb
    refine ⟨⟨?_, (far2 b hb).2⟩, by rw [heap3, Heap.size_push]; exact Nat.lt_succ_of_lt lt⟩
    rw [← eH2, upd_ne (by rw [← eD]; exact Nat.ne_of_lt lt)]
    exact (far2 b hb).1
  have st3 : tn 0 s3.heap := T.keep _ _ _ st2 fun b _ o e => up3 b o e
  have I4 := block_start I3 ok nod far3
  have G0 := hg s3 H2 s3.heap.objs.size (cellsFrom (s3.heap.objs.size + 1) scope.names (cloFrom X.env.cells scope.names [])) fp
  have E0' := he s3 H2 s3.heap.objs.size (cellsFrom (s3.heap.objs.size + 1) scope.names (cloFrom X.env.cells scope.names [])) fp
  show codeAny _ _ (.compStart (.SetComp elt [⟨tg, iter, [], 0⟩] scope pos) 0 (.ref it) (.ref D) (compEnvC scope (cellsFrom (s3.heap.objs.size + 1) scope.names (cloFrom X.env.cells scope.names [])) s3.heap.objs.size X.env)) _ { s3 with heap := pushCells (s3.heap.push { cls := .type "dict", data := .dict #[] }) scope.names }
  generalize ece : compEnvC scope (cellsFrom (s3.heap.objs.size + 1) scope.names (cloFrom X.env.cells scope.names [])) s3.heap.objs.size X.env = ce at I4 G0 E0' ⊢
  have home : ce.locals = s3.heap.objs.size := by rw [← ece]; rfl
  generalize es4 : ({ s3 with heap := pushCells (s3.heap.push { cls := .type "dict", data := .dict #[] }) scope.names } : Shared) = s4 at I4 ⊢
  have st4 : tn 0 s4.heap := T.keep _ _ _ st3 fun b _ o e => by rw [← es4]; exact pushCells_keeps _ _ _ _ (Heap.get?_push_of_some _ e)
  have nfp : ∀ b ∈ fp, H2 b = none := fun b hb => (far3 b hb).1.1
  have stay : ∀ {σ' : L2.St} {H' : Hp} {s' : Shared}, Inv (X.blk s3 H2 scope ce fp) [] σ' H' s' → (∀ b ∈ fp, H' b = none) → ∀ b ∈ fp, FpOk (X.blk s3 H2 scope ce fp) [] H' b := fun {σ' H' s'} I' hn b hb =>
    ⟨hn b hb, (I'.ok.exf b hb).1, I'.ok.exfs b hb, .inl hb, fun x c => (I'.ok.exf b hb).2 x c, fun p hp => absurd (show p ∈ ([] : List (Addr × Obj)) ++ [] from hp) (by simp)⟩
  have OUT : codeAny (model X.prog X.w) X.A (.compLoop (.SetComp elt [⟨tg, iter, [], 0⟩] scope pos) 0 (.ref it) (.ref D) ce) (compPost (model X.prog X.w) X.A X.xe none (EP X pins σ Q) (.ref D) s3.heap.objs.size) s4 := by
    refine PpSet.compLoopS_any (fun (k : Nat) (s' : Shared) => ∃ (i : Nat) (H' : Hp), k = n - i ∧ i ≤ n ∧ Inv (X.blk s3 H2 scope ce fp) [] (wipe σ (own.map (·.2))) H' s' ∧ tn i s'.heap ∧ (∀ b ∈ fp, H' b = none) ∧ Off D H1 H' ∧ H' D = some (SetS X.prog X.w D (txOf tx i))) (fun k s5 at5 => ?_) n ⟨0, H2, rfl, Nat.zero_le _, I4, st4, nfp, Off.same same12, D2⟩
    obtain ⟨i, H5, rfl, lei, I5, st5, n5, sm5, d5⟩ := at5
    by_cases lt : i < n
    · refine thnF (T.item (X.blk s3 H2 scope ce fp) rfl rfl rfl calm i [] s5 _ H5 (fun _ _ => False) I5 (stay I5 n5) st5 (wk.goes i H5 lt (hG _ sm5))) fun r s6 got => ?_
      obtain ⟨u, rfl, h6⟩ := got
      refine thnF h6 fun _ s7 stored => ?_
      obtain ⟨x, H7, I7, r7, y7, st7, n7⟩ := stored
      have I7p := I7.pinned (stay I7 n7) (T.obj _ _ st7)
      refine thnF (G0.run _ s7 _ H7 x u _ I7p r7 (body i x H5 H7 lt sm5 (wk.yields i H5 x H7 lt (hG _ sm5) y7))) fun _ s8 named => ?_
      obtain ⟨σ8, H8, I8, hw8, q8⟩ := named
      refine wpAny_tests_nil ?_
      simp only [if_true]
      refine thnF (E0'.run _ s8 σ8 H8 _ I8 q8) fun val s9 told => ?_
      obtain ⟨yv, H9, I9, r9, sm9, dd9, rfl⟩ := told
      have d9 : H9 D = some (SetS X.prog X.w D (txOf tx i)) := dd9 _ d5
      refine addText (X := X.blk s3 H2 scope ce fp) I9 d9 (by rw [txOf_len]; omega) r9 fun s10 I10 => ?_
      refine ⟨n - (i + 1), by omega, i + 1, _, rfl, lt, I10.unpinned.weak (by rw [← hw8, wipe_length]) (fun j v e => by rw [← hw8] at e; exact (wipe_some e).1), ?_, fun b hb => ?_, (sm5.trans sm9).put, by rw [upd_same, txOf_succ]⟩
      · have pin' : ∀ b ∈ fp, ∀ o, s7.heap.get? b = some o → s10.heap.get? b = some o := fun b hb o e => (I10.pin (b, o) (List.mem_append_right _ (List.mem_append_right _ (mem_pinsAt hb e)))).1
        exact T.keep _ _ _ st7 fun b hb o e => pin' b hb o e
      · obtain ⟨o, e, _⟩ := T.obj _ _ st7 b hb
        exact (I10.pin (b, o) (List.mem_append_right _ (List.mem_append_right _ (mem_pinsAt hb e)))).2.1
    · obtain rfl : i = n := by omega
      refine thnF (T.done (X.blk s3 H2 scope ce fp) rfl rfl rfl calm i [] s5 _ H5 (fun _ _ => False) I5 (stay I5 n5) st5 (wk.stops H5 (hG _ sm5))) fun r s6 got => ?_
      obtain ⟨rfl, I6⟩ := got
      have back : Inv X pins σ H5 s6 := I3.call' (ch := fp) I6.os I6.base I6.hok I6.bare fun b hb => ⟨(far3 b hb).1.2.2.2.1, (far3 b hb).1.2.1, (far3 b hb).1.2.2.2.2.1, (far3 b hb).1.2.2.2.2.2⟩
      have nC : H5 s3.heap.objs.size = none := by
        have z : H5 ce.locals = none := I6.free
        rwa [home] at z
      obtain ⟨m, hn, _⟩ := I6.loc
      have hn : s6.heap.Ns ce.locals m := hn
      rw [home] at hn
      obtain ⟨f0, f1, f2, f3, f4, f5⟩ := I3.fpOk (Nat.le_refl _) nC
      refine ⟨m, hn, fun h'' sb => ?_⟩
      exact ⟨.ref D, H5, back.turned (t' := s6.toks) (fun b o hb e => (sb.2 b hb).trans e) f0 f1 f3 f4 f5, rfl, fin H5 (sm5.full nD) d5⟩
  exact PpSet.codeAny_compStart_set OUT (T.self X.A 0 _ _ _ st4 OUT)
theorem pe_texts1 {elt tg iter : Expr} {scope : Scope} {own : List (Str × Nat)} {pos : Pos} {wi : TI} {g : TG} {te : TE} (calm : X.calm = true) (nod : X.N.Nodup) (hi : PI X tg iter wi) (ok : BlkOk X.N X.env.scope scope own)
    (hg : ∀ s0 H0 C cl fp, PG (X.blk s0 H0 scope (compEnvC scope cl C X.env) fp) tg g) (he : ∀ s0 H0 C cl fp, PE (X.blk s0 H0 scope (compEnvC scope cl C X.env) fp) elt te) (fold : ∀ x, foldedSetIterable iter X.env x = pure x := by intro _; rfl) :
    PE X (.SetComp elt [⟨tg, iter, [], 0⟩] scope pos) (tTexts1 X.prog X.w wi g te (own.map (·.2))) := by
  refine ⟨fun pins s σ H Q I h => ?_⟩
  rw [PpSet.eval_SetComp]
  exact sc1_texts calm nod I hi ok hg he fold h
end
end K1

/-! ## B30_42 -/
set_option Elab.async false
set_option linter.all false
set_option maxRecDepth 100000
set_option maxHeartbeats 4000000
namespace B30_
open PySem PySem.Spec PyProof.Rows L2
/-! ### walks over data -/
/-- one thing more may change -/
def Plus (F : Addr → Prop) (D : Addr) : Addr → Prop := fun p => F p ∨ p = D
theorem Plus.sub {F : Addr → Prop} {D p : Addr} (h : F p) : Plus F D p := .inl h
theorem Fm.plus {F : Addr → Prop} {H : Hp} {D : Addr} {o : HO} (h : Fm F H) (e : H D = some o) (m : Mo o) : Fm (Plus F D) H := fun p hp => hp.elim (h p) fun z => ⟨o, z ▸ e, m⟩
theorem Fm.put {F : Addr → Prop} {H : Hp} {D : Addr} {o : HO} (h : Fm F H) (m : Mo o) : Fm (Plus F D) (upd H D o) := fun p hp => by
  by_cases q : p = D
  · subst q; exact ⟨o, upd_same, m⟩
  · rw [upd_ne q]; exact h p (hp.elim id fun z => absurd z q)
theorem Fm.less {F G : Addr → Prop} {H : Hp} (h : Fm F H) (s : ∀ p, G p → F p) : Fm G H := fun p hp => h p (s p hp)
theorem EnvD.mono {C : Addr} {F G : Addr → Prop} {H : Hp} {σ : L2.St} {ρ : List (Option Ob)} (h : EnvD C F H σ ρ) (s : ∀ p, G p → F p) : EnvD C G H σ ρ := ⟨h.1, fun i o e => (h.2 i o e).imp fun v q => ⟨q.1, q.2.mono s⟩⟩
theorem EnvD.grow {C : Addr} {F : Addr → Prop} {H : Hp} {σ : L2.St} {ρ : List (Option Ob)} {D : Addr} (h : EnvD C F H σ ρ) (n : H D = none) : EnvD C (Plus F D) H σ ρ := ⟨h.1, fun i o e => (h.2 i o e).imp fun v q => ⟨q.1, q.2.grow fun p hp => hp.imp id fun (z : p = D) => z ▸ n⟩⟩
/-- what is walked gives the data os, one by one -/
def RI (C : Addr) (ρ : List (Option Ob)) (wi : TI) (os : List Ob) : Prop := ∀ (F : Addr → Prop) σ H (R : It → Hp → Prop), EnvD C F H σ ρ → Fm F H →
  (∀ J H1 (W : Hp → Prop) (Y : Nat → Hp → V → Hp → Prop), Same H H1 → Walk J os.length W Y → (∀ H2, Kp F H1 H2 → W H2) → (∀ i H2 x H3, i < os.length → Kp F H1 H2 → Y i H2 x H3 → H3 = H2 ∧ ∃ o, os[i]? = some o ∧ ∀ G : Addr → Prop, (∀ p, F p → G p) → (∀ p, G p → F p ∨ H1 p = none) → VR C G H2 x o) → R J H1) → wi σ H R
section
variable {C : Addr} {F : Addr → Prop} {ρ : List (Option Ob)} {K : PySem.W.Frag} {te : TE} {os : List Ob}
theorem ri_its {y : Ob} (hy : y = .tup os ∨ y = .lst os) (a : RD C ρ te y) : RI C ρ (K1.iIts te) os := fun F σ H R e fm k => a F σ H _ e fm fun v H1 s1 r1 => by
  have fm1 := fm.same s1
  rcases hy with rfl | rfl
  · cases r1 with
    | tup h rs =>
      refine ⟨_, _, rfl, .inr h, fun J W wk hG => k J H1 W _ s1 (rs.length ▸ wk) (fun H2 s2 => hG H2 ((s2 _ _ (fm1.tup h) h).trans h.symm)) fun i H2 x H3 _ s2 y => ⟨y.1, ?_⟩⟩
      obtain ⟨o, h1, h2⟩ := rs.get y.2
      exact ⟨o, h1, fun G g1 g2 => (h2.grow g2).kpG fm1 s2 g1⟩
  · cases r1 with
    | lst n h rs =>
      refine ⟨_, _, rfl, .inl h, fun J W wk hG => k J H1 W _ s1 (rs.length ▸ wk) (fun H2 s2 => hG H2 ((s2 _ _ n h).trans h.symm)) fun i H2 x H3 _ s2 y => ⟨y.1, ?_⟩⟩
      obtain ⟨o, h1, h2⟩ := rs.get y.2
      exact ⟨o, h1, fun G g1 g2 => (h2.grow g2).kpG fm1 s2 g1⟩
theorem ri_list (a : RD C ρ te (.lst os)) : RI C ρ (iList K te) os := fun F σ H R e fm k => a F σ H _ e fm fun v H1 s1 r1 => by
  have fm1 := fm.same s1
  cases r1 with
  | lst n h rs =>
    refine ⟨_, rfl, ⟨_, SqL.of h⟩, k _ H1 _ _ s1 (rs.length ▸ walk_list) (fun H2 s2 => SqL.of (s2 _ _ n h)) fun i H2 x H3 _ s2 y => ⟨y.1, ?_⟩⟩
    obtain ⟨o, h1, h2⟩ := rs.get y.2
    exact ⟨o, h1, fun G g1 g2 => (h2.grow g2).kpG fm1 s2 g1⟩
theorem ri_tup (a : RD C ρ te (.tup os)) : RI C ρ (iTup K te) os := fun F σ H R e fm k => a F σ H _ e fm fun v H1 s1 r1 => by
  have fm1 := fm.same s1
  cases r1 with
  | tup h rs =>
    refine ⟨_, rfl, ⟨_, SqT.of h⟩, k _ H1 _ _ s1 (rs.length ▸ walk_tup) (fun H2 s2 => SqT.of (s2 _ _ (fm1.tup h) h)) fun i H2 x H3 _ s2 y => ⟨y.1, ?_⟩⟩
    obtain ⟨o, h1, h2⟩ := rs.get y.2
    exact ⟨o, h1, fun G g1 g2 => (h2.grow g2).kpG fm1 s2 g1⟩
/-! ### comprehensions -/
theorem filt_snoc {α β : Type} {xs : List α} {i : Nat} {x : α} {b : α → Bool} {r : α → β} (h : xs[i]? = some x) : ((xs.take (i + 1)).filter b).map r = ((xs.take i).filter b).map r ++ (if b x = true then [r x] else []) := by
  rw [take_snoc h, List.filter_append, List.map_append]
  congr 1
  cases e : b x <;> simp [e]
theorem wipe_set {σ : L2.St} {t : Nat} {x : Option V} : ∀ {vs : List Nat}, t ∈ vs → wipe ((wipe σ vs).set t x) vs = wipe σ vs := by
  intro vs mem
  refine List.ext_getElem? fun j => ?_
  have key : ∀ (vs : List Nat) (τ : L2.St) (j : Nat), (wipe τ vs)[j]? = if j ∈ vs then (τ[j]?).map fun _ => none else τ[j]? := by
    intro vs τ j
    induction vs with
    | nil => simp [wipe]
    | cons v r ih =>
      show ((wipe τ r).set v none)[j]? = _
      rw [List.getElem?_set]
      by_cases q : v = j
      · subst q
        rw [if_pos rfl, if_pos List.mem_cons_self]
        rw [wipe_length]
        cases e : τ[v]? with
        | none => rw [if_neg (by simpa using e)]; rfl
        | some y => rw [if_pos (List.getElem?_eq_some_iff.mp e).1]; rfl
      · rw [if_neg q, ih]
        have : (j ∈ v :: r) ↔ j ∈ r := by simp [Ne.symm q]
        simp only [this]
  rw [key, key, List.getElem?_set]
  by_cases q : t = j
  · subst q
    rw [if_pos mem, if_pos mem, if_pos rfl, wipe_length]
    cases e : σ[t]? with
    | none => rw [if_neg (by simpa using e)]; first | done | rfl
    | some y => rw [if_pos (List.getElem?_eq_some_iff.mp e).1]; first | done | rfl
  · rw [if_neg q, key]
    by_cases m : j ∈ vs
    · simp only [if_pos m]
      cases σ[j]? <;> rfl
    · simp only [if_neg m]
theorem rd_lc {wi : TI} {tt : TT} {vs : List Nat} {t : Nat} {b : Ob → Bool} {r : Ob → Ob} (S : RI C ρ wi os) (few : os.length ≤ 1000)
    (mem : t ∈ vs) (hb : ∀ o ∈ os, RT C ((wipeR ρ vs).set t (some o)) tt (b o)) (hr : ∀ o ∈ os, b o = true → RD C ((wipeR ρ vs).set t (some o)) te (r o)) : RD C ρ (tLc wi (gName t) tt te vs) (.lst ((os.filter b).map r)) := fun F σ H Q e fm k => by
  refine S F σ H _ e fm fun J H1 W Y s1 wk hW hY D hD => ?_
  have fm1 := fm.same s1
  have nF : ¬ F D := fm1.fresh hD
  have e1 : EnvD C (Plus F D) H1 σ ρ := (e.same fm s1).grow hD
  refine lc_it wk (fun i H' => Same H1 H' ∧ ∃ vs', H' D = some (.lst vs') ∧ VRs C (Plus F D) H' vs' (((os.take i).filter b).map r)) ⟨Same.add hD, [], upd_same, .nil⟩ (fun i H' _ p => hW H' (.same p.1)) (fun i x H2 H3 hi p y => ?_) (fun H2 p => ?_)
  · obtain ⟨s2, acc, hacc, ra⟩ := p
    obtain ⟨rfl, o, ho, ro⟩ := hY i H2 x H3 hi (.same s2) y
    have mo := List.mem_of_getElem? ho
    have fm2 : Fm (Plus F D) H3 := (fm1.same s2).plus hacc (mo_lst _)
    have e2 : EnvD C (Plus F D) H3 ((wipe σ vs).set t (some x)) ((wipeR ρ vs).set t (some o)) :=
      ((show EnvD C (Plus F D) H3 σ ρ from ⟨e1.1, fun i o q => (e1.2 i o q).imp fun v z => ⟨z.1, z.2.kpG fm1 (.same s2) fun _ => .inl⟩⟩).wipe vs).set t (ro _ (fun _ => .inl) fun p hp => hp.imp id fun (z : p = D) => z ▸ hD)
    refine ⟨wipe_set mem, hb o mo _ _ _ _ e2 fm2 fun H4 s4 => ?_⟩
    have fm4 := fm2.same s4
    have ra4 := ra.same fm2 s4
    cases eb : b o with
    | true =>
      refine iteTk rfl (hr o mo eb _ _ _ _ (e2.same fm2 s4) fm4 fun v H5 s5 r5 => ?_)
      have h5 := s5 _ _ (s4 _ _ hacc)
      have fm5 := fm4.same s5
      have ra5 := ra4.same fm4 s5
      have kpD : ∀ u, Kp (Plus F D) H5 (upd H5 D (.lst u)) := fun u b o n q => by rw [upd_ne (fun z => n (.inr z))]; exact q
      refine ⟨acc, h5, ?_, fun c u q => ?_, acc ++ [v], upd_same, ?_⟩
      · rw [ra5.length, List.length_map]
        have l1 := List.length_filter_le b (os.take i)
        rw [List.length_take] at l1
        rw [sizeLine_eq]; omega
      · rw [upd_ne (fun z => by rw [z, hD] at q; cases q)]; exact s5 _ _ (s4 _ _ (s2 _ _ q))
      · rw [filt_snoc ho, if_pos eb]
        exact (ra5.app (.cons r5 .nil)).kp fm5 (kpD _)
    | false =>
      refine iteFk rfl ⟨fun c u q => s4 _ _ (s2 _ _ q), acc, s4 _ _ hacc, ?_⟩
      rw [filt_snoc ho, eb]
      simpa using ra4
  · obtain ⟨s2, acc, hacc, ra⟩ := p
    rw [List.take_length] at ra
    exact k _ H2 (s1.trans s2) (.lst nF hacc (ra.mono fun _ => .inl))
end
end B30_

/-! ## B30_43 -/
set_option Elab.async false
set_option linter.all false
set_option maxRecDepth 100000
set_option maxHeartbeats 4000000
namespace B30_
open PySem PySem.Spec PyProof.Rows L2
/-! ### comprehensions over texts -/
section
variable {C : Addr} {ρ : List (Option Ob)} {K : PySem.W.Frag} {te ta tb : TE} {tt : TT} {t : TA} {os us : List Ob} {o : Ob} {wi : TI} {vs : List Nat} {i : Nat} {cs : List Str}
def onS {α : Type} (d : α) (b : Str → α) : Ob → α
  | .str z => b z
  | _ => d
theorem rd_lcm {b : Str → Bool} {r : Str → Ob} (S : RI C ρ wi (cs.map .str)) (few : cs.length ≤ 1000) (mem : i ∈ vs) (hb : ∀ z ∈ cs, RT C ((wipeR ρ vs).set i (some (.str z))) tt (b z))
    (hr : ∀ z ∈ cs, b z = true → RD C ((wipeR ρ vs).set i (some (.str z))) te (r z)) : RD C ρ (tLc wi (gName i) tt te vs) (.lst ((cs.filter b).map r)) := by
  have h := rd_lc (b := onS false b) (r := onS .non r) S (by rw [List.length_map]; exact few) mem (fun o mo => by
    obtain ⟨z, mz, rfl⟩ := List.mem_map.mp mo
    exact hb z mz) (fun o mo e => by
    obtain ⟨z, mz, rfl⟩ := List.mem_map.mp mo
    exact hr z mz e)
  refine h.cast (congrArg Ob.lst ?_)
  rw [List.filter_map, List.map_map]
  rfl
/-- [x for x in texts if ..] -/
theorem rd_lcs {b : Str → Bool} (S : RI C ρ wi (cs.map .str)) (few : cs.length ≤ 1000) (mem : i ∈ vs) (hb : ∀ z ∈ cs, RT C ((wipeR ρ vs).set i (some (.str z))) tt (b z))
    (hr : ∀ z ∈ cs, b z = true → RD C ((wipeR ρ vs).set i (some (.str z))) te (.str z)) : RD C ρ (tLc wi (gName i) tt te vs) (.lxs (cs.filter b)) := rd_lcm S few mem hb hr
/-- all([.. for x in texts]) -/
theorem rd_allc {p : Str → Bool} (S : RI C ρ wi (cs.map .str)) (few : cs.length ≤ 1000) (mem : i ∈ vs) (hr : ∀ z ∈ cs, RD C ((wipeR ρ vs).set i (some (.str z))) te (.bl (p z))) :
    RD C ρ (tCB (rAll K) (tCons (tLc wi (gName i) tYes te vs) tNil)) (.bl (cs.all p)) := by
  have h := rd_lcm (b := fun _ => true) (r := fun z => .bl (p z)) (tt := tYes) S few mem (fun z _ => rt_yes) (fun z mz _ => hr z mz)
  have e : (cs.filter fun _ => true).map (fun z => Ob.bl (p z)) = (cs.map p).map .bl := by
    rw [List.filter_eq_self.mpr (fun _ _ => rfl), List.map_map]; rfl
  rw [e] at h
  refine (rd_all h).cast (congrArg Ob.bl ?_)
  rw [List.all_map]; rfl
theorem rd_anyc {p : Str → Bool} (S : RI C ρ wi (cs.map .str)) (few : cs.length ≤ 1000) (mem : i ∈ vs) (hr : ∀ z ∈ cs, RD C ((wipeR ρ vs).set i (some (.str z))) te (.bl (p z))) :
    RD C ρ (tCB (rAny K) (tCons (tLc wi (gName i) tYes te vs) tNil)) (.bl (cs.any p)) := by
  have h := rd_lcm (b := fun _ => true) (r := fun z => .bl (p z)) (tt := tYes) S few mem (fun z _ => rt_yes) (fun z mz _ => hr z mz)
  have e : (cs.filter fun _ => true).map (fun z => Ob.bl (p z)) = (cs.map p).map .bl := by
    rw [List.filter_eq_self.mpr (fun _ _ => rfl), List.map_map]; rfl
  rw [e] at h
  refine (rd_any h).cast (congrArg Ob.bl ?_)
  rw [List.any_map]; rfl
/-! ### sorted({..}) -/
theorem uniqS_sub {cs zs : List Str} (h : ∀ z, z ∈ zs ↔ z ∈ cs) : uniqS zs = uniqS cs := by
  unfold uniqS
  refine srtd_congr (K1.perm_of_len (nodup_dedupS zs) (fun z hz => mem_dedupS.mpr ((h z).mp (mem_dedupS.mp hz))) ?_)
  exact (nodup_dedupS cs).length_le_of_subset fun z hz => mem_dedupS.mpr ((h z).mpr (mem_dedupS.mp hz))
theorem rd_sset1 {P : Program} {w : World} (S : RI C ρ wi (cs.map .str)) (few : cs.length < 64) (mem : i ∈ vs) (hr : ∀ z ∈ cs, RD C ((wipeR ρ vs).set i (some (.str z))) te (.str z)) :
    RD C ρ (tCB (fun xs H Q => ∃ (a : Addr) (zs : List Str), xs = [.ref a] ∧ H a = some (K1.SetS P w a zs) ∧ zs.length < 64 ∧ ∀ (ys : List Str) p, ys.Nodup → (∀ z, z ∈ ys ↔ z ∈ zs) → sortedS ys = true → H p = none → Q (.ref p) (upd H p (.lst (ys.map V.str))))
      (tCons (K1.tTexts1 P w wi (gName i) te vs) tNil)) (.lxs (uniqS cs)) := fun F σ H Q e fm k => by
  refine S F σ H _ e fm fun J H1 W Y s1 wk hW hY => ?_
  have fm1 := fm.same s1
  refine ⟨cs.length, W, Y, fun j => cs.getD j Str.empty, by simpa using wk, by show _ < 4096; omega, fun D hD => ⟨fun H' o => hW H' (.same fun b u q => o b u (fun z => by rw [z, hD] at q; cases q) q), fun j x H2 H3 hj o y => ?_, fun H' s hd => ?_⟩⟩
  · obtain ⟨rfl, u, hu, ru⟩ := hY j H2 x H3 (by simpa using hj) (.same fun b u q => o b u (fun z => by rw [z, hD] at q; cases q) q) y
    rw [List.getElem?_map] at hu
    obtain ⟨z, hz, rfl⟩ := Option.map_eq_some_iff.mp hu
    have s2 : Same H1 H3 := fun b u q => o b u (fun z => by rw [z, hD] at q; cases q) q
    have e2 := (((e.same fm s1).same fm1 s2).wipe vs).set i (ru F (fun _ q => q) fun _ q => .inl q)
    refine ⟨wipe_set mem, hr z (List.mem_of_getElem? hz) F _ _ _ e2 (fm1.same s2) fun v H4 s4 r4 => ?_⟩
    cases r4
    exact ⟨fun b u _ q => s4 b u q, fun o q => s4 _ _ q, by simp [List.getD, hz]⟩
  · refine ⟨D, _, rfl, hd, by rw [K1.txOf_len]; exact few, fun ys p n m so hp => ?_⟩
    obtain rfl : ys = uniqS cs := by
      rw [uniqS_of n m so]
      refine uniqS_sub fun z => ?_
      unfold K1.txOf
      rw [List.mem_map]
      constructor
      · rintro ⟨j, hj, rfl⟩
        rw [List.mem_range] at hj
        simp [List.getD, List.getElem?_eq_getElem hj]
      · intro mz
        obtain ⟨j, hj, e⟩ := List.getElem_of_mem mz
        exact ⟨j, List.mem_range.mpr hj, by simp [List.getD, List.getElem?_eq_getElem hj, e]⟩
    exact k _ _ (fun b u q => by have h2 := s _ _ (s1 _ _ q); rw [upd_ne (ne_of_none h2 hp)]; exact h2) (vr_lxs ((fm1.same s).fresh hp) upd_same)
end
end B30_

/-! ## C23 -/
set_option Elab.async false
set_option linter.all false
set_option maxRecDepth 100000
set_option maxHeartbeats 8000000
namespace K1
open PySem PySem.Spec PyProof.Rows L2
/-- {elt for tg in iter for tg1 in iter1}: all that is tracked stays, the i-th item of the first walk gives the texts tx i -/
def tTexts2k (P : Program) (w : World) (wi : TI) (g : TG) (wi1 : TI) (g1 : TG) (te : TE) (vs vs1 : List Nat) : TE := fun σ H Q => wi σ H fun J H1 =>
  ∃ (n : Nat) (G : Hp → Prop) (Y : Nat → Hp → V → Hp → Prop) (tx : Nat → List Str), Walk J n G Y ∧ (flatT tx n).length + 1 < scanBound ∧ ∀ D, H1 D = none → (∀ H', Off D H1 H' → G H') ∧
    (∀ i x H2 H3, i < n → Off D H1 H2 → (∃ zs, H2 D = some (SetS P w D zs)) → Y i H2 x H3 → g x (wipe σ vs) H3 fun σ2 H4 => wipe σ2 vs = wipe σ vs ∧ wi1 σ2 H4 fun J1 H5 => Off D H2 H5 ∧ (∀ o, H2 D = some o → H5 D = some o) ∧ ∃ (G1 : Hp → Prop) (Y1 : Nat → Hp → V → Hp → Prop), Walk J1 (tx i).length G1 Y1 ∧ (∀ H', Off D H5 H' → G1 H') ∧
      ∀ j y H6 H7, j < (tx i).length → Off D H5 H6 → (∃ zs, H6 D = some (SetS P w D zs)) → Y1 j H6 y H7 → g1 y (wipe σ2 vs1) H7 fun σ3 H8 => wipe σ3 vs1 = wipe σ2 vs1 ∧ te σ3 H8 fun v H9 => Off D H6 H9 ∧ (∀ o, H6 D = some o → H9 D = some o) ∧ ∃ z, v = .str z ∧ (tx i)[j]? = some z) ∧
    ∀ H', Same H1 H' → H' D = some (SetS P w D (flatT tx n)) → Q (.ref D) H'
section
variable {X : Cx}
theorem sc2_textsk {pins : List (Addr × Obj)} {s : Shared} {σ : L2.St} {H : Hp} {Q : VK} {elt tg iter tg1 iter1 : Expr} {scope : Scope} {own : List (Str × Nat)} {vs1 : List Nat} {pos pos' : Pos} {wi wi1 : TI} {g g1 : TG} {te : TE}
    (calm : X.calm = true) (nod : X.N.Nodup) (I : Inv X pins σ H s) (hi : PI X tg iter wi) (ok : BlkOk X.N X.env.scope scope own) (sub1 : ∀ i ∈ vs1, i ∈ own.map (·.2))
    (hg : ∀ s0 H0 C cl fp, PG (X.blk s0 H0 scope (compEnvC scope cl C X.env) fp) tg g) (hi1 : ∀ s0 H0 C cl fp, PI (X.blk s0 H0 scope (compEnvC scope cl C X.env) fp) tg1 iter1 wi1) (hg1 : ∀ s0 H0 C cl fp, PG (X.blk s0 H0 scope (compEnvC scope cl C X.env) fp) tg1 g1)
    (he : ∀ s0 H0 C cl fp, PE (X.blk s0 H0 scope (compEnvC scope cl C X.env) fp) elt te) (fold : ∀ x, foldedSetIterable iter X.env x = pure x) (fold1 : ∀ env x, foldedSetIterable iter1 env x = pure x) (h : tTexts2k X.prog X.w wi g wi1 g1 te (own.map (·.2)) vs1 σ H Q) :
    wpAny (model X.prog X.w) X.A (comprehension (setOf2 elt tg iter tg1 iter1 [] [] scope pos) scope X.env pos' (newSet (.type "set")) false (eval iter X.env)) (EP X pins σ Q) X.xe s := by
  have cellsThere : ∀ y ∈ scope.names, y.2 = .free → ∃ c, X.env.cells.lookup y.1 = some c := fun y hy e => (ok.free y hy e).elim (fun k => I.ok.has _ (.inl k)) fun k => I.ok.has _ (.inr k)
  refine wpAny_comprehension_free rfl fold (closure_ok cellsThere) ok.kind (fun y hy e => by rw [ok.uniq y hy, e]) (thn (hi.run pins s σ H _ I h) fun src s1 hx => thn hx fun itv s2 came => ?_)
  obtain ⟨it, fp, tn, J, H1, rfl, I2, T, st2, far2, n, G, Y, tx, wk, room, rest⟩ := came
  refine PpSet.newSet_ok (newEnv_comp ?_)
  generalize eD : s2.heap.objs.size = D
  have nD : H1 D = none := I2.hok.fresh (Nat.le_of_eq eD)
  obtain ⟨hG, body, fin⟩ := rest D nD
  generalize es3 : ({ s2 with heap := s2.heap.push (newSetObj X.w) } : Shared) = s3
  have heap3 : s3.heap = s2.heap.push (newSetObj X.w) := by rw [← es3]
  have up3 : ∀ b o, s2.heap.get? b = some o → s3.heap.get? b = some o := fun b o e => by rw [heap3]; exact Heap.get?_push_of_some _ e
  generalize eH2 : upd H1 D (SetS X.prog X.w D []) = H2
  have I3 : Inv X pins σ H2 s3 := by
    rw [← es3, ← eH2]
    refine I2.laid (t' := s2.toks) (fun b o e => Heap.get?_push_of_some _ e) (Nat.le_of_eq eD) ?_
    exact setS_ok (tx_new (by rw [← eD]; exact Heap.get?_push_size _ rfl)) (fun _ => Iff.rfl) (Nat.le_refl _)
  have D2 : H2 D = some (SetS X.prog X.w D []) := by rw [← eH2]; exact upd_same
  have same12 : Same H1 H2 := by rw [← eH2]; exact setD_new nD
  have young : ∀ b ∈ fp, b < s2.heap.objs.size := fun b hb => let ⟨_, e, _⟩ := T.obj _ _ st2 b hb; Heap.lt_size e
  have far3 : ∀ b ∈ fp, FpOk X pins H2 b ∧ b < s3.heap.objs.size := fun b hb => by
    have lt := young b hb
    refine ⟨⟨?_, (far2 b hb).2⟩, by rw [heap3, Heap.size_push]; exact Nat.lt_succ_of_lt lt⟩
    rw [← eH2, upd_ne (by rw [← eD]; exact Nat.ne_of_lt lt)]
    exact (far2 b hb).1
  have st3 : tn 0 s3.heap := T.keep _ _ _ st2 fun b _ o e => up3 b o e
  have I4 := block_start I3 ok nod far3
  have G0 := hg s3 H2 s3.heap.objs.size (cellsFrom (s3.heap.objs.size + 1) scope.names (cloFrom X.env.cells scope.names [])) fp
  have E0' := he s3 H2 s3.heap.objs.size (cellsFrom (s3.heap.objs.size + 1) scope.names (cloFrom X.env.cells scope.names [])) fp
  have W1 := hi1 s3 H2 s3.heap.objs.size (cellsFrom (s3.heap.objs.size + 1) scope.names (cloFrom X.env.cells scope.names [])) fp
  have G1' := hg1 s3 H2 s3.heap.objs.size (cellsFrom (s3.heap.objs.size + 1) scope.names (cloFrom X.env.cells scope.names [])) fp
  show codeAny _ _ (.compStart (setOf2 elt tg iter tg1 iter1 [] [] scope pos) 0 (.ref it) (.ref D) (compEnvC scope (cellsFrom (s3.heap.objs.size + 1) scope.names (cloFrom X.env.cells scope.names [])) s3.heap.objs.size X.env)) _ { s3 with heap := pushCells (s3.heap.push { cls := .type "dict", data := .dict #[] }) scope.names }
  generalize ece : compEnvC scope (cellsFrom (s3.heap.objs.size + 1) scope.names (cloFrom X.env.cells scope.names [])) s3.heap.objs.size X.env = ce at I4 G0 E0' W1 G1' ⊢
  have home : ce.locals = s3.heap.objs.size := by rw [← ece]; rfl
  generalize es4 : ({ s3 with heap := pushCells (s3.heap.push { cls := .type "dict", data := .dict #[] }) scope.names } : Shared) = s4 at I4 ⊢
  have st4 : tn 0 s4.heap := T.keep _ _ _ st3 fun b _ o e => by rw [← es4]; exact pushCells_keeps _ _ _ _ (Heap.get?_push_of_some _ e)
  have nfp : ∀ b ∈ fp, H2 b = none := fun b hb => (far3 b hb).1.1
  have stay : ∀ {σ' : L2.St} {H' : Hp} {s' : Shared}, Inv (X.blk s3 H2 scope ce fp) [] σ' H' s' → (∀ b ∈ fp, H' b = none) → ∀ b ∈ fp, FpOk (X.blk s3 H2 scope ce fp) [] H' b := fun {σ' H' s'} I' hn b hb =>
    ⟨hn b hb, (I'.ok.exf b hb).1, I'.ok.exfs b hb, .inl hb, fun x c => (I'.ok.exf b hb).2 x c, fun p hp => absurd (show p ∈ ([] : List (Addr × Obj)) ++ [] from hp) (by simp)⟩
  -- what holds ahead of each turn of the first clause
  generalize eV : (fun (k : Nat) (s' : Shared) => ∃ (i : Nat) (H' : Hp), k = n - i ∧ i ≤ n ∧ Inv (X.blk s3 H2 scope ce fp) [] (wipe σ (own.map (·.2))) H' s' ∧ tn i s'.heap ∧ (∀ b ∈ fp, H' b = none) ∧ Off D H1 H' ∧ H' D = some (SetS X.prog X.w D (flatT tx i))) = V
  have OUT : codeAny (model X.prog X.w) X.A (.compLoop (setOf2 elt tg iter tg1 iter1 [] [] scope pos) 0 (.ref it) (.ref D) ce) (compPost (model X.prog X.w) X.A X.xe none (EP X pins σ Q) (.ref D) s3.heap.objs.size) s4 := by
    refine codeAny_loop rfl V (fun k s5 at5 => ?_) n (by rw [← eV]; exact ⟨0, H2, rfl, Nat.zero_le _, I4, st4, nfp, Off.same same12, D2⟩)
    have at5' := at5
    rw [← eV] at at5'
    obtain ⟨i, H5, rfl, le, I5, st5, n5, sm5, d5⟩ := at5'
    show wpAny _ X.A ((compTurn (setOf2 elt tg iter tg1 iter1 [] [] scope pos) 0 (.ref it) (.ref D) ce).onRaise (fun x => do noteFrame x ce; theTreesLotGoes x)) _ _ s5
    refine wpAny_noted ?_
    rw [turn_out]
    refine wpAny_bind (wpAny_standAt (wpAny_bind ?_))
    by_cases lt : i < n
    · refine thnF (T.item (X.blk s3 H2 scope ce fp) rfl rfl rfl calm i [] s5 _ H5 (fun _ _ => False) I5 (stay I5 n5) st5 (wk.goes i H5 lt (hG _ sm5))) fun r s6 got => ?_
      obtain ⟨u, rfl, q6⟩ := got
      refine wpAny_bind (thnF q6 fun _ s7 stored => ?_)
      obtain ⟨x, H7, I7, r7, y7, st7, n7⟩ := stored
      have I7p := I7.pinned (stay I7 n7) (T.obj _ _ st7)
      refine wpAny_bind (thnF (G0.run _ s7 _ H7 x u _ I7p r7 (body i x H5 H7 lt sm5 ⟨_, d5⟩ (wk.yields i H5 x H7 lt (hG _ sm5) y7))) fun _ s8 named => ?_)
      obtain ⟨σ8, H8, I8, hw8, q8⟩ := named
      refine wpAny_bind (wpAny_tests_nil ?_)
      simp only [if_true]
      refine wpAny_bind (thnF (W1.run _ s8 σ8 H8 _ I8 q8) fun src s9 hx => ?_)
      refine wpAny_bind (wpAny_standAt (wpAny_bind (wpAny_of_eq (fold1 ce src) (wpAny_bind (wpAny_holding (thnF hx fun itv s10 came1 => ?_))))))
      obtain ⟨it1, fp1, tn1, J1, H10, rfl, I10, T1, st10, far10, sm10, dd10, G1, Y1, wk1, hG1, body1⟩ := came1
      have stay1 : ∀ {H' : Hp}, (∀ b ∈ fp1, H' b = none) → ∀ b ∈ fp1, FpOk (X.blk s3 H2 scope ce fp) ([] ++ pinsAt fp s7.heap) H' b := fun hn b hb => ⟨hn b hb, (far10 b hb).2⟩
      have d10 : H10 D = some (SetS X.prog X.w D (flatT tx i)) := dd10 _ d5
      have long8 : (wipe σ (own.map (·.2))).length = (wipe σ8 vs1).length := by rw [← hw8, wipe_length, wipe_length]
      have kept8 : ∀ (j : Nat) v, (wipe σ (own.map (·.2)))[j]? = some (some v) → (wipe σ8 vs1)[j]? = some (some v) := fun j v e => by
        rw [← hw8] at e
        obtain ⟨e1, e2⟩ := wipe_some e
        rw [wipe_out fun z => e2 (sub1 j z)]
        exact e1
      generalize eV1 : (fun (k : Nat) (s' : Shared) => ∃ (j : Nat) (H' : Hp), k = (tx i).length - j ∧ j ≤ (tx i).length ∧ Inv (X.blk s3 H2 scope ce fp) ([] ++ pinsAt fp s7.heap) (wipe σ8 vs1) H' s' ∧ tn1 j s'.heap ∧ (∀ b ∈ fp1, H' b = none) ∧
        Off D H10 H' ∧ H' D = some (SetS X.prog X.w D (flatT tx i ++ (tx i).take j))) = V1
      have IN : codeAny (model X.prog X.w) X.A (.compLoop (setOf2 elt tg iter tg1 iter1 [] [] scope pos) 1 (.ref it1) (.ref D) ce) (fun r s' => match r with
          | .ok _ => ∃ m, m < n - i ∧ V m s'
          | .error _ => False) s10 := by
        refine codeAny_loop rfl V1 (fun k s11 at11 => ?_) (tx i).length (by
          rw [← eV1]
          exact ⟨0, H10, rfl, Nat.zero_le _, I10.weak (wipe_length _ _) (fun j v e => (wipe_some e).1), st10, fun b hb => (far10 b hb).1, Off.refl D H10, by rw [List.take_zero, List.append_nil]; exact d10⟩)
        have at11' := at11
        rw [← eV1] at at11'
        obtain ⟨j, H11, rfl, lej, I11, st11, n11, sm11, d11⟩ := at11'
        show wpAny _ X.A ((compTurn (setOf2 elt tg iter tg1 iter1 [] [] scope pos) 1 (.ref it1) (.ref D) ce).onRaise (fun x => do noteFrame x ce; theTreesLotGoes x)) _ _ s11
        refine wpAny_noted ?_
        rw [turn_in]
        refine wpAny_bind (wpAny_standAt (wpAny_bind ?_))
        by_cases ltj : j < (tx i).length
        · refine thnF (T1.item (X.blk s3 H2 scope ce fp) rfl rfl rfl calm j _ s11 (wipe σ8 vs1) H11 (fun _ _ => False) I11 (stay1 n11) st11 (wk1.goes j H11 ltj (hG1 _ sm11))) fun r s12 got => ?_
          obtain ⟨u1, rfl, q12⟩ := got
          refine wpAny_bind (thnF q12 fun _ s13 stored => ?_)
          obtain ⟨x1, H13, I13, r13, y13, st13, n13⟩ := stored
          have I13p := I13.pinned (stay1 n13) (T1.obj _ _ st13)
          refine wpAny_bind (thnF (G1'.run _ s13 (wipe σ8 vs1) H13 x1 u1 _ I13p r13 (body1 j x1 H11 H13 ltj sm11 ⟨_, d11⟩ (wk1.yields j H11 x1 H13 ltj (hG1 _ sm11) y13))) fun _ s14 named => ?_)
          obtain ⟨σ14, H14, I14, hw14, q14⟩ := named
          refine wpAny_bind (wpAny_tests_nil ?_)
          simp only [if_true]
          refine wpAny_bind (wpAny_bind (thnF (E0'.run _ s14 σ14 H14 _ I14 q14) fun val s15 told => ?_))
          obtain ⟨yv, H15, I15, r15, sm15, dd15, z, rfl, hz⟩ := told
          have d15 : H15 D = some (SetS X.prog X.w D (flatT tx i ++ (tx i).take j)) := dd15 _ d11
          have few : (flatT tx i ++ (tx i).take j).length + 1 < scanBound := by
            have h1 : (flatT tx (i + 1)).length ≤ (flatT tx n).length := flatT_le lt
            rw [flatT, List.length_append] at h1
            rw [List.length_append, List.length_take]; omega
          refine wpAny_bind (wpAny_standAt (wpAny_bind ?_))
          refine addText (X := X.blk s3 H2 scope ce fp) I15 d15 few r15 fun s16 I16 => ?_
          refine wpAny_pure (wpAny_pure ⟨rfl, (tx i).length - (j + 1), by omega, ?_⟩)
          rw [← eV1]
          have pin' : ∀ b ∈ fp1, ∀ o, s13.heap.get? b = some o → s16.heap.get? b = some o ∧ (upd H15 D (SetS X.prog X.w D (flatT tx i ++ (tx i).take j ++ [z]))) b = none := fun b hb o e =>
            let q := I16.pin (b, o) (List.mem_append_right _ (List.mem_append_right _ (mem_pinsAt hb e)))
            ⟨q.1, q.2.1⟩
          refine ⟨j + 1, _, rfl, ltj, I16.unpinned.weak (by rw [← hw14, wipe_length]) (fun j v e => by rw [← hw14] at e; exact (wipe_some e).1), T1.keep _ _ _ st13 fun b hb o e => (pin' b hb o e).1, fun b hb => ?_, (sm11.trans sm15).put, ?_⟩
          · obtain ⟨o, e, _⟩ := T1.obj _ _ st13 b hb
            exact (pin' b hb o e).2
          · rw [upd_same, List.append_assoc, List.take_add_one, hz]; rfl
        · obtain rfl : j = (tx i).length := by omega
          refine thnF (T1.done (X.blk s3 H2 scope ce fp) rfl rfl rfl calm _ _ s11 (wipe σ8 vs1) H11 (fun _ _ => False) I11 (stay1 n11) st11 (wk1.stops H11 (hG1 _ sm11))) fun r s12 got => ?_
          obtain ⟨rfl, I12⟩ := got
          refine wpAny_pure ⟨n - (i + 1), by omega, ?_⟩
          rw [← eV]
          have pin' : ∀ b ∈ fp, ∀ o, s7.heap.get? b = some o → s12.heap.get? b = some o ∧ H11 b = none := fun b hb o e =>
            let q := I12.pin (b, o) (List.mem_append_right _ (List.mem_append_right _ (mem_pinsAt hb e)))
            ⟨q.1, q.2.1⟩
          refine ⟨i + 1, H11, rfl, lt, (I12.unpinned (pins := [])).weak long8 kept8, T.keep _ _ _ st7 fun b hb o e => (pin' b hb o e).1, fun b hb => ?_, (sm5.trans sm10).trans sm11, ?_⟩
          · obtain ⟨o, e, _⟩ := T.obj _ _ st7 b hb
            exact (pin' b hb o e).2
          · rw [d11, List.take_length]; rfl
      refine wpAny_bind (wpAny_runOwn ?_)
      rw [Around.mark_none]
      refine codeAny_mono (start_in IN (T1.self X.A 0 _ _ _ st10 IN)) fun r s' hr => ?_
      cases r with
      | ok f => first | exact wpAny_pure ⟨rfl, hr⟩ | exact wpAny_bind (wpAny_pure (wpAny_pure ⟨rfl, hr⟩))
      | error e => exact hr.elim
    · obtain rfl : i = n := by omega
      refine thnF (T.done (X.blk s3 H2 scope ce fp) rfl rfl rfl calm i [] s5 _ H5 (fun _ _ => False) I5 (stay I5 n5) st5 (wk.stops H5 (hG _ sm5))) fun r s6 got => ?_
      obtain ⟨rfl, I6⟩ := got
      have back : Inv X pins σ H5 s6 := I3.call' (ch := fp) I6.os I6.base I6.hok I6.bare fun b hb => ⟨(far3 b hb).1.2.2.2.1, (far3 b hb).1.2.1, (far3 b hb).1.2.2.2.2.1, (far3 b hb).1.2.2.2.2.2⟩
      have nC : H5 s3.heap.objs.size = none := by
        have z : H5 ce.locals = none := I6.free
        rwa [home] at z
      obtain ⟨m, hn, _⟩ := I6.loc
      have hn : s6.heap.Ns ce.locals m := hn
      rw [home] at hn
      obtain ⟨f0, f1, f2, f3, f4, f5⟩ := I3.fpOk (Nat.le_refl _) nC
      refine wpAny_pure ⟨m, hn, fun h'' sb => ?_⟩
      exact ⟨.ref D, H5, back.turned (t' := s6.toks) (fun b o hb e => (sb.2 b hb).trans e) f0 f1 f3 f4 f5, rfl, fin H5 (sm5.full nD) d5⟩
  exact PpSet.codeAny_compStart_set OUT (T.self X.A 0 _ _ _ st4 OUT)
/-- {elt for tg in iter for tg1 in iter1} as a value -/
theorem pe_texts2k {elt tg iter tg1 iter1 : Expr} {scope : Scope} {own : List (Str × Nat)} {vs1 : List Nat} {pos : Pos} {wi wi1 : TI} {g g1 : TG} {te : TE} (calm : X.calm = true) (nod : X.N.Nodup) (hi : PI X tg iter wi) (ok : BlkOk X.N X.env.scope scope own) (sub1 : ∀ i ∈ vs1, i ∈ own.map (·.2))
    (hg : ∀ s0 H0 C cl fp, PG (X.blk s0 H0 scope (compEnvC scope cl C X.env) fp) tg g) (hi1 : ∀ s0 H0 C cl fp, PI (X.blk s0 H0 scope (compEnvC scope cl C X.env) fp) tg1 iter1 wi1) (hg1 : ∀ s0 H0 C cl fp, PG (X.blk s0 H0 scope (compEnvC scope cl C X.env) fp) tg1 g1)
    (he : ∀ s0 H0 C cl fp, PE (X.blk s0 H0 scope (compEnvC scope cl C X.env) fp) elt te) (fold : ∀ x, foldedSetIterable iter X.env x = pure x := by intro _; rfl) (fold1 : ∀ env x, foldedSetIterable iter1 env x = pure x := by intro _ _; rfl) :
    PE X (.SetComp elt [⟨tg, iter, [], 0⟩, ⟨tg1, iter1, [], 0⟩] scope pos) (tTexts2k X.prog X.w wi g wi1 g1 te (own.map (·.2)) vs1) := by
  refine ⟨fun pins s σ H Q I h => ?_⟩
  rw [PpSet.eval_SetComp]
  exact sc2_textsk calm nod I hi ok sub1 hg hi1 hg1 he fold fold1 h
end
end K1

/-! ## B30_44 -/
set_option Elab.async false
set_option linter.all false
set_option maxRecDepth 100000
set_option maxHeartbeats 4000000
namespace B30_
open PySem PySem.Spec PyProof.Rows L2
section
variable {C : Addr} {ρ : List (Option Ob)} {K : PySem.W.Frag} {te ta tb : TE} {tt : TT} {t : TA} {os us : List Ob} {o : Ob} {wi wi1 : TI} {vs vs1 : List Nat} {i i1 : Nat} {cs : List Str}
/-- sorted({x for y in texts for x in f y}) -/
theorem rd_sset2 {P : Program} {w : World} {f : Str → List Str} (S : RI C ρ wi (cs.map .str)) (few : (cs.flatMap f).length < 64) (mem : i ∈ vs) (mem1 : i1 ∈ vs1)
    (S1 : ∀ z ∈ cs, RI C ((wipeR ρ vs).set i (some (.str z))) wi1 ((f z).map .str)) (hr : ∀ z ∈ cs, ∀ y ∈ f z, RD C ((wipeR ((wipeR ρ vs).set i (some (.str z))) vs1).set i1 (some (.str y))) te (.str y)) :
    RD C ρ (tCB (fun xs H Q => ∃ (a : Addr) (zs : List Str), xs = [.ref a] ∧ H a = some (K1.SetS P w a zs) ∧ zs.length < 64 ∧ ∀ (ys : List Str) p, ys.Nodup → (∀ z, z ∈ ys ↔ z ∈ zs) → sortedS ys = true → H p = none → Q (.ref p) (upd H p (.lst (ys.map V.str))))
      (tCons (K1.tTexts2k P w wi (gName i) wi1 (gName i1) te vs vs1) tNil)) (.lxs (uniqS (cs.flatMap f))) := fun F σ H Q e fm k => by
  refine S F σ H _ e fm fun J H1 W Y s1 wk hW hY => ?_
  have fm1 := fm.same s1
  have flat : ∀ n, n ≤ cs.length → K1.flatT (fun j => f (cs.getD j Str.empty)) n = (cs.take n).flatMap f := by
    intro n
    induction n with
    | zero => intro _; rfl
    | succ n ih =>
      intro le
      have hz : cs[n]? = some cs[n] := List.getElem?_eq_getElem (by omega)
      rw [K1.flatT, ih (by omega), take_snoc hz, List.flatMap_append]
      simp [List.getD, hz]
  have all := flat cs.length (Nat.le_refl _)
  rw [List.take_length] at all
  have full : ∀ {D : Addr} {H2 : Hp}, H1 D = none → K1.Off D H1 H2 → Same H1 H2 := fun hD o b u q => o b u (fun z => by rw [z, hD] at q; cases q) q
  refine ⟨cs.length, W, Y, fun j => f (cs.getD j Str.empty), by simpa using wk, by rw [all]; show _ < 4096; omega, fun D hD => ⟨fun H' o => hW H' (.same (full hD o)), fun j x H2 H3 hj o hset y => ?_, fun H' s hd => ?_⟩⟩
  · have s2 := full hD o
    obtain ⟨rfl, u, hu, ru⟩ := hY j H2 x H3 (by simpa using hj) (.same s2) y
    rw [List.getElem?_map] at hu
    obtain ⟨z, hz, rfl⟩ := Option.map_eq_some_iff.mp hu
    have mz := List.mem_of_getElem? hz
    obtain ⟨z0, hD2⟩ := hset
    have fm2 : Fm (Plus F D) H3 := (fm1.same s2).plus hD2 (mo_set _ _ _ _)
    have e1 : EnvD C (Plus F D) H3 σ ρ := ⟨e.1, fun i o q => (((e.same fm s1).grow hD).2 i o q).imp fun v z => ⟨z.1, z.2.kpG fm1 (.same s2) fun _ => .inl⟩⟩
    have e2 := (e1.wipe vs).set i (ru (Plus F D) (fun _ => .inl) fun p hp => hp.imp id fun (z : p = D) => z ▸ hD)
    refine ⟨wipe_set mem, S1 z mz _ _ _ _ e2 fm2 fun J1 H5 W1 Y1 s5 wk1 hW1 hY1 => ?_⟩
    have fm5 := fm2.same s5
    have gz : cs.getD j Str.empty = z := by simp [List.getD, hz]
    have kp6 : ∀ {H6 : Hp}, K1.Off D H5 H6 → Kp (Plus F D) H5 H6 := fun o b u n q => o b u (fun z => n (.inr z)) q
    show K1.Off D H3 H5 ∧ _
    refine ⟨fun b u _ q => s5 b u q, fun o q => s5 _ _ q, W1, Y1, by simp only [gz]; simpa using wk1, fun H' o' => hW1 H' (kp6 o'), fun j1 y1 H6 H7 hj1 o6 hset6 yy => ?_⟩
    simp only [gz] at hj1
    obtain ⟨rfl, u1, hu1, ru1⟩ := hY1 j1 H6 y1 H7 (by simpa using hj1) (kp6 o6) yy
    rw [List.getElem?_map] at hu1
    obtain ⟨z1, hz1, rfl⟩ := Option.map_eq_some_iff.mp hu1
    obtain ⟨z6, hD6⟩ := hset6
    have fm6 : Fm (Plus F D) H7 := fun p hp => by
      rcases hp with hp | rfl
      · by_cases q : p = D
        · subst q; exact ⟨_, hD6, mo_set _ _ _ _⟩
        · obtain ⟨o, e1, e2⟩ := fm5 p (.inl hp)
          exact ⟨o, o6 _ _ q e1, e2⟩
      · exact ⟨_, hD6, mo_set _ _ _ _⟩
    have e6 := (((e2.same fm2 s5).kp fm5 (kp6 o6)).wipe vs1).set i1 (ru1 (Plus F D) (fun _ q => q) fun _ q => .inl q)
    refine ⟨wipe_set mem1, hr z mz z1 (List.mem_of_getElem? hz1) _ _ _ _ e6 fm6 fun v H9 s9 r9 => ?_⟩
    cases r9
    exact ⟨fun b u _ q => s9 b u q, fun o q => s9 _ _ q, z1, rfl, by simp only [gz]; exact hz1⟩
  · refine ⟨D, _, rfl, hd, by rw [all]; exact few, fun ys p n m so hp => ?_⟩
    obtain rfl : ys = uniqS (cs.flatMap f) := by
      rw [uniqS_of n m so, all]
    exact k _ _ (fun b u q => by have h2 := s _ _ (s1 _ _ q); rw [upd_ne (ne_of_none h2 hp)]; exact h2) (vr_lxs ((fm1.same s).fresh hp) upd_same)
end
end B30_

/-! ## B30_45 -/
set_option Elab.async false
set_option linter.all false
set_option maxRecDepth 100000
set_option maxHeartbeats 4000000
namespace B30_
open PySem PySem.Spec PyProof.Rows L2
theorem in_it {J : It} {n : Nat} {G : Hp → Prop} {Y : Nat → Hp → V → Hp → Prop} (w : Walk J n G Y) {B : V → Hp → (Hp → Prop) → Prop} {H4 : Hp} {Nx : Hp → Prop} (P : Nat → Hp → Prop) (h0 : P 0 H4) (hG : ∀ i H, i ≤ n → P i H → G H)
    (hs : ∀ i x H H', i < n → P i H → Y i H x H' → B x H' (P (i + 1))) (hd : ∀ H, P n H → Nx H) :
    ∃ W1 : Nat → Nat → Hp → Prop, (∃ m, W1 0 m H4) ∧ ∀ j k H, W1 j k H → (J.stop j H ∧ Nx H) ∨ (J.go j H ∧ ∃ Nx1 : Hp → Prop, (∀ H', Nx1 H' → ∃ k', k' < k ∧ W1 (j + 1) k' H') ∧ ∀ x H', J.yld j H x H' → B x H' Nx1) := by
  refine ⟨fun j k H => k = n - j ∧ j ≤ n ∧ P j H, ⟨n, by simp, Nat.zero_le _, h0⟩, ?_⟩
  rintro j k H ⟨rfl, hj, p⟩
  have q := hG j H hj p
  by_cases lt : j < n
  · exact .inr ⟨w.goes j H lt q, P (j + 1), fun H' p' => ⟨n - (j + 1), by omega, rfl, lt, p'⟩, fun x H' y => hs j x H H' lt p (w.yields j H x H' lt q y)⟩
  · obtain rfl : j = n := by omega
    exact .inl ⟨w.stops H q, hd H p⟩
theorem out_it {J : It} {n : Nat} {G : Hp → Prop} {Y : Nat → Hp → V → Hp → Prop} (w : Walk J n G Y) {B : V → Hp → (Hp → Prop) → Prop} {H4 : Hp} {Nx : Hp → Prop} (P : Nat → Hp → Prop) (h0 : P 0 H4) (hG : ∀ i H, i ≤ n → P i H → G H)
    (hs : ∀ i x H H', i < n → P i H → Y i H x H' → B x H' (P (i + 1))) (hd : ∀ H, P n H → Nx H) :
    ∃ W : Nat → Nat → Hp → Prop, (∃ m, W 0 m H4) ∧ ∀ j k H, W j k H → (J.stop j H ∧ Nx H) ∨ (J.go j H ∧ ∃ Nx1 : Hp → Prop, (∀ H', Nx1 H' → ∃ k', k' < k ∧ W (j + 1) k' H') ∧ ∀ x H', J.yld j H x H' → B x H' Nx1) := in_it w P h0 hG hs hd
section
variable {C : Addr} {ρ : List (Option Ob)} {K : PySem.W.Frag} {te ta tb : TE} {tt : TT} {t : TA} {os us : List Ob} {o : Ob} {wi wi1 : TI} {vs vs1 : List Nat} {i i1 : Nat} {cs ds : List Str}
/-- [x for y in texts for x in f y] -/
theorem rd_lc2 {f : Str → List Str} (S : RI C ρ wi (cs.map .str)) (few : (cs.flatMap f).length ≤ 1000) (mem : i ∈ vs) (mem1 : i1 ∈ vs1)
    (S1 : ∀ z ∈ cs, RI C ((wipeR ρ vs).set i (some (.str z))) wi1 ((f z).map .str)) (hr : ∀ z ∈ cs, ∀ y ∈ f z, RD C ((wipeR ((wipeR ρ vs).set i (some (.str z))) vs1).set i1 (some (.str y))) te (.str y)) :
    RD C ρ (tLc2 wi (gName i) tYes wi1 (gName i1) tYes te vs vs1) (.lxs (cs.flatMap f)) := fun F σ H Q e fm k => by
  refine S F σ H _ e fm fun J H1 W Y s1 wk hW hY D hD => ?_
  have fm1 := fm.same s1
  have nF : ¬ F D := fm1.fresh hD
  have e1 : EnvD C (Plus F D) H1 σ ρ := (e.same fm s1).grow hD
  rw [List.length_map] at wk
  refine out_it wk (fun i H' => Same H1 H' ∧ H' D = some (.lst (((cs.take i).flatMap f).map V.str))) ⟨Same.add hD, upd_same⟩ (fun i H' _ p => hW H' (.same p.1)) (fun j x H2 H3 hj p y => ?_) (fun H2 p => ?_)
  · obtain ⟨s2, hacc⟩ := p
    obtain ⟨rfl, u, hu, ru⟩ := hY j H2 x H3 (by simpa using hj) (.same s2) y
    rw [List.getElem?_map] at hu
    obtain ⟨z, hz, rfl⟩ := Option.map_eq_some_iff.mp hu
    have mz := List.mem_of_getElem? hz
    have fm2 : Fm (Plus F D) H3 := (fm1.same s2).plus hacc (mo_lst _)
    have e2 : EnvD C (Plus F D) H3 ((wipe σ vs).set i (some x)) ((wipeR ρ vs).set i (some (.str z))) :=
      ((show EnvD C (Plus F D) H3 σ ρ from ⟨e1.1, fun i o q => (e1.2 i o q).imp fun v z => ⟨z.1, z.2.kpG fm1 (.same s2) fun _ => .inl⟩⟩).wipe vs).set i (ru _ (fun _ => .inl) fun p hp => hp.imp id fun (z : p = D) => z ▸ hD)
    refine ⟨wipe_set mem, ?_⟩
    simp only [tYes, if_true]
    refine S1 z mz _ _ _ _ e2 fm2 fun J1 H5 W1 Y1 s5 wk1 hW1 hY1 => ?_
    have fm5 := fm2.same s5
    rw [List.length_map] at wk1
    refine in_it wk1 (fun j1 H' => Kp (Plus F D) H5 H' ∧ Fm (Plus F D) H' ∧ Same H1 H' ∧ H' D = some (.lst (((cs.take j).flatMap f ++ (f z).take j1).map V.str))) ⟨.refl _ _, fm5, s2.trans s5, by rw [List.take_zero, List.append_nil]; exact s5 _ _ hacc⟩ (fun j1 H' _ p => hW1 H' p.1) (fun j1 y1 H6 H7 hj1 p yy => ?_) (fun H6 p => ?_)
    · obtain ⟨kp6, fm6, s6, h6⟩ := p
      obtain ⟨rfl, u1, hu1, ru1⟩ := hY1 j1 H6 y1 H7 (by simpa using hj1) kp6 yy
      rw [List.getElem?_map] at hu1
      obtain ⟨z1, hz1, rfl⟩ := Option.map_eq_some_iff.mp hu1
      have e6 := (((e2.same fm2 s5).kp fm5 kp6).wipe vs1).set i1 (ru1 (Plus F D) (fun _ q => q) fun _ q => .inl q)
      refine ⟨wipe_set mem1, ?_⟩
      refine hr z mz z1 (List.mem_of_getElem? hz1) _ _ _ _ e6 fm6 fun v H9 s9 r9 => ?_
      cases r9
      have l1 : ((cs.take j).flatMap f ++ (f z).take j1).length ≤ (cs.flatMap f).length := by
        have e : cs.flatMap f = (cs.take j).flatMap f ++ (f z ++ (cs.drop (j + 1)).flatMap f) := by
          conv => lhs; rw [← List.take_append_drop j cs, List.flatMap_append, List.drop_eq_getElem_cons (by omega), List.flatMap_cons]
          rw [show cs[j] = z from Option.some.inj ((List.getElem?_eq_getElem (by omega)).symm.trans hz)]
        rw [e, List.length_append, List.length_append, List.length_append, List.length_take]
        omega
      refine ⟨_, s9 _ _ h6, by rw [List.length_map, sizeLine_eq]; omega, fun b u n q => ?_, ?_, fun b u q => ?_, ?_⟩
      · rw [upd_ne (fun z => n (.inr z))]; exact s9 _ _ (kp6 _ _ n q)
      · have := (fm6.same s9).less (G := F) fun _ => .inl
        exact this.put (mo_lst _)
      · rw [upd_ne (fun z => by rw [z, hD] at q; cases q)]; exact s9 _ _ (s6 _ _ q)
      · rw [upd_same, take_snoc hz1, ← List.append_assoc, List.map_append (l₂ := [z1])]
        rfl
    · obtain ⟨kp6, fm6, s6, h6⟩ := p
      rw [List.take_length] at h6
      refine ⟨s6, ?_⟩
      rw [h6, take_snoc hz, List.flatMap_append]
      simp
  · obtain ⟨s2, hacc⟩ := p
    rw [List.take_length] at hacc
    exact k _ H2 (s1.trans s2) (vr_lxs nF hacc)
/-! ### [*a, *b] -/
theorem rds_star {y : Ob} (hy : y = .tup us ∨ y = .lst us) (a : RD C ρ te y) (b : RDs C ρ t os) : RDs C ρ (StX.tStar K te t) (us ++ os) := fun F σ H Q e fm k => by
  refine a F σ H _ e fm fun v H1 s1 r1 => ?_
  have fm1 := fm.same s1
  rcases hy with rfl | rfl
  · cases r1 with
    | tup h rs => exact ⟨_, _, rfl, .inl (SqT.of h), b F σ H1 _ (e.same fm s1) fm1 fun ws H2 s2 r2 => k _ _ (s1.trans s2) ((rs.same fm1 s2).app r2)⟩
  · cases r1 with
    | lst n h rs => exact ⟨_, _, rfl, .inr (SqL.of h), b F σ H1 _ (e.same fm s1) fm1 fun ws H2 s2 r2 => k _ _ (s1.trans s2) ((rs.same fm1 s2).app r2)⟩
/-- lists joined -/
theorem rd_cat (a : RD C ρ ta (.lst os)) (b : RD C ρ tb (.lst us)) (few : os.length + us.length ≤ 1000) : RD C ρ (tOp rCat ta tb) (.lst (os ++ us)) :=
  rd_op a b fun F v w H Q fm r1 r2 k => by
    cases r1 with
    | lst n1 h1 rs1 => cases r2 with
      | lst n2 h2 rs2 =>
        refine ⟨_, _, _, _, rfl, rfl, h1, h2, by rw [rs1.length, rs2.length, sizeLine_eq]; omega, fun p hp => ?_⟩
        exact k _ _ (Same.add hp) (.lst (fm.fresh hp) upd_same ((rs1.app rs2).same fm (Same.add hp)))
theorem rd_catS (a : RD C ρ ta (.lxs cs)) (b : RD C ρ tb (.lxs ds)) (few : cs.length + ds.length ≤ 1000) : RD C ρ (tOp rCat ta tb) (.lxs (cs ++ ds)) := by
  have h := rd_cat a b (by simpa using few)
  exact h.cast (by simp)
theorem atI_of {xs : List V} {j : Nat} {v : V} (h : xs[j]? = some v) : atI xs (j : Int) = some v := atI_nat h
/-- an item of a list or a tuple -/
theorem rd_ixT {j : Nat} (h : os[j]? = some o) (a : RD C ρ ta (.tup os)) (b : RD C ρ tb (.int j)) : RD C ρ (tOp (rIxT K) ta tb) o :=
  rd_op a b fun F v w H Q fm r1 r2 k => by
    cases r2
    cases r1 with
    | tup e rs =>
      obtain ⟨v, h1, h2⟩ := rs.at h
      exact ⟨_, _, _, v, rfl, rfl, SqT.of e, atI_of h1, k v H (Same.refl H) h2⟩
theorem rd_ixL {j : Nat} (h : os[j]? = some o) (a : RD C ρ ta (.lst os)) (b : RD C ρ tb (.int j)) : RD C ρ (tOp (rIxL K) ta tb) o :=
  rd_op a b fun F v w H Q fm r1 r2 k => by
    cases r2
    cases r1 with
    | lst n e rs =>
      obtain ⟨v, h1, h2⟩ := rs.at h
      exact ⟨_, _, _, v, rfl, rfl, SqL.of e, atI_of h1, k v H (Same.refl H) h2⟩
/-! ### scenes -/
def kOb : Kd → Ob
  | .key ks => .txs ks
  | _ => .non
def kdOb : Kd → Ob
  | .chg => .str "changing"
  | .fix => .non
  | .key ks => .txs ks
theorem vr_keyV {F : Addr → Prop} {H : Hp} {v : V} {k : Kd} (h : KeyV H v k) : VR C F H v (kOb k) := by
  cases k with
  | chg => obtain rfl : v = .non := h; exact .non
  | fix => obtain rfl : v = .non := h; exact .non
  | key ks => obtain ⟨p, rfl, e⟩ := h; exact vr_txs e
theorem vr_kd {F : Addr → Prop} {H : Hp} {v : V} {k : Kd} (h : KdAt H v k) : VR C F H v (kdOb k) := by
  cases k with
  | chg => obtain rfl : v = .str "changing" := h; exact .str _
  | fix => obtain rfl : v = .non := h; exact .non
  | key ks => obtain ⟨p, rfl, e⟩ := h; exact vr_txs e
theorem ScN.at {F : Addr → Prop} {H : Hp} {x : Addr} {Ls : List Ln} (h : ScN C F H x Ls) : SceneAt C H x Ls := by
  obtain ⟨dx, pl, pt, pc, pg, pf, dc, dk, h1, h2, _⟩ := h
  exact ⟨dx, pl, pt, pc, pg, pf, dc, dk, h1, h2⟩
variable {Ls : List Ln}
theorem rd_tables (a : RD C ρ te (.scn Ls)) : RD C ρ (tProp C (getSp C "_tables") [] E0 te) (.txs (tabsOf Ls)) := fun F σ H Q e fm k => a F σ H _ e fm fun v H1 s1 r1 => by
  cases r1 with
  | scn h =>
    obtain ⟨dx, pl, pt, pc, pg, pf, dc, dk, h1, h2, _⟩ := h
    exact ⟨_, dx, _, rfl, h1, _, dx, _, .ref pt, rfl, h1, rfl, k _ H1 s1 (vr_txs h2.tabs)⟩
theorem rd_changing (a : RD C ρ te (.scn Ls)) : RD C ρ (tProp C (getSp C "_changing") [] E0 te) (.txs (chgOf Ls)) := fun F σ H Q e fm k => a F σ H _ e fm fun v H1 s1 r1 => by
  cases r1 with
  | scn h =>
    obtain ⟨dx, pl, pt, pc, pg, pf, dc, dk, h1, h2, _⟩ := h
    exact ⟨_, dx, _, rfl, h1, _, dx, _, .ref pg, rfl, h1, rfl, k _ H1 s1 (vr_txs h2.chg)⟩
theorem rd_fixed (a : RD C ρ te (.scn Ls)) : RD C ρ (tProp C (getSp C "_fixed") [] E0 te) (.txs (fixOf Ls)) := fun F σ H Q e fm k => a F σ H _ e fm fun v H1 s1 r1 => by
  cases r1 with
  | scn h =>
    obtain ⟨dx, pl, pt, pc, pg, pf, dc, dk, h1, h2, _⟩ := h
    exact ⟨_, dx, _, rfl, h1, _, dx, _, .ref pf, rfl, h1, rfl, k _ H1 s1 (vr_txs h2.fix)⟩
theorem rd_columns (a : RD C ρ te (.scn Ls)) : RD C ρ (tProp C (getSp C "_columns") [] E0 te) (.txs (colsOf Ls)) := fun F σ H Q e fm k => a F σ H _ e fm fun v H1 s1 r1 => by
  cases r1 with
  | scn h =>
    obtain ⟨dx, pl, pt, pc, pg, pf, dc, dk, h1, h2, _⟩ := h
    exact ⟨_, dx, _, rfl, h1, _, dx, _, .ref pc, rfl, h1, rfl, k _ H1 s1 (vr_txs h2.cols)⟩
theorem rd_cof {l : Ln} (a : RD C ρ te (.scn Ls)) (b : RDs C ρ t [.str l.t]) (ml : l ∈ Ls) (nd : (Ls.map (·.t)).Nodup) : RD C ρ (tMeth C "columns_of" (spCof C) [] E0 te t) (.txs l.cs) := fun F σ H Q e fm k => a F σ H _ e fm fun v H1 s1 r1 => by
  cases r1 with
  | scn h =>
    obtain ⟨dx, pl, pt, pc, pg, pf, dc, dk, h1, _⟩ := id h
    refine ⟨_, dx, _, rfl, h1, rfl, b F σ H1 _ (e.same fm s1) (fm.same s1) fun vs H2 s2 r2 => ?_⟩
    cases r2 with
    | cons r3 r4 =>
      cases r3; cases r4
      exact ⟨_, l, Ls, rfl, (h.kp (fm.same s1) (.same s2) fun _ z => z).at, ml, nd, fun c hc => k _ H2 (s1.trans s2) (vr_txs hc)⟩
theorem rd_kof {l : Ln} (a : RD C ρ te (.scn Ls)) (b : RDs C ρ t [.str l.t]) (ml : l ∈ Ls) (nd : (Ls.map (·.t)).Nodup) : RD C ρ (tMeth C "key_of" (spKof C) [] E0 te t) (kOb l.k) := fun F σ H Q e fm k => a F σ H _ e fm fun v H1 s1 r1 => by
  cases r1 with
  | scn h =>
    obtain ⟨dx, pl, pt, pc, pg, pf, dc, dk, h1, _⟩ := id h
    refine ⟨_, dx, _, rfl, h1, rfl, b F σ H1 _ (e.same fm s1) (fm.same s1) fun vs H2 s2 r2 => ?_⟩
    cases r2 with
    | cons r3 r4 =>
      cases r3; cases r4
      exact ⟨_, l, Ls, rfl, (h.kp (fm.same s1) (.same s2) fun _ z => z).at, ml, nd, fun v hv => k _ H2 (s1.trans s2) (vr_keyV hv)⟩
theorem rd_inScn {z : Str} (a : RD C ρ ta (.str z)) (b : RD C ρ tb (.scn Ls)) : RD C ρ (tOp (fun x y H Q => ∃ a dx fs, y = .ref a ∧ H a = some (.ins C dx fs) ∧ spCon K C [.ref a, x] H (fun v H' => ∃ b, v = .bl b ∧ Q (.bl b) H') E0) ta tb) (.bl (decide (z ∈ tabsOf Ls))) :=
  rd_op a b fun F v w H Q fm r1 r2 k => by
    cases r1
    cases r2 with
    | scn h =>
      obtain ⟨dx, pl, pt, pc, pg, pf, dc, dk, h1, _⟩ := id h
      exact ⟨_, dx, _, rfl, h1, _, _, Ls, rfl, h.at, .inl ⟨z, rfl, _, rfl, k _ H (Same.refl H) (.bl _)⟩⟩
/-- scene[name] of the law's dict -/
theorem rd_plain {l : Ln} (ok : (Ls.map (·.t)).Nodup) (ml : l ∈ Ls) (a : RD C ρ ta (.pln Ls)) (b : RD C ρ tb (.str l.t)) : RD C ρ (tDGet ta tb) (.tup [.txs l.cs, kdOb l.k]) := fun F σ H Q e fm k => a F σ H _ e fm fun v H1 s1 r1 => b F σ H1 _ (e.same fm s1) (fm.same s1) fun w H2 s2 r2 => by
  cases r2
  have r1' := r1.same (fm.same s1) s2
  cases r1' with
  | pln n h =>
    obtain ⟨kvs, h1, h2⟩ := h
    obtain ⟨v, m, e1, e2, e3, pp, c, kv, rfl, t1, t2, t3⟩ := val_at h2 (List.mem_map.mpr ⟨l, ml, rfl⟩)
    obtain rfl := same_line ok ml e2 e3
    exact ⟨_, .ref pp, rfl, e1 ▸ DGet.k (k := Sum.inr _) h1, k _ H2 (s1.trans s2) (.tup t1 (.cons (vr_txs t2) (.cons (vr_kd t3) .nil)))⟩
/-! ### calls of the program's own defs -/
/-- a def that takes data and gives data, and changes nothing -/
def spP (C : Addr) (g : List Ob → Ob → Prop) : Sp := fun vs H Q _ => ∃ F os r, Fm F H ∧ VRs C F H vs os ∧ g os r ∧ ∀ v H', Same H H' → VR C F H' v r → Q v H'
theorem rd_call {g : List Ob → Ob → Prop} {E : XK} {r : Ob} (a : RDs C ρ t os) (h : g os r) : RD C ρ (tCall (spP C g) [] E t) r := fun F σ H Q e fm k => a F σ H _ e fm fun vs H1 s1 r1 => by
  refine ⟨F, os, r, fm.same s1, ?_, h, fun v H2 s2 r2 => k v H2 (s1.trans s2) r2⟩
  rw [List.append_nil]; exact r1
end
end B30_

/-! ## B30_46 -/
set_option Elab.async false
set_option linter.all false
set_option maxRecDepth 100000
set_option maxHeartbeats 4000000
namespace B30_
open PySem PySem.Spec PyProof.Rows L2
/-! ### statements over data -/
structure Sq (C : Addr) (A F : Addr → Prop) (H0 : Hp) (ρ : List (Option Ob)) (σ : L2.St) (H : Hp) : Prop where
  kp : Kp A H0 H
  env : EnvD C F H σ ρ
  fm : Fm F H
/-- an expression, here and now, gives the data o and changes nothing -/
def Ev (C : Addr) (F : Addr → Prop) (σ : L2.St) (H : Hp) (te : TE) (o : Ob) : Prop := ∀ Q : VK, (∀ v H', Same H H' → VR C F H' v o → Q v H') → te σ H Q
def Evs (C : Addr) (F : Addr → Prop) (σ : L2.St) (H : Hp) (t : TA) (os : List Ob) : Prop := ∀ Q : List V → Hp → Prop, (∀ vs H', Same H H' → VRs C F H' vs os → Q vs H') → t σ H Q
def EvT (σ : L2.St) (H : Hp) (tt : TT) (b : Bool) : Prop := ∀ Q : Bool → Hp → Prop, (∀ H', Same H H' → Q b H') → tt σ H Q
/-- a list that is one's own -/
def OL (C : Addr) (F : Addr → Prop) (H : Hp) (p : Addr) (os : List Ob) : Prop := F p ∧ ∃ xs, H p = some (.lst xs) ∧ VRs C F H xs os
section
variable {C : Addr} {A F G : Addr → Prop} {H0 H H' : Hp} {ρ : List (Option Ob)} {σ : L2.St} {K : PySem.W.Frag} {te : TE} {t : TA} {tt : TT} {o : Ob} {os us : List Ob} {D : Ends} {i j : Nat} {p : Addr}
theorem Sq.ev (q : Sq C A F H0 ρ σ H) (r : RD C ρ te o) : Ev C F σ H te o := fun Q k => r F σ H Q q.env q.fm k
theorem Sq.evs (q : Sq C A F H0 ρ σ H) (r : RDs C ρ t os) : Evs C F σ H t os := fun Q k => r F σ H Q q.env q.fm k
theorem Sq.evt {b : Bool} (q : Sq C A F H0 ρ σ H) (r : RT C ρ tt b) : EvT σ H tt b := fun Q k => r F σ H Q q.env q.fm k
theorem Sq.same (q : Sq C A F H0 ρ σ H) (s : Same H H') : Sq C A F H0 ρ σ H' := ⟨q.kp.trans (.same s), q.env.same q.fm s, q.fm.same s⟩
theorem Sq.drop (q : Sq C A F H0 ρ σ H) (i : Nat) : Sq C A F H0 (ρ.set i none) σ H := ⟨q.kp, q.env.drop i, q.fm⟩
theorem Sq.fewer (q : Sq C A F H0 ρ σ H) {ρ' : List (Option Ob)} (l : ρ'.length = ρ.length) (h : ∀ (i : Nat) o, ρ'[i]? = some (some o) → ρ[i]? = some (some o)) : Sq C A F H0 ρ' σ H := ⟨q.kp, ⟨q.env.1.trans l.symm, fun i o e => q.env.2 i o (h i o e)⟩, q.fm⟩
theorem OL.same (h : OL C F H p os) (fm : Fm F H) (s : Same H H') : OL C F H' p os := ⟨h.1, h.2.imp fun xs q => ⟨s _ _ q.1, q.2.same fm s⟩⟩
theorem OL.off (h : OL C F H p os) (fm : Fm F H) {r : Addr} (n : p ≠ r) (fr : F r) (s : ∀ b o, b ≠ r → H b = some o → H' b = some o) : OL C F H' p os :=
  ⟨h.1, h.2.imp fun xs q => ⟨s _ _ n q.1, q.2.kp fm fun b o nb e => s b o (fun z => nb (z ▸ fr)) e⟩⟩
/-- no list and no dict lies in it -/
def Ob.free : Ob → Bool
  | .non => true
  | .bl _ => true
  | .int _ => true
  | .str _ => true
  | .own _ => true
  | .tup os => freeAll os
  | _ => false
where freeAll : List Ob → Bool
  | [] => true
  | o :: r => o.free && freeAll r
theorem free_strs (cs : List Str) : (Ob.txs cs).free = true := by
  show Ob.free.freeAll (cs.map .str) = true
  induction cs with
  | nil => rfl
  | cons c r ih => show (Ob.free (.str c) && Ob.free.freeAll (r.map .str)) = true; rw [ih]; rfl
mutual
theorem VR.free : ∀ {v : V} {o : Ob}, VR C F H v o → o.free = true → VR C G H v o
  | _, _, .non, _ => .non
  | _, _, .bl b, _ => .bl b
  | _, _, .int b, _ => .int b
  | _, _, .str b, _ => .str b
  | _, _, .own b, _ => .own b
  | _, _, .tup e r, h => .tup e (VRs.free r h)
  | _, _, .lst _ _ _, h => by cases h
  | _, _, .pln _ _, h => by cases h
  | _, _, .scn _, h => by cases h
  | _, _, .ks _ _ _, h => by cases h
  | _, _, .ab _, h => by cases h
theorem VRs.free : ∀ {vs : List V} {os : List Ob}, VRs C F H vs os → Ob.free.freeAll os = true → VRs C G H vs os
  | _, _, .nil, _ => .nil
  | _, _, .cons a b, h => by
    have h2 : (_ && _) = true := h
    rw [Bool.and_eq_true] at h2
    exact .cons (VR.free a h2.1) (VRs.free b h2.2)
end
/-- .. and a list of one's own is lent as data for the time being -/
theorem Sq.lend (q : Sq C A F H0 ρ σ H) (h : ρ[j]? = some (some (.own p))) (ol : OL C F H p os) : EnvD C (fun b => F b ∧ b ≠ p) H σ (ρ.set j (some (.lst os))) ∧ Fm (fun b => F b ∧ b ≠ p) H := by
  refine ⟨?_, q.fm.less fun b hb => hb.1⟩
  obtain ⟨v, h1, h2⟩ := q.env.2 j _ h
  cases h2
  obtain ⟨fp, xs, hx, rx⟩ := ol
  refine ⟨by simp [q.env.1], fun k u e => ?_⟩
  rw [List.getElem?_set] at e
  by_cases z : j = k
  · subst z
    rw [if_pos rfl] at e
    split at e
    · cases e
      exact ⟨_, h1, .lst (fun y => y.2 rfl) hx (rx.mono fun b hb => hb.1)⟩
    · cases e
  · rw [if_neg z] at e
    exact (q.env.2 k u e).imp fun v y => ⟨y.1, y.2.mono fun b hb => hb.1⟩
theorem Sq.evl (q : Sq C A F H0 ρ σ H) (h : ρ[j]? = some (some (.own p))) (ol : OL C F H p os) (r : RD C (ρ.set j (some (.lst os))) te o) (fr : o.free = true) : Ev C F σ H te o := fun Q k => by
  obtain ⟨e, fm⟩ := q.lend h ol
  exact r _ σ H Q e fm fun v H' s rv => k v H' s (rv.free fr)
theorem Sq.evlt {b : Bool} (q : Sq C A F H0 ρ σ H) (h : ρ[j]? = some (some (.own p))) (ol : OL C F H p os) (r : RT C (ρ.set j (some (.lst os))) tt b) : EvT σ H tt b := fun Q k => by
  obtain ⟨e, fm⟩ := q.lend h ol
  exact r _ σ H Q e fm k
theorem seq {t u : TS} (h : t { D with nx := u D } σ H) : tSeq t u D σ H := h
theorem st_set (q : Sq C A F H0 ρ σ H) (ev : Ev C F σ H te o) (k : ∀ v H', Same H H' → Sq C A F H0 (ρ.set i (some o)) (σ.set i (some v)) H' → D.nx (σ.set i (some v)) H') : tAsg te (gName i) D σ H :=
  ev _ fun v H' s rv => k v H' s ⟨q.kp.trans (.same s), (q.env.same q.fm s).set i rv, q.fm.same s⟩
theorem st_ret (q : Sq C A F H0 ρ σ H) (ev : Ev C F σ H te o) (k : ∀ v H', Kp A H0 H' → VR C F H' v o → Fm F H' → Same H H' → D.rt v H') : tRet te D σ H := ev _ fun v H' s rv => k v H' (q.kp.trans (.same s)) rv (q.fm.same s) s
theorem st_drop (q : Sq C A F H0 ρ σ H) (ev : Ev C F σ H te o) (k : ∀ H', Same H H' → Sq C A F H0 ρ σ H' → D.nx σ H') : tDrop te D σ H := ev _ fun v H' s rv => k H' s (q.same s)
theorem st_if {b : Bool} {t u : TS} (q : Sq C A F H0 ρ σ H) (ev : EvT σ H tt b) (kt : b = true → ∀ H', Same H H' → Sq C A F H0 ρ σ H' → t D σ H') (kf : b = false → ∀ H', Same H H' → Sq C A F H0 ρ σ H' → u D σ H') : tIfS tt t u D σ H :=
  ev _ fun H' s => by
    cases b with
    | true => exact iteTk rfl (kt rfl H' s (q.same s))
    | false => exact iteFk rfl (kf rfl H' s (q.same s))
/-- a new empty list of one's own -/
theorem st_own (q : Sq C A F H0 ρ σ H) (k : ∀ p H', H p = none → H0 p = none ∨ A p → Same H H' → Sq C A (Plus F p) H0 (ρ.set i (some (.own p))) (σ.set i (some (.ref p))) H' → OL C (Plus F p) H' p [] → D.nx (σ.set i (some (.ref p))) H') : tAsg (tLst tNil) (gName i) D σ H := by
  refine ⟨Nat.zero_le _, fun p hp => ?_⟩
  have s : Same H (upd H p (.lst [])) := Same.add hp
  refine k p _ hp ?_ s ⟨q.kp.trans (.same s), ?_, (q.fm.put (mo_lst []))⟩ ⟨.inr rfl, [], upd_same, .nil⟩
  · by_cases a : A p
    · exact .inr a
    · cases e : H0 p with
      | none => exact .inl rfl
      | some u => have h2 := q.kp p u a e; rw [hp] at h2; cases h2
  · have e1 := q.env.grow hp
    have e2 : EnvD C (Plus F p) (upd H p (.lst [])) σ ρ := ⟨e1.1, fun i o z => (e1.2 i o z).imp fun v y => ⟨y.1, y.2.kpG q.fm (.same s) fun _ => .inl⟩⟩
    exact e2.set i (.own p)
/-- found.append(e) -/
theorem st_append (q : Sq C A F H0 ρ σ H) (h : ρ[j]? = some (some (.own p))) (ol : OL C F H p os) (n0 : H0 p = none ∨ A p) (r : Evs C F σ H t [o]) (few : os.length ≤ 1000)
    (k : ∀ H', (∀ b u, b ≠ p → H b = some u → H' b = some u) → Sq C A F H0 ρ σ H' → OL C F H' p (os ++ [o]) → D.nx σ H') : tDrop (tBM K "list" rAppend (tVar j) t) D σ H := by
  obtain ⟨v, h1, h2⟩ := q.env.2 j _ h
  cases h2
  obtain ⟨fp, xs, hx, rx⟩ := ol
  refine ⟨_, h1, .inl ⟨rfl, xs, SqL.of hx⟩, r _ fun vs H' s rv => ?_⟩
  cases rv with
  | cons rv rn =>
    cases rn
    have fm1 := q.fm.same s
    have kp1 : ∀ ys, Kp F H' (upd H' p (.lst ys)) := fun ys b u n e => by rw [upd_ne (fun z : b = p => n (z ▸ fp))]; exact e
    refine ⟨p, xs, _, rfl, rfl, s _ _ hx, by rw [rx.length, sizeLine_eq]; omega, k _ (fun b u n e => by rw [upd_ne n]; exact s _ _ e) ⟨fun b u n e => ?_, (q.env.same q.fm s).kp fm1 (kp1 _), fun b hb => ?_⟩ ⟨fp, _, upd_same, ((rx.same q.fm s).app (.cons rv .nil)).kp fm1 (kp1 _)⟩⟩
    · have n2 : b ≠ p := fun z => by
        subst z
        rcases n0 with n0 | n0
        · rw [e] at n0; cases n0
        · exact n n0
      rw [upd_ne n2]
      exact s _ _ (q.kp b u n e)
    · by_cases z : b = p
      · subst z; exact ⟨_, upd_same, mo_lst _⟩
      · rw [upd_ne z]; exact fm1 b hb
/-- for x in data -/
theorem st_for {wi : TI} {tb : TS} (q : Sq C A F H0 ρ σ H) (S : RI C ρ wi os) (k : ∀ H1, Same H H1 → Sq C A F H0 ρ σ H1 → ∃ P : Nat → L2.St → Hp → Prop, P 0 σ H1 ∧ (∀ n σ' H', P n σ' H' → Kp F H1 H') ∧
    (∀ n o σ' H' x, os[n]? = some o → P n σ' H' → (∀ G : Addr → Prop, (∀ b, F b → G b) → (∀ b, G b → F b ∨ H1 b = none) → VR C G H' x o) → tb { D with nx := P (n + 1), ct := P (n + 1), bk := D.nx } (σ'.set i (some x)) H') ∧ (∀ σ' H', P os.length σ' H' → D.nx σ' H')) : tFor wi (gName i) tb D σ H := by
  refine S F σ H _ q.env q.fm fun J H1 W Y s1 wk hW hY => ?_
  obtain ⟨P, h0, hk, hb, hd⟩ := k H1 s1 (q.same s1)
  refine for_it wk P h0 (fun n σ' H' _ p => hW H' (hk n σ' H' p)) (fun n x σ' H2 H3 hn p y => ?_) hd
  obtain ⟨rfl, o, ho, ro⟩ := hY n H2 x H3 hn (hk n σ' H2 p) y
  exact hb n o σ' H3 x ho p ro
/-- at the entry of a def -/
theorem Sq.start {N : List Str} {vs : List V} {F : Addr → Prop} (fm : Fm F H) (r : VRs C F H vs os) : Sq C A F H (os.map some ++ List.replicate (N.length - os.length) none) (L2.start N vs) H := by
  refine ⟨.refl _ _, ⟨by simp [L2.start, r.length], fun i o e => ?_⟩, fm⟩
  by_cases lt : i < os.length
  · rw [List.getElem?_append_left (by simpa using lt), List.getElem?_map] at e
    obtain ⟨o', h1, h2⟩ := Option.map_eq_some_iff.mp e
    cases h2
    obtain ⟨v, h3, h4⟩ := r.at h1
    refine ⟨v, ?_, h4⟩
    unfold L2.start
    rw [List.getElem?_append_left (by simpa [r.length] using lt), List.getElem?_map, h3]
    rfl
  · rw [List.getElem?_append_right (by simpa using Nat.le_of_not_lt lt), List.getElem?_replicate] at e
    split at e <;> cases e
end
end B30_

/-! ## B30_47 -/
set_option Elab.async false
set_option linter.all false
set_option maxRecDepth 100000
set_option maxHeartbeats 4000000
namespace B30_
open PySem PySem.Spec PyProof.Rows L2
section
variable {C : Addr} {ρ : List (Option Ob)} {K : PySem.W.Frag} {te ta tb : TE} {tt : TT} {t : TA} {os us : List Ob} {o : Ob} {cs : List Str}
def Ob.isNon : Ob → Bool
  | .non => true
  | _ => false
theorem VR.isNon {F : Addr → Prop} {H : Hp} {v : V} (h : VR C F H v o) : decide (v = .non) = o.isNon := by
  cases h with
  | @ab v A e => obtain ⟨p, rfl⟩ := A.ref e; simp [Ob.isNon]
  | _ => simp [Ob.isNon]
/-- x is not None -/
theorem rd_notN {b : Bool} (a : RD C ρ ta o) (h : (!o.isNon) = b) : RD C ρ (tOp (fun x y H Q => y = .non ∧ Q (.bl (!decide (x = .non))) H) ta (tC .non)) (.bl b) :=
  rd_op a rd_non fun F v w H Q fm r1 r2 k => by
    cases r2
    refine ⟨rfl, ?_⟩
    rw [r1.isNon, h]
    exact k _ H (Same.refl H) (.bl _)
theorem rd_isN {b : Bool} (a : RD C ρ ta o) (h : o.isNon = b) : RD C ρ (tOp (fun x y H Q => y = .non ∧ Q (.bl (decide (x = .non))) H) ta (tC .non)) (.bl b) :=
  rd_op a rd_non fun F v w H Q fm r1 r2 k => by
    cases r2
    refine ⟨rfl, ?_⟩
    rw [r1.isNon, h]
    exact k _ H (Same.refl H) (.bl _)
theorem valV_keys {kvs : List (Key × V)} {ks : List Str} (h : kvs.map (·.1) = ks.map Sum.inr) (z : Str) : (valV kvs (Sum.inr z)).isSome = decide (z ∈ ks) := by
  cases e : valV kvs (Sum.inr z) with
  | none =>
    refine (decide_eq_false fun m => ?_).symm
    have : (Sum.inr z : Key) ∈ kvs.map (·.1) := by rw [h]; exact List.mem_map.mpr ⟨z, m, rfl⟩
    obtain ⟨kv, m2, e2⟩ := List.mem_map.mp this
    have n : ∀ {kvs : List (Key × V)}, kv ∈ kvs → valV kvs kv.1 ≠ none := by
      intro kvs m
      induction kvs with
      | nil => cases m
      | cons a r ih =>
        by_cases q : a.1 = kv.1
        · rw [valV_pos q]; simp
        · rw [valV_neg q]
          rcases List.mem_cons.mp m with rfl | m
          · exact absurd rfl q
          · exact ih m
    exact n m2 (by rw [e2]; exact e)
  | some v =>
    refine (decide_eq_true ?_).symm
    have m := valV_in e
    rw [h] at m
    obtain ⟨y, my, ey⟩ := List.mem_map.mp m
    cases ey; exact my
/-- x in a dict of texts -/
theorem rd_inKs {z : Str} {ks : List Str} (a : RD C ρ ta (.str z)) (b : RD C ρ tb (.ks ks)) : RD C ρ (tDIn ta tb) (.bl (decide (z ∈ ks))) := fun F σ H Q e fm k => a F σ H _ e fm fun v H1 s1 r1 => b F σ H1 _ (e.same fm s1) (fm.same s1) fun w H2 s2 r2 => by
  cases r1
  cases r2 with
  | ks n e r =>
    refine ⟨_, _, rfl, DGet.k (k := Sum.inr z) e, ?_⟩
    rw [valV_keys r]
    exact k _ H2 (s1.trans s2) (.bl _)
end
end B30_

/-! ## B30_50 -/
set_option Elab.async false
set_option linter.all false
set_option maxRecDepth 100000
set_option maxHeartbeats 8000000
namespace B30_
open PySem PySem.Spec PyProof.Rows L2
/-! ### closures by keys, as data -/
def keyOf (Ls : List Ln) (t : Str) : Option (List Str) := (Ls.find? fun l => decide (l.t = t)).bind fun l => match l.k with
  | .key ks => some ks
  | _ => none
def readyB (Ls : List Ln) (have_ used : List Str) (t : Str) : Bool := match keyOf Ls t with
  | some ks => !decide (t ∈ used) && ks.all fun c => decide (c ∈ have_)
  | none => false
def nextStep (Ls : List Ln) (have_ : List Str) (ts used : List Str) : Option Str := ts.find? (readyB Ls have_ used)
def stepOb : Option Str → Ob
  | some t => .str t
  | none => .non
theorem keyOf_ln {Ls : List Ln} {l : Ln} (nd : (Ls.map (·.t)).Nodup) (ml : l ∈ Ls) : keyOf Ls l.t = match l.k with
  | .key ks => some ks
  | _ => none := by
  have h : (Ls.find? fun m => decide (m.t = l.t)) = some l := by
    cases e : Ls.find? fun m => decide (m.t = l.t) with
    | none => exact absurd (List.find?_eq_none.mp e l ml) (by simp)
    | some m =>
      have h1 := List.mem_of_find?_eq_some e
      have h2 := List.find?_some e
      simp only [decide_eq_true_eq] at h2
      rw [same_line nd ml h1 h2]
  unfold keyOf
  rw [h]
  rfl
theorem kOb_key {Ls : List Ln} {l : Ln} (nd : (Ls.map (·.t)).Nodup) (ml : l ∈ Ls) : kOb l.k = match keyOf Ls l.t with
  | some ks => .txs ks
  | none => .non := by
  rw [keyOf_ln nd ml]
  cases l.k <;> rfl
/-! ### _next_step -/
abbrev s_ns : Stmt := topS 38
abbrev N_ns : List Str := ["scene", "have", "tables", "used", "table", "key", "column"]
theorem sc_ns : FnScope N_ns ["scene", "have", "tables", "used"] (defScope s_ns) := ⟨rfl, rfl, rfl, by decide +kernel, rfl, by decide +kernel, by decide +kernel⟩
def gNs (os : List Ob) (r : Ob) : Prop := ∃ Ls ks ts us, os = [.scn Ls, .ks ks, .txs ts, .lxs us] ∧ (Ls.map (·.t)).Nodup ∧ (∀ l ∈ Ls, l.Ok) ∧ ts.length ≤ 1000 ∧ (∀ z ∈ ts, z ∈ tabsOf Ls) ∧ r = stepOb (nextStep Ls ks ts us)
section
variable {P : Program} {w : World} {K : PySem.W.Frag} {mg : Str → Option Value} {base : Heap}
theorem ok_ns {f C : Addr} {fd : FuncData} (F : Fun K "_next_step" "_next_step" s_ns f fd) (T : NamesS mg) (W : Ways P w K mg base C) : FnOk P w K mg base CX0 4 f fd ["scene", "have", "tables", "used"] (spP C gNs) := by
  have nd := sc_ns.nd
  refine F.ok sc_ns (fun vs H Q E h => ?_) (fun cdv A outer s H vs Q E hr h => ?_)
  · obtain ⟨F, os, r, _, rs, ⟨Ls, ks, ts, us, rfl, _⟩, _⟩ := h
    exact rs.length
  · obtain ⟨F0, os, r, fm, rs, ⟨Ls, ks, ts, us, rfl, nod, good, few, sub, rfl⟩, k⟩ := h
    have hr3 : Room 3 _ := hr.mono (by decide)
    have hu := hu_of hr
    refine ⟨_, (pss_cons
    (ps_for PassesOwn.never rfl (pi_tup (pv 2)) (pg_name (i := 4) nd rfl (Or.inl rfl)) (pss_cons
      (ps_set (i := 5) nd rfl (Or.inl rfl) (pe_mth W.kof W.cl.cl hr3 (pv 0) (pa_cons (pv 4) pa_nil)))
      (pss_one
      (ps_if (PW.pt (pw_and (pt_cmpR op_notN (pv 5) pe_non (nomark _)) (pw_and (pt_cmpR op_notIn_seq (pv 4) (pv 3) rfl) (pw_and1 (pt_val (pe_callB (cr_all rfl) (by rfl) T.all (by decide +kernel) (pa_cons (pe_lc (own := [("column", 6)]) (g := (gName 6)) rfl nd (pi_tup (pv 5)) (blkOk_by (N := N_ns) (sc := defScope s_ns) (by decide +kernel)) (fun _ _ _ _ _ => (pg_name (i := 6) nd rfl (Or.inl rfl))) (fun _ _ _ _ _ => pts_nil) (fun _ _ _ _ _ => (pe_cmp (pc_din hu (pv 6) (pv 1)) rfl))) pa_nil))))))) (pss_one
        (ps_ret (pv 4))) pss_nil))))
    (pss_one
    (ps_ret pe_non))), ?_⟩
    have q0 : Sq C Nil F0 H [some (.scn Ls), some (.ks ks), some (.txs ts), some (.lxs us), none, none, none] (L2.start N_ns vs) H := Sq.start (N := N_ns) fm rs
    refine seq (st_for q0 (ri_tup (rd_var rfl)) fun H1 s1 q1 => ⟨fun n σ' H' => Sq C Nil F0 H [some (.scn Ls), some (.ks ks), some (.txs ts), some (.lxs us), none, none, none] σ' H' ∧ Kp F0 H1 H' ∧ ∀ z ∈ ts.take n, readyB Ls ks us z = false, ⟨q1, .refl _ _, by simp⟩, fun n σ' H' p => p.2.1, fun n o σ' H' x ho p ro => ?_, fun σ' H' p => ?_⟩)
    · obtain ⟨q, kp, no⟩ := p
      rw [List.getElem?_map] at ho
      obtain ⟨z, hz, rfl⟩ := Option.map_eq_some_iff.mp ho
      obtain ⟨l, ml, rfl⟩ := List.mem_map.mp (sub z (List.mem_of_getElem? hz))
      have q2 : Sq C Nil F0 H [some (.scn Ls), some (.ks ks), some (.txs ts), some (.lxs us), some (.str l.t), none, none] (σ'.set 4 (some x)) H' := ⟨q.kp, q.env.set 4 (ro F0 (fun _ z => z) fun _ z => .inl z), q.fm⟩
      refine seq (st_set q2 (q2.ev (rd_kof (rd_var rfl) (rds_one (rd_var rfl)) ml nod)) fun v H2 s2 q3 => ?_)
      have e := kOb_key nod ml
      have fin : readyB Ls ks us l.t = false → ∀ H3, Same H2 H3 → Sq C Nil F0 H [some (.scn Ls), some (.ks ks), some (.txs ts), some (.lxs us), some (.str l.t), some (kOb l.k), none] ((σ'.set 4 (some x)).set 5 (some v)) H3 → (Sq C Nil F0 H [some (.scn Ls), some (.ks ks), some (.txs ts), some (.lxs us), none, none, none] ((σ'.set 4 (some x)).set 5 (some v)) H3 ∧ Kp F0 H1 H3 ∧ ∀ z ∈ ts.take (n + 1), readyB Ls ks us z = false) := fun e H3 s3 q4 => by
        refine ⟨(q4.drop 5).drop 4, kp.trans (.same (s2.trans s3)), fun z mz => ?_⟩
        rw [take_snoc hz, List.mem_append, List.mem_singleton] at mz
        rcases mz with mz | rfl
        · exact no z mz
        · exact e
      dsimp only
      refine st_if (b := readyB Ls ks us l.t) q3 (q3.evt ?_) (fun z H3 s3 q4 => ?_) (fun z H3 s3 q4 => ?_)
      · rw [e]
        unfold readyB
        cases ek : keyOf Ls l.t with
        | none => exact rt_and (b := false) (c := false) (rt_test (rd_notN (rd_var rfl) rfl)) (fun z => by cases z)
        | some kk =>
          rw [keyOf_ln nod ml] at ek
          have few4 : kk.length ≤ 1000 := by
            have ok := good l ml
            have kk2 := ok.key
            cases ekk : l.k with
            | chg => rw [ekk] at ek; cases ek
            | fix => rw [ekk] at ek; cases ek
            | key k2 =>
              rw [ekk] at ek kk2
              cases ek
              exact Nat.le_trans (kk2.2.1.length_le_of_subset kk2.2.2) (Nat.le_trans ok.few (by decide))
          refine rt_and (b := true) (rt_test (rd_notN (rd_var rfl) rfl)) fun _ => rt_and (rt_test (rd_notIn (K := K) (cs := us) _ (.inr rfl) (rd_var rfl) (rd_var rfl))) fun _ => rt_test (rd_allc (K := K) (ri_tup (rd_var rfl)) few4 (by decide) fun y my => rd_inKs (rd_var rfl) (rd_var rfl))
      · refine st_ret q4 (q4.ev (rd_var rfl)) ?_
        intro v H4 kp4 rv _ _
        refine k v H4 kp4.toSame ?_
        have : nextStep Ls ks ts us = some l.t := by
          unfold nextStep
          rw [List.find?_eq_some_iff_getElem]
          have hl := (List.getElem?_eq_some_iff.mp hz).1
          refine ⟨z, n, hl, (List.getElem?_eq_some_iff.mp hz).2, fun j hj => ?_⟩
          have m : ts[j] ∈ ts.take n := by
            rw [List.mem_iff_getElem]
            exact ⟨j, by rw [List.length_take]; omega, by simp⟩
          simp [no _ m]
        rw [this]
        exact rv
      · exact fin z H3 s3 q4
    · obtain ⟨q, kp, no⟩ := p
      rw [List.length_map, List.take_length] at no
      dsimp only
      refine st_ret q (q.ev rd_non) ?_
      intro v H4 kp4 rv _ _
      refine k v H4 kp4.toSame ?_
      have : nextStep Ls ks ts us = none := by
        unfold nextStep
        rw [List.find?_eq_none]
        intro z mz
        simp [no z mz]
      rw [this]
      exact rv
end
end B30_

/-! ## B30_51 -/
set_option Elab.async false
set_option linter.all false
set_option maxRecDepth 100000
set_option maxHeartbeats 4000000
namespace B30_
open PySem PySem.Spec PyProof.Rows L2
/-! ### dicts of texts that are one's own -/
def Less (F : Addr → Prop) (p : Addr) : Addr → Prop := fun b => F b ∧ b ≠ p
/-- a dict of texts that is one's own -/
def OD (F : Addr → Prop) (H : Hp) (p : Addr) (ks : List Str) : Prop := F p ∧ ∃ kvs : List (Key × V), H p = some (.dK kvs) ∧ kvs.map (·.1) = ks.map Sum.inr
section
variable {C : Addr} {A F G : Addr → Prop} {H0 H H' : Hp} {ρ : List (Option Ob)} {σ : L2.St} {K : PySem.W.Frag} {te tk tv : TE} {t : TA} {tt : TT} {o : Ob} {os us : List Ob} {D : Ends} {i j : Nat} {p : Addr} {cs ks : List Str} {wi : TI} {vs : List Nat}
theorem EnvD.lendL {xs : List V} (e : EnvD C F H σ ρ) (h : ρ[j]? = some (some (.own p))) (hx : H p = some (.lst xs)) (rx : VRs C F H xs os) : EnvD C (Less F p) H σ (ρ.set j (some (.lst os))) := by
  obtain ⟨v, h1, h2⟩ := e.2 j _ h
  cases h2
  refine ⟨by simp [e.1], fun k u z => ?_⟩
  rw [List.getElem?_set] at z
  by_cases y : j = k
  · subst y
    rw [if_pos rfl] at z
    split at z
    · cases z
      exact ⟨_, h1, .lst (fun y => y.2 rfl) hx (rx.mono fun b hb => hb.1)⟩
    · cases z
  · rw [if_neg y] at z
    exact (e.2 k u z).imp fun v y => ⟨y.1, y.2.mono fun b hb => hb.1⟩
theorem EnvD.lendD {kvs : List (Key × V)} (e : EnvD C F H σ ρ) (h : ρ[j]? = some (some (.own p))) (hx : H p = some (.dK kvs)) (rx : kvs.map (·.1) = ks.map Sum.inr) : EnvD C (Less F p) H σ (ρ.set j (some (.ks ks))) := by
  obtain ⟨v, h1, h2⟩ := e.2 j _ h
  cases h2
  refine ⟨by simp [e.1], fun k u z => ?_⟩
  rw [List.getElem?_set] at z
  by_cases y : j = k
  · subst y
    rw [if_pos rfl] at z
    split at z
    · cases z
      exact ⟨_, h1, .ks (fun y => y.2 rfl) hx rx⟩
    · cases z
  · rw [if_neg y] at z
    exact (e.2 k u z).imp fun v y => ⟨y.1, y.2.mono fun b hb => hb.1⟩
theorem Fm.lend (fm : Fm F H) (p : Addr) : Fm (Less F p) H := fm.less fun b hb => hb.1
theorem OD.same (h : OD F H p ks) (s : Same H H') : OD F H' p ks := ⟨h.1, h.2.imp fun kvs q => ⟨s _ _ q.1, q.2⟩⟩
theorem OD.off (h : OD F H p ks) {r : Addr} (n : p ≠ r) (s : ∀ b o, b ≠ r → H b = some o → H' b = some o) : OD F H' p ks := ⟨h.1, h.2.imp fun kvs q => ⟨s _ _ n q.1, q.2⟩⟩
/-- {x: True for x in texts}, a new dict -/
theorem new_dc (S : RI C ρ wi (cs.map .str)) (few : cs.length ≤ 1000) (nod : cs.Nodup) (mem : i ∈ vs) (hk : ∀ z ∈ cs, RD C ((wipeR ρ vs).set i (some (.str z))) tk (.str z)) (hv : ∀ z ∈ cs, RD C ((wipeR ρ vs).set i (some (.str z))) tv o) {Q : VK} (e : EnvD C F H σ ρ) (fm : Fm F H)
    (k : ∀ p H' (kvs : List (Key × V)), H p = none → Same H H' → H' p = some (.dK kvs) → kvs.map (·.1) = cs.map Sum.inr → Q (.ref p) H') : tDc wi (gName i) tYes tk tv vs σ H Q := by
  refine S F σ H _ e fm fun J H1 W Y s1 wk hW hY D hD => ?_
  have fm1 := fm.same s1
  rw [List.length_map] at wk
  refine K1.dc_rel wk (fun _ _ _ => True) (fun z : Str => Sum.inr z) (fun j => cs[j]?) hD (by rw [sizeLine_eq]; omega) ?_ (fun _ _ _ _ _ _ _ => trivial) (fun H' s' => hW H' (.same s')) (fun j x H2 H3 N hj s2 isD y keep skip => ?_) (fun H' kvs s' hd pr => ?_)
  · rw [K1.pickT_all]
    exact List.pairwise_map.mpr (nod.imp fun h q => h (Sum.inr.inj q))
  · obtain ⟨rfl, u, hu, ru⟩ := hY j H2 x H3 (by simpa using hj) (.same s2) y
    rw [List.getElem?_map] at hu
    obtain ⟨z, hz, rfl⟩ := Option.map_eq_some_iff.mp hu
    have mz := List.mem_of_getElem? hz
    have e2 := (((e.same fm s1).same fm1 s2).wipe vs).set i (ru F (fun _ q => q) fun _ q => .inl q)
    have fm2 := fm1.same s2
    refine ⟨wipe_set mem, ?_⟩
    show (if true = true then _ else N H3)
    rw [if_pos rfl]
    refine hk z mz F _ _ _ e2 fm2 fun v H4 s4 r4 => ?_
    cases r4
    refine hv z mz F _ _ _ (e2.same fm2 s4) (fm2.same s4) fun v H5 s5 r5 => ?_
    obtain ⟨a, k0, ek, h5, few5, n5⟩ := keep H5 v z (s4.trans s5) hz trivial
    exact ⟨a, k0, ek, h5, few5, n5⟩
  · rw [K1.pickT_all] at pr
    refine k D H' kvs (s1.free hD) (s1.trans s') hd ?_
    clear hd k
    have : ∀ {kvs : List (Key × V)} {cs : List Str}, Paired (fun kv (y : Str) => kv.1 = Sum.inr y ∧ True) kvs cs → kvs.map (·.1) = cs.map Sum.inr := by
      intro kvs cs h
      induction h with
      | nil => rfl
      | cons r _ ih => rw [List.map_cons, List.map_cons, r.1, ih]
    exact this pr
/-- x = a new dict of texts -/
theorem st_ownD (q : Sq C A F H0 ρ σ H) (new : ∀ Q : VK, (∀ p H' (kvs : List (Key × V)), H p = none → Same H H' → H' p = some (.dK kvs) → kvs.map (·.1) = ks.map Sum.inr → Q (.ref p) H') → te σ H Q)
    (k : ∀ p H', H p = none → H0 p = none ∨ A p → Same H H' → Sq C A (Plus F p) H0 (ρ.set i (some (.own p))) (σ.set i (some (.ref p))) H' → OD (Plus F p) H' p ks → D.nx (σ.set i (some (.ref p))) H') : tAsg te (gName i) D σ H := by
  refine new _ fun p H' kvs hp s hd hk => ?_
  refine k p _ hp ?_ s ⟨q.kp.trans (.same s), ?_, (q.fm.same s).plus hd (mo_dK _)⟩ ⟨.inr rfl, kvs, hd, hk⟩
  · by_cases a : A p
    · exact .inr a
    · cases e : H0 p with
      | none => exact .inl rfl
      | some u => have h2 := q.kp p u a e; rw [hp] at h2; cases h2
  · have e1 := q.env.grow hp
    have e2 : EnvD C (Plus F p) H' σ ρ := ⟨e1.1, fun i o z => (e1.2 i o z).imp fun v y => ⟨y.1, y.2.kpG q.fm (.same s) fun _ => .inl⟩⟩
    exact e2.set i (.own p)
def addK (ks : List Str) (c : Str) : List Str := if c ∈ ks then ks else ks ++ [c]
theorem mem_addK {ks : List Str} {c z : Str} : z ∈ addK ks c ↔ z ∈ ks ∨ z = c := by
  unfold addK
  split
  · rename_i h
    exact ⟨.inl, fun q => q.elim id fun e => e ▸ h⟩
  · simp
theorem putK_keys {kvs : List (Key × V)} {ks : List Str} (h : kvs.map (·.1) = ks.map Sum.inr) (c : Str) (v : V) : (putK kvs (Sum.inr c) v).map (·.1) = (addK ks c).map Sum.inr := by
  unfold addK
  have sk := valV_keys h c
  split
  · rename_i m
    rw [decide_eq_true m] at sk
    have e : (putK kvs (Sum.inr c) v).map (·.1) = kvs.map (·.1) := by
      unfold putK
      rw [if_pos (by rw [valV_any]; exact sk), List.map_map]
      refine List.map_congr_left fun kv _ => ?_
      show (if kv.1 = Sum.inr c then (kv.1, v) else kv).1 = kv.1
      split <;> rfl
    rw [e, h]
  · rename_i m
    rw [decide_eq_false m] at sk
    rw [putK_new v (by simpa using sk), List.map_append, h]
    simp
/-- have[c] = v -/
theorem st_dput {c : Str} (q : Sq C A F H0 ρ σ H) (h : ρ[j]? = some (some (.own p))) (od : OD F H p ks) (n0 : H0 p = none ∨ A p) (rv : Ev C F σ H tv o) (rk : RD C ρ tk (.str c)) (few : ks.length ≤ 1000)
    (k : ∀ H', (∀ b u, b ≠ p → H b = some u → H' b = some u) → Sq C A F H0 ρ σ H' → OD F H' p (addK ks c) → D.nx σ H') : sDPut (tVar j) tk tv D σ H := by
  refine rv _ fun v H1 s1 r1 => ?_
  have q1 := q.same s1
  obtain ⟨v0, h1, h2⟩ := q1.env.2 j _ h
  cases h2
  refine ⟨_, h1, rk F σ H1 _ q1.env q1.fm fun w H2 s2 r2 => ?_⟩
  cases r2
  obtain ⟨fp, kvs, hx, hk⟩ := (od.same s1).same s2
  have q2 := q1.same s2
  have lk : kvs.length = ks.length := by have := congrArg List.length hk; simpa using this
  have kp2 : Kp F H2 (upd H2 p (.dK (putK kvs (Sum.inr c) v))) := fun b u n e => by rw [upd_ne (fun z : b = p => n (z ▸ fp))]; exact e
  refine ⟨p, _, rfl, DPut.k (k := Sum.inr c) hx (by rw [lk, sizeLine_eq]; omega), k _ (fun b u n e => by rw [upd_ne n]; exact s2 _ _ (s1 _ _ e)) ⟨fun b u n e => ?_, q2.env.kp q2.fm kp2, fun b hb => ?_⟩ ⟨fp, _, upd_same, putK_keys hk c v⟩⟩
  · have n2 : b ≠ p := fun z => by
      subst z
      rcases n0 with n0 | n0
      · rw [e] at n0; cases n0
      · exact n n0
    rw [upd_ne n2]
    exact q2.kp b u n e
  · by_cases z : b = p
    · subst z; exact ⟨_, upd_same, mo_dK _⟩
    · rw [upd_ne z]; exact q2.fm b hb
end
end B30_

/-! ## B30_52 -/
set_option Elab.async false
set_option linter.all false
set_option maxRecDepth 100000
set_option maxHeartbeats 8000000
namespace B30_
open PySem PySem.Spec PyProof.Rows L2
/-! ### steps of keys, as data -/
def colsAt (Ls : List Ln) (t : Str) : List Str := ((Ls.find? fun l => decide (l.t = t)).map (·.cs)).getD []
theorem colsAt_ln {Ls : List Ln} {l : Ln} (nd : (Ls.map (·.t)).Nodup) (ml : l ∈ Ls) : colsAt Ls l.t = l.cs := by
  have h : (Ls.find? fun m => decide (m.t = l.t)) = some l := by
    cases e : Ls.find? fun m => decide (m.t = l.t) with
    | none => exact absurd (List.find?_eq_none.mp e l ml) (by simp)
    | some m =>
      have h1 := List.mem_of_find?_eq_some e
      have h2 := List.find?_some e
      simp only [decide_eq_true_eq] at h2
      rw [same_line nd ml h1 h2]
  unfold colsAt
  rw [h]
  rfl
def addAll (ks cs : List Str) : List Str := cs.foldl addK ks
theorem mem_addAll {cs : List Str} : ∀ {ks : List Str} {z : Str}, z ∈ addAll ks cs ↔ z ∈ ks ∨ z ∈ cs := by
  induction cs with
  | nil => intro ks z; simp [addAll]
  | cons c r ih =>
    intro ks z
    show z ∈ addAll (addK ks c) r ↔ _
    rw [ih, mem_addK, List.mem_cons]
    constructor
    · rintro ((h | h) | h)
      · exact .inl h
      · exact .inr (.inl h)
      · exact .inr (.inr h)
    · rintro (h | h | h)
      · exact .inl (.inl h)
      · exact .inl (.inr h)
      · exact .inr h
theorem addK_len (ks : List Str) (c : Str) : (addK ks c).length ≤ ks.length + 1 := by
  unfold addK; split <;> simp
theorem addAll_len (cs : List Str) : ∀ ks : List Str, (addAll ks cs).length ≤ ks.length + cs.length := by
  induction cs with
  | nil => intro ks; simp [addAll]
  | cons c r ih =>
    intro ks
    have h1 := ih (addK ks c)
    have h2 := addK_len ks c
    show (addAll (addK ks c) r).length ≤ _
    rw [List.length_cons]; omega
def walkN (Ls : List Ln) (ts : List Str) : Nat → List Str → List Str → List Str
  | 0, _, used => used
  | n + 1, h, used => match nextStep Ls h ts used with
    | none => used
    | some t => walkN Ls ts n (addAll h (colsAt Ls t)) (used ++ [t])
def stepsOf (Ls : List Ln) (cs ts : List Str) : List Str := walkN Ls ts ts.length cs []
theorem next_mem {Ls : List Ln} {h ts used : List Str} {t : Str} (e : nextStep Ls h ts used = some t) : t ∈ ts ∧ readyB Ls h used t = true := ⟨List.mem_of_find?_eq_some e, List.find?_some e⟩
theorem ready_new {Ls : List Ln} {h used : List Str} {t : Str} (e : readyB Ls h used t = true) : t ∉ used := by
  unfold readyB at e
  split at e
  · simp only [Bool.and_eq_true, Bool.not_eq_true', decide_eq_false_iff_not] at e
    exact e.1
  · cases e
theorem full_all {used ts : List Str} (n : used.Nodup) (sub : ∀ z ∈ used, z ∈ ts) (len : ts.length ≤ used.length) : ∀ z ∈ ts, z ∈ used := by
  exact fun z hz => (K1.perm_of_len n sub len).mem_iff.mpr hz
theorem next_none {Ls : List Ln} {h ts used : List Str} (n : used.Nodup) (sub : ∀ z ∈ used, z ∈ ts) (len : ts.length ≤ used.length) : nextStep Ls h ts used = none := by
  cases e : nextStep Ls h ts used with
  | none => rfl
  | some t =>
    obtain ⟨m, r⟩ := next_mem e
    exact absurd (full_all n sub len t m) (ready_new r)
/-! ### steps_in -/
abbrev s_si : Stmt := topS 36
abbrev N_si : List Str := ["scene", "columns", "tables", "have", "steps", "table", "column"]
theorem sc_si : FnScope N_si ["scene", "columns", "tables"] (defScope s_si) := ⟨rfl, rfl, rfl, by decide +kernel, rfl, by decide +kernel, by decide +kernel⟩
def gSi (os : List Ob) (r : Ob) : Prop := ∃ Ls cs ts, os = [.scn Ls, .txs cs, .txs ts] ∧ LnsOk Ls ∧ cs.Nodup ∧ cs.length ≤ 100 ∧ ts.length ≤ 100 ∧ (∀ z ∈ ts, z ∈ tabsOf Ls) ∧ r = .txs (stepsOf Ls cs ts)
section
variable {P : Program} {w : World} {K : PySem.W.Frag} {mg : Str → Option Value} {base : Heap}
theorem ok_si {f C : Addr} {fd : FuncData} (F : Fun K "steps_in" "steps_in" s_si f fd) (T : NamesS mg) (W : Ways P w K mg base C) (CN : Callee P w K mg base CX0 4 "_next_step" ["scene", "have", "tables", "used"] (spP C gNs)) : FnOk P w K mg base CX0 5 f fd ["scene", "columns", "tables"] (spP C gSi) := by
  have nd := sc_si.nd
  refine F.ok sc_si (fun vs H Q E h => ?_) (fun cdv A outer s H vs Q E hr h => ?_)
  · obtain ⟨F, os, r, _, rs, ⟨Ls, cs, ts, rfl, _⟩, _⟩ := h
    exact rs.length
  · obtain ⟨F0, os, r, fm, rs, ⟨Ls, cs, ts, rfl, ok, nodc, fewc, fewt, sub, rfl⟩, k⟩ := h
    have hr3 : Room 3 _ := hr.mono (by decide)
    have hu := hu_of hr
    refine ⟨_, (pss_cons
    (K1.ps_setDc (i := 3) (own := [("column", 6)]) (g := gName 6) (tt := tYes) (tk := tVar 6) (tv := tC (.bl true)) rfl nd rfl rfl (K1.sw_trueD rfl rfl rfl (by decide +kernel)) (pi_tup (pv 1)) (blkOk_by (N := N_si) (sc := defScope s_si) (by decide +kernel)) (fun _ _ _ _ _ => (pg_name (i := 6) nd rfl (Or.inl rfl))) (fun _ _ _ _ _ => pts_nil) (fun _ _ _ _ _ => pv 6) (fun _ _ _ _ _ => pe_bl))
    (pss_cons
    (ps_set (i := 4) nd rfl (Or.inl rfl) (pe_lst pa_nil))
    (pss_cons
    (ps_set (i := 5) nd rfl (Or.inl rfl) (pe_use CN (hr.mono (by decide)) rfl pass0 (pa_cons (pv 0) (pa_cons (pv 3) (pa_cons (pv 2) (pa_cons (pv 4) pa_nil))))))
    (pss_cons
    (ps_while PassesOwn.never (pt_cmpR op_notN (pv 5) pe_non (nomark _)) (pss_cons
      (ps_expr (pe_bm PySem.F.plainAttrs_list PySem.F.slot_list_append PySem.F.type_list_append mt_append (pv 4) (pa_cons (pv 5) pa_nil)))
      (pss_cons
      (ps_for PassesOwn.never rfl (pi_tup (pe_mth W.cof W.cl.cl hr3 (pv 0) (pa_cons (pv 5) pa_nil))) (pg_name (i := 6) nd rfl (Or.inl rfl)) (pss_one
        (ps_dput hu (pv 3) (pv 6) pe_bl rfl)))
      (pss_one
      (ps_set (i := 5) nd rfl (Or.inl rfl) (pe_use CN (hr.mono (by decide)) rfl pass0 (pa_cons (pv 0) (pa_cons (pv 3) (pa_cons (pv 2) (pa_cons (pv 4) pa_nil))))))))))
    (pss_one
    (ps_ret (pe_callTy call_tuple_of (by rfl) T.tuple (by decide +kernel) (pa_cons (pv 4) pa_nil)))))))), ?_⟩
    have q0 : Sq C Nil F0 H [some (.scn Ls), some (.txs cs), some (.txs ts), none, none, none, none] (L2.start N_si vs) H := Sq.start (N := N_si) fm rs
    have nod := ok.nd
    have six : Ls.length ≤ 6 := ok.six
    refine seq (st_ownD (ks := cs) q0 (fun Q k => new_dc (ri_tup (rd_var rfl)) (by omega) nodc (by decide) (fun z _ => rd_var rfl) (fun z _ => rd_bl true) q0.env q0.fm k) fun p H1 np n0 s1 q1 od1 => ?_)
    dsimp only
    refine seq (st_own q1 fun r H2 nr m0 s2 q2 ol2 => ?_)
    have npr : p ≠ r := fun z => by
      obtain ⟨_, kvs, e, _⟩ := od1
      rw [z, nr] at e; cases e
    replace n0 : H p = none ∨ Nil p := n0
    -- the call
    have call : ∀ {ks used : List Str} {x5 x6 : Option Ob} {σ' : L2.St} {H' : Hp}, Sq C Nil (Plus (Plus F0 p) r) H [some (.scn Ls), some (.txs cs), some (.txs ts), some (.own p), some (.own r), x5, x6] σ' H' → OD (Plus (Plus F0 p) r) H' p ks → OL C (Plus (Plus F0 p) r) H' r (used.map .str) →
        Ev C (Plus (Plus F0 p) r) σ' H' (tCall (spP C gNs) [] E0 (tCons (tVar 0) (tCons (tVar 3) (tCons (tVar 2) (tCons (tVar 4) tNil))))) (stepOb (nextStep Ls ks ts used)) := fun {ks used x5 x6 σ' H'} q od ol Q k => by
      obtain ⟨_, kvs, hx, rx⟩ := od
      obtain ⟨_, xs, hy, ry⟩ := ol
      have e1 := q.env.lendD (j := 3) rfl hx rx
      have e2 := e1.lendL (j := 4) rfl hy (ry.mono fun b hb => hb.1)
      refine rd_call (rds_cons (rd_var (i := 0) rfl) (rds_cons (rd_var (i := 3) rfl) (rds_cons (rd_var (i := 2) rfl) (rds_one (rd_var (i := 4) rfl))))) ⟨Ls, ks, ts, used, rfl, nod, ok.good, by omega, sub, rfl⟩ _ σ' H' Q e2 ((q.fm.lend p).lend r) fun v H3 s rv => k v H3 s (rv.free ?_)
      cases nextStep Ls ks ts used <;> rfl
    dsimp only
    have od2 : OD (Plus (Plus F0 p) r) H2 p cs := ⟨.inl od1.1, (od1.same s2).2⟩
    refine seq (st_set q2 (call (used := []) q2 od2 ol2) fun v H3 s3 q3 => ?_)
    dsimp only
    refine seq ⟨fun m σ' H' => ∃ ks used, Sq C Nil (Plus (Plus F0 p) r) H [some (.scn Ls), some (.txs cs), some (.txs ts), some (.own p), some (.own r), some (stepOb (nextStep Ls ks ts used)), none] σ' H' ∧ OD (Plus (Plus F0 p) r) H' p ks ∧ OL C (Plus (Plus F0 p) r) H' r (used.map .str) ∧
      used.Nodup ∧ (∀ z ∈ used, z ∈ ts) ∧ used.length + m = ts.length ∧ walkN Ls ts m ks used = stepsOf Ls cs ts ∧ ks.length ≤ 100 + 4 * used.length, ⟨ts.length, cs, [], q3, od2.same s3, ol2.same q2.fm s3, List.nodup_nil, (by simp), (by simp), rfl, (by simpa using fewc)⟩, fun m σ' H' w => ?_⟩
    obtain ⟨ks, used, q, od, ol, nu, su, len, wk, fewk⟩ := w
    refine q.evt (rt_test (rd_notN (rd_var (i := 5) rfl) rfl)) _ fun H4 s4 => ?_
    replace od := od.same s4
    replace ol := ol.same q.fm s4
    replace q := q.same s4
    cases en : nextStep Ls ks ts used with
    | none =>
      refine iteFk rfl ?_
      have e1 : walkN Ls ts m ks used = used := by
        cases m with
        | zero => rfl
        | succ m => unfold walkN; rw [en]
      rw [e1] at wk
      rw [en] at q
      refine st_ret q (q.evl (j := 4) rfl ol (rd_tupleOf (os := used.map .str) (.inr rfl) (rd_var rfl)) (free_strs used)) ?_
      intro v H5 kp5 rv _ _
      refine k v H5 kp5.toSame ?_
      rw [← wk]
      exact rv.free (free_strs used)
    | some z =>
      refine iteTk rfl ?_
      obtain ⟨mz, rz⟩ := next_mem en
      rw [en] at q
      have zn := ready_new rz
      cases m with
      | zero => rw [next_none nu su (by omega)] at en; cases en
      | succ m =>
        obtain ⟨l, ml, rfl⟩ := List.mem_map.mp (sub z mz)
        have fewl : l.cs.length ≤ 4 := (ok.good l ml).few
        refine ⟨fun σ' H' => ∃ ks used, Sq C Nil (Plus (Plus F0 p) r) H [some (.scn Ls), some (.txs cs), some (.txs ts), some (.own p), some (.own r), some (stepOb (nextStep Ls ks ts used)), none] σ' H' ∧ OD (Plus (Plus F0 p) r) H' p ks ∧ OL C (Plus (Plus F0 p) r) H' r (used.map .str) ∧
          used.Nodup ∧ (∀ z ∈ used, z ∈ ts) ∧ used.length + m = ts.length ∧ walkN Ls ts m ks used = stepsOf Ls cs ts ∧ ks.length ≤ 100 + 4 * used.length, fun σ' H' h => ⟨m, Nat.lt_succ_self m, h⟩, ?_⟩
        have m0' : H r = none ∨ Nil r := m0
        refine seq (st_append (K := K) (j := 4) q rfl ol m0' (q.evs (rds_one (rd_var (i := 5) rfl))) (by rw [List.length_map]; omega) fun H5 off5 q5 ol5 => ?_)
        dsimp only
        have od5 := od.off npr off5
        refine seq (st_for q5 (ri_tup (rd_cof (rd_var rfl) (rds_one (rd_var (i := 5) rfl)) ml nod)) fun H6 s6 q6 => ⟨fun n σ' H' => Sq C Nil (Plus (Plus F0 p) r) H [some (.scn Ls), some (.txs cs), some (.txs ts), some (.own p), some (.own r), some (.str l.t), none] σ' H' ∧ OD (Plus (Plus F0 p) r) H' p (addAll ks (l.cs.take n)) ∧ OL C (Plus (Plus F0 p) r) H' r ((used ++ [l.t]).map .str) ∧ Kp (Plus (Plus F0 p) r) H6 H',
          ⟨q6, od5.same s6, by rw [List.map_append]; exact ol5.same q5.fm s6, .refl _ _⟩, fun n σ' H' p => p.2.2.2, fun n o σ' H' x ho p ro => ?_, fun σ' H' p => ?_⟩)
        · obtain ⟨q7, od7, ol7, kp7⟩ := p
          rw [List.getElem?_map] at ho
          obtain ⟨c, hc, rfl⟩ := Option.map_eq_some_iff.mp ho
          have q8 : Sq C Nil (Plus (Plus F0 p) r) H [some (.scn Ls), some (.txs cs), some (.txs ts), some (.own p), some (.own r), some (.str l.t), some (.str c)] (σ'.set 6 (some x)) H' := ⟨q7.kp, q7.env.set 6 (ro _ (fun _ z => z) fun _ z => .inl z), q7.fm⟩
          have f1 := addAll_len (l.cs.take n) ks
          have f2 : (l.cs.take n).length ≤ 4 := Nat.le_trans (by rw [List.length_take]; omega) fewl
          refine st_dput (j := 3) q8 rfl od7 n0 (q8.ev (rd_bl true)) (rd_var rfl) (by omega) ?_
          intro H9 off9 q9 od9
          refine ⟨q9.drop 6, ?_, ol7.off q8.fm (Ne.symm npr) od7.1 off9, kp7.trans fun b u n e => off9 b u (fun z => n (z ▸ od7.1)) e⟩
          rw [take_snoc hc]
          unfold addAll
          rw [List.foldl_append]
          exact od9
        · obtain ⟨q7, od7, ol7, kp7⟩ := p
          rw [List.length_map, List.take_length] at od7
          dsimp only
          refine st_set q7 (call q7 od7 ol7) ?_
          intro v8 H8 s8 q8
          refine ⟨addAll ks l.cs, used ++ [l.t], q8, od7.same s8, ol7.same q7.fm s8, ?_, ?_, ?_, ?_, ?_⟩
          · rw [List.nodup_append]
            exact ⟨nu, by simp, fun a ha b hb e => zn (by rw [List.mem_singleton] at hb; rw [← hb, ← e]; exact ha)⟩
          · intro y hy
            rcases List.mem_append.mp hy with hy | hy
            · exact su y hy
            · rw [List.mem_singleton] at hy; rw [hy]; exact mz
          · rw [List.length_append, List.length_singleton]; omega
          · rw [← wk]
            conv => rhs; unfold walkN
            rw [en]
            show _ = walkN Ls ts m (addAll ks (colsAt Ls l.t)) (used ++ [l.t])
            rw [colsAt_ln nod ml]
          · have := addAll_len l.cs ks
            rw [List.length_append, List.length_singleton]; omega
end
end B30_

/-! ## B30_53 -/
set_option Elab.async false
set_option linter.all false
set_option maxRecDepth 100000
set_option maxHeartbeats 8000000
namespace B30_
open PySem PySem.Spec PyProof.Rows L2
/-! ### closure_in -/
theorem walkN_ok {Ls : List Ln} {ts : List Str} : ∀ (n : Nat) (h used : List Str), used.Nodup → (∀ z ∈ used, z ∈ ts) → (walkN Ls ts n h used).Nodup ∧ ∀ z ∈ walkN Ls ts n h used, z ∈ ts
  | 0, h, used, nu, su => ⟨nu, su⟩
  | n + 1, h, used, nu, su => by
    unfold walkN
    split
    · exact ⟨nu, su⟩
    · rename_i t e
      obtain ⟨mt, rt⟩ := next_mem e
      have zn := ready_new rt
      refine walkN_ok n _ _ ?_ ?_
      · rw [List.nodup_append]
        exact ⟨nu, by simp, fun a ha b hb e => zn (by rw [List.mem_singleton] at hb; rw [← hb, ← e]; exact ha)⟩
      · intro y hy
        rcases List.mem_append.mp hy with hy | hy
        · exact su y hy
        · rw [List.mem_singleton] at hy; rw [hy]; exact mt
theorem steps_ok (Ls : List Ln) (cs ts : List Str) : (stepsOf Ls cs ts).Nodup ∧ ∀ z ∈ stepsOf Ls cs ts, z ∈ ts := walkN_ok _ _ _ List.nodup_nil (by simp)
theorem steps_six {Ls : List Ln} {cs ts : List Str} (ok : LnsOk Ls) (sub : ∀ z ∈ ts, z ∈ tabsOf Ls) : (stepsOf Ls cs ts).length ≤ 6 := by
  have h := steps_ok Ls cs ts
  refine Nat.le_trans (h.1.length_le_of_subset fun z hz => sub z (h.2 z hz)) ?_
  unfold tabsOf
  rw [List.length_map]; exact ok.six
theorem cols_few {Ls : List Ln} {us : List Str} (ok : LnsOk Ls) (sub : ∀ z ∈ us, z ∈ tabsOf Ls) : (us.flatMap (colsAt Ls)).length ≤ 4 * us.length := by
  induction us with
  | nil => simp
  | cons u r ih =>
    rw [List.flatMap_cons, List.length_append, List.length_cons]
    have h1 := ih fun z hz => sub z (List.mem_cons_of_mem _ hz)
    obtain ⟨l, ml, e⟩ := List.mem_map.mp (sub u List.mem_cons_self)
    have h2 : (colsAt Ls u).length ≤ 4 := by rw [← e, colsAt_ln ok.nd ml]; exact (ok.good l ml).few
    omega
def closureOf (Ls : List Ln) (cs ts : List Str) : List Str := uniqS (cs ++ (stepsOf Ls cs ts).flatMap (colsAt Ls))
abbrev s_ci : Stmt := topS 37
abbrev N_ci : List Str := ["scene", "columns", "tables", "more", "table", "column"]
theorem sc_ci : FnScope N_ci ["scene", "columns", "tables"] (defScope s_ci) := ⟨rfl, rfl, rfl, by decide +kernel, rfl, by decide +kernel, by decide +kernel⟩
def gCi (os : List Ob) (r : Ob) : Prop := ∃ Ls cs ts, os = [.scn Ls, .txs cs, .txs ts] ∧ LnsOk Ls ∧ cs.Nodup ∧ cs.length ≤ 24 ∧ ts.length ≤ 100 ∧ (∀ z ∈ ts, z ∈ tabsOf Ls) ∧ r = .txs (closureOf Ls cs ts)
section
variable {P : Program} {w : World} {K : PySem.W.Frag} {mg : Str → Option Value} {base : Heap}
theorem ok_ci {f C : Addr} {fd : FuncData} (F : Fun K "closure_in" "closure_in" s_ci f fd) (T : NamesS mg) (W : Ways P w K mg base C) (CN : Callee P w K mg base CX0 5 "steps_in" ["scene", "columns", "tables"] (spP C gSi)) : FnOk P w K mg base CX0 6 f fd ["scene", "columns", "tables"] (spP C gCi) := by
  have nd := sc_ci.nd
  refine F.ok sc_ci (fun vs H Q E h => ?_) (fun cdv A outer s H vs Q E hr h => ?_)
  · obtain ⟨F, os, r, _, rs, ⟨Ls, cs, ts, rfl, _⟩, _⟩ := h
    exact rs.length
  · obtain ⟨F0, os, r, fm, rs, ⟨Ls, cs, ts, rfl, ok, nodc, fewc, fewt, sub, rfl⟩, k⟩ := h
    have hr3 : Room 3 _ := hr.mono (by decide)
    refine ⟨_, (pss_cons
    (ps_setLc2 (i := 3) (own := [("column", 5), ("table", 4)]) (vs1 := [5]) (g := gName 4) (g1 := gName 5) (te := tVar 5) (tt := tYes) (tt1 := tYes) (wi1 := iTup K (tMeth C "columns_of" (spCof C) [] E0 (tVar 0) (tCons (tVar 4) tNil))) rfl nd rfl rfl (sw_true rfl rfl rfl (by decide +kernel)) (pi_tup (pe_use CN hr rfl pass0 (pa_cons (pv 0) (pa_cons (pv 1) (pa_cons (pv 2) pa_nil))))) (blkOk_by (N := N_ci) (sc := defScope s_ci) (by decide +kernel)) (by decide)
      (fun _ _ _ _ _ => (pg_name (i := 4) nd rfl (Or.inl rfl))) (fun _ _ _ _ _ => pts_nil) (fun _ _ _ _ _ => pi_tup (pe_mth W.cof W.cl.cl hr3 (pv 0) (pa_cons (pv 4) pa_nil))) (fun _ _ _ _ _ => (pg_name (i := 5) nd rfl (Or.inl rfl))) (fun _ _ _ _ _ => pts_nil) (fun _ _ _ _ _ => pv 5))
    (pss_one
    (ps_ret (pe_callTy call_tuple_of (by rfl) T.tuple (by decide +kernel) (pa_cons (pe_callB (K1.cr_sortedSS rfl) (by rfl) T.sorted (by decide +kernel) (pa_cons (K1.pe_texts1 (own := [("column", 5)]) (g := gName 5) (te := tVar 5) rfl nd (pi_list (pe_lst (StX.pa_star (pv 1) (StX.pa_star (pv 3) pa_nil)))) (blkOk_by (N := N_ci) (sc := defScope s_ci) (by decide +kernel)) (fun _ _ _ _ _ => (pg_name (i := 5) nd rfl (Or.inl rfl))) (fun _ _ _ _ _ => pv 5)) pa_nil)) pa_nil))))), ?_⟩
    have q0 : Sq C Nil F0 H [some (.scn Ls), some (.txs cs), some (.txs ts), none, none, none] (L2.start N_ci vs) H := Sq.start (N := N_ci) fm rs
    have stp := steps_ok Ls cs ts
    have six := steps_six (cs := cs) ok sub
    have few := cols_few ok fun z hz => sub z (stp.2 z hz)
    refine seq (st_set q0 (q0.ev (rd_lc2 (cs := stepsOf Ls cs ts) (f := colsAt Ls) (ri_tup (rd_call (rds_cons (rd_var (i := 0) rfl) (rds_cons (rd_var (i := 1) rfl) (rds_one (rd_var (i := 2) rfl)))) ⟨Ls, cs, ts, rfl, ok, nodc, by omega, fewt, sub, rfl⟩)) (by omega) (by decide) (by decide) (fun z mz => ?_) (fun z mz y my => rd_var rfl))) fun v H1 s1 q1 => ?_)
    · obtain ⟨l, ml, rfl⟩ := List.mem_map.mp (sub z (stp.2 z mz))
      rw [colsAt_ln ok.nd ml]
      exact ri_tup (rd_cof (rd_var rfl) (rds_one (rd_var rfl)) ml ok.nd)
    dsimp only
    refine st_ret q1 (q1.ev (rd_tupleOf (os := (closureOf Ls cs ts).map .str) (.inr rfl) (rd_sset1 (cs := cs ++ (stepsOf Ls cs ts).flatMap (colsAt Ls)) (ri_list ?_) (by rw [List.length_append]; omega) (by decide) (fun z mz => rd_var rfl)))) ?_
    · refine (rd_lst (rds_star (.inl rfl) (rd_var (i := 1) rfl) (rds_star (.inr rfl) (rd_var (i := 3) rfl) rds_nil)) (by simp only [List.length_append, List.length_map, List.length_nil]; omega)).cast ?_
      simp
    · intro v H5 kp5 rv _ _
      exact k v H5 kp5.toSame rv
end
end B30_

/-! ## B30_54 -/
set_option Elab.async false
set_option linter.all false
set_option maxRecDepth 100000
set_option maxHeartbeats 8000000
namespace B30_
open PySem PySem.Spec PyProof.Rows L2
/-! ### more readings -/
section
variable {C : Addr} {A F G : Addr → Prop} {H0 H H' : Hp} {ρ : List (Option Ob)} {σ : L2.St} {K : PySem.W.Frag} {te ta tb : TE} {tt : TT} {t : TA} {os us : List Ob} {o : Ob} {cs ts : List Str} {Ls : List Ln} {D : Ends} {i j : Nat}
theorem rd_isScn {b : Bool} (I : ClsI K C) (a : RD C ρ te (.scn Ls)) : RD C ρ (tCB (rIsi K) (tCons te (tCons (tC (.ref C)) tNil))) (.bl true) := fun F σ H Q e fm k => a F σ H _ e fm fun v H1 s1 r1 => by
  cases r1 with
  | scn h => exact ⟨_, _, .ref C, _, true, rfl, .own C, ty_scene I h.at, I.self, k _ H1 s1 (.bl true)⟩
theorem rd_isTup (a : RD C ρ te (.tup os)) : RD C ρ (tCB (rIsi K) (tCons te (tCons (tC (.ty "tuple")) tNil))) (.bl true) := fun F σ H Q e fm k => a F σ H _ e fm fun v H1 s1 r1 => by
  cases r1 with
  | tup h _ => exact ⟨_, _, _, _, true, rfl, .ty _, .base (.tup h), kit_ty (by decide +kernel), k _ H1 s1 (.bl true)⟩
/-- whether a key of the law's dict is a tuple -/
theorem rd_isTupK {k0 : Kd} (a : RD C ρ te (kdOb k0)) : RD C ρ (tCB (rIsi K) (tCons te (tCons (tC (.ty "tuple")) tNil))) (.bl (match k0 with | .key _ => true | _ => false)) := fun F σ H Q e fm k => a F σ H _ e fm fun v H1 s1 r1 => by
  cases k0 with
  | chg => cases r1; exact ⟨_, _, _, _, false, rfl, .ty _, .base (.str _), kit_ty (by decide +kernel), k _ H1 s1 (.bl false)⟩
  | fix => cases r1; exact ⟨_, _, _, _, false, rfl, .ty _, .base .non, kit_ty (by decide +kernel), k _ H1 s1 (.bl false)⟩
  | key ks => cases r1 with
    | tup h _ => exact ⟨_, _, _, _, true, rfl, .ty _, .base (.tup h), kit_ty (by decide +kernel), k _ H1 s1 (.bl true)⟩
theorem rd_opI {x y : Int} {g : Int → Int → V} {b : Bool} (hg : g x y = .bl b) (a : RD C ρ ta (.int x)) (c : RD C ρ tb (.int y)) : RD C ρ (tOp (rI0 g) ta tb) (.bl b) :=
  rd_op a c fun F v w H Q fm r1 r2 k => by
    cases r1; cases r2
    refine ⟨x, y, rfl, rfl, ?_⟩
    rw [hg]
    exact k _ H (Same.refl H) (.bl _)
theorem rd_eqI {x y : Int} (a : RD C ρ ta (.int x)) (c : RD C ρ tb (.int y)) : RD C ρ (tOp rEq ta tb) (.bl (decide (x = y))) :=
  rd_op a c fun F v w H Q fm r1 r2 k => by
    cases r1; cases r2
    refine ⟨rfl, ?_⟩
    rw [show decide (V.int x = V.int y) = decide (x = y) by simp]
    exact k _ H (Same.refl H) (.bl _)
theorem rd_neI {x y : Int} (a : RD C ρ ta (.int x)) (c : RD C ρ tb (.int y)) : RD C ρ (tOp rNe ta tb) (.bl (!decide (x = y))) :=
  rd_op a c fun F v w H Q fm r1 r2 k => by
    cases r1; cases r2
    refine ⟨rfl, ?_⟩
    rw [show decide (V.int x = V.int y) = decide (x = y) by simp]
    exact k _ H (Same.refl H) (.bl _)
/-- is_columns of a tuple of texts -/
theorem rd_isCols (few : cs.length ≤ 1000) (short : ∀ z ∈ cs, z.length ≤ sizeLine) (a : RDs C ρ t [.txs cs]) : RD C ρ (tCall (spCols K) [] E0 t) (.bl (cs.all nameB && ascB cs)) := fun F σ H Q e fm k => a F σ H _ e fm fun vs H1 s1 r1 => by
  cases r1 with
  | cons r1 r2 =>
    cases r2
    obtain ⟨p, rfl, h⟩ := r1.txs
    refine ⟨.ref p, _, rfl, .inr ⟨p, _, cs.map some, rfl, h, by simpa using few, parts_some short, rfl⟩, fun H2 s2 => ?_⟩
    have e : colsB (cs.map some) = (cs.all nameB && ascB cs) := by
      unfold colsB
      rw [List.all_map, List.filterMap_map, show List.filterMap (id ∘ some) cs = cs from List.filterMap_some]
      rfl
    rw [e]
    exact k _ H2 (s1.trans s2) (.bl _)
/-- a, b = a pair -/
theorem st_pair {x y : Ob} (q : Sq C A F H0 ρ σ H) (ev : Ev C F σ H te (.tup [x, y])) (k : ∀ v w H', Same H H' → Sq C A F H0 ((ρ.set i (some x)).set j (some y)) ((σ.set i (some v)).set j (some w)) H' → D.nx ((σ.set i (some v)).set j (some w)) H') : tAsg te (gTup K 2 (gCons (gName i) (gCons (gName j) gNil))) D σ H :=
  ev _ fun v H' s rv => by
    cases rv with
    | tup h rs => cases rs with
      | cons r1 rs => cases rs with
        | cons r2 rs =>
          cases rs
          have q1 := q.same s
          exact ⟨_, _, rfl, SqT.of h, rfl, _, _, rfl, _, _, rfl, rfl, k _ _ H' s ⟨q1.kp, (q1.env.set i r1).set j r2, q1.fm⟩⟩
end
/-- texts in order, each a name -/
structure Cols (cs : List Str) : Prop where
  names : ∀ z ∈ cs, nameB z = true
  asc : ascB cs = true
theorem Cols.nd {cs : List Str} (h : Cols cs) : cs.Nodup := asc_nodup h.asc
theorem Cols.short {cs : List Str} (h : Cols cs) : ∀ z ∈ cs, z.length ≤ sizeLine := fun z hz => name_size (h.names z hz)
theorem Cols.all {cs : List Str} (h : Cols cs) : (cs.all nameB && ascB cs) = true := by
  rw [h.asc, Bool.and_true, List.all_eq_true]; exact h.names
def colsOfT (Ls : List Ln) (ts : List Str) : List Str := uniqS (ts.flatMap (colsAt Ls))
/-- a view: tables of the scene, some of their columns -/
structure ViewOk (Ls : List Ln) (ts cs : List Str) : Prop where
  t : Cols ts
  c : Cols cs
  one : ts ≠ []
  sub : ∀ z ∈ ts, z ∈ tabsOf Ls
  inn : ∀ z ∈ cs, z ∈ colsOfT Ls ts
theorem tabs_six {Ls : List Ln} (ok : LnsOk Ls) : (tabsOf Ls).length ≤ 6 := by unfold tabsOf; rw [List.length_map]; exact ok.six
theorem ViewOk.few {Ls : List Ln} {ts cs : List Str} (v : ViewOk Ls ts cs) (ok : LnsOk Ls) : ts.length ≤ 6 := Nat.le_trans (v.t.nd.length_le_of_subset v.sub) (tabs_six ok)
theorem mem_uniqS {l : List Str} {z : Str} : z ∈ uniqS l ↔ z ∈ l := by unfold uniqS; rw [mem_srtd, mem_dedupS]
theorem ViewOk.fewc {Ls : List Ln} {ts cs : List Str} (v : ViewOk Ls ts cs) (ok : LnsOk Ls) : cs.length ≤ 24 := by
  have h1 := v.few ok
  have h2 := cols_few ok v.sub
  have h3 := v.c.nd.length_le_of_subset (l₂ := ts.flatMap (colsAt Ls)) fun z hz => mem_uniqS.mp (v.inn z hz)
  omega
def vOb (ts cs : List Str) : Ob := .tup [.txs ts, .txs cs]
section
variable {P : Program} {w : World} {K : PySem.W.Frag} {mg : Str → Option Value} {base : Heap}
/-! ### need_scene -/
abbrev s_nsc : Stmt := topS 27
abbrev N_v : List Str := ["value"]
theorem sc_nsc : FnScope N_v ["value"] (defScope s_nsc) := ⟨rfl, rfl, rfl, by decide +kernel, rfl, by decide +kernel, by decide +kernel⟩
def gNsc (os : List Ob) (r : Ob) : Prop := ∃ Ls, os = [.scn Ls] ∧ r = .non
theorem ok_nsc {f C : Addr} {fd : FuncData} (F : Fun K "need_scene" "need_scene" s_nsc f fd) (T : NamesS mg) (TC : ClsS K mg C) (I : ClsI K C) : FnOk P w K mg base CX0 1 f fd ["value"] (spP C gNsc) := by
  have nd := sc_nsc.nd
  refine F.ok sc_nsc (fun vs H Q E h => ?_) (fun cdv A outer s H vs Q E hr h => ?_)
  · obtain ⟨F, os, r, _, rs, ⟨Ls, rfl, _⟩, _⟩ := h
    exact rs.length
  · obtain ⟨F0, os, r, fm, rs, ⟨Ls, rfl, rfl⟩, k⟩ := h
    refine ⟨_, (pss_one
    (ps_if (pt_not (pt_val (pe_callB (r := rIsi K) call_isi (by rfl) T.isinstance (by decide +kernel) (pa_cons (pv 0) (pa_cons (pe_glob (v := .ref C) rfl TC.mgC rfl) pa_nil))))) (pss_one ps_never) pss_nil)), ?_⟩
    have q0 : Sq C Nil F0 H [some (.scn Ls)] (L2.start N_v vs) H := Sq.start (N := N_v) fm rs
    refine st_if (b := false) q0 (q0.evt (rt_not (b := true) (rt_b (rd_isScn (b := true) I (rd_var rfl))))) (fun z => by cases z) ?_
    intro _ H1 s1 q1
    exact k _ H1 s1 .non
/-! ### is_tables -/
abbrev s_itb : Stmt := topS 28
abbrev N_itb : List Str := ["scene", "value", "table"]
theorem sc_itb : FnScope N_itb ["scene", "value"] (defScope s_itb) := ⟨rfl, rfl, rfl, by decide +kernel, rfl, by decide +kernel, by decide +kernel⟩
def gItb (os : List Ob) (r : Ob) : Prop := ∃ Ls ts, os = [.scn Ls, .txs ts] ∧ Cols ts ∧ ts ≠ [] ∧ ts.length ≤ 1000 ∧ (∀ z ∈ ts, z ∈ tabsOf Ls) ∧ r = .bl true
theorem ok_itb {f C : Addr} {fd : FuncData} (F : Fun K "is_tables" "is_tables" s_itb f fd) (T : NamesS mg) (W : Ways P w K mg base C) (CC : Callee P w K mg base CX0 2 "is_columns" ["value"] (spCols K)) : FnOk P w K mg base CX0 3 f fd ["scene", "value"] (spP C gItb) := by
  have nd := sc_itb.nd
  refine F.ok sc_itb (fun vs H Q E h => ?_) (fun cdv A outer s H vs Q E hr h => ?_)
  · obtain ⟨F, os, r, _, rs, ⟨Ls, ts, rfl, _⟩, _⟩ := h
    exact rs.length
  · obtain ⟨F0, os, r, fm, rs, ⟨Ls, ts, rfl, ct, ne, few, sub, rfl⟩, k⟩ := h
    have hr1 : Room 1 _ := hr.mono (by decide)
    refine ⟨_, (pss_one
    (ps_ret (pe_and (pe_use CC hr rfl pass0 (pa_cons (pv 1) pa_nil)) (pe_and (pe_cmpR op_gt (pe_callB call_len_seq (by rfl) T.len (by decide +kernel) (pa_cons (pv 1) pa_nil)) pe_int (nomark _)) (pe_one (pe_callB (cr_all rfl) (by rfl) T.all (by decide +kernel) (pa_cons (pe_lc (own := [("table", 2)]) (g := (gName 2)) rfl nd (pi_tup (pv 1)) (blkOk_by (N := N_itb) (sc := defScope s_itb) (by decide +kernel)) (fun _ _ _ _ _ => (pg_name (i := 2) nd rfl (Or.inl rfl))) (fun _ _ _ _ _ => pts_nil) (fun _ _ _ _ _ => (pe_cmpR (K1.op_inOwn (spc_of W.con) hr1) (pv 2) (pv 0) rfl))) pa_nil))))))), ?_⟩
    have q0 : Sq C Nil F0 H [some (.scn Ls), some (.txs ts), none] (L2.start N_itb vs) H := Sq.start (N := N_itb) fm rs
    have len : decide ((0 : Int) < (ts.map Ob.str).length) = true := decide_eq_true (by
      have := List.length_pos_iff.mpr ne
      rw [List.length_map]; omega)
    refine st_ret q0 (q0.ev ((rd_and (b := true) ((rd_isCols few ct.short (rds_one (rd_var (i := 1) rfl))).cast (congrArg Ob.bl ct.all)) fun _ =>
      rd_and (b := true) (rd_opI (b := true) (congrArg V.bl len) (rd_len (K := K) (.inl rfl) (rd_var (i := 1) rfl)) (rd_int 0)) fun _ => rd_allc (K := K) (p := fun z => decide (z ∈ tabsOf Ls)) (ri_tup (rd_var (i := 1) rfl)) few (by decide) fun z mz => rd_inScn (rd_var rfl) (rd_var rfl)).cast (o' := .bl true) ?_)) ?_
    · have : ts.all (fun z => decide (z ∈ tabsOf Ls)) = true := List.all_eq_true.mpr fun z mz => decide_eq_true (sub z mz)
      rw [this]; rfl
    · intro v H5 kp5 rv _ _
      exact k v H5 kp5.toSame rv
end
end B30_

/-! ## B30_56 -/
set_option Elab.async false
set_option linter.all false
set_option maxRecDepth 100000
set_option maxHeartbeats 8000000
namespace B30_
open PySem PySem.Spec PyProof.Rows L2
section
variable {P : Program} {w : World} {K : PySem.W.Frag} {mg : Str → Option Value} {base : Heap}
/-! ### _law_scene_made -/
abbrev s_lsm : Stmt := topS 53
abbrev N_lsm : List Str := ["scene", "name"]
theorem sc_lsm : FnScope N_lsm ["scene"] (defScope s_lsm) := ⟨rfl, rfl, rfl, by decide +kernel, rfl, by decide +kernel, by decide +kernel⟩
def gLsm (os : List Ob) (r : Ob) : Prop := ∃ Ls, os = [.pln Ls] ∧ PlOk Ls ∧ r = .scn Ls
theorem unlock2 {H H1 : Hp} {d : Addr} {u : HO} {o : Obj} (hd : H d = some u) (s : Same (upd H d (.frz o u)) H1) : Same H (upd H1 d u) := unlock hd s
theorem ok_lsm {f C : Addr} {fd : FuncData} (F : Fun K "_law_scene_made" "_law_scene_made" s_lsm f fd) (T : NamesS mg) (W : Ways P w K mg base C) (O : OfM P w K mg base C) : FnOk P w K mg base CX0 11 f fd ["scene"] (spP C gLsm) := by
  have nd := sc_lsm.nd
  refine F.ok sc_lsm (fun vs H Q E h => ?_) (fun cdv A outer s H vs Q E hr h => ?_)
  · obtain ⟨F, os, r, _, rs, ⟨Ls, rfl, _⟩, _⟩ := h
    exact rs.length
  · obtain ⟨F0, os, r, fm, rs, ⟨Ls, rfl, ok, rfl⟩, k⟩ := h
    have hu := hu_of hr
    refine ⟨_, (pss_one
    (ps_ret (pe_of O W.cl.mgC (by rfl) hr (pa_cons (pe_callTy call_tuple_of (by rfl) T.tuple (by decide +kernel) (pa_cons (pe_lock (pe_lc (own := [("name", 1)]) (g := (gName 1)) rfl nd (pi_keys (pv 0)) (blkOk_by (N := N_lsm) (sc := defScope s_lsm) (by decide +kernel)) (fun _ _ _ _ _ => (pg_name (i := 1) nd rfl (Or.inl rfl))) (fun _ _ _ _ _ => pts_nil) (te := tTup (tCons (tVar 1) (tCons (tOp (rIxT K) (tDGet (tVar 0) (tVar 1)) (tC (.int 0))) (tCons (tOp (rIxT K) (tDGet (tVar 0) (tVar 1)) (tC (.int 1))) tNil)))) (fun _ _ _ _ _ => (pe_tup (pa_cons (pv 1) (pa_cons (pe_ix ix_tup (pe_dget hu (pv 0) (pv 1) (fun _ _ => rfl)) pe_int (fun _ _ => rfl)) (pa_cons (pe_ix ix_tup (pe_dget hu (pv 0) (pv 1) (fun _ _ => rfl)) pe_int (fun _ _ => rfl)) pa_nil))))))) pa_nil)) pa_nil)))), ?_⟩
    cases rs with
    | cons r1 rn =>
    cases rn
    cases r1 with
    | @pln q _ nq hq =>
    obtain ⟨kvs, hk, pr⟩ := hq
    have kl : kvs.length = Ls.length := pr.length
    have six : Ls.length ≤ 6 := ok.six
    refine ⟨rfl, ?_⟩
    refine cb_one ?_
    refine ⟨q, .dK kvs, hk, trivial, fun od => ⟨_, rfl, q, od, rfl, .inl ⟨kvs, upd_same, fun D hD => ?_⟩⟩⟩
    have pr1 : Paired (fun kv l => kv.1 = Sum.inr l.t ∧ PlAt (upd H q (.frz od (.dK kvs))) kv.2 l) kvs Ls := Paired.mapP pr fun kv l r => ⟨r.1, r.2.putF hk⟩
    refine K1.lc_rel walk_keys LnAt (fun i => Ls[i]?) hD (by rw [kl, sizeLine_eq]; omega) (fun H H' v l r e o => r.off o fun xs z => by obtain ⟨a, e⟩ := e; rw [e] at z; cases z) (fun H2 s2 => s2 _ _ upd_same) (fun i x H2 H3 N hi s2 lD y keep skip => ?_) (fun H2 acc s2 hL pL => ?_)
    · obtain ⟨rfl, kk, vv, hkk, rfl⟩ := y
      obtain ⟨l, hl, r1, _⟩ := paired_get pr1 hkk
      obtain rfl : kk = Sum.inr l.t := r1
      obtain ⟨v, m, e1, e2, e3, pp, c, kv, rfl, t1, t2, t3⟩ := val_at pr1 (List.mem_map.mpr ⟨l, List.mem_of_getElem? hl, rfl⟩)
      obtain rfl := same_line ok.nd (List.mem_of_getElem? hl) e2 e3
      have hg : DGet H3 q (.str m.t) (some (.ref pp)) := .inl ⟨kvs, Sum.inr m.t, .inr ⟨od, s2 _ _ upd_same⟩, rfl, e1.symm⟩
      refine ⟨rfl, _, rfl, _, rfl, _, rfl, q, .ref pp, rfl, hg, pp, _, _, _, rfl, rfl, SqT.of (s2 _ _ t1), at_of (j := 0) rfl rfl, _, rfl, _, rfl, q, .ref pp, rfl, hg, pp, _, _, _, rfl, rfl, SqT.of (s2 _ _ t1), at_of (j := 1) rfl rfl, by show 3 ≤ sizeLine; decide, fun t nt => ?_⟩
      have sN : Same H3 (upd H3 t (.tup [.str m.t, .ref c, kv])) := Same.new (Same.refl _) nt
      exact keep _ (.ref t) m sN hl ⟨t, c, kv, rfl, upd_same, sN _ _ (s2 _ _ t2), (t3.same s2).same sN⟩
    · rw [kl, K1.pickT_all] at pL
      have nDq : D ≠ q := (ne_of_none upd_same hD).symm
      have sameB := unlock2 hk s2
      refine ⟨s2 _ _ upd_same, D, _, rfl, .inl ⟨SqL.of (by rw [upd_ne nDq]; exact hL), fun t nt => ?_⟩⟩
      have sN : Same (upd H2 q (.dK kvs)) (upd (upd H2 q (.dK kvs)) t (.tup acc)) := Same.new (Same.refl _) nt
      refine ⟨t, acc, Ls, rfl, upd_same, Paired.mapP pL fun v l r => ?_, ok.toLnsOk, fun x H5 s5 nx sc => ?_⟩
      · obtain ⟨p, c, kv, rfl, a1, a2, a3⟩ := r
        have off : ∀ {b : Addr} {xs : List V}, H2 b = some (.tup xs) → (upd (upd H2 q (.dK kvs)) t (.tup acc)) b = some (.tup xs) := fun {b xs} e => sN _ _ (by rw [upd_ne (fun z => by rw [z, s2 _ _ upd_same] at e; cases e)]; exact e)
        refine ⟨p, c, kv, rfl, off a1, off a2, ?_⟩
        cases ek : l.k with
        | chg => rw [ek] at a3; exact a3
        | fix => rw [ek] at a3; exact a3
        | key ks => rw [ek] at a3; obtain ⟨z, e1, e2⟩ := a3; exact ⟨z, e1, off e2⟩
      · rw [ok.inord] at sc
        have sAll : Same H H5 := fun b o e => s5 _ _ (sN _ _ (sameB _ _ e))
        obtain ⟨dx, pl, pt, pc, pg, pf, dc, dk, h1, h2, n1, n2⟩ := sc.back (sameB.trans sN)
        exact k _ _ sAll (.scn ⟨dx, pl, pt, pc, pg, pf, dc, dk, h1, h2, fm.fresh n1, fm.fresh n2⟩)
end
end B30_

/-! ## B30_57 -/
set_option Elab.async false
set_option linter.all false
set_option maxRecDepth 100000
set_option maxHeartbeats 8000000
namespace B30_
open PySem PySem.Spec PyProof.Rows L2
section
variable {C : Addr} {A F G : Addr → Prop} {H0 H H' : Hp} {ρ : List (Option Ob)} {σ : L2.St} {K : PySem.W.Frag} {te ta tb : TE} {tt : TT} {t : TA} {os us : List Ob} {o : Ob} {cs ds ts : List Str} {Ls : List Ln} {D : Ends} {i j : Nat}
/-- == and != of lists, of tuples of texts -/
theorem rd_eqLs (a : RD C ρ ta (.lxs cs)) (b : RD C ρ tb (.lxs ds)) (h1 : ∀ z ∈ cs, PyData.strOk z = true) (h2 : ∀ z ∈ ds, PyData.strOk z = true) : RD C ρ (tOp (rEqD K) ta tb) (.bl (decide (cs = ds))) :=
  rd_op a b fun F v w H Q fm r1 r2 k => by
    refine ⟨_, _, r1.dp (areD_strs cs), r2.dp (areD_strs ds), ?_, ?_, ?_⟩
    · show SeqAt.shaped (.list (pds (cs.map .str))) = true
      rw [pds_strs]; exact shaped_strs cs h1
    · show SeqAt.shaped (.list (pds (ds.map .str))) = true
      rw [pds_strs]; exact shaped_strs ds h2
    · have e : PyData.eqv (.list (pds (cs.map .str))) (.list (pds (ds.map .str))) = decide (cs = ds) := by
        rw [pds_strs, pds_strs]
        simp only [PyData.eqv]
        rw [Bool.eq_iff_iff, eqv_strs, decide_eq_true_eq]
      show Q (.bl (PyData.eqv (.list (pds (cs.map .str))) (.list (pds (ds.map .str))))) H
      rw [e]
      exact k _ H (Same.refl H) (.bl _)
theorem rd_neLs (a : RD C ρ ta (.lxs cs)) (b : RD C ρ tb (.lxs ds)) (h1 : ∀ z ∈ cs, PyData.strOk z = true) (h2 : ∀ z ∈ ds, PyData.strOk z = true) : RD C ρ (tOp (rNeD K) ta tb) (.bl (!decide (cs = ds))) :=
  rd_op a b fun F v w H Q fm r1 r2 k => by
    refine ⟨_, _, r1.dp (areD_strs cs), r2.dp (areD_strs ds), ?_, ?_, ?_⟩
    · show SeqAt.shaped (.list (pds (cs.map .str))) = true
      rw [pds_strs]; exact shaped_strs cs h1
    · show SeqAt.shaped (.list (pds (ds.map .str))) = true
      rw [pds_strs]; exact shaped_strs ds h2
    · have e : PyData.eqv (.list (pds (cs.map .str))) (.list (pds (ds.map .str))) = decide (cs = ds) := by
        rw [pds_strs, pds_strs]
        simp only [PyData.eqv]
        rw [Bool.eq_iff_iff, eqv_strs, decide_eq_true_eq]
      show Q (.bl (!PyData.eqv (.list (pds (cs.map .str))) (.list (pds (ds.map .str))))) H
      rw [e]
      exact k _ H (Same.refl H) (.bl _)
theorem shaped_tstrs (cs : List Str) (h : ∀ z ∈ cs, PyData.strOk z = true) : SeqAt.shaped (.tuple (cs.map .str)) = true := by
  unfold SeqAt.shaped
  have h1 : PyData.canLay0 (.tuple (cs.map PyData.str)) = true := canLay_strs cs h
  have h2 : PyData.depth (.tuple (cs.map PyData.str)) = 1 := by
    show PyData.depthAll (cs.map PyData.str) + 1 = 1
    rw [depth_strs]
  rw [h1, h2]
  rfl
theorem rd_eqTs (a : RD C ρ ta (.txs cs)) (b : RD C ρ tb (.txs ds)) (h1 : ∀ z ∈ cs, PyData.strOk z = true) (h2 : ∀ z ∈ ds, PyData.strOk z = true) : RD C ρ (tOp (rEqD K) ta tb) (.bl (decide (cs = ds))) :=
  rd_op a b fun F v w H Q fm r1 r2 k => by
    refine ⟨_, _, r1.dp (areD_strs cs), r2.dp (areD_strs ds), ?_, ?_, ?_⟩
    · show SeqAt.shaped (.tuple (pds (cs.map .str))) = true
      rw [pds_strs]; exact shaped_tstrs cs h1
    · show SeqAt.shaped (.tuple (pds (ds.map .str))) = true
      rw [pds_strs]; exact shaped_tstrs ds h2
    · have e : PyData.eqv (.tuple (pds (cs.map .str))) (.tuple (pds (ds.map .str))) = decide (cs = ds) := by
        rw [pds_strs, pds_strs]
        simp only [PyData.eqv]
        rw [Bool.eq_iff_iff, eqv_strs, decide_eq_true_eq]
      show Q (.bl (PyData.eqv (.tuple (pds (cs.map .str))) (.tuple (pds (ds.map .str))))) H
      rw [e]
      exact k _ H (Same.refl H) (.bl _)
theorem rd_opIi {x y z : Int} {g : Int → Int → V} (hg : g x y = .int z) (a : RD C ρ ta (.int x)) (c : RD C ρ tb (.int y)) : RD C ρ (tOp (rI0 g) ta tb) (.int z) :=
  rd_op a c fun F v w H Q fm r1 r2 k => by
    cases r1; cases r2
    refine ⟨x, y, rfl, rfl, ?_⟩
    rw [hg]
    exact k _ H (Same.refl H) (.int _)
/-- range(n) -/
theorem ri_range {n : Nat} (a : RDs C ρ t [.int n]) (few : n ≤ 1000000) : RI C ρ (iRng1 t) ((List.range n).map fun k => .int (k : Nat)) := fun F σ H R e fm k => a F σ H _ e fm fun vs H1 s1 r1 => by
  cases r1 with
  | cons r1 rn =>
    cases rn; cases r1
    refine ⟨_, rfl, by omega, by omega, k _ H1 _ _ s1 (by simpa using (walk_range (lo := 0) (n := n))) (fun _ _ => trivial) fun i H2 x H3 hi s2 y => ?_⟩
    obtain ⟨rfl, rfl⟩ := y
    rw [List.length_map, List.length_range] at hi
    refine ⟨rfl, .int (i : Nat), by rw [List.getElem?_map, List.getElem?_range hi]; rfl, fun G _ _ => ?_⟩
    exact .int _
end
end B30_

/-! ## B30_58 -/
set_option Elab.async false
set_option linter.all false
set_option maxRecDepth 100000
set_option maxHeartbeats 8000000
namespace B30_
open PySem PySem.Spec PyProof.Rows L2
/-! ### the law's closure, as data -/
def grow1 (Ls : List Ln) (S : List Str) (t : Str) : List Str := match keyOf Ls t with
  | some ks => if (ks.filter fun c => !decide (c ∈ S)) = [] then S ++ (colsAt Ls t).filter fun c => !decide (c ∈ S) else S
  | none => S
def pass1 (Ls : List Ln) (ns S : List Str) : List Str := ns.foldl (grow1 Ls) S
def passN (Ls : List Ln) (ns : List Str) : Nat → List Str → List Str
  | 0, S => S
  | n + 1, S => passN Ls ns n (pass1 Ls ns S)
def lawCl (Ls : List Ln) (cs ns : List Str) : List Str := passN Ls ns (ns.length + 1) cs
def allCols (Ls : List Ln) : List Str := Ls.flatMap (·.cs)
theorem allCols_few {Ls : List Ln} (ok : LnsOk Ls) : (allCols Ls).length ≤ 24 := by
  have : ∀ {Ms : List Ln}, (∀ l ∈ Ms, l.cs.length ≤ 4) → (Ms.flatMap (·.cs)).length ≤ 4 * Ms.length := by
    intro Ms h
    induction Ms with
    | nil => simp
    | cons l r ih =>
      rw [List.flatMap_cons, List.length_append, List.length_cons]
      have h1 := ih fun m hm => h m (List.mem_cons_of_mem _ hm)
      have h2 := h l List.mem_cons_self
      omega
  have h := this fun l hl => (ok.good l hl).few
  have := ok.six
  unfold allCols
  omega
theorem mem_colsAt {Ls : List Ln} {t c : Str} (h : c ∈ colsAt Ls t) : c ∈ allCols Ls := by
  unfold colsAt at h
  cases e : Ls.find? fun l => decide (l.t = t) with
  | none => rw [e] at h; simp at h
  | some l =>
    rw [e] at h
    exact List.mem_flatMap.mpr ⟨l, List.mem_of_find?_eq_some e, by simpa using h⟩
theorem allCols_name {Ls : List Ln} (ok : LnsOk Ls) : ∀ z ∈ allCols Ls, nameB z = true := fun z hz => by
  obtain ⟨l, ml, h⟩ := List.mem_flatMap.mp hz
  exact (ok.good l ml).cols z h
theorem colsAt_nd {Ls : List Ln} (ok : LnsOk Ls) (t : Str) : (colsAt Ls t).Nodup := by
  unfold colsAt
  cases e : Ls.find? fun l => decide (l.t = t) with
  | none => exact List.nodup_nil
  | some l => exact (ok.good l (List.mem_of_find?_eq_some e)).nd
/-- what is found: each once, columns that were told or that the scene has -/
structure FoundOk (Ls : List Ln) (S : List Str) : Prop where
  nd : S.Nodup
  sub : ∀ z ∈ S, z ∈ allCols Ls
theorem FoundOk.few {Ls : List Ln} {S : List Str} (h : FoundOk Ls S) (ok : LnsOk Ls) : S.length ≤ 24 := Nat.le_trans (h.nd.length_le_of_subset h.sub) (allCols_few ok)
theorem FoundOk.add {Ls : List Ln} {S : List Str} (h : FoundOk Ls S) (ok : LnsOk Ls) (t : Str) : FoundOk Ls (S ++ (colsAt Ls t).filter fun c => !decide (c ∈ S)) := by
  refine ⟨?_, fun z hz => ?_⟩
  · rw [List.nodup_append]
    refine ⟨h.nd, (colsAt_nd ok t).filter _, fun a ha b hb e => ?_⟩
    have := (List.mem_filter.mp hb).2
    simp only [Bool.not_eq_true', decide_eq_false_iff_not] at this
    exact this (e ▸ ha)
  · rcases List.mem_append.mp hz with hz | hz
    · exact h.sub z hz
    · exact mem_colsAt (List.mem_filter.mp hz).1
theorem FoundOk.grow {Ls : List Ln} {S : List Str} (h : FoundOk Ls S) (ok : LnsOk Ls) (t : Str) : FoundOk Ls (grow1 Ls S t) := by
  unfold grow1
  split
  · split
    · exact h.add ok t
    · exact h
  · exact h
/-! ### _law_closure -/
abbrev s_lc : Stmt := topS 59
abbrev N_lc : List Str := ["scene", "columns", "names", "found", "turn", "name", "here", "kind", "column"]
theorem sc_lc : FnScope N_lc ["scene", "columns", "names"] (defScope s_lc) := ⟨rfl, rfl, rfl, by decide +kernel, rfl, by decide +kernel, by decide +kernel⟩
def gLc (os : List Ob) (r : Ob) : Prop := ∃ Ls cs ns, os = [.pln Ls, .txs cs, .lxs ns] ∧ LnsOk Ls ∧ FoundOk Ls cs ∧ ns.length ≤ 100 ∧ (∀ z ∈ ns, z ∈ tabsOf Ls) ∧ r = .lxs (lawCl Ls cs ns)
section
variable {P : Program} {w : World} {K : PySem.W.Frag} {mg : Str → Option Value} {base : Heap}
theorem ok_lc {f C : Addr} {fd : FuncData} (F : Fun K "_law_closure" "_law_closure" s_lc f fd) (T : NamesS mg) (hrange : mg "range" = none) : FnOk P w K mg base CX0 1 f fd ["scene", "columns", "names"] (spP C gLc) := by
  have nd := sc_lc.nd
  refine F.ok sc_lc (fun vs H Q E h => ?_) (fun cdv A outer s H vs Q E hr h => ?_)
  · obtain ⟨F, os, r, _, rs, ⟨Ls, cs, ns, rfl, _⟩, _⟩ := h
    exact rs.length
  · obtain ⟨F0, os, r, fm, rs, ⟨Ls, cs, ns, rfl, ok, fok, few, sub, rfl⟩, k⟩ := h
    have hu := hu_of hr
    have hu64 : (A.deeper (envOfC "_law_closure" (defScope s_lc) s.heap.objs.size f cdv)).units + 64 < cLine := by have := hr.un; omega
    refine ⟨_, (pss_cons
    (ps_set (i := 3) nd rfl (Or.inr rfl) (pe_callTy call_list_of (by rfl) T.list (by decide +kernel) (pa_cons (pv 1) pa_nil)))
    (pss_cons
    (ps_for PassesOwn.never rfl (pi_range1 (by rfl) hrange (pa_cons (pe_op op_add (pe_callB call_len_seq (by rfl) T.len (by decide +kernel) (pa_cons (pv 2) pa_nil)) pe_int) pa_nil)) (pg_name (i := 4) nd rfl (Or.inl rfl)) (pss_one
      (ps_for PassesOwn.never rfl (pi_list (pv 2)) (pg_name (i := 5) nd rfl (Or.inl rfl)) (pss_cons
        (ps_asg (pe_dget hu (pv 0) (pv 5) (fun _ _ => rfl)) (pg_tup rfl (pgs_cons (pg_name (i := 6) nd rfl (Or.inl rfl)) (pgs_cons (pg_name (i := 7) nd rfl (Or.inl rfl)) pgs_nil))))
        (pss_one
        (ps_if (PW.pt (pw_and (pt_val (pe_callB (r := rIsi K) call_isi (by rfl) T.isinstance (by decide +kernel) (pa_cons (pv 7) (pa_cons (pe_bltn (v := .ty "tuple") (by rfl) T.tuple (by decide +kernel) rfl) pa_nil)))) (pw_and1 (pt_cmpR (op_eqD hu64) (pe_lc (own := [("column", 8)]) (g := (gName 8)) (te := tVar 8) (tt := tTest (tOp (rIn K true) (tVar 8) (tVar 3))) rfl nd (pi_tup (pv 7)) (blkOk_by (N := N_lc) (sc := defScope s_lc) (by decide +kernel)) (fun _ _ _ _ _ => (pg_name (i := 8) nd rfl (Or.inl rfl))) (fun _ _ _ _ _ => (pts_one (pt_cmpR op_notIn_seq (pv 8) (pv 3) rfl))) (fun _ _ _ _ _ => (pv 8))) (pe_lst pa_nil) (nomark _))))) (pss_one
          (ps_set (i := 3) nd rfl (Or.inr rfl) (pe_op op_cat (pv 3) (pe_lc (own := [("column", 8)]) (g := (gName 8)) (te := tVar 8) (tt := tTest (tOp (rIn K true) (tVar 8) (tVar 3))) rfl nd (pi_tup (pv 6)) (blkOk_by (N := N_lc) (sc := defScope s_lc) (by decide +kernel)) (fun _ _ _ _ _ => (pg_name (i := 8) nd rfl (Or.inl rfl))) (fun _ _ _ _ _ => (pts_one (pt_cmpR op_notIn_seq (pv 8) (pv 3) rfl))) (fun _ _ _ _ _ => (pv 8)))))) pss_nil))))))
    (pss_one
    (ps_ret (pv 3))))), ?_⟩
    have q0 : Sq C Nil F0 H [some (.pln Ls), some (.txs cs), some (.lxs ns), none, none, none, none, none, none] (L2.start N_lc vs) H := Sq.start (N := N_lc) fm rs
    refine seq (st_set q0 (q0.ev (rd_listOf (K := K) (os := cs.map .str) (.inl rfl) (rd_var (i := 1) rfl))) fun v1 H1 s1 q1 => ?_)
    dsimp only
    refine seq (st_for q1 (ri_range (n := ns.length + 1) (rds_one (rd_opIi (z := (ns.length + 1 : Nat)) (by simp) (rd_len (K := K) (os := ns.map .str) (.inr rfl) (rd_var (i := 2) rfl)) (rd_int 1))) (by omega)) fun H2 s2 q2 => ⟨fun n σ' H' => ∃ S, Sq C Nil F0 H [some (.pln Ls), some (.txs cs), some (.lxs ns), some (.lxs S), none, none, none, none, none] σ' H' ∧ Kp F0 H2 H' ∧ FoundOk Ls S ∧ n ≤ ns.length + 1 ∧ passN Ls ns (ns.length + 1 - n) S = lawCl Ls cs ns,
      ⟨cs, q2, .refl _ _, fok, by omega, rfl⟩, fun n σ' H' p => p.choose_spec.2.1, fun n o σ' H' x ho p ro => ?_, fun σ' H' p => ?_⟩)
    · obtain ⟨S, q, kp, fs, le, eq⟩ := p
      have hn : n < ns.length + 1 := by
        have := (List.getElem?_eq_some_iff.mp ho).1
        simpa using this
      have q3 : Sq C Nil F0 H [some (.pln Ls), some (.txs cs), some (.lxs ns), some (.lxs S), none, none, none, none, none] (σ'.set 4 (some x)) H' := ⟨q.kp, q.env.put 4 _, q.fm⟩
      refine st_for q3 (ri_list (rd_var (i := 2) rfl)) fun H4 s4 q4 => ⟨fun m σ' H' => ∃ S', Sq C Nil F0 H [some (.pln Ls), some (.txs cs), some (.lxs ns), some (.lxs S'), none, none, none, none, none] σ' H' ∧ Kp F0 H4 H' ∧ FoundOk Ls S' ∧ (ns.take m).foldl (grow1 Ls) S = S', ⟨S, q4, .refl _ _, fs, rfl⟩, fun m σ' H' p => p.choose_spec.2.1, fun m o σ' H' x ho p ro => ?_, fun σ' H' p => ?_⟩
      · obtain ⟨S', q, kp2, fs2, eq2⟩ := p
        rw [List.getElem?_map] at ho
        obtain ⟨z, hz, rfl⟩ := Option.map_eq_some_iff.mp ho
        obtain ⟨l, ml, rfl⟩ := List.mem_map.mp (sub z (List.mem_of_getElem? hz))
        have lok := ok.good l ml
        have q5 : Sq C Nil F0 H [some (.pln Ls), some (.txs cs), some (.lxs ns), some (.lxs S'), none, some (.str l.t), none, none, none] (σ'.set 5 (some x)) H' := ⟨q.kp, q.env.set 5 (ro F0 (fun _ z => z) fun _ z => .inl z), q.fm⟩
        refine seq (st_pair (x := .txs l.cs) (y := kdOb l.k) q5 (q5.ev (rd_plain ok.nd ml (rd_var (i := 0) rfl) (rd_var (i := 5) rfl))) fun v w H6 s6 q6 => ?_)
        dsimp only
        have fewS := fs2.few ok
        have okS : ∀ z ∈ S', PyData.strOk z = true := fun z hz => name_strOk (allCols_name ok z (fs2.sub z hz))
        -- the end of a turn
        have fin : ∀ {S2 : List Str} {x6 x7 : Option Ob} {σ2 : L2.St} {H7 : Hp}, Same H6 H7 → Sq C Nil F0 H [some (.pln Ls), some (.txs cs), some (.lxs ns), some (.lxs S2), none, some (.str l.t), x6, x7, none] σ2 H7 → S2 = grow1 Ls S' l.t → ∃ S'', Sq C Nil F0 H [some (.pln Ls), some (.txs cs), some (.lxs ns), some (.lxs S''), none, none, none, none, none] σ2 H7 ∧ Kp F0 H4 H7 ∧ FoundOk Ls S'' ∧ (ns.take (m + 1)).foldl (grow1 Ls) S = S'' := fun {S2 x6 x7 σ2 H7} s7 q7 e => by
          refine ⟨S2, ((q7.drop 5).drop 6).drop 7, kp2.trans (.same (s6.trans s7)), e ▸ fs2.grow ok _, ?_⟩
          rw [take_snoc hz, List.foldl_append, eq2, e]
          rfl
        have ek := keyOf_ln ok.nd ml
        have ec := colsAt_ln ok.nd ml
        have fewc : l.cs.length ≤ 1000 := Nat.le_trans lok.few (by decide)
        have gr : ∀ b : Bool, b = (match l.k with | .key ks => decide ((ks.filter fun c => !decide (c ∈ S')) = []) | _ => false) → grow1 Ls S' l.t = if b = true then S' ++ l.cs.filter (fun c => !decide (c ∈ S')) else S' := fun b e => by
          unfold grow1
          rw [ek, ec, e]
          cases l.k with
          | chg => rfl
          | fix => rfl
          | key ks => simp only [decide_eq_true_eq]
        generalize eb : (match l.k with | .key ks => decide ((ks.filter fun c => !decide (c ∈ S')) = []) | _ => false) = b at gr
        have gr' := gr b rfl
        refine st_if (b := b) q6 (q6.evt ?_) (fun z H7 s7 q7 => ?_) (fun z H7 s7 q7 => ?_)
        · rw [← eb]
          cases ekk : l.k with
          | chg => exact rt_and (b := false) (c := false) (rt_b (rd_isTupK (k0 := .chg) (rd_var (i := 7) rfl))) (fun z => by cases z)
          | fix => exact rt_and (b := false) (c := false) (rt_b (rd_isTupK (k0 := .fix) (rd_var (i := 7) rfl))) (fun z => by cases z)
          | key ks =>
            have lk := lok.key
            rw [ekk] at lk
            have fk : ks.length ≤ 1000 := Nat.le_trans (lk.2.1.length_le_of_subset lk.2.2) fewc
            exact rt_and (b := true) (rt_b (rd_isTupK (k0 := .key ks) (rd_var (i := 7) rfl))) fun _ => rt_test (rd_eqLs (ds := []) (rd_lcs (cs := ks) (ri_tup (rd_var (i := 7) rfl)) fk (by decide) (fun z mz => rt_test (rd_notIn (K := K) (cs := S') _ (.inr rfl) (rd_var rfl) (rd_var rfl))) (fun z mz _ => rd_var rfl)) (rd_lst rds_nil (by decide)) (fun z mz => name_strOk (lk.1 z (List.mem_filter.mp mz).1)) (by simp))
        · refine st_set q7 (q7.ev (rd_catS (cs := S') (ds := l.cs.filter fun c => !decide (c ∈ S')) (rd_var (i := 3) rfl) (rd_lcs (cs := l.cs) (ri_tup (rd_var (i := 6) rfl)) fewc (by decide) (fun z mz => rt_test (rd_notIn (K := K) (cs := S') _ (.inr rfl) (rd_var rfl) (rd_var rfl))) (fun z mz _ => rd_var rfl)) ?_)) ?_
          · have := List.length_filter_le (fun c => !decide (c ∈ S')) l.cs
            have := lok.few
            omega
          · intro v8 H8 s8 q8
            exact fin (s7.trans s8) q8 (by rw [gr', if_pos z])
        · exact fin s7 q7 (by rw [gr', z]; rfl)
      · obtain ⟨S', q, kp2, fs2, eq2⟩ := p
        rw [List.length_map, List.take_length] at eq2
        refine ⟨S', q, kp.trans ((Kp.same s4).trans kp2), fs2, by omega, ?_⟩
        rw [← eq, ← eq2, show ns.length + 1 - n = (ns.length + 1 - (n + 1)) + 1 by omega]
        rfl
    · obtain ⟨S, q, kp, fs, le, eq⟩ := p
      dsimp only
      refine st_ret q (q.ev (rd_var (i := 3) rfl)) ?_
      intro v H5 kp5 rv _ _
      refine k v H5 kp5.toSame ?_
      rw [List.length_map, List.length_range, Nat.sub_self] at eq
      rw [← eq]
      exact rv
end
end B30_

/-! ## C24 -/
set_option Elab.async false
set_option linter.all false
set_option maxRecDepth 100000
set_option maxHeartbeats 8000000
namespace K1
open PySem PySem.Spec PyProof.Rows L2 HT
open PySem.P
/-! ### t + u of any tuples -/
theorem addW0 (l b : Addr) (items items2 : Array Value) (n n2 : Nat) (dd dd2 : Option Addr) (sl sl2 : Array (Option Value)) (hc0 : items.isEmpty = true) :
    Meets (Builtin.«tuple.__add__» ⟨[.ref l, .ref b], []⟩) (fun _ R s => s.heap.get? l = some { cls := .type "tuple", dict := dd, data := .seq items n, slots := sl } ∧ s.heap.get? b = some { cls := .type "tuple", dict := dd2, data := .seq items2 n2, slots := sl2 } ∧ R (.ok (.ret (Value.ref b))) s) :=
  .of_wp fun prog w A R s h => by
    obtain ⟨hp, g, d, tk, os⟩ := s
    obtain ⟨hl, hb, h⟩ := h
    have f2 := sub_tuple_tuple; have f3 := sub_list_list; have f4 := sub_tuple_list; have f5 := sub_list_tuple
    wp_walk using wpAny_loadPart' hl, wpAny_loadPart' hb
    exact ⟨_, rfl, h⟩
section
variable {X : Cx}
def rCatTT (K : PySem.W.Frag) : R2 := fun x y H Q => ∃ a b xs ys, x = .ref a ∧ y = .ref b ∧ SqT K H a xs ∧ SqT K H b ys ∧ xs.length + ys.length ≤ sizeLine ∧
  (xs = [] → Q (.ref b) H) ∧ (xs ≠ [] → ys = [] → Q (.ref a) H) ∧ (xs ≠ [] → ys ≠ [] → ∀ p, H p = none → Q (.ref p) (upd H p (.tup (xs ++ ys))))
theorem op_catTT : OpR X (binaryOp .Add) (rCatTT X.K) := by
  intro pins s σ H x y v u Q I rx ry h
  obtain ⟨a, b, xs, ys, rfl, rfl, ha, hb, hz, q0, q1, q2⟩ := h
  by_cases hx : xs = []
  · cases rx
    cases ry
    obtain ⟨its, r1, p1, _⟩ := I.tuple ha
    obtain ⟨its2, r2, p2, _⟩ := I.tuple hb
    obtain ⟨⟨cls, dd, data, sl⟩, ho, hc, n, hd⟩ := id p1
    obtain ⟨⟨cls2, dd2, data2, sl2⟩, ho2, hc2, n2, hd2⟩ := id p2
    simp only at hc hd hc2 hd2
    subst hc hd hc2 hd2
    refine concat_meets ⟨_, ho, rfl⟩ ⟨_, ho2, rfl⟩ noFill_tuple_add seq_tuple_add PySem.F.slot_tuple_add PySem.F.entry_tuple_add (PySem.F.args_tuple_add_2 _ _) (addW0 a b its.toArray its2.toArray n n2 dd dd2 sl sl2 ?_) ⟨ho, ho2, .ref b, H, I, rfl, q0 hx⟩
    have : its = [] := r1.nil_iff.mpr hx
    simp [this]
  · exact op_catT pins s σ H _ _ v u Q I rx ry ⟨a, b, xs, ys, rfl, rfl, ha, hb, hx, hz, q1 hx, q2 hx⟩
end
end K1

/-! ## B30_59 -/
set_option Elab.async false
set_option linter.all false
set_option maxRecDepth 100000
set_option maxHeartbeats 8000000
namespace B30_
open PySem PySem.Spec PyProof.Rows L2
section
variable {C : Addr} {A F G : Addr → Prop} {H0 H H' : Hp} {ρ : List (Option Ob)} {σ : L2.St} {K : PySem.W.Frag} {te ta tb : TE} {tt : TT} {t : TA} {os us : List Ob} {o : Ob} {cs ds ts : List Str} {Ls : List Ln} {D : Ends} {i j : Nat} {p : Addr} {wi : TI} {vs : List Nat}
/-- tuples joined -/
theorem rd_catT (a : RD C ρ ta (.tup os)) (b : RD C ρ tb (.tup us)) (few : os.length + us.length ≤ 1000) : RD C ρ (tOp (K1.rCatTT K) ta tb) (.tup (os ++ us)) :=
  rd_op a b fun F v w H Q fm r1 r2 k => by
    cases r1 with
    | tup h1 rs1 => cases r2 with
      | tup h2 rs2 =>
        refine ⟨_, _, _, _, rfl, rfl, SqT.of h1, SqT.of h2, by rw [rs1.length, rs2.length, sizeLine_eq]; omega, fun e => ?_, fun _ e => ?_, fun _ _ q hq => ?_⟩
        · have : os = [] := List.length_eq_zero_iff.mp (by rw [← rs1.length, e]; rfl)
          subst this
          exact k _ H (Same.refl H) (.tup h2 rs2)
        · have : us = [] := List.length_eq_zero_iff.mp (by rw [← rs2.length, e]; rfl)
          subst this
          rw [List.append_nil] at k
          exact k _ H (Same.refl H) (.tup h1 rs1)
        · exact k _ _ (Same.add hq) (.tup upd_same ((rs1.app rs2).same fm (Same.add hq)))
/-- found.extend(texts), the texts told while found is lent -/
theorem st_extend (q : Sq C A F H0 ρ σ H) (h : ρ[j]? = some (some (.own p))) (ol : OL C F H p (cs.map .str)) (n0 : H0 p = none ∨ A p) (r : RDs C (ρ.set j (some (.lxs cs))) t [.lxs ds]) (few : cs.length + ds.length ≤ 1000)
    (k : ∀ H', (∀ b u, b ≠ p → H b = some u → H' b = some u) → Sq C A F H0 ρ σ H' → OL C F H' p ((cs ++ ds).map .str) → D.nx σ H') : tDrop (tBM K "list" rExtend (tVar j) t) D σ H := by
  obtain ⟨v, h1, h2⟩ := q.env.2 j _ h
  cases h2
  obtain ⟨fp, xs, hx, rx⟩ := ol
  have ex := rx.strs
  subst ex
  refine ⟨_, h1, .inl ⟨rfl, _, SqL.of hx⟩, r _ σ H _ (q.env.lendL h hx rx) (q.fm.lend p) fun vs H' s rv => ?_⟩
  cases rv with
  | cons rv rn =>
    cases rn
    obtain ⟨b, rfl, nb, hb⟩ := rv.lxs
    have fm1 := q.fm.same s
    have kp1 : ∀ ys, Kp F H' (upd H' p (.lst ys)) := fun ys b u n e => by rw [upd_ne (fun z : b = p => n (z ▸ fp))]; exact e
    refine ⟨p, b, _, _, rfl, rfl, s _ _ hx, hb, by rw [List.length_map, List.length_map, sizeLine_eq]; omega, k _ (fun b u n e => by rw [upd_ne n]; exact s _ _ e) ⟨fun b u n e => ?_, (q.env.same q.fm s).kp fm1 (kp1 _), fun b hb => ?_⟩ ⟨fp, _, upd_same, ?_⟩⟩
    · have n2 : b ≠ p := fun z => by
        subst z
        rcases n0 with n0 | n0
        · rw [e] at n0; cases n0
        · exact n n0
      rw [upd_ne n2]
      exact s _ _ (q.kp b u n e)
    · by_cases z : b = p
      · subst z; exact ⟨_, upd_same, mo_lst _⟩
      · rw [upd_ne z]; exact fm1 b hb
    · rw [← List.map_append]
      exact vrs_strs _
/-- the end of a def: what is given back may be a list that was one's own -/
theorem st_retG (q : Sq C A F H0 ρ σ H) (ev : Ev C G σ H te o) (k : ∀ v H', Kp A H0 H' → VR C G H' v o → Same H H' → D.rt v H') : tRet te D σ H := ev _ fun v H' s rv => k v H' (q.kp.trans (.same s)) rv s
/-- an expression while a list of one's own is lent -/
theorem Sq.evL (q : Sq C A F H0 ρ σ H) (h : ρ[j]? = some (some (.own p))) (ol : OL C F H p os) (r : RD C (ρ.set j (some (.lst os))) te o) : Ev C (Less F p) σ H te o := fun Q k => by
  obtain ⟨_, xs, hx, rx⟩ := ol
  exact r _ σ H Q (q.env.lendL h hx rx) (q.fm.lend p) k
theorem back_own {F0 : Addr → Prop} {p : Addr} {v : V} {o : Ob} (n : ¬ F0 p) (r : VR C (Less (Plus F0 p) p) H v o) : VR C F0 H v o := r.mono fun b hb => ⟨.inl hb, fun z => n (z ▸ hb)⟩
/-- over a list of tuples of texts -/
def unS : Ob → Str
  | .str z => z
  | _ => Str.empty
def unT : Ob → List Str
  | .tup os => os.map unS
  | _ => []
theorem unT_txs (cs : List Str) : unT (.txs cs) = cs := by
  show (cs.map Ob.str).map unS = cs
  rw [List.map_map]
  exact List.map_id cs
theorem rd_lct {L : List (List Str)} {b : List Str → Bool} {r : List Str → Ob} (S : RI C ρ wi (L.map Ob.txs)) (few : L.length ≤ 1000) (mem : i ∈ vs) (hb : ∀ z ∈ L, RT C ((wipeR ρ vs).set i (some (.txs z))) tt (b z))
    (hr : ∀ z ∈ L, b z = true → RD C ((wipeR ρ vs).set i (some (.txs z))) te (r z)) : RD C ρ (tLc wi (gName i) tt te vs) (.lst ((L.filter b).map r)) := by
  have h := rd_lc (b := fun o => b (unT o)) (r := fun o => r (unT o)) S (by rw [List.length_map]; exact few) mem (fun o mo => by
    obtain ⟨z, mz, rfl⟩ := List.mem_map.mp mo
    show RT C _ tt (b (unT (.txs z)))
    rw [unT_txs]
    exact hb z mz) (fun o mo e => by
    obtain ⟨z, mz, rfl⟩ := List.mem_map.mp mo
    rw [show unT (Ob.txs z) = z from unT_txs z] at e
    show RD C _ te (r (unT (.txs z)))
    rw [unT_txs]
    exact hr z mz e)
  refine h.cast (congrArg Ob.lst ?_)
  rw [List.filter_map, List.map_map]
  have e1 : ((fun o => b (unT o)) ∘ Ob.txs) = b := funext fun z => congrArg b (unT_txs z)
  have e2 : ((fun o => r (unT o)) ∘ Ob.txs) = r := funext fun z => congrArg r (unT_txs z)
  rw [e1, e2]
end
end B30_

/-! ## B30_70 -/
set_option Elab.async false
set_option linter.all false
set_option maxRecDepth 100000
set_option maxHeartbeats 8000000
namespace B30_
open PySem PySem.Spec PyProof.Rows L2
/-- what is asked: columns of the scene, some tables of it -/
structure AskOk (Ls : List Ln) (cs ts : List Str) : Prop where
  ok : LnsOk Ls
  c : Cols cs
  sub : ∀ z ∈ cs, z ∈ colsOf Ls
  t : Cols ts
  one : ts ≠ []
  subt : ∀ z ∈ ts, z ∈ tabsOf Ls
theorem mem_colsOf {Ls : List Ln} {z : Str} : z ∈ colsOf Ls ↔ z ∈ Ls.flatMap (·.cs) := by unfold colsOf; exact mem_uniqS
theorem flat_few {Ls : List Ln} (ok : LnsOk Ls) : (Ls.flatMap (·.cs)).length ≤ 24 := by
  have : ∀ {Ms : List Ln}, (∀ l ∈ Ms, l.cs.length ≤ 4) → (Ms.flatMap (·.cs)).length ≤ 4 * Ms.length := by
    intro Ms h
    induction Ms with
    | nil => simp
    | cons l r ih =>
      rw [List.flatMap_cons, List.length_append, List.length_cons]
      have h1 := ih fun m hm => h m (List.mem_cons_of_mem _ hm)
      have h2 := h l List.mem_cons_self
      omega
  have h := this fun l hl => (ok.good l hl).few
  have := ok.six
  omega
theorem tabs_six' {Ls : List Ln} (ok : LnsOk Ls) : (tabsOf Ls).length ≤ 6 := by unfold tabsOf; rw [List.length_map]; exact ok.six
theorem AskOk.few {Ls : List Ln} {cs ts : List Str} (h : AskOk Ls cs ts) : cs.length ≤ 24 := Nat.le_trans (h.c.nd.length_le_of_subset fun z m => mem_colsOf.mp (h.sub z m)) (flat_few h.ok)
theorem AskOk.fewt {Ls : List Ln} {cs ts : List Str} (h : AskOk Ls cs ts) : ts.length ≤ 6 := Nat.le_trans (h.t.nd.length_le_of_subset h.subt) (tabs_six' h.ok)
abbrev rSortTS (K : PySem.W.Frag) : List V → Hp → VK → Prop := fun xs H Q => ∃ (a : Addr) (zs : List Str), xs = [.ref a] ∧ SqT K H a (zs.map V.str) ∧ ∀ (ys : List Str) p, ys.Perm zs → sortedS ys = true → H p = none → Q (.ref p) (upd H p (.lst (ys.map V.str)))
theorem rd_sortedTS {C : Addr} {ρ : List (Option Ob)} {te : TE} {K : PySem.W.Frag} {cs : List Str} (a : RD C ρ te (.txs cs)) : RD C ρ (tCB (rSortTS K) (tCons te tNil)) (.lxs (srtd cs)) :=
  rd_call1 a fun F v H Q fm r k => by
    obtain ⟨p, rfl, h⟩ := r.txs
    refine ⟨p, cs, rfl, SqT.of h, fun ys q pm so hq => ?_⟩
    obtain rfl := srtd_of pm so
    exact k _ _ (Same.add hq) (vr_lxs (fm.fresh hq) upd_same)
section
variable {P : Program} {w : World} {K : PySem.W.Frag} {mg : Str → Option Value} {base : Heap}
/-! ### names -/
abbrev N_sva : List Str := ["scene", "value"]
abbrev N_sct : List Str := ["scene", "columns", "tables"]
/-! ### is_door -/
abbrev s_idr : Stmt := topS 30
abbrev N_idr : List Str := ["scene", "value", "column"]
theorem sc_idr : FnScope N_idr ["scene", "value"] (defScope s_idr) := ⟨rfl, rfl, rfl, by decide +kernel, rfl, by decide +kernel, by decide +kernel⟩
def gIdr (os : List Ob) (r : Ob) : Prop := ∃ Ls cs, os = [.scn Ls, .txs cs] ∧ Cols cs ∧ cs.length ≤ 1000 ∧ (∀ z ∈ cs, z ∈ colsOf Ls) ∧ r = .bl true
theorem ok_idr {f C : Addr} {fd : FuncData} (F : Fun K "is_door" "is_door" s_idr f fd) (T : NamesS mg) (W : Ways P w K mg base C) (CC : Callee P w K mg base CX0 2 "is_columns" ["value"] (spCols K)) : FnOk P w K mg base CX0 3 f fd ["scene", "value"] (spP C gIdr) := by
  have nd := sc_idr.nd
  refine F.ok sc_idr (fun vs H Q E h => ?_) (fun cdv A outer s H vs Q E hr h => ?_)
  · obtain ⟨F, os, r, _, rs, ⟨Ls, cs, rfl, _⟩, _⟩ := h
    exact rs.length
  · obtain ⟨F0, os, r, fm, rs, ⟨Ls, cs, rfl, c, few, sub, rfl⟩, k⟩ := h
    refine ⟨_, (pss_one
    (ps_ret (pe_and (pe_use CC hr rfl pass0 (pa_cons (pv 1) pa_nil)) (pe_one (pe_callB (cr_all rfl) (by rfl) T.all (by decide +kernel) (pa_cons (pe_lc (own := [("column", 2)]) (g := (gName 2)) (te := tOp (rIn K false) (tVar 2) (tProp C (getSp C "_columns") [] E0 (tVar 0))) rfl nd (pi_tup (pv 1)) (blkOk_by (N := N_idr) (sc := defScope s_idr) (by decide +kernel)) (fun _ _ _ _ _ => (pg_name (i := 2) nd rfl (Or.inl rfl))) (fun _ _ _ _ _ => pts_nil) (fun _ _ _ _ _ => (pe_cmpR op_in_seq (pv 2) (pe_prp W.columns W.cl.cl hr (pv 0)) rfl))) pa_nil)))))), ?_⟩
    have q0 : Sq C Nil F0 H [some (.scn Ls), some (.txs cs), none] (L2.start N_idr vs) H := Sq.start (N := N_idr) fm rs
    refine st_ret q0 (q0.ev ((rd_and (b := true) ((rd_isCols few c.short (rds_one (rd_var (i := 1) rfl))).cast (congrArg Ob.bl c.all)) fun _ =>
      rd_allc (K := K) (p := fun z => decide (z ∈ colsOf Ls)) (ri_tup (rd_var (i := 1) rfl)) few (by decide) fun z mz => rd_in (K := K) (.txs (colsOf Ls)) (.inl rfl) (rd_var rfl) (rd_columns (rd_var rfl))).cast (o' := .bl true) ?_)) ?_
    · have : cs.all (fun z => decide (z ∈ colsOf Ls)) = true := List.all_eq_true.mpr fun z mz => decide_eq_true (sub z mz)
      rw [this]; rfl
    · intro v H5 kp5 rv _ _
      exact k v H5 kp5.toSame rv
/-! ### need_tables -/
abbrev s_nt : Stmt := topS 29
theorem sc_nt : FnScope N_sva ["scene", "value"] (defScope s_nt) := ⟨rfl, rfl, rfl, by decide +kernel, rfl, by decide +kernel, by decide +kernel⟩
def gNt (os : List Ob) (r : Ob) : Prop := ∃ Ls ts, os = [.scn Ls, .txs ts] ∧ Cols ts ∧ ts ≠ [] ∧ ts.length ≤ 1000 ∧ (∀ z ∈ ts, z ∈ tabsOf Ls) ∧ r = .non
theorem ok_nt {f C : Addr} {fd : FuncData} (F : Fun K "need_tables" "need_tables" s_nt f fd) (CT : Callee P w K mg base CX0 3 "is_tables" ["scene", "value"] (spP C gItb)) : FnOk P w K mg base CX0 4 f fd ["scene", "value"] (spP C gNt) := by
  have nd := sc_nt.nd
  refine F.ok sc_nt (fun vs H Q E h => ?_) (fun cdv A outer s H vs Q E hr h => ?_)
  · obtain ⟨F, os, r, _, rs, ⟨Ls, cs, rfl, _⟩, _⟩ := h
    exact rs.length
  · obtain ⟨F0, os, r, fm, rs, ⟨Ls, ts, rfl, c, ne, few, sub, rfl⟩, k⟩ := h
    refine ⟨_, (pss_one
    (ps_if (pt_not (pt_val (pe_use CT hr rfl pass0 (pa_cons (pv 0) (pa_cons (pv 1) pa_nil))))) (pss_one ps_never) pss_nil)), ?_⟩
    have q0 : Sq C Nil F0 H [some (.scn Ls), some (.txs ts)] (L2.start N_sva vs) H := Sq.start (N := N_sva) fm rs
    refine st_if (b := false) q0 (q0.evt (rt_not (b := true) (rt_b (rd_call (rds_cons (rd_var (i := 0) rfl) (rds_one (rd_var (i := 1) rfl))) ⟨Ls, ts, rfl, c, ne, few, sub, rfl⟩)))) (fun z => by cases z) ?_
    intro _ H1 s1 q1
    exact k _ H1 s1 .non
/-! ### end -/
end
end B30_

/-! ## B30_20 -/
set_option Elab.async false
set_option linter.all false
set_option maxRecDepth 100000
set_option maxHeartbeats 8000000
namespace B30_
open PySem PySem.Spec PyProof.Rows L2
/-! ### _law_columns -/
abbrev s_lco : Stmt := topS 55
abbrev N_lco : List Str := ["scene", "found", "name", "column"]
theorem sc_lco : FnScope N_lco ["scene"] (defScope s_lco) := ⟨rfl, rfl, rfl, by decide +kernel, rfl, by decide +kernel, by decide +kernel⟩
def spLco : Sp := fun vs H Q _ => ∃ (q : Addr) (Ls : List Ln), vs = [.ref q] ∧ PlainAt H q Ls ∧ PlOk Ls ∧ ∀ p H', Same H H' → H p = none → H' p = some (.lst ((colsOf Ls).map V.str)) → Q (.ref p) H'
theorem unlockO {H H1 : Hp} {F d : Addr} {u : HO} {o : Obj} (hd : H d = some u) (n : F ≠ d) (s : K1.Off F (upd H d (.frz o u)) H1) : K1.Off F H (upd H1 d u) := fun b z m e => by
  by_cases q : b = d
  · subst q; rw [upd_same]; rw [hd] at e; exact e
  · rw [upd_ne q]; exact s _ _ m (by rw [upd_ne q]; exact e)
section
variable {P : Program} {w : World} {K : PySem.W.Frag} {mg : Str → Option Value} {base : Heap}
theorem ok_lco {f : Addr} {fd : FuncData} (F : Fun K "_law_columns" "_law_columns" s_lco f fd) (T : NamesS mg) : FnOk P w K mg base CX0 1 f fd ["scene"] spLco := by
  have nd := sc_lco.nd
  refine F.ok sc_lco (fun vs H Q E h => ?_) (fun cdv A outer s H vs Q E hr h => ?_)
  · obtain ⟨q, Ls, rfl, _⟩ := h
    rfl
  · obtain ⟨q, Ls, rfl, ⟨kvs, hq, pr⟩, ok, k⟩ := h
    have hu : (A.deeper (envOfC "_law_columns" (defScope s_lco) s.heap.objs.size f cdv)).units + 1 < cLine := by have := hr.un; omega
    refine ⟨_, (pss_cons
    (ps_set (i := 1) nd rfl (Or.inr rfl) (pe_lst pa_nil))
    (pss_cons
    (ps_lock (ps_for PassesOwn.never rfl (pi_keys (pv 0)) (pg_name (i := 2) nd rfl (Or.inl rfl)) (pss_one
      (ps_expr (pe_bm PySem.F.plainAttrs_list PySem.F.slot_list_extend PySem.F.type_list_extend mt_extend (pv 1) (pa_cons (pe_lc (own := [("column", 3)]) (g := (gName 3)) (te := tVar 3) (tt := tTest (tOp (rIn K true) (tVar 3) (tVar 1))) rfl nd (pi_tup (pe_ix ix_tup (pe_dget hu (pv 0) (pv 2) (fun _ _ => rfl)) pe_int (fun _ _ => rfl))) (blkOk_by (N := N_lco) (sc := defScope s_lco) (by decide +kernel)) (fun _ _ _ _ _ => (pg_name (i := 3) nd rfl (Or.inl rfl))) (fun _ _ _ _ _ => (pts_one (pt_cmpR (r := rIn K true) op_notIn_seq (pv 3) (pv 1) rfl))) (fun _ _ _ _ _ => (pv 3))) pa_nil))))))
    (pss_one
    (ps_ret (pe_callB cr_sortedS (by rfl) T.sorted (by decide +kernel) (pa_cons (pv 1) pa_nil)))))), ?_⟩
    refine ⟨Nat.zero_le _, fun F0 nF => ?_⟩
    have Fq : F0 ≠ q := (ne_of_none hq nF).symm
    have hq1 : (upd H F0 (.lst [])) q = some (.dK kvs) := by rw [upd_ne (Ne.symm Fq)]; exact hq
    refine ⟨q, .dK kvs, hq1, trivial, fun od => ⟨_, rfl, q, od, rfl, .inl ⟨kvs, upd_same, ?_⟩⟩⟩
    have pr2 : ∀ {i : Nat} {kv : Key × V}, kvs[i]? = some kv → ∃ l, Ls[i]? = some l ∧ kv.1 = Sum.inr l.t ∧ PlAt H kv.2 l := fun e => paired_get pr e
    have s12 : K1.Off F0 H (upd H F0 (.lst [])) := (K1.Off.refl F0 H).put
    have ntup : ∀ xs, H F0 ≠ some (.tup xs) := fun xs z => by rw [nF] at z; cases z
    refine for_it walk_keys (fun i σ H' => ∃ (v2 : Option V) (fs : List Str), σ = [some (.ref q), some (.ref F0), v2, none] ∧ K1.Off F0 (upd (upd H F0 (.lst [])) q (.frz od (.dK kvs))) H' ∧ H' F0 = some (.lst (fs.map V.str)) ∧ fs.Nodup ∧ fs.length ≤ 6 ∧ ∀ z, z ∈ fs ↔ ∃ l ∈ Ls.take i, z ∈ l.cs)
      ⟨none, [], rfl, K1.Off.refl _ _, by rw [upd_ne Fq]; exact upd_same, List.nodup_nil, Nat.zero_le _, fun z => by simp⟩ (fun i σ H1 _ p => ?_) (fun i x σ HA H1 hi p y => ?_) (fun σ H1 p => ?_)
    · obtain ⟨v2, fs, rfl, off, _⟩ := p
      exact off _ _ (Ne.symm Fq) upd_same
    · obtain ⟨v2, fs, rfl, off, hF, fnd, flen, mem⟩ := p
      obtain ⟨rfl, kk, vv, hkv, rfl⟩ := y
      obtain ⟨l, hl, e1, _⟩ := pr2 hkv
      replace e1 : kk = Sum.inr l.t := e1
      subst e1
      obtain ⟨v, m, x1, x2, x3, pl⟩ := val_at pr (List.mem_map.mpr ⟨l, List.mem_of_getElem? hl, rfl⟩)
      obtain rfl := same_line ok.nd (List.mem_of_getElem? hl) x2 x3
      obtain ⟨pp, c, kv, rfl, t1, t2, t3⟩ := pl
      have up : ∀ {p : Addr} {xs : List V}, H p = some (.tup xs) → H1 p = some (.tup xs) := fun {p xs} e => by
        have n1 : p ≠ F0 := fun z => by rw [z, nF] at e; cases e
        have n2 : p ≠ q := fun z => by rw [z, hq] at e; cases e
        refine off _ _ n1 ?_
        rw [upd_ne n2, upd_ne n1]
        exact e
      have t1' := up t1
      have t2' := up t2
      have hq3 : H1 q = some (.frz od (.dK kvs)) := off _ _ (Ne.symm Fq) upd_same
      refine ⟨_, rfl, .inl ⟨rfl, _, SqL.of hF⟩, ?_⟩
      refine ⟨_, rfl, _, rfl, q, .ref pp, rfl, x1 ▸ .inl ⟨kvs, Sum.inr m.t, .inr ⟨od, hq3⟩, rfl, rfl⟩, pp, _, _, _, rfl, rfl, SqT.of t1', at_of (j := 0) rfl rfl, c, rfl, ⟨_, SqT.of t2'⟩, fun D hD => ?_⟩
      have csnd := (ok.good _ x2).nd
      have csfew := (ok.good _ x2).few
      refine lc_acc walk_tup (fun j => ((m.cs.take j).filter fun z => !decide (z ∈ fs)).map V.str) rfl hD (fun j hj => ?_) (fun H2 s2 => SqT.of (s2 _ _ t2')) (fun j x H2 H3 N hj s2 y keep skip => ?_) (fun H2 s2 hL => ?_)
      · have h1 : (1000 : Nat) < sizeLine := by decide
        have h2 := List.length_filter_le (fun z => !decide (z ∈ fs)) (m.cs.take j)
        rw [List.length_take] at h2
        rw [List.length_map]
        omega
      · obtain ⟨rfl, hx⟩ := y
        rw [List.getElem?_map] at hx
        obtain ⟨z, hz, rfl⟩ := Option.map_eq_some_iff.mp hx
        refine ⟨rfl, _, rfl, _, rfl, F0, _, rfl, .inl (SqL.of (s2 _ _ hF)), rfl, by simp [flatV], _, rfl, ?_⟩
        rw [in_texts]
        by_cases q1 : z ∈ fs
        · rw [decide_eq_true q1]
          refine iteF (skip _ (Same.refl _) ?_)
          rw [take_snoc hz, List.filter_append]
          simp [q1]
        · rw [decide_eq_false q1]
          refine iteT ⟨_, rfl, keep _ _ (Same.refl _) ?_⟩
          rw [take_snoc hz, List.filter_append]
          simp [q1]
      · have hF2 := s2 _ _ hF
        rw [List.length_map, List.take_length] at hL
        obtain ⟨C, few, inC⟩ := ok.cols
        have nd2 : (fs ++ m.cs.filter fun z => !decide (z ∈ fs)).Nodup := by
          refine List.nodup_append.mpr ⟨fnd, csnd.filter _, fun a ha b hb z => ?_⟩
          have h2 := (List.mem_filter.mp hb).2
          rw [← z, decide_eq_true ha] at h2
          cases h2
        have mem2 : ∀ z, z ∈ fs ++ (m.cs.filter fun z => !decide (z ∈ fs)) ↔ ∃ l ∈ Ls.take (i + 1), z ∈ l.cs := fun z => by
          rw [take_snoc hl, List.mem_append, mem, List.mem_filter]
          constructor
          · rintro (⟨l, h1, h2⟩ | ⟨h1, _⟩)
            · exact ⟨l, List.mem_append_left _ h1, h2⟩
            · exact ⟨m, List.mem_append_right _ (List.mem_singleton.mpr rfl), h1⟩
          · rintro ⟨l, h1, h2⟩
            rcases List.mem_append.mp h1 with h1 | h1
            · exact .inl ⟨l, h1, h2⟩
            · rw [List.mem_singleton.mp h1] at h2
              by_cases q1 : z ∈ fs
              · exact .inl ((mem z).mp q1)
              · exact .inr ⟨h2, by simp [q1]⟩
        have len2 : (fs ++ m.cs.filter fun z => !decide (z ∈ fs)).length ≤ 6 := by
          refine Nat.le_trans (nd2.length_le_of_subset fun z hz => ?_) few
          obtain ⟨l, h1, h2⟩ := (mem2 z).mp hz
          exact inC l (List.mem_of_mem_take h1) z h2
        refine ⟨F0, D, _, _, rfl, rfl, hF2, hL, by rw [List.length_map, List.length_map, ← List.length_append, sizeLine_eq]; omega, _, _, rfl, (off.trans (K1.Off.same s2)).put, ?_, nd2, len2, mem2⟩
        rw [List.map_append]
        exact upd_same
    · obtain ⟨v2, fs, rfl, off, hF, fnd, flen, mem⟩ := p
      have offU := unlockO hq1 Fq off
      have hF2 : (upd H1 q (.dK kvs)) F0 = some (.lst (fs.map V.str)) := by rw [upd_ne Fq]; exact hF
      have hq3 : H1 q = some (.frz od (.dK kvs)) := off _ _ (Ne.symm Fq) upd_same
      refine ⟨hq3, _, rfl, F0, fs, rfl, SqL.of hF2, by omega, fun ys p yp yo np => ?_⟩
      obtain rfl := srtd_of yp yo
      have e : srtd fs = colsOf Ls := uniqS_of ((srtd_perm _).nodup_iff.mpr fnd) (fun z => by
        rw [mem_srtd, mem, pr.length, List.take_length, List.mem_flatMap]) yo
      rw [e]
      refine k p _ (fun b o g => ?_) ?_ upd_same
      · have n1 : b ≠ F0 := ne_of_none g nF
        have h2 := offU b o n1 (s12 b o n1 g)
        rw [upd_ne (ne_of_none h2 np)]
        exact h2
      · cases g : H p with
        | none => rfl
        | some o =>
          have n1 : p ≠ F0 := ne_of_none g nF
          rw [offU p o n1 (s12 p o n1 g)] at np
          cases np
end
end B30_

/-! ## B30_61 -/
set_option Elab.async false
set_option linter.all false
set_option maxRecDepth 100000
set_option maxHeartbeats 4000000
namespace B30_
open PySem PySem.Spec PyProof.Rows L2
/-! ### both closures are the least closed set -/
inductive Cl (Ls : List Ln) (ts cs : List Str) : Str → Prop
  | base {c : Str} : c ∈ cs → Cl Ls ts cs c
  | step {t c : Str} {ks : List Str} : t ∈ ts → keyOf Ls t = some ks → (∀ k ∈ ks, Cl Ls ts cs k) → c ∈ colsAt Ls t → Cl Ls ts cs c
def Closed (Ls : List Ln) (ts S : List Str) : Prop := ∀ t ∈ ts, ∀ ks, keyOf Ls t = some ks → (∀ k ∈ ks, k ∈ S) → ∀ c ∈ colsAt Ls t, c ∈ S
theorem Cl.mem {Ls : List Ln} {ts cs S : List Str} (h : Closed Ls ts S) (sub : ∀ c ∈ cs, c ∈ S) {c : Str} (d : Cl Ls ts cs c) : c ∈ S := by
  induction d with
  | base m => exact sub _ m
  | step mt e _ mc ih => exact h _ mt _ e ih _ mc
theorem Cl.more {Ls : List Ln} {ts us cs : List Str} (sub : ∀ t ∈ ts, t ∈ us) {c : Str} (d : Cl Ls ts cs c) : Cl Ls us cs c := by
  induction d with
  | base m => exact .base m
  | step mt e _ mc ih => exact .step (sub _ mt) e ih mc
/-! the law's -/
theorem filt_nil {ks S : List Str} : ((ks.filter fun c => !decide (c ∈ S)) = []) ↔ ∀ k ∈ ks, k ∈ S := by
  rw [List.filter_eq_nil_iff]
  simp
theorem grow1_sub {Ls : List Ln} {S : List Str} {t : Str} : ∀ c ∈ S, c ∈ grow1 Ls S t := fun c m => by
  unfold grow1
  split
  · split
    · exact List.mem_append_left _ m
    · exact m
  · exact m
theorem grow1_sound {Ls : List Ln} {ts cs S : List Str} {t : Str} (mt : t ∈ ts) (h : ∀ c ∈ S, Cl Ls ts cs c) : ∀ c ∈ grow1 Ls S t, Cl Ls ts cs c := fun c m => by
  unfold grow1 at m
  split at m
  · rename_i ks e
    split at m
    · rename_i q
      rcases List.mem_append.mp m with m | m
      · exact h c m
      · exact .step mt e (fun k mk => h k (filt_nil.mp q k mk)) (List.mem_filter.mp m).1
    · exact h c m
  · exact h c m
theorem fold_sub {Ls : List Ln} : ∀ {ns S : List Str}, ∀ c ∈ S, c ∈ ns.foldl (grow1 Ls) S
  | [], _, _, m => m
  | _ :: r, S, c, m => fold_sub (ns := r) c (grow1_sub c m)
theorem fold_sound {Ls : List Ln} {ts cs : List Str} : ∀ {ns S : List Str}, (∀ t ∈ ns, t ∈ ts) → (∀ c ∈ S, Cl Ls ts cs c) → ∀ c ∈ ns.foldl (grow1 Ls) S, Cl Ls ts cs c
  | [], _, _, h => h
  | t :: r, S, sub, h => fold_sound (ns := r) (fun y hy => sub y (List.mem_cons_of_mem _ hy)) (grow1_sound (sub t List.mem_cons_self) h)
theorem fold_fires {Ls : List Ln} : ∀ {ns S : List Str} {t : Str} {ks : List Str}, t ∈ ns → keyOf Ls t = some ks → (∀ k ∈ ks, k ∈ S) → ∀ c ∈ colsAt Ls t, c ∈ ns.foldl (grow1 Ls) S
  | [], _, _, _, m, _, _, _, _ => by cases m
  | y :: r, S, t, ks, m, e, sub, c, mc => by
    rcases List.mem_cons.mp m with rfl | m
    · refine fold_sub (ns := r) (S := grow1 Ls S _) c ?_
      unfold grow1
      rw [e]
      simp only
      rw [if_pos (filt_nil.mpr sub), List.mem_append, List.mem_filter]
      by_cases h : c ∈ S
      · exact .inl h
      · exact .inr ⟨mc, by simp [h]⟩
    · exact fold_fires (ns := r) m e (fun k mk => grow1_sub k (sub k mk)) c mc
theorem passN_sound {Ls : List Ln} {ts cs : List Str} : ∀ {n : Nat} {S : List Str}, (∀ c ∈ S, Cl Ls ts cs c) → ∀ c ∈ passN Ls ts n S, Cl Ls ts cs c
  | 0, _, h => h
  | n + 1, _, h => passN_sound (n := n) (fold_sound (fun _ z => z) h)
theorem passN_sub {Ls : List Ln} {ts : List Str} : ∀ {n : Nat} {S : List Str}, ∀ c ∈ S, c ∈ passN Ls ts n S
  | 0, _, _, m => m
  | n + 1, _, c, m => passN_sub (n := n) c (fold_sub c m)
theorem closed_grow {Ls : List Ln} {ts S : List Str} (h : Closed Ls ts S) {t : Str} (mt : t ∈ ts) : grow1 Ls S t = S := by
  unfold grow1
  split
  · rename_i ks e
    split
    · rename_i q
      rw [List.filter_eq_nil_iff.mpr, List.append_nil]
      intro c mc
      simp [h t mt ks e (filt_nil.mp q) c mc]
    · rfl
  · rfl
theorem closed_fold {Ls : List Ln} {ts S : List Str} (h : Closed Ls ts S) : ∀ {ns : List Str}, (∀ t ∈ ns, t ∈ ts) → ns.foldl (grow1 Ls) S = S
  | [], _ => rfl
  | t :: r, sub => by rw [List.foldl_cons, closed_grow h (sub t List.mem_cons_self)]; exact closed_fold h fun y hy => sub y (List.mem_cons_of_mem _ hy)
theorem closed_passN {Ls : List Ln} {ts : List Str} : ∀ {n : Nat} {S : List Str}, Closed Ls ts S → passN Ls ts n S = S
  | 0, _, _ => rfl
  | n + 1, S, h => by
    show passN Ls ts n (pass1 Ls ts S) = S
    unfold pass1
    rw [closed_fold h fun _ z => z]
    exact closed_passN h
def undone (Ls : List Ln) (S : List Str) (t : Str) : Bool := !(colsAt Ls t).all fun c => decide (c ∈ S)
theorem undone_mono {Ls : List Ln} {S S' : List Str} (h : ∀ c ∈ S, c ∈ S') {t : Str} (u : undone Ls S' t = true) : undone Ls S t = true := by
  unfold undone at *
  simp only [Bool.not_eq_true', List.all_eq_false, decide_eq_true_eq] at *
  obtain ⟨c, mc, hc⟩ := u
  exact ⟨c, mc, fun z => hc (h c z)⟩
theorem countP_lt {p q : Str → Bool} (h : ∀ x, q x = true → p x = true) : ∀ {l : List Str} {t : Str}, t ∈ l → p t = true → q t = false → l.countP q < l.countP p
  | [], _, m, _, _ => by cases m
  | x :: r, t, m, hp, hq => by
    rw [List.countP_cons, List.countP_cons]
    have le : r.countP q ≤ r.countP p := List.countP_mono_left fun x _ => h x
    rcases List.mem_cons.mp m with rfl | m
    · rw [hp, hq]; simp only [if_true, Bool.false_eq_true, if_false]; omega
    · have := countP_lt h m hp hq
      cases e : q x with
      | false =>
        cases p x <;> simp <;> omega
      | true => rw [h x e]; simp; omega
theorem closed_end {Ls : List Ln} {ts : List Str} : ∀ {n : Nat} {S : List Str}, ts.countP (undone Ls S) < n → Closed Ls ts (passN Ls ts n S)
  | 0, _, h => by omega
  | n + 1, S, h => by
    by_cases cl : Closed Ls ts S
    · rw [closed_passN cl]; exact cl
    · have ⟨t, mt, ks, e, sub, c, mc, nc⟩ : ∃ t ∈ ts, ∃ ks, keyOf Ls t = some ks ∧ (∀ k ∈ ks, k ∈ S) ∧ ∃ c ∈ colsAt Ls t, c ∉ S := by
        unfold Closed at cl
        simp only [Classical.not_forall] at cl
        obtain ⟨t, mt, ks, e, sub, c, mc, nc⟩ := cl
        exact ⟨t, mt, ks, e, sub, c, mc, nc⟩
      refine closed_end (n := n) (S := pass1 Ls ts S) ?_
      have lt : ts.countP (undone Ls (pass1 Ls ts S)) < ts.countP (undone Ls S) := by
        refine countP_lt (fun x hx => undone_mono (S := S) (S' := pass1 Ls ts S) (fun c m => fold_sub c m) hx) mt ?_ ?_
        · unfold undone
          simp only [Bool.not_eq_true', List.all_eq_false, decide_eq_true_eq]
          exact ⟨c, mc, nc⟩
        · unfold undone
          simp only [Bool.not_eq_false', List.all_eq_true, decide_eq_true_eq]
          exact fun c mc => fold_fires mt e sub c mc
      omega
theorem mem_lawCl {Ls : List Ln} {ts cs : List Str} {c : Str} : c ∈ lawCl Ls cs ts ↔ Cl Ls ts cs c := by
  constructor
  · exact passN_sound (fun c m => .base m) c
  · refine Cl.mem (closed_end ?_) fun c m => passN_sub c m
    exact Nat.lt_succ_of_le List.countP_le_length
/-! the program's -/
theorem walkN_cl {Ls : List Ln} {ts cs : List Str} : ∀ (n : Nat) (h used : List Str), (∀ c, c ∈ h ↔ c ∈ cs ∨ c ∈ used.flatMap (colsAt Ls)) → (∀ c ∈ h, Cl Ls ts cs c) → used.Nodup → (∀ z ∈ used, z ∈ ts) → ts.length ≤ used.length + n →
    ∀ c, (c ∈ cs ∨ c ∈ (walkN Ls ts n h used).flatMap (colsAt Ls)) ↔ Cl Ls ts cs c := by
  have done : ∀ (h used : List Str), nextStep Ls h ts used = none → (∀ c, c ∈ h ↔ c ∈ cs ∨ c ∈ used.flatMap (colsAt Ls)) → (∀ c ∈ h, Cl Ls ts cs c) → ∀ c, (c ∈ cs ∨ c ∈ used.flatMap (colsAt Ls)) ↔ Cl Ls ts cs c := by
    intro h used en hh hc c
    rw [← hh]
    refine ⟨hc c, Cl.mem ?_ fun c m => (hh c).mpr (.inl m)⟩
    intro t mt ks e sub c mc
    have nr := List.find?_eq_none.mp en t mt
    have mu : t ∈ used := by
      by_cases m : t ∈ used
      · exact m
      · exfalso
        apply nr
        unfold readyB
        rw [e]
        simp only [m, decide_false, Bool.not_false, Bool.true_and, List.all_eq_true, decide_eq_true_eq]
        exact sub
    exact (hh c).mpr (.inr (List.mem_flatMap.mpr ⟨t, mu, mc⟩))
  intro n
  induction n with
  | zero =>
    intro h used hh hc nu su len
    exact done h used (next_none nu su (by omega)) hh hc
  | succ n ih =>
    intro h used hh hc nu su len c
    unfold walkN
    cases en : nextStep Ls h ts used with
    | none => exact done h used en hh hc c
    | some t =>
      obtain ⟨mt, rt⟩ := next_mem en
      have zn := ready_new rt
      refine ih _ _ (fun c => ?_) (fun c m => ?_) ?_ ?_ (by rw [List.length_append, List.length_singleton]; omega) c
      · rw [mem_addAll, hh, List.flatMap_append, List.mem_append]
        simp only [List.flatMap_cons, List.flatMap_nil, List.append_nil]
        constructor
        · rintro ((a | a) | a)
          · exact .inl a
          · exact .inr (.inl a)
          · exact .inr (.inr a)
        · rintro (a | a | a)
          · exact .inl (.inl a)
          · exact .inl (.inr a)
          · exact .inr a
      · rcases mem_addAll.mp m with m | m
        · exact hc c m
        · unfold readyB at rt
          split at rt
          · rename_i ks e
            simp only [Bool.and_eq_true, List.all_eq_true, decide_eq_true_eq] at rt
            exact .step mt e (fun k mk => hc k (rt.2 k mk)) m
          · cases rt
      · rw [List.nodup_append]
        exact ⟨nu, by simp, fun a ha b hb e => zn (by rw [List.mem_singleton] at hb; rw [← hb, ← e]; exact ha)⟩
      · intro y hy
        rcases List.mem_append.mp hy with hy | hy
        · exact su y hy
        · rw [List.mem_singleton] at hy; rw [hy]; exact mt
theorem mem_closureOf {Ls : List Ln} {ts cs : List Str} {c : Str} : c ∈ closureOf Ls cs ts ↔ Cl Ls ts cs c := by
  unfold closureOf
  rw [mem_uniqS, List.mem_append]
  exact walkN_cl ts.length cs [] (by simp) (fun c m => .base m) List.nodup_nil (by simp) (by simp) c
end B30_

/-! ## B30_62 -/
set_option Elab.async false
set_option linter.all false
set_option maxRecDepth 100000
set_option maxHeartbeats 8000000
namespace B30_
open PySem PySem.Spec PyProof.Rows L2
/-! ### dice are cast: what comes out is not known, only that it is one of some -/
abbrev Eq1 (d : Addr) : Addr → Prop := fun b => b = d
def EvC (C d : Addr) (σ : L2.St) (H : Hp) (te : TE) (g : Ob → Prop) : Prop := ∀ Q : VK, (∀ o v H', g o → Kp (Eq1 d) H H' → Dice H' d → VR C (Eq1 d) H' v o → Q v H') → te σ H Q
def spDi (C : Addr) (pre : List Ob → Prop) (g : List Ob → Ob → Prop) : Sp := fun vs H Q _ => ∃ d vs' os, vs = .ref d :: vs' ∧ Dice H d ∧ VRs C (Eq1 d) H vs' os ∧ pre os ∧ ∀ o v H', g os o → Kp (Eq1 d) H H' → Dice H' d → VR C (Eq1 d) H' v o → Q v H'
theorem fm_dice {d : Addr} {H : Hp} (h : Dice H d) : Fm (Eq1 d) H := fun p hp => by
  obtain ⟨a, b, c, e⟩ := h
  exact ⟨_, hp ▸ e, mo_lst _⟩
theorem env1 {C : Addr} {F : Addr → Prop} {H : Hp} {v : V} {o : Ob} (r : VR C F H v o) : EnvD C F H [some v] [some o] := ⟨rfl, fun i o' e => by
  cases i with
  | zero => cases e; exact ⟨v, rfl, r⟩
  | succ i => simp at e⟩
abbrev rTupOf (K : PySem.W.Frag) : List V → Hp → VK → Prop := fun xs H Q => ∃ p ys, xs = [.ref p] ∧ ((SqL K H p ys ∧ ∀ l, H l = none → Q (.ref l) (upd H l (.tup ys))) ∨ (SqT K H p ys ∧ Q (.ref p) H))
abbrev rSortD : List V → Hp → VK → Prop := fun xs H Q => ∃ (a : Addr) (kvs : List (Key × V)) (ks : List Str), xs = [.ref a] ∧ Rd H a (.dK kvs) ∧ kvs.map (·.1) = ks.map Sum.inr ∧ ks.length < 64 ∧ ∀ ys p, ys.Perm ks → sortedS ys = true → H p = none → Q (.ref p) (upd H p (.lst (ys.map V.str)))
theorem uniqS_nd (l : List Str) : (uniqS l).Nodup := by unfold uniqS; exact (srtd_perm _).nodup_iff.mpr (nodup_dedupS l)
theorem cols_srtd {zs : List Str} (nd : zs.Nodup) (names : ∀ z ∈ zs, nameB z = true) : Cols (srtd zs) := ⟨fun z m => names z (mem_srtd.mp m), pair_asc (srtd_lt nd)⟩
theorem cols_uniqS {zs : List Str} (names : ∀ z ∈ zs, nameB z = true) : Cols (uniqS zs) := by
  unfold uniqS
  exact cols_srtd (nodup_dedupS zs) fun z m => names z (mem_dedupS.mp m)
theorem PlOk.tabs {Ls : List Ln} (ok : PlOk Ls) : srtd (tabsOf Ls) = tabsOf Ls := by
  have h := ordL_ts Ls
  rw [ok.inord] at h
  exact h.symm
theorem plain_keys {R : V → Ln → Prop} {kvs : List (Key × V)} {Ls : List Ln} (pr : Paired (fun kv l => kv.1 = Sum.inr l.t ∧ R kv.2 l) kvs Ls) : kvs.map (·.1) = (tabsOf Ls).map fun z => (Sum.inr z : Key) := by
  unfold tabsOf
  rw [List.map_map]
  induction pr with
  | nil => rfl
  | cons a b ih => rw [List.map_cons, List.map_cons, a.1, ih]; rfl
section
variable {C d : Addr} {A F G : Addr → Prop} {H0 H H' : Hp} {ρ : List (Option Ob)} {σ : L2.St} {K : PySem.W.Frag} {te ta tb : TE} {tt : TT} {t : TA} {os us : List Ob} {o : Ob} {cs ds ts xs : List Str} {Ls : List Ln} {D : Ends} {i j : Nat} {g g' : Ob → Prop}
theorem evc_mono (a : EvC C d σ H te g) (h : ∀ o, g o → g' o) : EvC C d σ H te g' := fun Q k => a Q fun o v H' go => k o v H' (h o go)
theorem evc_call {pre : List Ob → Prop} {gg : List Ob → Ob → Prop} {E : XK} (q : Sq C (Eq1 d) (Eq1 d) H0 ρ σ H) (hd : Dice H d) (a : RDs C ρ t (.own d :: os)) (h : pre os) : EvC C d σ H (tCall (spDi C pre gg) [] E t) (gg os) := fun Q k =>
  a (Eq1 d) σ H _ q.env q.fm fun vs H1 s1 rs => by
    cases rs with
    | cons r1 rs =>
      cases r1
      refine ⟨d, _, os, by rw [List.append_nil], hd.same s1, rs, h, fun o v H' go kp hd' rv => k o v H' go (Kp.trans (.same s1) kp) hd' rv⟩
theorem evc_some {lo hi : Nat} {E : XK} (q : Sq C (Eq1 d) (Eq1 d) H0 ρ σ H) (hd : Dice H d) (a : RDs C ρ t [.own d, .lxs xs, .int (lo : Nat), .int (hi : Nat)]) (lh : lo ≤ hi) (h1 : hi ≤ 1000) (few : xs.length ≤ 1000) (so : ∀ x ∈ xs, PyData.strOk x = true) :
    EvC C d σ H (tCall spSome [] E t) (fun o => ∃ (ys : List Str) (n : Nat), ys.Perm xs ∧ min lo xs.length ≤ n ∧ n ≤ min hi xs.length ∧ o = .lxs (ys.take n)) := fun Q k =>
  a (Eq1 d) σ H _ q.env q.fm fun vs H1 s1 rs => by
    cases rs with
    | cons r1 rs => cases rs with
      | cons r2 rs => cases rs with
        | cons r3 rs => cases rs with
          | cons r4 rs =>
            cases rs; cases r1; cases r3; cases r4
            obtain ⟨b, rfl, nb, hb⟩ := r2.lxs
            refine ⟨d, b, xs, lo, hi, rfl, lh, h1, hd.same s1, .inl hb, nb, few, so, fun ys n p H' pm n1 n2 hp bt hd' hp' => k _ _ _ ⟨ys, n, pm, n1, n2, rfl⟩ (fun c u nc e => bt c u nc (s1 _ _ e)) hd' (vr_lxs (fun z => ?_) hp')⟩
            obtain ⟨x1, x2, x3, e⟩ := hd.same s1
            rw [z] at hp; rw [hp] at e; cases e
theorem evc_cb1 {r : List V → Hp → VK → Prop} (a : EvC C d σ H te g) (h : ∀ o, g o → ∃ o', g' o' ∧ RD C [some o] (tCB r (tCons (tVar 0) tNil)) o') : EvC C d σ H (tCB r (tCons te tNil)) g' := fun Q k =>
  a _ fun o v H1 go kp hd rv => by
    obtain ⟨o', go', rd⟩ := h o go
    have := rd (Eq1 d) [some v] H1 Q (env1 rv) (fm_dice hd) fun u H2 s2 r2 => k o' u H2 go' (kp.trans (.same s2)) (hd.same s2) r2
    obtain ⟨v', e, hr⟩ := this
    cases e
    exact hr
theorem evc_pair {x : Ob} {v0 : V} (h : σ[j]? = some (some v0)) (r0 : VR C (Eq1 d) H v0 x) (hd : Dice H d) (b : EvC C d σ H te g) (h' : ∀ o, g o → g' (.tup [x, o])) : EvC C d σ H (tTup (tCons (tVar j) (tCons te tNil))) g' := fun Q k =>
  ⟨v0, h, b _ fun o v H1 go kp hd1 rv => ⟨by show 2 ≤ sizeLine; decide, fun p hp => by
    have fm1 := fm_dice hd1
    have s := Same.add (u := .tup [v0, v]) hp
    exact k _ _ _ (h' o go) (kp.trans (.same s)) (hd1.same s) (.tup upd_same (.cons ((r0.kp (fm_dice hd) kp).same fm1 s) (.cons (rv.same fm1 s) .nil)))⟩⟩
theorem st_setC (q : Sq C (Eq1 d) (Eq1 d) H0 ρ σ H) (ev : EvC C d σ H te g) (k : ∀ o v H', g o → Kp (Eq1 d) H H' → Dice H' d → Sq C (Eq1 d) (Eq1 d) H0 (ρ.set i (some o)) (σ.set i (some v)) H' → D.nx (σ.set i (some v)) H') : tAsg te (gName i) D σ H :=
  ev _ fun o v H' go kp hd rv => k o v H' go kp hd ⟨q.kp.trans kp, (q.env.kp q.fm kp).set i rv, fm_dice hd⟩
theorem st_retC (q : Sq C (Eq1 d) (Eq1 d) H0 ρ σ H) (ev : EvC C d σ H te g) (k : ∀ o v H', g o → Kp (Eq1 d) H0 H' → Dice H' d → VR C (Eq1 d) H' v o → D.rt v H') : tRet te D σ H := ev _ fun o v H' go kp hd rv => k o v H' go (q.kp.trans kp) hd rv
theorem rd_sortD (six : Ls.length < 64) (a : RD C ρ te (.pln Ls)) : RD C ρ (tCB rSortD (tCons te tNil)) (.lxs (srtd (tabsOf Ls))) :=
  rd_call1 a fun F v H Q fm r k => by
    cases r with
    | pln n e =>
      obtain ⟨kvs, hk, pr⟩ := e
      refine ⟨_, kvs, tabsOf Ls, rfl, Rd.of hk, plain_keys pr, by unfold tabsOf; rw [List.length_map]; exact six, fun ys p pm so hp => ?_⟩
      obtain rfl := srtd_of pm so
      exact k _ _ (Same.add hp) (vr_lxs (fm.fresh hp) upd_same)
/-- tuple(sorted(_law_some(dice, texts, lo, hi))) -/
abbrev gSome (xs : List Str) (lo hi : Nat) : Ob → Prop := fun o => ∃ zs, o = .txs zs ∧ Cols zs ∧ (∀ z ∈ zs, z ∈ xs) ∧ min lo xs.length ≤ zs.length ∧ zs.length ≤ hi
theorem evc_tss {lo hi : Nat} {E : XK} (q : Sq C (Eq1 d) (Eq1 d) H0 ρ σ H) (hd : Dice H d) (a : RDs C ρ t [.own d, .lxs xs, .int (lo : Nat), .int (hi : Nat)]) (lh : lo ≤ hi) (h1 : hi ≤ 30) (few : xs.length ≤ 60) (names : ∀ x ∈ xs, nameB x = true) (nd : xs.Nodup) :
    EvC C d σ H (tCB (rTupOf K) (tCons (tCB (rSortedS K) (tCons (tCall spSome [] E t) tNil)) tNil)) (gSome xs lo hi) := by
  refine evc_cb1 (g := fun o => ∃ zs, o = .lxs zs ∧ Cols zs ∧ (∀ z ∈ zs, z ∈ xs) ∧ min lo xs.length ≤ zs.length ∧ zs.length ≤ hi) (evc_cb1 (evc_some q hd a lh (by omega) (by omega) fun x m => name_strOk (names x m)) ?_) ?_
  · rintro o ⟨ys, n, pm, n1, n2, rfl⟩
    have sub : ∀ z ∈ ys.take n, z ∈ xs := fun z m => pm.mem_iff.mp (List.mem_of_mem_take m)
    have len := pm.length_eq
    refine ⟨.lxs (srtd (ys.take n)), ⟨_, rfl, cols_srtd ((pm.nodup_iff.mpr nd).sublist (List.take_sublist _ _)) fun z m => names z (sub z m), fun z m => sub z (mem_srtd.mp m), ?_, ?_⟩, rd_sortedS ?_ (rd_var (i := 0) rfl)⟩
    · rw [srtd_len, List.length_take]; omega
    · rw [srtd_len, List.length_take]; omega
    · rw [List.length_take]; omega
  · rintro o ⟨zs, rfl, c, sub, l1, l2⟩
    exact ⟨.txs zs, ⟨zs, rfl, c, sub, l1, l2⟩, rd_tupleOf (K := K) (os := zs.map .str) (.inr rfl) (rd_var (i := 0) rfl)⟩
end
end B30_

/-! ## B30_63 -/
set_option Elab.async false
set_option linter.all false
set_option maxRecDepth 100000
set_option maxHeartbeats 8000000
namespace B30_
open PySem PySem.Spec PyProof.Rows L2
/-! ### repr of truths; a set of a tuple, sorted; a kind that is not "changing" -/
abbrev rReprD (K : PySem.W.Frag) : List V → Hp → VK → Prop := fun xs H Q => ∃ (x : V) (d : PyData), xs = [x] ∧ Dp K H x d ∧ d.showable = true ∧ d.hasDict = false ∧ d.depth ≤ 64 ∧ d.shown.length ≤ sizeLine ∧ ((∃ a, x = .ref a) ∨ (∃ b, x = .bl b) ∨ x = .non) ∧ Q (.str d.shown) H
abbrev rSetT (P : Program) (w : World) (K : PySem.W.Frag) : List V → Hp → VK → Prop := fun xs H Q => ∃ (a : Addr) (zs : List Str), xs = [.ref a] ∧ SqT K H a (zs.map V.str) ∧ zs.length < 64 ∧ ∀ p, H p = none → Q (.ref p) (upd H p (K1.SetS P w p zs))
abbrev rSortSS (P : Program) (w : World) : List V → Hp → VK → Prop := fun xs H Q => ∃ (a : Addr) (zs : List Str), xs = [.ref a] ∧ H a = some (K1.SetS P w a zs) ∧ zs.length < 64 ∧ ∀ (ys : List Str) p, ys.Nodup → (∀ z, z ∈ ys ↔ z ∈ zs) → sortedS ys = true → H p = none → Q (.ref p) (upd H p (.lst (ys.map V.str)))
section
variable {C d : Addr} {A F G : Addr → Prop} {H0 H H' : Hp} {ρ : List (Option Ob)} {σ : L2.St} {K : PySem.W.Frag} {te ta tb : TE} {tt : TT} {t : TA} {os us : List Ob} {o : Ob} {cs ds ts xs : List Str} {Ls : List Ln} {D : Ends} {i j : Nat} {g g' : Ob → Prop}
theorem rd_reprB {b : Bool} (a : RD C ρ te (.bl b)) : RD C ρ (tCB (rReprD K) (tCons te tNil)) (.str (PyData.bool b).shown) :=
  rd_call1 a fun F v H Q fm r k => by
    have dp := r.dp (K := K) rfl
    cases r
    exact ⟨_, .bool b, rfl, dp, rfl, rfl, by cases b <;> decide, by cases b <;> decide, .inr (.inl ⟨b, rfl⟩), k _ H (Same.refl H) (.str _)⟩
theorem rd_setSorted {P : Program} {w : World} (few : cs.length < 64) (a : RD C ρ te (.txs cs)) : RD C ρ (tCB (rSortSS P w) (tCons (tCB (rSetT P w K) (tCons te tNil)) tNil)) (.lxs (uniqS cs)) := fun F σ H Q e fm k =>
  a F σ H _ e fm fun v H1 s1 r1 => by
    obtain ⟨a, rfl, ha⟩ := r1.txs
    refine ⟨a, cs, rfl, SqT.of ha, few, fun p hp => ⟨p, cs, rfl, upd_same, few, fun ys q n m so hq => ?_⟩⟩
    obtain rfl : ys = uniqS cs := by rw [uniqS_of n m so]
    have s := (Same.add (u := K1.SetS P w p cs) hp).trans (Same.add (u := .lst ((uniqS cs).map V.str)) hq)
    exact k _ _ (s1.trans s) (vr_lxs (((fm.same s1).same (Same.add hp)).fresh hq) upd_same)
theorem rd_neKd {k0 : Kd} (a : RD C ρ te (kdOb k0)) (h : ∀ ks, k0 = .key ks → ∀ z ∈ ks, PyData.strOk z = true) : RD C ρ (tOp (rNeD K) te (tC (.str "changing"))) (.bl (!isC k0)) := by
  have e : PyData.eqv (kdOb k0).pd (Ob.str "changing").pd = isC k0 := by
    cases k0 with
    | chg => decide +kernel
    | fix => rfl
    | key ks => rfl
  rw [← e]
  refine rd_neD a (rd_str "changing") ?_ rfl ?_ (by decide +kernel)
  · cases k0 with
    | chg => rfl
    | fix => rfl
    | key ks => exact areD_strs ks
  · cases k0 with
    | chg => decide +kernel
    | fix => decide +kernel
    | key ks =>
      show SeqAt.shaped (.tuple (pds (ks.map .str))) = true
      rw [pds_strs]; exact shaped_tstrs ks (h ks rfl)
end
section
variable {P : Program} {w : World} {K : PySem.W.Frag} {mg : Str → Option Value} {base : Heap}
end
end B30_

/-! ## B30_64 -/
set_option Elab.async false
set_option linter.all false
set_option maxRecDepth 100000
set_option maxHeartbeats 8000000
namespace B30_
open PySem PySem.Spec PyProof.Rows L2
abbrev rEqOwn (K : PySem.W.Frag) (C : Addr) : R2 := fun x y H Q => ∃ a dx fs, x = .ref a ∧ H a = some (.ins C dx fs) ∧ K1.EqTy K C H y ∧ spEq K C [.ref a, y] H (fun v H' => ∃ b, v = .bl b ∧ Q (.bl b) H') E0
def EvTC (d : Addr) (σ : L2.St) (H : Hp) (tt : TT) (b : Bool) : Prop := ∀ Q : Bool → Hp → Prop, (∀ H', Kp (Eq1 d) H H' → Dice H' d → Q b H') → tt σ H Q
section
variable {C d : Addr} {A F G : Addr → Prop} {H0 H H' : Hp} {ρ : List (Option Ob)} {σ : L2.St} {K : PySem.W.Frag} {te ta tb tc : TE} {tt tu : TT} {t : TA} {os us : List Ob} {o : Ob} {cs ds ts xs : List Str} {Ls Ms : List Ln} {D : Ends} {i j : Nat} {g g' : Ob → Prop}
theorem rd_eqOwn (oa : ∀ l ∈ Ls, l.Ok) (a : RD C ρ ta (.scn Ls)) (b : RD C ρ tb (.scn Ls)) : RD C ρ (tOp (rEqOwn K C) ta tb) (.bl true) :=
  rd_op a b fun F v w H Q fm r1 r2 k => by
    cases r1 with
    | scn s1 => cases r2 with
      | scn s2 =>
        have s1 := s1.at
        have s2 := s2.at
        obtain ⟨dx, _, _, _, _, _, _, _, h1, _⟩ := id s1
        obtain ⟨dy, _, _, _, _, _, _, _, h2, _⟩ := id s2
        refine ⟨_, dx, _, rfl, h1, .inr ⟨_, dy, _, rfl, h2⟩, _, _, Ls, rfl, s1, oa, .inr ⟨_, Ls, rfl, s2, oa, fun z e => ⟨z, rfl, ?_⟩⟩⟩
        obtain rfl : z = true := e.mpr rfl
        exact k _ H (Same.refl H) (.bl _)
theorem rd_chain {x y z : Int} {g1 g2 : Int → Int → V} {b c : Bool} (h1 : g1 x y = .bl b) (h2 : g2 y z = .bl c) (a : RD C ρ ta (.int x)) (a2 : RD C ρ tb (.int y)) (a3 : RD C ρ tc (.int z)) : RD C ρ (tChain (rI0 g1) (rI0 g2) ta tb tc) (.bl (b && c)) := fun F σ H Q e fm k =>
  a F σ H _ e fm fun v H1 s1 r1 => a2 F σ H1 _ (e.same fm s1) (fm.same s1) fun w H2 s2 r2 => by
    cases r1; cases r2
    refine ⟨x, y, rfl, rfl, b, h1, ?_⟩
    cases b with
    | true =>
      refine iteTk rfl (a3 F σ H2 _ (e.same fm (s1.trans s2)) (fm.same (s1.trans s2)) fun u H3 s3 r3 => ?_)
      cases r3
      refine ⟨y, z, rfl, rfl, ?_⟩
      rw [h2]
      exact k _ H3 ((s1.trans s2).trans s3) (.bl _)
    | false => exact iteFk rfl (k _ H2 (s1.trans s2) (.bl _))
theorem evc_lsc {nt nc : Nat} {n : Int} {E : XK} (q : Sq C (Eq1 d) (Eq1 d) H0 ρ σ H) (hd : Dice H d) (a : RDs C ρ t [.own d, .int (nt : Nat), .int (nc : Nat), .int n]) (h1 : 1 ≤ nt) (h2 : nt ≤ 6) (h3 : 1 ≤ nc) (h4 : nc ≤ 6) (h5 : 0 < n) (h6 : n < 1073741824) :
    EvC C d σ H (tCall spLsc [] E t) (fun o => ∃ Ls, o = .pln Ls ∧ PlOk Ls) := fun Q k =>
  a (Eq1 d) σ H _ q.env q.fm fun vs H1 s1 rs => by
    cases rs with
    | cons r1 rs => cases rs with
      | cons r2 rs => cases rs with
        | cons r3 rs => cases rs with
          | cons r4 rs =>
            cases rs; cases r1; cases r2; cases r3; cases r4
            refine ⟨d, nt, nc, n, rfl, hd.same s1, h1, h2, h3, h4, h5, h6, fun p Ls H' ok _ hp bt hd' pl => k _ _ _ ⟨Ls, rfl, ok⟩ (fun c u nc e => bt c u nc (s1 _ _ e)) hd' (.pln (fun z => ?_) pl)⟩
            obtain ⟨x1, x2, x3, e⟩ := hd.same s1
            rw [z] at hp; rw [hp] at e; cases e
theorem evtc_test {b : Bool} (a : EvC C d σ H te (fun o => o = .bl b)) : EvTC d σ H (tTest te) b := fun Q k => a _ fun o v H' go kp hd rv => by
  subst go
  cases rv
  exact ⟨_, rfl, k H' kp hd⟩
theorem evtc_not {b : Bool} (a : EvTC d σ H tt b) : EvTC d σ H (tNot tt) (!b) := fun Q k => a _ fun H' kp hd => k H' kp hd
theorem evtc_and {b c : Bool} (hd : Dice H d) (x : EvT σ H tt b) (y : b = true → ∀ H1, Same H H1 → EvTC d σ H1 tu c) : EvTC d σ H (tAnd tt tu) (b && c) := fun Q k => x _ fun H1 s1 => by
  cases b with
  | true => exact iteTk rfl (y rfl H1 s1 _ fun H2 kp hd2 => k H2 (Kp.trans (.same s1) kp) hd2)
  | false => exact iteFk rfl (k H1 (.same s1) (hd.same s1))
theorem st_ifC {t u : TS} (q : Sq C (Eq1 d) (Eq1 d) H0 ρ σ H) (ev : EvTC d σ H tt false) (kf : ∀ H', Kp (Eq1 d) H H' → Dice H' d → Sq C (Eq1 d) (Eq1 d) H0 ρ σ H' → u D σ H') : tIfS tt t u D σ H :=
  ev _ fun H' kp hd => iteFk rfl (kf H' kp hd ⟨q.kp.trans kp, q.env.kp q.fm kp, fm_dice hd⟩)
theorem tabs_name {Ls : List Ln} (ok : LnsOk Ls) : ∀ z ∈ tabsOf Ls, nameB z = true := fun z m => by
  obtain ⟨l, ml, rfl⟩ := List.mem_map.mp m
  exact (ok.good l ml).name
theorem cols_sub {items ts : List Str} (h : ts.Sublist items) (c : Cols items) : Cols ts := ⟨fun z m => c.names z (h.subset m), pair_asc ((asc_pair c.asc).sublist h)⟩
theorem cols_tabs {Ls : List Ln} (ok : PlOk Ls) : Cols (tabsOf Ls) := ⟨tabs_name ok.toLnsOk, by rw [← ok.tabs]; exact pair_asc (srtd_lt ok.nd)⟩
theorem colsOfT_six {Ls : List Ln} (ok : LnsOk Ls) (ts : List Str) : (colsOfT Ls ts).length ≤ 6 := by
  obtain ⟨B, b6, h⟩ := ok.cols
  refine Nat.le_trans ((uniqS_nd _).length_le_of_subset fun z m => ?_) b6
  obtain ⟨t, _, m⟩ := List.mem_flatMap.mp (mem_uniqS.mp m)
  obtain ⟨l, ml, mz⟩ := List.mem_flatMap.mp (mem_colsAt m)
  exact h l ml z mz
end
end B30_

/-! ## B30_65 -/
set_option Elab.async false
set_option linter.all false
set_option maxRecDepth 100000
set_option maxHeartbeats 16000000
namespace B30_
open PySem PySem.Spec PyProof.Rows L2
/-! ### written scenes and views, as data -/
abbrev lnOb (l : Ln) : Ob := .tup [.str l.t, .txs l.cs, kdOb l.k]
def viewB (Ls : List Ln) (ts cs : List Str) : Bool := ts.all nameB && ascB ts && cs.all nameB && ascB cs && !ts.isEmpty && ts.all (fun z => decide (z ∈ tabsOf Ls)) && cs.all fun z => decide (z ∈ ts.flatMap (colsAt Ls))
theorem viewB_ok {Ls : List Ln} {ts cs : List Str} (h : viewB Ls ts cs = true) : ViewOk Ls ts cs := by
  unfold viewB at h
  simp only [Bool.and_eq_true, List.all_eq_true, decide_eq_true_eq, Bool.not_eq_true', List.isEmpty_eq_false_iff] at h
  obtain ⟨⟨⟨⟨⟨⟨h1, h2⟩, h3⟩, h4⟩, h5⟩, h6⟩, h7⟩ := h
  exact ⟨⟨h1, h2⟩, ⟨h3, h4⟩, h5, h6, fun z m => mem_uniqS.mpr (h7 z m)⟩
section
variable {C d : Addr} {A F G : Addr → Prop} {H0 H H' : Hp} {ρ : List (Option Ob)} {σ : L2.St} {K : PySem.W.Frag} {te ta tb tc : TE} {tt tu : TT} {t : TA} {os us : List Ob} {o : Ob} {cs ds ts xs : List Str} {Ls Ms : List Ln} {D : Ends} {i j : Nat} {g g' : Ob → Prop}
theorem ln_at {v : V} {l : Ln} (r : VR C F H v (lnOb l)) : LnAt H v l := by
  cases r with
  | tup e rs => cases rs with
    | cons r1 rs => cases rs with
      | cons r2 rs => cases rs with
        | cons r3 rs =>
          cases rs
          cases r1
          obtain ⟨p, rfl, hp⟩ := r2.txs
          refine ⟨_, p, _, rfl, e, hp, ?_⟩
          cases hk : l.k with
          | chg => rw [hk] at r3; cases r3; rfl
          | fix => rw [hk] at r3; cases r3; rfl
          | key ks => rw [hk] at r3; obtain ⟨p, rfl, hp⟩ := VR.txs (cs := ks) r3; exact ⟨p, rfl, hp⟩
theorem lns_at : ∀ {vs : List V} {Ls : List Ln}, VRs C F H vs (Ls.map lnOb) → Paired (LnAt H) vs Ls
  | _, [], h => by cases h; exact .nil
  | _, l :: r, h => by cases h with | cons a b => exact .cons (ln_at a) (lns_at b)
theorem rd_of (ok : LnsOk Ls) (a : RDs C ρ t [.tup (Ls.map lnOb)]) : RD C ρ (ClX.tCMeth C (fun vs H Q E => spOf C (vs ++ []) H Q E) E0 (tC (.ref C)) t) (.scn (ordL Ls)) := fun F σ H Q e fm k =>
  ⟨rfl, a F σ H _ e fm fun vs H1 s1 rs => by
    cases rs with
    | cons r1 rs =>
      cases rs
      cases r1 with
      | tup h rs =>
        refine ⟨_, _, Ls, rfl, h, lns_at rs, ok, fun x H5 s5 nx sc => ?_⟩
        obtain ⟨dx, pl, pt, pc, pg, pf, dc, dk, h1, h2, n1, n2⟩ := sc
        exact k _ _ (s1.trans s5) (.scn ⟨dx, pl, pt, pc, pg, pf, dc, dk, h1, h2, (fm.same s1).fresh n1, (fm.same s1).fresh n2⟩)⟩
theorem vr_plus {G : Addr → Prop} (h : ∀ p, G p → F p ∨ H p = none) {v : V} (r : VR C F H v o) : VR C G H v o := r.grow h
/-- a new list of one's own that holds something -/
theorem st_ownL (q : Sq C A F H0 ρ σ H) (r : Evs C F σ H t os) (few : os.length ≤ 1000) (aA : ∀ p, A p) (k : ∀ p H', Sq C A (Plus F p) H0 (ρ.set i (some (.own p))) (σ.set i (some (.ref p))) H' → OL C (Plus F p) H' p os → D.nx (σ.set i (some (.ref p))) H') : tAsg (tLst t) (gName i) D σ H :=
  r _ fun vs H1 s1 rs => ⟨by rw [rs.length, sizeLine_eq]; omega, fun p hp => by
    have fm1 := q.fm.same s1
    have s : Same H1 (upd H1 p (.lst vs)) := Same.add hp
    have e1 := (q.env.same q.fm s1).grow hp
    have e2 : EnvD C (Plus F p) (upd H1 p (.lst vs)) σ ρ := ⟨e1.1, fun i o z => (e1.2 i o z).imp fun v y => ⟨y.1, y.2.kpG fm1 (.same s) fun _ => .inl⟩⟩
    exact k p _ ⟨fun b u n => absurd (aA b) n, e2.set i (.own p), fm1.put (mo_lst vs)⟩ ⟨.inr rfl, vs, upd_same, (rs.grow (G := Plus F p) fun b hb => hb.imp id fun z => z ▸ hp).kpG fm1 (.same s) fun _ => .inl⟩⟩
end
end B30_

/-! ## B30_71 -/
set_option Elab.async false
set_option linter.all false
set_option maxRecDepth 100000
set_option maxHeartbeats 8000000
namespace B30_
open PySem PySem.Spec PyProof.Rows L2
abbrev rMinL (K : PySem.W.Frag) := rMin K
section
variable {C d : Addr} {A F G : Addr → Prop} {H0 H H' : Hp} {ρ : List (Option Ob)} {σ : L2.St} {K : PySem.W.Frag} {te ta tb tc : TE} {tt tu : TT} {t : TA} {os us : List Ob} {o : Ob} {cs ds ts xs : List Str} {Ls Ms : List Ln} {D : Ends} {i j : Nat} {g g' : Ob → Prop} {p : Addr} {wi : TI} {vs : List Nat}
/-- _law_columns -/
theorem rd_lco {E : XK} (ok : PlOk Ls) (a : RDs C ρ t [.pln Ls]) : RD C ρ (tCall spLco [] E t) (.lxs (colsOf Ls)) := fun F σ H Q e fm k => a F σ H _ e fm fun vs H1 s1 rs => by
  cases rs with
  | cons r1 rs =>
    cases rs
    cases r1 with
    | pln n h =>
      have fm1 := fm.same s1
      exact ⟨_, Ls, rfl, h, ok, fun p H2 s2 np hp => k _ H2 (s1.trans s2) (vr_lxs (fm1.fresh np) hp)⟩
/-- a list of one's own becomes data for good -/
theorem Sq.freeze (q : Sq C A (Plus F p) H0 ρ σ H) (h : ρ[j]? = some (some (.own p))) (ol : OL C (Plus F p) H p os) (nF : ¬ F p) : Sq C A F H0 (ρ.set j (some (.lst os))) σ H := by
  obtain ⟨v, h1, h2⟩ := q.env.2 j _ h
  cases h2
  obtain ⟨fp, xs, hx, rx⟩ := ol
  refine ⟨q.kp, ⟨by simp [q.env.1], fun k u e => ?_⟩, q.fm.less fun b hb => .inl hb⟩
  rw [List.getElem?_set] at e
  by_cases z : j = k
  · subst z
    rw [if_pos rfl] at e
    split at e
    · cases e
      exact ⟨_, h1, .lst nF hx (rx.mono fun b hb => .inl hb)⟩
    · cases e
  · rw [if_neg z] at e
    exact (q.env.2 k u e).imp fun v y => ⟨y.1, y.2.mono fun b hb => .inl hb⟩
def unL : Ob → List Str
  | .lst os => os.filterMap fun o => match o with | .str x => some x | _ => none
  | _ => []
theorem unL_lxs (cs : List Str) : unL (.lxs cs) = cs := by
  show (cs.map Ob.str).filterMap _ = cs
  rw [List.filterMap_map]
  exact List.filterMap_some
theorem rd_lcl {L : List (List Str)} {b : List Str → Bool} {r : List Str → Ob} (S : RI C ρ wi (L.map Ob.lxs)) (few : L.length ≤ 1000) (mem : i ∈ vs) (hb : ∀ z ∈ L, RT C ((wipeR ρ vs).set i (some (.lxs z))) tt (b z))
    (hr : ∀ z ∈ L, b z = true → RD C ((wipeR ρ vs).set i (some (.lxs z))) te (r z)) : RD C ρ (tLc wi (gName i) tt te vs) (.lst ((L.filter b).map r)) := by
  have h := rd_lc (b := fun o => b (unL o)) (r := fun o => r (unL o)) S (by rw [List.length_map]; exact few) mem (fun o mo => by
    obtain ⟨z, mz, rfl⟩ := List.mem_map.mp mo
    show RT C _ tt (b (unL (.lxs z)))
    rw [unL_lxs]
    exact hb z mz) (fun o mo e => by
    obtain ⟨z, mz, rfl⟩ := List.mem_map.mp mo
    rw [show unL (Ob.lxs z) = z from unL_lxs z] at e
    show RD C _ te (r (unL (.lxs z)))
    rw [unL_lxs]
    exact hr z mz e)
  refine h.cast (congrArg Ob.lst ?_)
  rw [List.filter_map, List.map_map]
  have e1 : ((fun o => b (unL o)) ∘ Ob.lxs) = b := funext fun z => congrArg b (unL_lxs z)
  have e2 : ((fun o => r (unL o)) ∘ Ob.lxs) = r := funext fun z => congrArg r (unL_lxs z)
  rw [e1, e2]
/-- min of a list of whole numbers -/
theorem rd_min {ns : List Int} {m : Int} (a : RD C ρ te (.lst (ns.map .int))) (mm : m ∈ ns) (least : ∀ y ∈ ns, m ≤ y) : RD C ρ (tCB (rMin K) (tCons te tNil)) (.int m) :=
  rd_call1 a fun F v H Q fm r k => by
    cases r with
    | lst n e rs =>
      have : ∀ {vs : List V} {ns : List Int}, VRs C F H vs (ns.map .int) → vs = ns.map V.int := by
        intro vs ns
        induction ns generalizing vs with
        | nil => intro h; cases h; rfl
        | cons b r ih => intro h; cases h with | cons a b => cases a; rw [ih b]; rfl
      rw [this rs] at e
      refine ⟨_, ns, rfl, SqL.of e, List.length_pos_of_mem mm, fun m' mm' least' => ?_⟩
      obtain rfl : m' = m := Int.le_antisymm (least' m mm) (least m' mm')
      exact k _ H (Same.refl H) (.int _)
end
section
variable {P : Program} {w : World} {K : PySem.W.Frag} {mg : Str → Option Value} {base : Heap}
/-! ### _law_door -/
abbrev s_ldo : Stmt := topS 56
abbrev N_ldo : List Str := ["dice", "scene"]
theorem sc_ldo : FnScope N_ldo ["dice", "scene"] (defScope s_ldo) := ⟨rfl, rfl, rfl, by decide +kernel, rfl, by decide +kernel, by decide +kernel⟩
abbrev preDo : List Ob → Prop := fun os => ∃ Ls, os = [.pln Ls] ∧ PlOk Ls
abbrev gDo : List Ob → Ob → Prop := fun os r => ∃ Ls cs, os = [.pln Ls] ∧ r = .txs cs ∧ Cols cs ∧ ∀ z ∈ cs, z ∈ colsOf Ls
theorem colsOf_few {Ls : List Ln} (ok : LnsOk Ls) : (colsOf Ls).length ≤ 24 := Nat.le_trans ((uniqS_nd _).length_le_of_subset fun z m => mem_uniqS.mp m) (flat_few ok)
theorem colsOf_six {Ls : List Ln} (ok : LnsOk Ls) : (colsOf Ls).length ≤ 6 := by
  obtain ⟨B, b6, h⟩ := ok.cols
  refine Nat.le_trans ((uniqS_nd _).length_le_of_subset fun z m => ?_) b6
  obtain ⟨l, ml, mz⟩ := List.mem_flatMap.mp (mem_uniqS.mp m)
  exact h l ml z mz
theorem colsOf_name {Ls : List Ln} (ok : LnsOk Ls) : ∀ z ∈ colsOf Ls, nameB z = true := fun z m => by
  obtain ⟨l, ml, h⟩ := List.mem_flatMap.mp (mem_uniqS.mp m)
  exact (ok.good l ml).cols z h
theorem ok_ldo {f C : Addr} {fd : FuncData} (F : Fun K "_law_door" "_law_door" s_ldo f fd) (T : NamesS mg) (CS : Callee P w K mg base CX0 3 "_law_some" ["dice", "items", "least", "most"] spSome) (CC : Callee P w K mg base CX0 1 "_law_columns" ["scene"] spLco) : FnOk P w K mg base CX0 4 f fd ["dice", "scene"] (spDi C preDo gDo) := by
  have nd := sc_ldo.nd
  refine F.ok sc_ldo (fun vs H Q E h => ?_) (fun cdv A outer s H vs Q E hr h => ?_)
  · obtain ⟨d, vs', os, rfl, _, rs, ⟨Ls, rfl, _⟩, _⟩ := h
    show vs'.length + 1 = 2
    rw [rs.length]; rfl
  · obtain ⟨d, vs', os, rfl, hd, rs, ⟨Ls, rfl, ok⟩, k⟩ := h
    have hr1 : Room 1 _ := hr.mono (by decide)
    refine ⟨_, (pss_one
    (ps_ret (pe_callTy call_tuple_of (by rfl) T.tuple (by decide +kernel) (pa_cons (pe_callB cr_sortedS (by rfl) T.sorted (by decide +kernel) (pa_cons (pe_use CS hr rfl pass0 (pa_cons (pv 0) (pa_cons (pe_use CC hr1 rfl pass0 (pa_cons (pv 1) pa_nil)) (pa_cons pe_int (pa_cons pe_int pa_nil))))) pa_nil)) pa_nil)))), ?_⟩
    have q0 : Sq C (Eq1 d) (Eq1 d) H [some (.own d), some (.pln Ls)] (L2.start N_ldo (.ref d :: vs')) H := Sq.start (N := N_ldo) (os := [.own d, .pln Ls]) (fm_dice hd) (.cons (.own d) rs)
    have few := colsOf_few ok.toLnsOk
    refine st_retC q0 (evc_tss (lo := 0) (hi := 3) q0 hd (rds_cons (rd_var (i := 0) rfl) (rds_cons (rd_lco ok (rds_one (rd_var (i := 1) rfl))) (rds_cons (rd_int 0) (rds_one (rd_int 3))))) (by decide) (by decide) (by omega) (colsOf_name ok.toLnsOk) (uniqS_nd _)) fun o v H2 go kp2 hd2 rv => ?_
    obtain ⟨cs, rfl, c, sub, _, _⟩ := go
    exact k _ v H2 ⟨Ls, cs, rfl, rfl, c, sub⟩ kp2 hd2 rv
end
end B30_

/-! ## B30_72 -/
set_option Elab.async false
set_option linter.all false
set_option maxRecDepth 100000
set_option maxHeartbeats 8000000
namespace B30_
open PySem PySem.Spec PyProof.Rows L2
def outOf (S cs : List Str) : List Str := cs.filter fun c => !decide (c ∈ S)
def firesB (S : List Str) (k : Kd) : Bool := match k with
  | .key ks => decide (outOf S ks = [])
  | _ => false
theorem rt_fires {K : PySem.W.Frag} {C : Addr} {ρ : List (Option Ob)} {S : List Str} {k0 : Kd} {i j n : Nat} {vs : List Nat} (y : Ob) (hy : y = .txs S ∨ y = .lxs S) (hi : ρ[i]? = some (some (kdOb k0))) (hj : ((wipeR ρ vs))[j]? = some (some y)) (mem : n ∈ vs) (nj : n ≠ j) (ln : n < (wipeR ρ vs).length) (okS : ∀ ks, k0 = .key ks → ks.length ≤ 1000 ∧ ∀ z ∈ ks, PyData.strOk z = true) :
    RT C ρ (tAnd (tB (tCB (rIsi K) (tCons (tVar i) (tCons (tC (.ty "tuple")) tNil)))) (tTest (tOp (rEqD K) (tLc (iTup K (tVar i)) (gName n) (tTest (tOp (rIn K true) (tVar n) (tVar j))) (tVar n) vs) (tLst tNil)))) (firesB S k0) := by
  cases k0 with
  | chg => exact rt_and (b := false) (c := false) (rt_b (rd_isTupK (k0 := .chg) (rd_var hi))) (fun z => by cases z)
  | fix => exact rt_and (b := false) (c := false) (rt_b (rd_isTupK (k0 := .fix) (rd_var hi))) (fun z => by cases z)
  | key ks =>
    obtain ⟨few, so⟩ := okS ks rfl
    have rv : ∀ z, ((wipeR ρ vs).set n (some (Ob.str z)))[n]? = some (some (Ob.str z)) := fun z => by rw [List.getElem?_set, if_pos rfl, if_pos ln]
    have ry : ∀ z, ((wipeR ρ vs).set n (some (Ob.str z)))[j]? = some (some y) := fun z => by rw [List.getElem?_set, if_neg nj]; exact hj
    exact rt_and (b := true) (rt_b (rd_isTupK (k0 := .key ks) (rd_var hi))) fun _ => rt_test (rd_eqLs (cs := outOf S ks) (ds := []) (rd_lcs (cs := ks) (ri_tup (os := ks.map .str) (rd_var hi)) few mem (fun z mz => rt_test (rd_notIn (K := K) (cs := S) y hy (rd_var (rv z)) (rd_var (ry z)))) (fun z mz _ => rd_var (rv z))) (rd_lst rds_nil (by decide)) (fun z mz => so z (List.mem_filter.mp mz).1) (by simp))
theorem colsOf_cols {Ls : List Ln} (ok : LnsOk Ls) : Cols (colsOf Ls) := cols_uniqS fun z m => (by
  obtain ⟨l, ml, h⟩ := List.mem_flatMap.mp m
  exact (ok.good l ml).cols z h)
end B30_

/-! ## B30_74 -/
set_option Elab.async false
set_option linter.all false
set_option maxRecDepth 100000
set_option maxHeartbeats 8000000
namespace B30_
open PySem PySem.Spec PyProof.Rows L2
/-! ### the steps, as a set -/
theorem Cl.wider {Ls : List Ln} {ts cs ds : List Str} (sub : ∀ c ∈ cs, c ∈ ds) {c : Str} (d : Cl Ls ts cs c) : Cl Ls ts ds c := by
  induction d with
  | base m => exact .base (sub _ m)
  | step mt e _ mc ih => exact .step mt e ih mc
theorem Cl.idem {Ls : List Ln} {ts cs ds : List Str} (h : ∀ c ∈ ds, Cl Ls ts cs c) {c : Str} (d : Cl Ls ts ds c) : Cl Ls ts cs c := by
  induction d with
  | base m => exact h _ m
  | step mt e _ mc ih => exact .step mt e ih mc
def HasKey (Ls : List Ln) (ts cs : List Str) (t : Str) : Prop := ∃ ks, keyOf Ls t = some ks ∧ ∀ k ∈ ks, Cl Ls ts cs k
theorem walkN_fires {Ls : List Ln} {ts cs : List Str} : ∀ (n : Nat) (h used : List Str), (∀ c, c ∈ h ↔ c ∈ cs ∨ c ∈ used.flatMap (colsAt Ls)) → (∀ c ∈ h, Cl Ls ts cs c) → used.Nodup → (∀ z ∈ used, z ∈ ts ∧ HasKey Ls ts cs z) → ts.length ≤ used.length + n →
    ∀ t, t ∈ walkN Ls ts n h used ↔ t ∈ ts ∧ HasKey Ls ts cs t := by
  have done : ∀ (h used : List Str), nextStep Ls h ts used = none → (∀ c, c ∈ h ↔ c ∈ cs ∨ c ∈ used.flatMap (colsAt Ls)) → (∀ c ∈ h, Cl Ls ts cs c) → (∀ z ∈ used, z ∈ ts ∧ HasKey Ls ts cs z) → ∀ t, t ∈ used ↔ t ∈ ts ∧ HasKey Ls ts cs t := by
    intro h used en hh hc hu t
    have all : ∀ t ∈ ts, ∀ ks, keyOf Ls t = some ks → (∀ k ∈ ks, k ∈ h) → t ∈ used := fun t mt ks e sub => by
      have nr := List.find?_eq_none.mp en t mt
      by_cases m : t ∈ used
      · exact m
      · exfalso
        apply nr
        unfold readyB
        rw [e]
        simp only [m, decide_false, Bool.not_false, Bool.true_and, List.all_eq_true, decide_eq_true_eq]
        exact sub
    have cl : ∀ c, Cl Ls ts cs c → c ∈ h := fun c d => Cl.mem (fun t mt ks e sub c mc => (hh c).mpr (.inr (List.mem_flatMap.mpr ⟨t, all t mt ks e sub, mc⟩))) (fun c m => (hh c).mpr (.inl m)) d
    exact ⟨hu t, fun ⟨mt, ks, e, hk⟩ => all t mt ks e fun k mk => cl k (hk k mk)⟩
  intro n
  induction n with
  | zero =>
    intro h used hh hc nu su len
    exact done h used (next_none nu (fun z m => (su z m).1) (by omega)) hh hc su
  | succ n ih =>
    intro h used hh hc nu su len t'
    unfold walkN
    cases en : nextStep Ls h ts used with
    | none => exact done h used en hh hc su t'
    | some t =>
      obtain ⟨mt, rt⟩ := next_mem en
      have zn := ready_new rt
      have hk : HasKey Ls ts cs t ∧ ∀ c ∈ colsAt Ls t, Cl Ls ts cs c := by
        unfold readyB at rt
        split at rt
        · rename_i ks e
          simp only [Bool.and_eq_true, List.all_eq_true, decide_eq_true_eq] at rt
          exact ⟨⟨ks, e, fun k mk => hc k (rt.2 k mk)⟩, fun c m => .step mt e (fun k mk => hc k (rt.2 k mk)) m⟩
        · cases rt
      refine ih _ _ (fun c => ?_) (fun c m => ?_) ?_ ?_ (by rw [List.length_append, List.length_singleton]; omega) t'
      · rw [mem_addAll, hh, List.flatMap_append, List.mem_append]
        simp only [List.flatMap_cons, List.flatMap_nil, List.append_nil]
        constructor
        · rintro ((a | a) | a)
          · exact .inl a
          · exact .inr (.inl a)
          · exact .inr (.inr a)
        · rintro (a | a | a)
          · exact .inl (.inl a)
          · exact .inl (.inr a)
          · exact .inr a
      · rcases mem_addAll.mp m with m | m
        · exact hc c m
        · exact hk.2 c m
      · rw [List.nodup_append]
        exact ⟨nu, by simp, fun a ha b hb e => zn (by rw [List.mem_singleton] at hb; rw [← hb, ← e]; exact ha)⟩
      · intro y hy
        rcases List.mem_append.mp hy with hy | hy
        · exact su y hy
        · rw [List.mem_singleton] at hy; rw [hy]; exact ⟨mt, hk.1⟩
theorem mem_steps {Ls : List Ln} {ts cs : List Str} {t : Str} : t ∈ stepsOf Ls cs ts ↔ t ∈ ts ∧ HasKey Ls ts cs t := walkN_fires ts.length cs [] (by simp) (fun c m => .base m) List.nodup_nil (by simp) (by simp) t
def firesT (Ls : List Ln) (S : List Str) (t : Str) : Bool := match Ls.find? fun l => decide (l.t = t) with
  | some l => firesB S l.k
  | none => false
theorem firesT_ln {Ls : List Ln} {S : List Str} {l : Ln} (nd : (Ls.map (·.t)).Nodup) (ml : l ∈ Ls) : firesT Ls S l.t = firesB S l.k := by
  have h : (Ls.find? fun m => decide (m.t = l.t)) = some l := by
    cases e : Ls.find? fun m => decide (m.t = l.t) with
    | none => exact absurd (List.find?_eq_none.mp e l ml) (by simp)
    | some m =>
      have h1 := List.mem_of_find?_eq_some e
      have h2 := List.find?_some e
      simp only [decide_eq_true_eq] at h2
      rw [same_line nd ml h1 h2]
  unfold firesT
  rw [h]
theorem srtd_steps {Ls : List Ln} {cs ts : List Str} (a : AskOk Ls cs ts) : srtd (stepsOf Ls cs ts) = ts.filter (firesT Ls (closureOf Ls cs ts)) := by
  have h : ∀ t, t ∈ stepsOf Ls cs ts ↔ t ∈ ts.filter (firesT Ls (closureOf Ls cs ts)) := fun t => by
    rw [mem_steps, List.mem_filter]
    refine and_congr_right fun mt => ?_
    obtain ⟨l, ml, rfl⟩ := List.mem_map.mp (a.subt t mt)
    rw [firesT_ln a.ok.nd ml]
    unfold HasKey
    rw [keyOf_ln a.ok.nd ml]
    cases hk : l.k with
    | chg => simp [firesB]
    | fix => simp [firesB]
    | key ks =>
      show (∃ ks', some ks = some ks' ∧ ∀ k ∈ ks', Cl Ls ts cs k) ↔ decide (outOf (closureOf Ls cs ts) ks = []) = true
      constructor
      · rintro ⟨ks', e, h⟩
        cases e
        exact decide_eq_true (filt_nil.mpr fun k mk => mem_closureOf.mpr (h k mk))
      · intro h
        exact ⟨ks, rfl, fun k mk => mem_closureOf.mp (filt_nil.mp (of_decide_eq_true h) k mk)⟩
  have nd := (steps_ok Ls cs ts).1
  have ndf : (ts.filter (firesT Ls (closureOf Ls cs ts))).Nodup := a.t.nd.filter _
  rw [srtd_congr (K1.perm_of_len nd (fun z m => (h z).mp m) (ndf.length_le_of_subset fun z m => (h z).mpr m))]
  exact srtd_asc (asc_pair (cols_sub List.filter_sublist a.t).asc)
theorem closure_sub {Ls : List Ln} {cs ts : List Str} (a : AskOk Ls cs ts) : ∀ c ∈ closureOf Ls cs ts, c ∈ colsOf Ls := fun c m => by
  cases mem_closureOf.mp m with
  | base m => exact a.sub _ m
  | step mt e hk mc => exact mem_uniqS.mpr (mem_colsAt mc)
theorem closure_cols {Ls : List Ln} {cs ts : List Str} (a : AskOk Ls cs ts) : Cols (closureOf Ls cs ts) := cols_uniqS fun z m => (colsOf_cols a.ok).names z (closure_sub a z (mem_uniqS.mpr m))
theorem AskOk.due {Ls : List Ln} {cs ts : List Str} (a : AskOk Ls cs ts) : AskOk Ls (closureOf Ls cs ts) ts := ⟨a.ok, closure_cols a, closure_sub a, a.t, a.one, a.subt⟩
theorem closure_idem {Ls : List Ln} {cs ts : List Str} : closureOf Ls (closureOf Ls cs ts) ts = closureOf Ls cs ts := by
  have h : ∀ z, z ∈ closureOf Ls (closureOf Ls cs ts) ts ↔ z ∈ closureOf Ls cs ts := fun z => by
    rw [mem_closureOf]
    exact ⟨fun d => mem_closureOf.mpr (d.idem fun c m => mem_closureOf.mp m), fun m => .base m⟩
  have e : ∀ cs, closureOf Ls cs ts = uniqS (cs ++ (stepsOf Ls cs ts).flatMap (colsAt Ls)) := fun _ => rfl
  rw [e (closureOf Ls cs ts), e cs]
  refine uniqS_sub fun z => ?_
  rw [← mem_uniqS, ← mem_uniqS (l := cs ++ _), ← e, ← e cs]
  exact h z
theorem closure_wider {Ls : List Ln} {cs ds ts us : List Str} (hc : ∀ c ∈ cs, c ∈ ds) (ht : ∀ t ∈ ts, t ∈ us) : outOf (closureOf Ls ds us) (closureOf Ls cs ts) = [] := filt_nil.mpr fun c m => mem_closureOf.mpr (((mem_closureOf.mp m).wider hc).more ht)
end B30_

/-! ## B30_75 -/
set_option Elab.async false
set_option linter.all false
set_option maxRecDepth 100000
set_option maxHeartbeats 8000000
namespace B30_
open PySem PySem.Spec PyProof.Rows L2
theorem kp_fresh {F : Addr → Prop} {p : Addr} {H H' : Hp} (k : Kp (Plus F p) H H') (n : H p = none) : Kp F H H' := fun b o nb e => k b o (fun z => z.elim nb fun z => by rw [z, n] at e; cases e) e
section
variable {C d : Addr} {A F G : Addr → Prop} {H0 H H' : Hp} {ρ : List (Option Ob)} {σ : L2.St} {K : PySem.W.Frag} {te ta tb tc : TE} {tt tu : TT} {t : TA} {os us : List Ob} {o x y z : Ob} {cs ds ts xs : List Str} {Ls Ms : List Ln} {D : Ends} {i j : Nat} {g g' g1 g2 : Ob → Prop} {p : Addr} {wi : TI} {vs : List Nat}
theorem Sq.kpC (q : Sq C (Eq1 d) (Eq1 d) H0 ρ σ H) (kp : Kp (Eq1 d) H H') (hd : Dice H' d) : Sq C (Eq1 d) (Eq1 d) H0 ρ σ H' := ⟨q.kp.trans kp, q.env.kp q.fm kp, fm_dice hd⟩
theorem st_parC (q : Sq C (Eq1 d) (Eq1 d) H0 ρ σ H) (a : EvC C d σ H ta g1) (b : ∀ H1, Kp (Eq1 d) H H1 → Dice H1 d → EvC C d σ H1 tb g2) (k : ∀ x y v w H', g1 x → g2 y → Kp (Eq1 d) H H' → Dice H' d → Sq C (Eq1 d) (Eq1 d) H0 ((ρ.set i (some x)).set j (some y)) ((σ.set i (some v)).set j (some w)) H' → D.nx ((σ.set i (some v)).set j (some w)) H') : tPar i j (tCons ta (tCons tb tNil)) D σ H :=
  a _ fun x v H1 gx kp1 hd1 rx => b H1 kp1 hd1 _ fun y w H2 gy kp2 hd2 ry => ⟨v, w, rfl, k x y v w H2 gx gy (kp1.trans kp2) hd2 ⟨q.kp.trans (kp1.trans kp2), ((q.env.kp q.fm (kp1.trans kp2)).set i (rx.kp (fm_dice hd1) kp2)).set j ry, fm_dice hd2⟩⟩
theorem st_par (q : Sq C A F H0 ρ σ H) (ev : Evs C F σ H t [x, y]) (k : ∀ v w H', Same H H' → Sq C A F H0 ((ρ.set i (some x)).set j (some y)) ((σ.set i (some v)).set j (some w)) H' → D.nx ((σ.set i (some v)).set j (some w)) H') : tPar i j t D σ H :=
  ev _ fun vs H1 s1 rs => by
    cases rs with
    | cons r1 rs => cases rs with
      | cons r2 rs =>
        cases rs
        exact ⟨_, _, rfl, k _ _ H1 s1 ⟨q.kp.trans (.same s1), ((q.env.same q.fm s1).set i r1).set j r2, q.fm.same s1⟩⟩
theorem rd_neTs (a : RD C ρ ta (.txs cs)) (b : RD C ρ tb (.txs ds)) (h1 : ∀ z ∈ cs, PyData.strOk z = true) (h2 : ∀ z ∈ ds, PyData.strOk z = true) : RD C ρ (tOp (rNeD K) ta tb) (.bl (!decide (cs = ds))) :=
  rd_op a b fun F v w H Q fm r1 r2 k => by
    refine ⟨_, _, r1.dp (areD_strs cs), r2.dp (areD_strs ds), ?_, ?_, ?_⟩
    · show SeqAt.shaped (.tuple (pds (cs.map .str))) = true
      rw [pds_strs]; exact shaped_tstrs cs h1
    · show SeqAt.shaped (.tuple (pds (ds.map .str))) = true
      rw [pds_strs]; exact shaped_tstrs ds h2
    · have e : PyData.eqv (.tuple (pds (cs.map .str))) (.tuple (pds (ds.map .str))) = decide (cs = ds) := by
        rw [pds_strs, pds_strs]
        simp only [PyData.eqv]
        rw [Bool.eq_iff_iff, eqv_strs, decide_eq_true_eq]
      show Q (.bl (!PyData.eqv (.tuple (pds (cs.map .str))) (.tuple (pds (ds.map .str))))) H
      rw [e]
      exact k _ H (Same.refl H) (.bl _)
/-- not different -/
theorem rt_sameT (a : RD C ρ ta (.txs cs)) (b : RD C ρ tb (.txs cs)) (h1 : ∀ z ∈ cs, PyData.strOk z = true) : RT C ρ (tTest (tOp (rNeD K) ta tb)) false := by
  have := rt_test (rd_neTs (K := K) a b h1 h1)
  simpa using this
theorem env2 {v w : V} (r : VR C F H v x) (r2 : VR C F H w y) : EnvD C F H [some v, some w] [some x, some y] := ⟨rfl, fun i o' e => by
  match i, e with
  | 0, e => cases e; exact ⟨v, rfl, r⟩
  | 1, e => cases e; exact ⟨w, rfl, r2⟩
  | i + 2, e => simp at e⟩
theorem evc_op2 {r : R2} {v0 : V} (h : σ[j]? = some (some v0)) (r0 : VR C (Eq1 d) H v0 x) (hd : Dice H d) (b : EvC C d σ H tb g) (h' : ∀ o, g o → ∃ o', g' o' ∧ RD C [some x, some o] (tOp r (tVar 0) (tVar 1)) o') : EvC C d σ H (tOp r (tVar j) tb) g' := fun Q k =>
  ⟨v0, h, b _ fun o v H1 go kp hd1 rv => by
    obtain ⟨o', go', rd⟩ := h' o go
    have fm1 := fm_dice hd1
    have := rd (Eq1 d) [some v0, some v] H1 Q (env2 (r0.kp (fm_dice hd) kp) rv) fm1 fun u H2 s2 r2 => k o' u H2 go' (kp.trans (.same s2)) (hd1.same s2) r2
    obtain ⟨v1, e1, v2, e2, hr⟩ := this
    cases e1; cases e2
    exact hr⟩
theorem evc_cb2 {r1 r2 : List V → Hp → VK → Prop} (a : EvC C d σ H te g) (h : ∀ o, g o → ∃ o', g' o' ∧ RD C [some o] (tCB r2 (tCons (tCB r1 (tCons (tVar 0) tNil)) tNil)) o') : EvC C d σ H (tCB r2 (tCons (tCB r1 (tCons te tNil)) tNil)) g' := fun Q k =>
  a _ fun o v H1 go kp hd rv => by
    obtain ⟨o', go', rd⟩ := h o go
    have := rd (Eq1 d) [some v] H1 Q (env1 rv) (fm_dice hd) fun u H2 s2 r2 => k o' u H2 go' (kp.trans (.same s2)) (hd.same s2) r2
    obtain ⟨v', e, hr⟩ := this
    cases e
    exact hr
/-- a def that takes data, the middle of three cast by dice -/
theorem evc_call3 {gg : List Ob → Ob → Prop} {E : XK} {v0 : V} (q : Sq C (Eq1 d) (Eq1 d) H0 ρ σ H) (h : σ[j]? = some (some v0)) (r0 : VR C (Eq1 d) H v0 x) (hd : Dice H d) (b : EvC C d σ H tb g) (c : RD C ρ tc z) (h' : ∀ o, g o → ∃ r, g' r ∧ gg [x, o, z] r) : EvC C d σ H (tCall (spP C gg) [] E (tCons (tVar j) (tCons tb (tCons tc tNil)))) g' := fun Q k =>
  ⟨v0, h, b _ fun o v H1 go kp hd1 rv => by
    obtain ⟨r, gr, hr⟩ := h' o go
    have q1 := q.kpC kp hd1
    refine c (Eq1 d) σ H1 _ q1.env q1.fm fun w H2 s2 rw => ?_
    have hd2 := hd1.same s2
    exact ⟨Eq1 d, [x, o, z], r, fm_dice hd2, .cons ((r0.kp (fm_dice hd) kp).same q1.fm s2) (.cons (rv.same q1.fm s2) (.cons rw .nil)), hr, fun u H3 s3 ru => k r u H3 gr ((kp.trans (.same s2)).trans (.same s3)) (hd2.same s3) ru⟩⟩
end
end B30_

/-! ## B30_80 -/
set_option Elab.async false
set_option linter.all false
set_option maxRecDepth 100000
set_option maxHeartbeats 8000000
namespace B30_
open PySem PySem.Spec PyProof.Rows L2
/-- a role: a table that changes, or a door; and its columns -/
def RoleIs (Ls : List Ln) (o : Ob) (cs : List Str) : Prop := (∃ l, l ∈ Ls ∧ l.k = .chg ∧ o = .str l.t ∧ cs = l.cs) ∨ (o = .txs cs ∧ Cols cs ∧ ∀ z ∈ cs, z ∈ colsOf Ls)
theorem RoleIs.nd {Ls : List Ln} {o : Ob} {cs : List Str} (h : RoleIs Ls o cs) (ok : LnsOk Ls) : cs.Nodup := by
  rcases h with ⟨l, ml, _, _, rfl⟩ | ⟨_, c, _⟩
  · exact (ok.good l ml).nd
  · exact c.nd
theorem RoleIs.few {Ls : List Ln} {o : Ob} {cs : List Str} (h : RoleIs Ls o cs) (ok : LnsOk Ls) : cs.length ≤ 24 := by
  rcases h with ⟨l, ml, _, _, rfl⟩ | ⟨_, c, sub⟩
  · have := (ok.good l ml).few
    omega
  · exact Nat.le_trans (c.nd.length_le_of_subset fun z m => mem_colsOf.mp (sub z m)) (flat_few ok)
section
variable {C d : Addr} {ρ : List (Option Ob)} {K : PySem.W.Frag} {te ta tb tc : TE} {t : TA} {cs : List Str} {os : List Ob} {x : Str}
theorem rd_isStrT (a : RD C ρ te (.str x)) : RD C ρ (tCB (rIsi K) (tCons te (tCons (tC (.ty "str")) tNil))) (.bl true) := fun F σ H Q e fm k => a F σ H _ e fm fun v H1 s1 r1 => by
  cases r1; exact ⟨_, _, _, _, true, rfl, .ty _, .base (.str _), kit_ty (by decide +kernel), k _ H1 s1 (.bl true)⟩
theorem rd_isStrF (a : RD C ρ te (.tup os)) : RD C ρ (tCB (rIsi K) (tCons te (tCons (tC (.ty "str")) tNil))) (.bl false) := fun F σ H Q e fm k => a F σ H _ e fm fun v H1 s1 r1 => by
  cases r1 with
  | tup h _ => exact ⟨_, _, _, _, false, rfl, .ty _, .base (.tup h), kit_ty (by decide +kernel), k _ H1 s1 (.bl false)⟩
theorem rd_isColsF {E : XK} (a : RDs C ρ t [.str x]) : RD C ρ (tCall (spCols K) [] E t) (.bl false) := fun F σ H Q e fm k => a F σ H _ e fm fun vs H1 s1 r1 => by
  cases r1 with
  | cons r1 r2 =>
    cases r2; cases r1
    exact ⟨_, false, rfl, .inl ⟨⟨_, .base (.str _), kit_ty (by decide +kernel)⟩, rfl⟩, fun H2 s2 => k _ H2 (s1.trans s2) (.bl _)⟩
end
section
variable {P : Program} {w : World} {K : PySem.W.Frag} {mg : Str → Option Value} {base : Heap}
def isTup : Ob → Bool
  | .tup _ => true
  | _ => false
abbrev N_sro : List Str := ["scene", "role"]
/-! ### is_door of any role -/
def gIdo (os : List Ob) (r : Ob) : Prop := ∃ (Ls : List Ln) (o : Ob) (cs : List Str), os = [.scn Ls, o] ∧ LnsOk Ls ∧ RoleIs Ls o cs ∧ r = .bl (isTup o)
theorem ok_ido {f C : Addr} {fd : FuncData} (F : Fun K "is_door" "is_door" s_idr f fd) (T : NamesS mg) (W : Ways P w K mg base C) (CC : Callee P w K mg base CX0 2 "is_columns" ["value"] (spCols K)) : FnOk P w K mg base CX0 3 f fd ["scene", "value"] (spP C gIdo) := by
  have nd := sc_idr.nd
  refine F.ok sc_idr (fun vs H Q E h => ?_) (fun cdv A outer s H vs Q E hr h => ?_)
  · obtain ⟨F, os, r, _, rs, ⟨Ls, o, cs, rfl, _⟩, _⟩ := h
    exact rs.length
  · obtain ⟨F0, os, r, fm, rs, ⟨Ls, o, cs, rfl, ok, ro, rfl⟩, k⟩ := h
    refine ⟨_, (pss_one
    (ps_ret (pe_and (pe_use CC hr rfl pass0 (pa_cons (pv 1) pa_nil)) (pe_one (pe_callB (cr_all rfl) (by rfl) T.all (by decide +kernel) (pa_cons (pe_lc (own := [("column", 2)]) (g := (gName 2)) (te := tOp (rIn K false) (tVar 2) (tProp C (getSp C "_columns") [] E0 (tVar 0))) rfl nd (pi_tup (pv 1)) (blkOk_by (N := N_idr) (sc := defScope s_idr) (by decide +kernel)) (fun _ _ _ _ _ => (pg_name (i := 2) nd rfl (Or.inl rfl))) (fun _ _ _ _ _ => pts_nil) (fun _ _ _ _ _ => (pe_cmpR op_in_seq (pv 2) (pe_prp W.columns W.cl.cl hr (pv 0)) rfl))) pa_nil)))))), ?_⟩
    have few := ro.few ok
    rcases ro with ⟨l, ml, lk, rfl, rfl⟩ | ⟨rfl, c, sub⟩
    · have q0 : Sq C Nil F0 H [some (.scn Ls), some (.str l.t), none] (L2.start N_idr vs) H := Sq.start (N := N_idr) fm rs
      refine st_ret q0 (q0.ev ((rd_and (b := false) (c := false) (rd_isColsF (rds_one (rd_var (i := 1) rfl))) fun z => by cases z).cast (o' := .bl false) rfl)) ?_
      intro v H5 kp5 rv _ _
      exact k v H5 kp5.toSame rv
    · have q0 : Sq C Nil F0 H [some (.scn Ls), some (.txs cs), none] (L2.start N_idr vs) H := Sq.start (N := N_idr) fm rs
      refine st_ret q0 (q0.ev ((rd_and (b := true) ((rd_isCols (by omega) c.short (rds_one (rd_var (i := 1) rfl))).cast (congrArg Ob.bl c.all)) fun _ =>
        rd_allc (K := K) (p := fun z => decide (z ∈ colsOf Ls)) (ri_tup (rd_var (i := 1) rfl)) (by omega) (by decide) fun z mz => rd_in (K := K) (.txs (colsOf Ls)) (.inl rfl) (rd_var rfl) (rd_columns (rd_var rfl))).cast (o' := .bl true) ?_)) ?_
      · have : cs.all (fun z => decide (z ∈ colsOf Ls)) = true := List.all_eq_true.mpr fun z mz => decide_eq_true (sub z mz)
        rw [this]; rfl
      · intro v H5 kp5 rv _ _
        exact k v H5 kp5.toSame rv
/-! ### need_role -/
abbrev s_nr : Stmt := topS 31
theorem sc_nr : FnScope N_sva ["scene", "value"] (defScope s_nr) := ⟨rfl, rfl, rfl, by decide +kernel, rfl, by decide +kernel, by decide +kernel⟩
def gNr (os : List Ob) (r : Ob) : Prop := ∃ (Ls : List Ln) (o : Ob) (cs : List Str), os = [.scn Ls, o] ∧ LnsOk Ls ∧ RoleIs Ls o cs ∧ r = .non
theorem ok_nr {f C : Addr} {fd : FuncData} (F : Fun K "need_role" "need_role" s_nr f fd) (W : Ways P w K mg base C) (CD : Callee P w K mg base CX0 3 "is_door" ["scene", "value"] (spP C gIdo)) : FnOk P w K mg base CX0 4 f fd ["scene", "value"] (spP C gNr) := by
  have nd := sc_nr.nd
  refine F.ok sc_nr (fun vs H Q E h => ?_) (fun cdv A outer s H vs Q E hr h => ?_)
  · obtain ⟨F, os, r, _, rs, ⟨Ls, o, cs, rfl, _⟩, _⟩ := h
    exact rs.length
  · obtain ⟨F0, os, r, fm, rs, ⟨Ls, o, cs, rfl, ok, ro, rfl⟩, k⟩ := h
    have hr2 : Room 2 _ := hr.mono (by decide)
    refine ⟨_, (pss_one
    (ps_if (PW.pt (pw_and (pt_not (pt_val (pe_use CD hr rfl pass0 (pa_cons (pv 0) (pa_cons (pv 1) pa_nil))))) (pw_and1 (pt_cmpR (r := rIn K true) op_notIn_seq (pv 1) (pe_prp W.changing W.cl.cl hr2 (pv 0)) rfl)))) (pss_one ps_never) pss_nil)), ?_⟩
    have q0 : Sq C Nil F0 H [some (.scn Ls), some o] (L2.start N_sva vs) H := Sq.start (N := N_sva) fm rs
    have call := rt_test (rd_call (g := gIdo) (E := E) (C := C) (rds_cons (rd_var (ρ := [some (.scn Ls), some o]) (i := 0) rfl) (rds_one (rd_var (i := 1) rfl))) ⟨Ls, o, cs, rfl, ok, ro, rfl⟩)
    refine st_if (b := false) q0 (q0.evt ?_) (fun z => by cases z) ?_
    · rcases ro with ⟨l, ml, lk, rfl, rfl⟩ | ⟨rfl, c, sub⟩
      · have inn : decide (l.t ∈ chgOf Ls) = true := decide_eq_true (List.mem_map.mpr ⟨l, List.mem_filter.mpr ⟨ml, by show isC l.k = true; rw [lk]; rfl⟩, rfl⟩)
        exact rt_and (b := true) (c := false) (rt_not call) fun _ => rt_test ((rd_notIn (K := K) (.txs (chgOf Ls)) (.inl rfl) (rd_var (i := 1) rfl) (rd_changing (rd_var (i := 0) rfl))).cast (by rw [inn]; rfl))
      · exact rt_and (b := false) (c := false) (rt_not call) fun z => by cases z
    · intro _ H1 s1 q1
      exact k _ H1 s1 .non
/-! ### columns_of_role -/
abbrev s_cor : Stmt := topS 32
theorem sc_cor : FnScope N_sro ["scene", "role"] (defScope s_cor) := ⟨rfl, rfl, rfl, by decide +kernel, rfl, by decide +kernel, by decide +kernel⟩
def gCor (os : List Ob) (r : Ob) : Prop := ∃ (Ls : List Ln) (o : Ob) (cs : List Str), os = [.scn Ls, o] ∧ LnsOk Ls ∧ RoleIs Ls o cs ∧ r = .txs cs
theorem ok_cor {f C : Addr} {fd : FuncData} (F : Fun K "columns_of_role" "columns_of_role" s_cor f fd) (T : NamesS mg) (hstr : mg "str" = none) (W : Ways P w K mg base C) : FnOk P w K mg base CX0 4 f fd ["scene", "role"] (spP C gCor) := by
  have nd := sc_cor.nd
  refine F.ok sc_cor (fun vs H Q E h => ?_) (fun cdv A outer s H vs Q E hr h => ?_)
  · obtain ⟨F, os, r, _, rs, ⟨Ls, o, cs, rfl, _⟩, _⟩ := h
    exact rs.length
  · obtain ⟨F0, os, r, fm, rs, ⟨Ls, o, cs, rfl, ok, ro, rfl⟩, k⟩ := h
    refine ⟨_, (pss_cons
    (ps_if (pt_val (pe_callB (r := rIsi K) call_isi (by rfl) T.isinstance (by decide +kernel) (pa_cons (pv 1) (pa_cons (pe_bltn (v := .ty "str") (by rfl) hstr (by decide +kernel) rfl) pa_nil)))) (pss_one
      (ps_ret (pe_mth W.cof W.cl.cl hr (pv 0) (pa_cons (pv 1) pa_nil)))) pss_nil)
    (pss_one
    (ps_ret (pv 1)))), ?_⟩
    have q0 : Sq C Nil F0 H [some (.scn Ls), some o] (L2.start N_sro vs) H := Sq.start (N := N_sro) fm rs
    rcases ro with ⟨l, ml, lk, rfl, rfl⟩ | ⟨rfl, c, sub⟩
    · refine seq (st_if (b := true) q0 (q0.evt (rt_b (rd_isStrT (K := K) (rd_var (i := 1) rfl)))) (fun z H1 s1 q1 => ?_) (fun z => by cases z))
      refine st_ret q1 (q1.ev (rd_cof (rd_var (i := 0) rfl) (rds_one (rd_var (i := 1) rfl)) ml ok.nd)) ?_
      intro v H5 kp5 rv _ _
      exact k v H5 kp5.toSame rv
    · refine seq (st_if (b := false) q0 (q0.evt (rt_b (rd_isStrF (K := K) (rd_var (i := 1) rfl)))) (fun z => by cases z) (fun z H1 s1 q1 => ?_))
      dsimp only [tNext]
      refine st_ret q1 (q1.ev (rd_var (i := 1) rfl)) ?_
      intro v H5 kp5 rv _ _
      exact k v H5 kp5.toSame rv
end
end B30_

/-! ## B30_81 -/
set_option Elab.async false
set_option linter.all false
set_option maxRecDepth 100000
set_option maxHeartbeats 8000000
namespace B30_
open PySem PySem.Spec PyProof.Rows L2
/-! ### pick -/
abbrev s_pick : Stmt := topS 47
abbrev N_pick : List Str := ["dice", "items"]
theorem sc_pick : FnScope N_pick ["dice", "items"] (defScope s_pick) := ⟨rfl, rfl, rfl, by decide +kernel, rfl, by decide +kernel, by decide +kernel⟩
def spPick : Sp := fun vs H Q _ => ∃ (d b : Addr) (xs : List V), vs = [.ref d, .ref b] ∧ Dice H d ∧ Its H b xs ∧ b ≠ d ∧ xs ≠ [] ∧ xs.length ≤ 1000 ∧ ∀ x H', x ∈ xs → But d H H' → Dice H' d → Q x H'
section
variable {P : Program} {w : World} {K : PySem.W.Frag} {mg : Str → Option Value} {base : Heap}
theorem ok_pick {f : Addr} {fd : FuncData} (F : Fun K "_law_pick" "_law_pick" s_pick f fd) (T : Names mg) (C1 : Callee P w K mg base CX0 1 "_law_roll" ["dice", "upto"] spRoll) : FnOk P w K mg base CX0 2 f fd ["dice", "items"] spPick := by
  have nd := sc_pick.nd
  refine F.ok sc_pick (fun vs H Q E h => ?_) (fun cdv A outer s H vs Q E hr h => ?_)
  · obtain ⟨d, b, xs, rfl, _⟩ := h
    rfl
  · obtain ⟨d, b, xs, rfl, hd, hb, hne, hx, hl, k⟩ := h
    have h0 : 0 < xs.length := List.length_pos_iff.mpr hx
    refine ⟨_, pss_one (ps_ret (pe_ix ix_seq (pv 1) (pe_use C1 hr rfl pass0 (pa_cons (pv 0) (pa_cons (pe_callB call_len_seq (by rfl) T.len (by decide +kernel) (pa_cons (pv 1) pa_nil)) pa_nil))) (fun _ _ => rfl))), ?_⟩
    refine ⟨_, rfl, _, rfl, _, rfl, b, xs, rfl, hb.seq, ?_⟩
    refine ⟨d, _, rfl, hd, by omega, by omega, fun r H' r0 r1 s' hd' => ?_⟩
    have hj : r.toNat < xs.length := by omega
    have hb' := hb.but s' hne
    have hat : atI xs r = some xs[r.toNat] := at_of (j := r.toNat) (by omega) (List.getElem?_eq_getElem hj)
    rcases hb' with q | q
    · exact .inl ⟨b, _, _, _, rfl, rfl, SqL.of q, hat, k _ _ (List.getElem_mem hj) s' hd'⟩
    · exact .inr (.inl ⟨b, _, _, _, rfl, rfl, SqT.of q, hat, k _ _ (List.getElem_mem hj) s' hd'⟩)
end
section
variable {K : PySem.W.Frag}
theorem rd_eqKd {C : Addr} {ρ : List (Option Ob)} {te : TE} {k0 : Kd} (a : RD C ρ te (kdOb k0)) (h : ∀ ks, k0 = .key ks → ∀ z ∈ ks, PyData.strOk z = true) : RD C ρ (tOp (rEqD K) te (tC (.str "changing"))) (.bl (isC k0)) := by
  have e : PyData.eqv (kdOb k0).pd (Ob.str "changing").pd = isC k0 := by
    cases k0 with
    | chg => decide +kernel
    | fix => rfl
    | key ks => rfl
  rw [← e]
  refine rd_eqD a (rd_str "changing") ?_ rfl ?_ (by decide +kernel)
  · cases k0 with
    | chg => rfl
    | fix => rfl
    | key ks => exact areD_strs ks
  · cases k0 with
    | chg => decide +kernel
    | fix => decide +kernel
    | key ks =>
      show SeqAt.shaped (.tuple (pds (ks.map .str))) = true
      rw [pds_strs]; exact shaped_tstrs ks (h ks rfl)
def chgAt (Ls : List Ln) (t : Str) : Bool := match Ls.find? fun l => decide (l.t = t) with
  | some l => isC l.k
  | none => false
theorem chgAt_ln {Ls : List Ln} {l : Ln} (nd : (Ls.map (·.t)).Nodup) (ml : l ∈ Ls) : chgAt Ls l.t = isC l.k := by
  have h : (Ls.find? fun m => decide (m.t = l.t)) = some l := by
    cases e : Ls.find? fun m => decide (m.t = l.t) with
    | none => exact absurd (List.find?_eq_none.mp e l ml) (by simp)
    | some m =>
      have h1 := List.mem_of_find?_eq_some e
      have h2 := List.find?_some e
      simp only [decide_eq_true_eq] at h2
      rw [same_line nd ml h1 h2]
  unfold chgAt
  rw [h]
end
abbrev rListK : List V → Hp → VK → Prop := fun xs H Q => ∃ (a : Addr) (kvs : List (Key × V)), xs = [.ref a] ∧ Rd H a (.dK kvs) ∧ ∀ p, H p = none → Q (.ref p) (upd H p (.lst (kvs.map fun kv => kV kv.1)))
/-- a test that casts dice: its truth is not known -/
def EvTU (d : Addr) (σ : L2.St) (H : Hp) (tt : TT) (pb : Bool → Prop) : Prop := ∀ Q : Bool → Hp → Prop, (∀ b H', pb b → Kp (Eq1 d) H H' → Dice H' d → Q b H') → tt σ H Q
section
variable {C d : Addr} {A F G : Addr → Prop} {H0 H H' : Hp} {ρ : List (Option Ob)} {σ : L2.St} {K : PySem.W.Frag} {te ta tb tc : TE} {tt tu : TT} {t : TA} {cs ds ts xs : List Str} {Ls : List Ln} {g : Ob → Prop} {pb pc : Bool → Prop} {x : Str}
theorem rd_listK (a : RD C ρ te (.pln Ls)) : RD C ρ (tCB rListK (tCons te tNil)) (.lxs (tabsOf Ls)) :=
  rd_call1 a fun F v H Q fm r k => by
    cases r with
    | pln n e =>
      obtain ⟨kvs, hk, pr⟩ := e
      refine ⟨_, kvs, rfl, Rd.of hk, fun p hp => ?_⟩
      have e1 : (kvs.map fun kv => kV kv.1) = (tabsOf Ls).map V.str := by
        have e2 := congrArg (List.map kV) (plain_keys pr)
        rw [List.map_map, List.map_map] at e2
        exact e2
      rw [e1]
      exact k _ _ (Same.add hp) (vr_lxs (fm.fresh hp) upd_same)
theorem evc_roll {n : Int} {E : XK} (q : Sq C (Eq1 d) (Eq1 d) H0 ρ σ H) (hd : Dice H d) (a : RDs C ρ t [.own d, .int n]) (h0 : 0 < n) (h1 : n < 1073741824) : EvC C d σ H (tCall spRoll [] E t) (fun o => ∃ r, o = .int r) := fun Q k =>
  a (Eq1 d) σ H _ q.env q.fm fun vs H1 s1 rs => by
    cases rs with
    | cons r1 rs => cases rs with
      | cons r2 rs =>
        cases rs; cases r1; cases r2
        exact ⟨d, n, rfl, hd.same s1, h0, h1, fun r H' _ _ bt hd' => k _ _ _ ⟨r, rfl⟩ (fun c u nc e => bt c u nc (s1 _ _ e)) hd' (.int r)⟩
theorem evc_pick {E : XK} (q : Sq C (Eq1 d) (Eq1 d) H0 ρ σ H) (hd : Dice H d) (a : RDs C ρ t [.own d, .lxs xs]) (ne : xs ≠ []) (few : xs.length ≤ 1000) : EvC C d σ H (tCall spPick [] E t) (fun o => ∃ z ∈ xs, o = .str z) := fun Q k =>
  a (Eq1 d) σ H _ q.env q.fm fun vs H1 s1 rs => by
    cases rs with
    | cons r1 rs => cases rs with
      | cons r2 rs =>
        cases rs; cases r1
        obtain ⟨b, rfl, nb, hb⟩ := r2.lxs
        refine ⟨d, b, _, rfl, hd.same s1, .inl hb, nb, fun e => ne (List.map_eq_nil_iff.mp e), by rw [List.length_map]; exact few, fun x H' mx bt hd' => ?_⟩
        obtain ⟨z, mz, rfl⟩ := List.mem_map.mp mx
        exact k _ _ _ ⟨z, mz, rfl⟩ (fun c u nc e => bt c u nc (s1 _ _ e)) hd' (.str z)
theorem evtu_gt {g0 : Int → Int → V} {y : Int} (hg : ∀ r, ∃ b, g0 r y = .bl b) (a : EvC C d σ H te (fun o => ∃ r, o = .int r)) : EvTU d σ H (tTest (tOp (rI0 g0) te (tC (.int y)))) (fun _ => True) := fun Q k =>
  a _ fun o v H1 go kp hd rv => by
    obtain ⟨r, rfl⟩ := go
    cases rv
    obtain ⟨b, hb⟩ := hg r
    exact ⟨r, y, rfl, rfl, b, hb, k b H1 trivial kp hd⟩
theorem evtu_and {b : Bool} (hd : Dice H d) (x : EvT σ H tt b) (y : b = true → ∀ H1, Same H H1 → EvTU d σ H1 tu (fun _ => True)) : EvTU d σ H (tAnd tt tu) (fun c => c = true → b = true) := fun Q k => x _ fun H1 s1 => by
  cases b with
  | true => exact iteTk rfl (y rfl H1 s1 _ fun c H2 _ kp hd2 => k c H2 (fun _ => rfl) (Kp.trans (.same s1) kp) hd2)
  | false => exact iteFk rfl (k false H1 (fun z => z) (.same s1) (hd.same s1))
theorem evc_if (c : EvTU d σ H tt pb) (y : pb true → ∀ H1, Kp (Eq1 d) H H1 → Dice H1 d → EvC C d σ H1 ta g) (z : ∀ H1, Kp (Eq1 d) H H1 → Dice H1 d → EvC C d σ H1 tb g) : EvC C d σ H (tIf tt ta tb) g := fun Q k =>
  c _ fun b H1 hb kp hd => by
    cases b with
    | true => exact iteTk rfl (y hb H1 kp hd _ fun o v H2 go kp2 hd2 rv => k o v H2 go (kp.trans kp2) hd2 rv)
    | false => exact iteFk rfl (z H1 kp hd _ fun o v H2 go kp2 hd2 rv => k o v H2 go (kp.trans kp2) hd2 rv)
end
end B30_

/-! ## B30_82 -/
set_option Elab.async false
set_option linter.all false
set_option maxRecDepth 100000
set_option maxHeartbeats 8000000
namespace B30_
open PySem PySem.Spec PyProof.Rows L2
section
variable {P : Program} {w : World} {K : PySem.W.Frag} {mg : Str → Option Value} {base : Heap}
/-! ### closures -/
theorem role_found {Ls : List Ln} {o : Ob} {cs : List Str} (ok : LnsOk Ls) (ro : RoleIs Ls o cs) : FoundOk Ls cs := ⟨ro.nd ok, by
  rcases ro with ⟨l, ml, _, _, rfl⟩ | ⟨_, c, sub⟩
  · exact fun z hz => List.mem_flatMap.mpr ⟨l, ml, hz⟩
  · exact fun z hz => mem_colsOf.mp (sub z hz)⟩
theorem passN_ok {Ls : List Ln} {ns : List Str} (ok : LnsOk Ls) : ∀ {n : Nat} {S : List Str}, FoundOk Ls S → FoundOk Ls (passN Ls ns n S)
  | 0, _, h => h
  | n + 1, S, h => passN_ok ok (n := n) (by
      unfold pass1
      have : ∀ {ns S : List Str}, FoundOk Ls S → FoundOk Ls (ns.foldl (grow1 Ls) S) := by
        intro ns
        induction ns with
        | nil => intro S h; exact h
        | cons t r ih => intro S h; exact ih (h.grow ok t)
      exact this h)
theorem srtd_lawCl {Ls : List Ln} {cs : List Str} (ok : LnsOk Ls) (f : FoundOk Ls cs) : srtd (lawCl Ls cs (tabsOf Ls)) = closureOf Ls cs (tabsOf Ls) := by
  have h : ∀ z, z ∈ lawCl Ls cs (tabsOf Ls) ↔ z ∈ closureOf Ls cs (tabsOf Ls) := fun z => by rw [mem_lawCl, mem_closureOf]
  have nd : (closureOf Ls cs (tabsOf Ls)).Nodup := uniqS_nd _
  have fcl : FoundOk Ls (lawCl Ls cs (tabsOf Ls)) := passN_ok ok f
  rw [srtd_congr (K1.perm_of_len fcl.nd (fun z m => (h z).mp m) (nd.length_le_of_subset fun z m => (h z).mpr m))]
  unfold closureOf uniqS
  exact srtd_idem _
/-! ### _law_changing -/
abbrev s_lch : Stmt := topS 54
abbrev N_lch : List Str := ["scene", "name"]
theorem sc_lch : FnScope N_lch ["scene"] (defScope s_lch) := ⟨rfl, rfl, rfl, by decide +kernel, rfl, by decide +kernel, by decide +kernel⟩
def chL (Ls : List Ln) : List Str := (tabsOf Ls).filter (chgAt Ls)
def gLch (os : List Ob) (r : Ob) : Prop := ∃ Ls, os = [.pln Ls] ∧ PlOk Ls ∧ r = .lxs (chL Ls)
theorem mem_chL {Ls : List Ln} (ok : LnsOk Ls) {t : Str} (m : t ∈ chL Ls) : ∃ l, l ∈ Ls ∧ l.k = .chg ∧ t = l.t := by
  obtain ⟨m, h⟩ := List.mem_filter.mp m
  obtain ⟨l, ml, rfl⟩ := List.mem_map.mp m
  rw [chgAt_ln ok.nd ml] at h
  refine ⟨l, ml, ?_, rfl⟩
  cases hk : l.k with
  | chg => rfl
  | fix => rw [hk] at h; cases h
  | key ks => rw [hk] at h; cases h
theorem ok_lch {f C : Addr} {fd : FuncData} (F : Fun K "_law_changing" "_law_changing" s_lch f fd) (T : NamesS mg) : FnOk P w K mg base CX0 1 f fd ["scene"] (spP C gLch) := by
  have nd := sc_lch.nd
  refine F.ok sc_lch (fun vs H Q E h => ?_) (fun cdv A outer s H vs Q E hr h => ?_)
  · obtain ⟨F, os, r, _, rs, ⟨Ls, rfl, _⟩, _⟩ := h
    exact rs.length
  · obtain ⟨F0, os, r, fm, rs, ⟨Ls, rfl, ok, rfl⟩, k⟩ := h
    have hu := hu_of hr
    have hu64 : (A.deeper (envOfC "_law_changing" (defScope s_lch) s.heap.objs.size f cdv)).units + 64 < cLine := by have := hr.un; omega
    refine ⟨_, (pss_one
    (ps_ret (pe_lc (own := [("name", 1)]) (g := (gName 1)) (te := tVar 1) (tt := tTest (tOp (rEqD K) (tOp (rIxT K) (tDGet (tVar 0) (tVar 1)) (tC (.int 1))) (tC (.str "changing")))) rfl nd (pi_list (pe_callB (call_sortedD rfl) (by rfl) T.sorted (by decide +kernel) (pa_cons (pv 0) pa_nil))) (blkOk_by (N := N_lch) (sc := defScope s_lch) (by decide +kernel)) (fun _ _ _ _ _ => (pg_name (i := 1) nd rfl (Or.inl rfl))) (fun _ _ _ _ _ => (pts_one (pt_cmpR (op_eqD hu64) (pe_ix ix_tup (pe_dget hu (pv 0) (pv 1) (fun _ _ => rfl)) pe_int (fun _ _ => rfl)) pe_str (nomark _)))) (fun _ _ _ _ _ => (pv 1))))), ?_⟩
    have q0 : Sq C Nil F0 H [some (.pln Ls), none] (L2.start N_lch vs) H := Sq.start (N := N_lch) fm rs
    have six := ok.six
    have tl : (tabsOf Ls).length = Ls.length := List.length_map ..
    refine st_ret q0 (q0.ev (rd_lcs (cs := tabsOf Ls) (b := chgAt Ls) (ri_list ((rd_sortD (by omega) (rd_var (i := 0) rfl)).cast (o' := .lxs (tabsOf Ls)) (by rw [ok.tabs]))) (by omega) (by decide) (fun z mz => ?_) (fun z mz _ => rd_var rfl))) ?_
    · obtain ⟨l, ml, rfl⟩ := List.mem_map.mp mz
      rw [chgAt_ln ok.nd ml]
      exact rt_test (rd_eqKd (rd_ixT (j := 1) rfl (rd_plain ok.nd ml (rd_var (i := 0) rfl) (rd_var (i := 1) rfl)) (rd_int 1)) fun ks e z hz => by
        have lk := (ok.good l ml).key
        rw [e] at lk
        exact name_strOk (lk.1 z hz))
    · intro v H5 kp5 rv _ _
      exact k v H5 kp5.toSame rv
/-! ### _law_role -/
abbrev s_lro : Stmt := topS 57
abbrev N_lro : List Str := ["dice", "scene", "some"]
theorem sc_lro : FnScope N_lro ["dice", "scene"] (defScope s_lro) := ⟨rfl, rfl, rfl, by decide +kernel, rfl, by decide +kernel, by decide +kernel⟩
abbrev gRo : List Ob → Ob → Prop := fun os r => ∃ Ls cs, os = [.pln Ls] ∧ RoleIs Ls r cs
theorem ok_lro {f C : Addr} {fd : FuncData} (F : Fun K "_law_role" "_law_role" s_lro f fd) (C1 : Callee P w K mg base CX0 1 "_law_roll" ["dice", "upto"] spRoll) (C2 : Callee P w K mg base CX0 2 "_law_pick" ["dice", "items"] spPick) (CC : Callee P w K mg base CX0 1 "_law_changing" ["scene"] (spP C gLch)) (CD : Callee P w K mg base CX0 4 "_law_door" ["dice", "scene"] (spDi C preDo gDo)) : FnOk P w K mg base CX0 5 f fd ["dice", "scene"] (spDi C preDo gRo) := by
  have nd := sc_lro.nd
  refine F.ok sc_lro (fun vs H Q E h => ?_) (fun cdv A outer s H vs Q E hr h => ?_)
  · obtain ⟨d, vs', os, rfl, _, rs, ⟨Ls, rfl, _⟩, _⟩ := h
    show vs'.length + 1 = 2
    rw [rs.length]; rfl
  · obtain ⟨d, vs', os, rfl, hd, rs, ⟨Ls, rfl, ok⟩, k⟩ := h
    have hr1 : Room 1 _ := hr.mono (by decide)
    have hr2 : Room 2 _ := hr.mono (by decide)
    have hu64 : (A.deeper (envOfC "_law_role" (defScope s_lro) s.heap.objs.size f cdv)).units + 64 < cLine := by have := hr.un; omega
    refine ⟨_, (pss_cons
    (ps_set (i := 2) nd rfl (Or.inl rfl) (pe_use CC hr1 rfl pass0 (pa_cons (pv 1) pa_nil)))
    (pss_one
    (ps_ret (pe_ifExp (PW.pt (pw_and (pt_cmpR (op_neD hu64) (pv 2) (pe_lst pa_nil) (nomark _)) (pw_and1 (pt_cmpR op_gt (pe_use C1 hr1 rfl pass0 (pa_cons (pv 0) (pa_cons pe_int pa_nil))) pe_int (nomark _))))) (pe_use C2 hr2 rfl pass0 (pa_cons (pv 0) (pa_cons (pv 2) pa_nil))) (pe_use CD hr rfl pass0 (pa_cons (pv 0) (pa_cons (pv 1) pa_nil))))))), ?_⟩
    have q0 : Sq C (Eq1 d) (Eq1 d) H [some (.own d), some (.pln Ls), none] (L2.start N_lro (.ref d :: vs')) H := Sq.start (N := N_lro) (os := [.own d, .pln Ls]) (fm_dice hd) (.cons (.own d) rs)
    have lk := ok.toLnsOk
    have six := ok.six
    have tl : (tabsOf Ls).length = Ls.length := List.length_map ..
    have fewc : (chL Ls).length ≤ 6 := by have : (chL Ls).length ≤ _ := List.length_filter_le _ _; omega
    refine seq (st_set q0 (q0.ev (rd_call (rds_one (rd_var (i := 1) rfl)) ⟨Ls, rfl, ok, rfl⟩)) fun v1 H1 s1 q1 => ?_)
    dsimp only
    have hd1 := hd.same s1
    refine st_retC (g := gRo [.pln Ls]) q1 (evc_if (pb := fun c => c = true → (!decide (chL Ls = [])) = true) (evtu_and (b := !decide (chL Ls = [])) hd1 (q1.evt (rt_test (rd_neLs (cs := chL Ls) (ds := []) (rd_var (i := 2) rfl) (rd_lst rds_nil (by decide)) (fun z m => name_strOk (tabs_name lk z (List.mem_filter.mp m).1)) (by simp)))) fun _ H2 s2 => evtu_gt (fun r => ⟨_, rfl⟩) (evc_roll (C := C) (E := E) (q1.same s2) (hd1.same s2) (rds_cons (rd_var (i := 0) rfl) (rds_one (rd_int 3))) (by decide) (by decide))) (fun hb H2 kp2 hd2 => ?_) (fun H2 kp2 hd2 => ?_)) ?_
    · have ne : chL Ls ≠ [] := fun e => by have := hb rfl; rw [e] at this; simp at this
      refine evc_mono (evc_pick (xs := chL Ls) (q1.kpC kp2 hd2) hd2 (rds_cons (rd_var (i := 0) rfl) (rds_one (rd_var (i := 2) rfl))) ne (by omega)) ?_
      rintro o ⟨z, mz, rfl⟩
      obtain ⟨l, ml, lk, rfl⟩ := mem_chL lk mz
      exact ⟨Ls, l.cs, rfl, .inl ⟨l, ml, lk, rfl, rfl⟩⟩
    · refine evc_mono (evc_call (os := [.pln Ls]) (q1.kpC kp2 hd2) hd2 (rds_cons (rd_var (i := 0) rfl) (rds_one (rd_var (i := 1) rfl))) ⟨Ls, rfl, ok⟩) ?_
      rintro o ⟨Ls', cs, e, rfl, c, sub⟩
      cases e
      exact ⟨Ls, cs, rfl, .inr ⟨rfl, c, sub⟩⟩
    · intro o v H2 go kp2 hd2 rv
      exact k o v H2 go kp2 hd2 rv
/-! ### _law_role_columns -/
abbrev s_lrc : Stmt := topS 58
theorem sc_lrc : FnScope N_sro ["scene", "role"] (defScope s_lrc) := ⟨rfl, rfl, rfl, by decide +kernel, rfl, by decide +kernel, by decide +kernel⟩
def gLrc (os : List Ob) (r : Ob) : Prop := ∃ (Ls : List Ln) (o : Ob) (cs : List Str), os = [.pln Ls, o] ∧ LnsOk Ls ∧ RoleIs Ls o cs ∧ r = .txs cs
theorem ok_lrc {f C : Addr} {fd : FuncData} (F : Fun K "_law_role_columns" "_law_role_columns" s_lrc f fd) (T : NamesS mg) (hstr : mg "str" = none) : FnOk P w K mg base CX0 1 f fd ["scene", "role"] (spP C gLrc) := by
  have nd := sc_lrc.nd
  refine F.ok sc_lrc (fun vs H Q E h => ?_) (fun cdv A outer s H vs Q E hr h => ?_)
  · obtain ⟨F, os, r, _, rs, ⟨Ls, o, cs, rfl, _⟩, _⟩ := h
    exact rs.length
  · obtain ⟨F0, os, r, fm, rs, ⟨Ls, o, cs, rfl, ok, ro, rfl⟩, k⟩ := h
    have hu := hu_of hr
    refine ⟨_, (pss_one
    (ps_ret (pe_ifExp (pt_val (pe_callB (r := rIsi K) call_isi (by rfl) T.isinstance (by decide +kernel) (pa_cons (pv 1) (pa_cons (pe_bltn (v := .ty "str") (by rfl) hstr (by decide +kernel) rfl) pa_nil)))) (pe_ix ix_tup (pe_dget hu (pv 0) (pv 1) (fun _ _ => rfl)) pe_int (fun _ _ => rfl)) (pv 1)))), ?_⟩
    have q0 : Sq C Nil F0 H [some (.pln Ls), some o] (L2.start N_sro vs) H := Sq.start (N := N_sro) fm rs
    rcases ro with ⟨l, ml, lk, rfl, rfl⟩ | ⟨rfl, c, sub⟩
    · refine st_ret q0 (q0.ev (rd_ifx (b := true) (rt_b (rd_isStrT (K := K) (rd_var (i := 1) rfl))) (fun _ => rd_ixT (j := 0) rfl (rd_plain ok.nd ml (rd_var (i := 0) rfl) (rd_var (i := 1) rfl)) (rd_int 0)) (fun z => by cases z))) ?_
      intro v H5 kp5 rv _ _
      exact k v H5 kp5.toSame rv
    · refine st_ret q0 (q0.ev (rd_ifx (b := false) (rt_b (rd_isStrF (K := K) (rd_var (i := 1) rfl))) (fun z => by cases z) (fun _ => rd_var (i := 1) rfl))) ?_
      intro v H5 kp5 rv _ _
      exact k v H5 kp5.toSame rv
end
end B30_

/-! ## B30_84 -/
set_option Elab.async false
set_option linter.all false
set_option maxRecDepth 100000
set_option maxHeartbeats 8000000
namespace B30_
open PySem PySem.Spec PyProof.Rows L2
section
variable {C : Addr} {A F : Addr → Prop} {H0 H : Hp} {ρ : List (Option Ob)} {σ : L2.St} {te : TE} {tt : TT} {o : Ob} {os us : List Ob} {i j : Nat} {p r : Addr} {b : Bool}
/-- two lists of one's own, lent for the time being -/
theorem Sq.lend2 (q : Sq C A F H0 ρ σ H) (hi : ρ[i]? = some (some (.own p))) (hj : ρ[j]? = some (some (.own r))) (ij : i ≠ j) (a : OL C F H p os) (c : OL C F H r us) : EnvD C (Less (Less F p) r) H σ ((ρ.set i (some (.lst os))).set j (some (.lst us))) ∧ Fm (Less (Less F p) r) H := by
  obtain ⟨_, xs, hx, rx⟩ := a
  obtain ⟨_, ys, hy, ry⟩ := c
  have e1 := q.env.lendL (j := i) hi hx rx
  have hj' : (ρ.set i (some (.lst os)))[j]? = some (some (.own r)) := by rw [List.getElem?_set, if_neg ij]; exact hj
  exact ⟨e1.lendL (j := j) hj' hy (ry.mono fun b hb => hb.1), (q.fm.lend p).lend r⟩
theorem Sq.evlt2 (q : Sq C A F H0 ρ σ H) (hi : ρ[i]? = some (some (.own p))) (hj : ρ[j]? = some (some (.own r))) (ij : i ≠ j) (a : OL C F H p os) (c : OL C F H r us) (t : RT C ((ρ.set i (some (.lst os))).set j (some (.lst us))) tt b) : EvT σ H tt b := fun Q k => by
  obtain ⟨e, fm⟩ := q.lend2 hi hj ij a c
  exact t _ σ H Q e fm k
theorem Sq.evl2 (q : Sq C A F H0 ρ σ H) (hi : ρ[i]? = some (some (.own p))) (hj : ρ[j]? = some (some (.own r))) (ij : i ≠ j) (a : OL C F H p os) (c : OL C F H r us) (t : RD C ((ρ.set i (some (.lst os))).set j (some (.lst us))) te o) : Ev C (Less (Less F p) r) σ H te o := fun Q k => by
  obtain ⟨e, fm⟩ := q.lend2 hi hj ij a c
  exact t _ σ H Q e fm k
end
/-- the columns that a step adds, as the law's list and as the program's dict have them -/
theorem mem_addAll' {ks cs S : List Str} (h : ∀ c, c ∈ S ↔ c ∈ ks) : ∀ c, c ∈ S ++ cs.filter (fun c => !decide (c ∈ S)) ↔ c ∈ addAll ks cs := fun c => by
  rw [mem_addAll, List.mem_append, List.mem_filter]
  constructor
  · rintro (a | a)
    · exact .inl ((h c).mp a)
    · exact .inr a.1
  · rintro (a | a)
    · exact .inl ((h c).mpr a)
    · by_cases m : c ∈ S
      · exact .inl m
      · exact .inr ⟨a, by simp [m]⟩
/-- .. and what is ready next -/
theorem ready_same {Ls : List Ln} {ks S used : List Str} (h : ∀ c, c ∈ S ↔ c ∈ ks) (t : Str) : readyB Ls S used t = readyB Ls ks used t := by
  unfold readyB
  cases keyOf Ls t with
  | none => rfl
  | some k0 =>
    simp only
    congr 1
    rw [Bool.eq_iff_iff, List.all_eq_true, List.all_eq_true]
    exact forall_congr' fun c => forall_congr' fun _ => by rw [decide_eq_true_eq, decide_eq_true_eq, h]
theorem ready_head {Ls : List Ln} {ks used ts : List Str} : (ts.filter (readyB Ls ks used)).head? = nextStep Ls ks ts used := by
  unfold nextStep
  induction ts with
  | nil => rfl
  | cons t r ih =>
    rw [List.filter_cons, List.find?_cons]
    split
    · rename_i h; rw [h]; rfl
    · rename_i h
      rw [Bool.not_eq_true] at h
      rw [h]; exact ih
theorem ready_ln {Ls : List Ln} {S used : List Str} {l : Ln} (nd : (Ls.map (·.t)).Nodup) (ml : l ∈ Ls) : readyB Ls S used l.t = (!decide (l.t ∈ used) && firesB S l.k) := by
  unfold readyB
  rw [keyOf_ln nd ml]
  cases hk : l.k with
  | chg => simp [firesB]
  | fix => simp [firesB]
  | key ks =>
    simp only [firesB]
    congr 1
    rw [Bool.eq_iff_iff, List.all_eq_true, decide_eq_true_eq]
    unfold outOf
    rw [filt_nil]
    simp
end B30_

/-! ## B30_85 -/
set_option Elab.async false
set_option linter.all false
set_option maxRecDepth 100000
set_option maxHeartbeats 8000000
namespace B30_
open PySem PySem.Spec PyProof.Rows L2
theorem cr_or {X : Cx} {f : Value} {r1 r2 : List V → Hp → VK → Prop} (a : CallR X f r1) (b : CallR X f r2) : CallR X f (fun xs H Q => r1 xs H Q ∨ r2 xs H Q) := fun pins s σ H xs us Q I rv h => h.elim (a pins s σ H xs us Q I rv) (b pins s σ H xs us Q I rv)
abbrev rSortTS2 (K : PySem.W.Frag) : List V → Hp → VK → Prop := fun xs H Q => ∃ (a : Addr) (zs : List Str), xs = [.ref a] ∧ SqT K H a (zs.map V.str) ∧ ∀ (ys : List Str) p, ys.Perm zs → sortedS ys = true → H p = none → Q (.ref p) (upd H p (.lst (ys.map V.str)))
abbrev rSortAny (K : PySem.W.Frag) : List V → Hp → VK → Prop := fun xs H Q => rSortedS K xs H Q ∨ rSortTS2 K xs H Q
theorem walkN_congr {Ls : List Ln} {ts : List Str} : ∀ (n : Nat) {h h' used : List Str}, (∀ c, c ∈ h ↔ c ∈ h') → walkN Ls ts n h used = walkN Ls ts n h' used
  | 0, _, _, _, _ => rfl
  | n + 1, h, h', used, e => by
    have en : nextStep Ls h ts used = nextStep Ls h' ts used := by
      unfold nextStep
      exact congrArg (fun f => ts.find? f) (funext fun t => ready_same e t)
    unfold walkN
    rw [en]
    cases nextStep Ls h' ts used with
    | none => rfl
    | some t => exact walkN_congr n fun c => by rw [mem_addAll, mem_addAll, e]
section
variable {C d : Addr} {A F G : Addr → Prop} {H0 H H' : Hp} {ρ : List (Option Ob)} {σ : L2.St} {K : PySem.W.Frag} {te ta tb tc : TE} {tt tu : TT} {t : TA} {os us : List Ob} {o : Ob} {cs ds ts xs : List Str}
theorem rd_sortAny {y : Ob} (hy : y = .txs cs ∨ y = .lxs cs) (few : cs.length < 64) (a : RD C ρ te y) : RD C ρ (tCB (rSortAny K) (tCons te tNil)) (.lxs (srtd cs)) :=
  rd_call1 a fun F v H Q fm r k => by
    rcases hy with rfl | rfl
    · obtain ⟨p, rfl, h⟩ := r.txs
      refine .inr ⟨p, cs, rfl, SqT.of h, fun ys q pm so hq => ?_⟩
      obtain rfl := srtd_of pm so
      exact k _ _ (Same.add hq) (vr_lxs (fm.fresh hq) upd_same)
    · obtain ⟨p, rfl, n, h⟩ := r.lxs
      refine .inl ⟨p, cs, rfl, SqL.of h, few, fun ys q pm so hq => ?_⟩
      obtain rfl := srtd_of pm so
      exact k _ _ (Same.add hq) (vr_lxs (fm.fresh hq) upd_same)
end
section
variable {C : Addr} {A F : Addr → Prop} {H0 H H' : Hp} {ρ : List (Option Ob)} {σ : L2.St} {cs : List Str} {p r : Addr}
theorem olS (fp : F p) (h : H p = some (.lst (cs.map V.str))) : OL C F H p (cs.map .str) := ⟨fp, _, h, vrs_strs _⟩
theorem OL.txt (h : OL C F H p (cs.map .str)) : H p = some (.lst (cs.map V.str)) := by
  obtain ⟨_, xs, e, rs⟩ := h
  rw [e, rs.strs]
theorem Sq.plus2 {xs ys : List V} (q : Sq C A F H0 ρ σ H) (hp : H p = none) (hr : H r = none) (s : Same H H') (h1 : H' p = some (.lst xs)) (h2 : H' r = some (.lst ys)) : Sq C A (Plus (Plus F p) r) H0 ρ σ H' := by
  refine ⟨q.kp.trans (.same s), ⟨q.env.1, fun i o z => (q.env.2 i o z).imp fun v y => ⟨y.1, (y.2.grow (G := Plus (Plus F p) r) fun b hb => ?_).kpG q.fm (.same s) fun _ z => .inl (.inl z)⟩⟩, fun b hb => ?_⟩
  · rcases hb with (hb | rfl) | rfl
    · exact (q.fm.same s) b hb
    · exact ⟨_, h1, mo_lst _⟩
    · exact ⟨_, h2, mo_lst _⟩
  · rcases hb with (hb | rfl) | rfl
    · exact .inl hb
    · exact .inr hp
    · exact .inr hr
end
end B30_

/-! ## B30_86r -/
set_option Elab.async false
set_option linter.all false
set_option maxRecDepth 100000
set_option maxHeartbeats 8000000
namespace B30_
open PySem PySem.Spec PyProof.Rows L2
theorem RoleIs.cols {Ls : List Ln} {o : Ob} {cs : List Str} (ok : PlOk Ls) (ro : RoleIs Ls o cs) : Cols cs := by
  rcases ro with ⟨l, ml, lk, rfl, rfl⟩ | ⟨rfl, c, sub⟩
  · have e : srtd l.cs = l.cs := congrArg Ln.cs (ok.each l ml)
    have lo := ok.good l ml
    rw [← e]
    exact cols_srtd lo.nd lo.cols
  · exact c
section
variable {C d : Addr} {A F G : Addr → Prop} {H0 H H' : Hp} {ρ : List (Option Ob)} {σ : L2.St} {K : PySem.W.Frag} {te ta tb tc : TE} {tt tu : TT} {t : TA} {os us : List Ob} {o x y : Ob} {cs ds ts xs : List Str} {Ls : List Ln} {D : Ends} {i j : Nat}
/-- a, b = a list of two -/
theorem st_pairL (q : Sq C A F H0 ρ σ H) (ev : Ev C F σ H te (.lst [x, y])) (k : ∀ v w H', Same H H' → Sq C A F H0 ((ρ.set i (some x)).set j (some y)) ((σ.set i (some v)).set j (some w)) H' → D.nx ((σ.set i (some v)).set j (some w)) H') : tAsg te (gLst K 2 (gCons (gName i) (gCons (gName j) gNil))) D σ H :=
  ev _ fun v H' s rv => by
    cases rv with
    | lst n h rs => cases rs with
      | cons r1 rs => cases rs with
        | cons r2 rs =>
          cases rs
          have q1 := q.same s
          exact ⟨_, _, rfl, SqL.of h, rfl, _, _, rfl, _, _, rfl, rfl, k _ _ H' s ⟨q1.kp, (q1.env.set i r1).set j r2, q1.fm⟩⟩
end
end B30_

/-! ## C26 -/
set_option Elab.async false
set_option linter.all false
set_option maxRecDepth 100000
set_option maxHeartbeats 4000000
namespace K1
open PySem PySem.Spec PyProof.Rows L2
/-! ### sorted of a list of data -/
abbrev rSortG (K : PySem.W.Frag) : List V → Hp → VK → Prop := fun xs H Q => ∃ (a : Addr) (bs : List (V × PyData)), xs = [.ref a] ∧ SqL K H a (bs.map (·.1)) ∧ (∀ b ∈ bs, Dp K H b.1 b.2) ∧ PySem.W.AllAlike (bs.map (·.2)) ∧ PySem.W.Sortable (bs.map (·.2)) ∧ bs.length ≤ 1000 ∧ (∀ b ∈ bs, b.2.depth ≤ 50) ∧
  ∀ p, H p = none → Q (.ref p) (upd H p (.lst ((bs.mergeSort (PySem.W.dataLe false (·.2))).map (·.1))))
theorem eachIs_vals {R : Value → (V × PyData) → Prop} (h : ∀ v b, R v b → RelV b.1 v) : ∀ {out : List Value} {bs : List (V × PyData)}, PySem.W.EachIs R out bs → Vals (bs.map (·.1)) out
  | _, _, .nil => .nil
  | _, _, .cons a b => .cons (h _ _ a) (eachIs_vals h b)
theorem vals_eachIs {X : Cx} {pins : List (Addr × Obj)} {σ : L2.St} {H : Hp} {s : Shared} (I : Inv X pins σ H s) : ∀ {its : List Value} {bs : List (V × PyData)}, Vals (bs.map (·.1)) its → (∀ b ∈ bs, Dp X.K H b.1 b.2) → PySem.W.EachIs (fun v b => RelV b.1 v ∧ ∃ as, Reads s.heap v b.2 as) its bs
  | [], [], _, _ => .nil
  | _ :: _, [], h, _ => by cases h
  | [], _ :: _, h, _ => by cases h
  | v :: its, b :: bs, h, d => by
    cases h with
    | cons r t => exact .cons ⟨r, Dp.reads I b.2 b.1 v (d b List.mem_cons_self) r⟩ (vals_eachIs I t fun c hc => d c (List.mem_cons_of_mem _ hc))
section
variable {X : Cx}
theorem cr_sortedG (hu : X.A.units + 64 < cLine) : CallR X (.builtin "sorted") (rSortG X.K) := by
  intro pins s σ H xs us Q I r h
  obtain ⟨a, bs, rfl, hs, hd, al, so, few, dep, q⟩ := h
  obtain ⟨its, rv, hl, hz⟩ := I.list hs
  rw [Vals.ref1 r]
  have e := vals_eachIs I rv hd
  refine PySem.W.sorted_data (vs := its) (bs := bs) (enc := (·.2)) (R := fun v b => RelV b.1 v) hl.isList (e.mono fun _ _ z => z.1) (e.mono fun _ _ z => z.2) al so (by rw [sizeLine_eq]; omega) (fun b hb => by have := dep b hb; omega) fun out ho eo => ?_
  obtain ⟨ep, he'⟩ := PyProof.Rows.sortedAll_at s.heap its out.toArray
  have vs := eachIs_vals (fun _ _ z => z) eo
  have hlen : ((bs.mergeSort (PySem.W.dataLe false (·.2))).map (·.1)).length ≤ sizeLine := by rw [List.length_map, List.length_mergeSort, sizeLine_eq]; omega
  exact ⟨.ref _, upd H (s.heap.objs.size + 1) (.lst _), I.laid (t' := s.toks) (fun _ _ => PyProof.Rows.sortedAll_old) (Nat.le_succ _) ⟨hlen, out, ep, vs, he'⟩, rfl, q _ (I.hok.fresh (Nat.le_succ _))⟩
end
end K1

/-! ## B30_48 -/
set_option Elab.async false
set_option linter.all false
set_option maxRecDepth 100000
set_option maxHeartbeats 4000000
namespace B30_
open PySem PySem.Spec PyProof.Rows L2
/-! ### walks that may make new objects; targets -/
/-- what is walked gives the data os, one by one; each may be new -/
def RI2 (C : Addr) (ρ : List (Option Ob)) (wi : TI) (os : List Ob) : Prop := ∀ (F : Addr → Prop) σ H (R : It → Hp → Prop), EnvD C F H σ ρ → Fm F H →
  (∀ J H1 (W : Hp → Prop) (Y : Nat → Hp → V → Hp → Prop), Same H H1 → Walk J os.length W Y → (∀ H2, Kp F H1 H2 → W H2) → (∀ i H2 x H3, i < os.length → Kp F H1 H2 → Y i H2 x H3 → Same H2 H3 ∧ ∃ o, os[i]? = some o ∧ ∀ G : Addr → Prop, (∀ p, F p → G p) → (∀ p, G p → F p ∨ H1 p = none) → Fm G H2 → VR C G H3 x o) → R J H1) → wi σ H R
/-- the data o is put into a target -/
def RG (C : Addr) (vs : List Nat) (g : TG) (o : Ob) (up : List (Option Ob) → List (Option Ob)) : Prop := ∀ (F : Addr → Prop) σ H ρ v (Q : L2.St → Hp → Prop), EnvD C F H σ ρ → VR C F H v o → (∀ σ', EnvD C F H σ' (up ρ) → (∀ j, j ∉ vs → σ'[j]? = σ[j]?) → σ'.length = σ.length → Q σ' H) → g v σ H Q
section
variable {C : Addr} {A F G : Addr → Prop} {H0 H H' : Hp} {ρ : List (Option Ob)} {σ : L2.St} {K : PySem.W.Frag} {te ta tb : TE} {tt tu : TT} {t : TA} {os us : List Ob} {o x y : Ob} {wi wi1 : TI} {vs vs1 : List Nat} {i j n : Nat} {p : Addr} {g g1 : TG} {D : Ends}
variable {α β : Type} {enc : α → Ob} {L : List α}
theorem RI.two (h : RI C ρ wi os) : RI2 C ρ wi os := fun F σ H R e fm k => h F σ H R e fm fun J H1 W Y s wk hW hY => k J H1 W Y s wk hW fun i H2 x H3 hi kp y => by
  obtain ⟨rfl, o, ho, ro⟩ := hY i H2 x H3 hi kp y
  exact ⟨Same.refl _, o, ho, fun G a b _ => ro G a b⟩
theorem rg_name (h : i ∈ vs) : RG C vs (gName i) o (fun ρ => ρ.set i (some o)) := fun F σ H ρ v Q e r k => k _ (e.set i r) (fun j hj => by rw [List.getElem?_set, if_neg (show ¬ i = j from fun z => hj (z ▸ h))]) (by simp)
theorem rg_pair (h : i ∈ vs) (h2 : j ∈ vs) : RG C vs (gTup K 2 (gCons (gName i) (gCons (gName j) gNil))) (.tup [x, y]) (fun ρ => (ρ.set i (some x)).set j (some y)) := fun F σ H ρ v Q e r k => by
  cases r with
  | tup e1 rs => cases rs with
    | cons r1 rs => cases rs with
      | cons r2 rs =>
        cases rs
        exact ⟨_, _, rfl, SqT.of e1, rfl, _, _, rfl, _, _, rfl, rfl, k _ ((e.set i r1).set j r2) (fun l hl => by rw [List.getElem?_set, if_neg (show ¬ j = l from fun z => hl (z ▸ h2)), List.getElem?_set, if_neg (show ¬ i = l from fun z => hl (z ▸ h))]) (by simp)⟩
theorem rg_pairL (h : i ∈ vs) (h2 : j ∈ vs) : RG C vs (gLst K 2 (gCons (gName i) (gCons (gName j) gNil))) (.lst [x, y]) (fun ρ => (ρ.set i (some x)).set j (some y)) := fun F σ H ρ v Q e r k => by
  cases r with
  | lst _ e1 rs => cases rs with
    | cons r1 rs => cases rs with
      | cons r2 rs =>
        cases rs
        exact ⟨_, _, rfl, SqL.of e1, rfl, _, _, rfl, _, _, rfl, rfl, k _ ((e.set i r1).set j r2) (fun l hl => by rw [List.getElem?_set, if_neg (show ¬ j = l from fun z => hl (z ▸ h2)), List.getElem?_set, if_neg (show ¬ i = l from fun z => hl (z ▸ h))]) (by simp)⟩
theorem wipe_at : ∀ (vs : List Nat) (τ : L2.St) (j : Nat), (wipe τ vs)[j]? = if j ∈ vs then (τ[j]?).map fun _ => none else τ[j]? := by
  intro vs τ j
  induction vs with
  | nil => simp [wipe]
  | cons v r ih =>
    show ((wipe τ r).set v none)[j]? = _
    rw [List.getElem?_set]
    by_cases q : v = j
    · subst q
      rw [if_pos rfl, if_pos List.mem_cons_self]
      rw [wipe_length]
      cases e : τ[v]? with
      | none => rw [if_neg (by simpa using e)]; rfl
      | some y => rw [if_pos (List.getElem?_eq_some_iff.mp e).1]; rfl
    · rw [if_neg q, ih]
      have : (j ∈ v :: r) ↔ j ∈ r := by simp [Ne.symm q]
      simp only [this]
theorem wipe_of {σ σ' : L2.St} {vs : List Nat} (h : ∀ j, j ∉ vs → σ'[j]? = (wipe σ vs)[j]?) (l : σ'.length = σ.length) : wipe σ' vs = wipe σ vs := by
  refine List.ext_getElem? fun j => ?_
  rw [wipe_at]
  by_cases m : j ∈ vs
  · rw [if_pos m, wipe_at, if_pos m]
    cases e : σ'[j]? with
    | none =>
      have : σ[j]? = none := by
        rw [List.getElem?_eq_none_iff] at e ⊢; omega
      rw [this]
    | some a =>
      have lt := (List.getElem?_eq_some_iff.mp e).1
      rw [List.getElem?_eq_getElem (show j < σ.length by omega)]
      rfl
  · rw [if_neg m]; exact h j m
theorem filt_snocA {xs : List α} {i : Nat} {x : α} {b : α → Bool} {r : α → β} (h : xs[i]? = some x) : ((xs.take (i + 1)).filter b).map r = ((xs.take i).filter b).map r ++ (if b x = true then [r x] else []) := by
  rw [take_snoc h, List.filter_append, List.map_append]
  congr 1
  cases e : b x <;> simp [e]
/-! ### comprehensions, of any data -/
theorem rd_lcA {up : α → List (Option Ob) → List (Option Ob)} {b : α → Bool} {r : α → Ob} (S : RI2 C ρ wi (L.map enc)) (few : L.length ≤ 1000) (hg : ∀ a ∈ L, RG C vs g (enc a) (up a))
    (hb : ∀ a ∈ L, RT C (up a (wipeR ρ vs)) tt (b a)) (hr : ∀ a ∈ L, b a = true → RD C (up a (wipeR ρ vs)) te (r a)) : RD C ρ (tLc wi g tt te vs) (.lst ((L.filter b).map r)) := fun F σ H Q e fm k => by
  refine S F σ H _ e fm fun J H1 W Y s1 wk hW hY D hD => ?_
  have fm1 := fm.same s1
  have nF : ¬ F D := fm1.fresh hD
  have e1 : EnvD C (Plus F D) H1 σ ρ := (e.same fm s1).grow hD
  rw [List.length_map] at wk
  refine lc_it wk (fun i H' => Same H1 H' ∧ ∃ vs', H' D = some (.lst vs') ∧ VRs C (Plus F D) H' vs' (((L.take i).filter b).map r)) ⟨Same.add hD, [], upd_same, .nil⟩ (fun i H' _ p => hW H' (.same p.1)) (fun i x H2 H3 hi p y => ?_) (fun H2 p => ?_)
  · obtain ⟨s2, acc, hacc, ra⟩ := p
    obtain ⟨s3, o, ho, ro⟩ := hY i H2 x H3 (by simpa using hi) (.same s2) y
    rw [List.getElem?_map] at ho
    obtain ⟨a, ha, rfl⟩ := Option.map_eq_some_iff.mp ho
    have mo := List.mem_of_getElem? ha
    have fm2 : Fm (Plus F D) H2 := (fm1.same s2).plus hacc (mo_lst _)
    have fm3 := fm2.same s3
    have ra3 := ra.same fm2 s3
    have hacc3 := s3 _ _ hacc
    have e2 : EnvD C (Plus F D) H3 (wipe σ vs) (wipeR ρ vs) :=
      ((show EnvD C (Plus F D) H2 σ ρ from ⟨e1.1, fun i o q => (e1.2 i o q).imp fun v z => ⟨z.1, z.2.kpG fm1 (.same s2) fun _ => .inl⟩⟩).same fm2 s3).wipe vs
    refine hg a mo (Plus F D) _ H3 _ x _ e2 (ro _ (fun _ => .inl) (fun p hp => hp.imp id fun (z : p = D) => z ▸ hD) fm2) fun σ' e4 off len => ⟨wipe_of off (by rw [len, wipe_length]), hb a mo _ _ _ _ e4 fm3 fun H4 s4 => ?_⟩
    have fm4 := fm3.same s4
    have ra4 := ra3.same fm3 s4
    cases eb : b a with
    | true =>
      refine iteTk rfl (hr a mo eb _ _ _ _ (e4.same fm3 s4) fm4 fun v H5 s5 r5 => ?_)
      have h5 := s5 _ _ (s4 _ _ hacc3)
      have fm5 := fm4.same s5
      have ra5 := ra4.same fm4 s5
      have kpD : ∀ u, Kp (Plus F D) H5 (upd H5 D (.lst u)) := fun u b o n q => by rw [upd_ne (fun z => n (.inr z))]; exact q
      refine ⟨acc, h5, ?_, fun c u q => ?_, acc ++ [v], upd_same, ?_⟩
      · rw [ra5.length, List.length_map]
        have l1 := List.length_filter_le b (L.take i)
        rw [List.length_take] at l1
        rw [sizeLine_eq]; omega
      · rw [upd_ne (fun z => by rw [z, hD] at q; cases q)]; exact s5 _ _ (s4 _ _ (s3 _ _ (s2 _ _ q)))
      · rw [filt_snocA ha, if_pos eb]
        exact (ra5.app (.cons r5 .nil)).kp fm5 (kpD _)
    | false =>
      refine iteFk rfl ⟨fun c u q => s4 _ _ (s3 _ _ (s2 _ _ q)), acc, s4 _ _ hacc3, ?_⟩
      rw [filt_snocA ha, eb]
      simpa using ra4
  · obtain ⟨s2, acc, hacc, ra⟩ := p
    rw [List.take_length] at ra
    exact k _ H2 (s1.trans s2) (.lst nF hacc (ra.mono fun _ => .inl))
/-- [e for x in L] -/
theorem rd_lcM {up : α → List (Option Ob) → List (Option Ob)} {r : α → Ob} (S : RI2 C ρ wi (L.map enc)) (few : L.length ≤ 1000) (hg : ∀ a ∈ L, RG C vs g (enc a) (up a)) (hr : ∀ a ∈ L, RD C (up a (wipeR ρ vs)) te (r a)) : RD C ρ (tLc wi g tYes te vs) (.lst (L.map r)) := by
  have h := rd_lcA (b := fun _ => true) (r := r) (tt := tYes) S few hg (fun _ _ => rt_yes) (fun a m _ => hr a m)
  rw [List.filter_eq_self.mpr (fun _ _ => rfl)] at h
  exact h
theorem rd_anyA {up : α → List (Option Ob) → List (Option Ob)} {q : α → Bool} (S : RI2 C ρ wi (L.map enc)) (few : L.length ≤ 1000) (hg : ∀ a ∈ L, RG C vs g (enc a) (up a)) (hr : ∀ a ∈ L, RD C (up a (wipeR ρ vs)) te (.bl (q a))) :
    RD C ρ (tCB (rAny K) (tCons (tLc wi g tYes te vs) tNil)) (.bl (L.any q)) := by
  have h := rd_lcM (r := fun a => .bl (q a)) S few hg hr
  rw [show L.map (fun a => Ob.bl (q a)) = (L.map q).map .bl by rw [List.map_map]; rfl] at h
  refine (rd_any h).cast (congrArg Ob.bl ?_)
  rw [List.any_map]; rfl
theorem rd_allA {up : α → List (Option Ob) → List (Option Ob)} {q : α → Bool} (S : RI2 C ρ wi (L.map enc)) (few : L.length ≤ 1000) (hg : ∀ a ∈ L, RG C vs g (enc a) (up a)) (hr : ∀ a ∈ L, RD C (up a (wipeR ρ vs)) te (.bl (q a))) :
    RD C ρ (tCB (rAll K) (tCons (tLc wi g tYes te vs) tNil)) (.bl (L.all q)) := by
  have h := rd_lcM (r := fun a => .bl (q a)) S few hg hr
  rw [show L.map (fun a => Ob.bl (q a)) = (L.map q).map .bl by rw [List.map_map]; rfl] at h
  refine (rd_all h).cast (congrArg Ob.bl ?_)
  rw [List.all_map]; rfl
/-- [e for x in L for y in f x] -/
theorem rd_lc2A {enc1 : β → Ob} {f : α → List β} {b : α → Bool} {c : α → β → Bool} {r : α → β → Ob} {up : α → List (Option Ob) → List (Option Ob)} {up1 : α → β → List (Option Ob) → List (Option Ob)} (S : RI2 C ρ wi (L.map enc)) (few : (L.flatMap f).length ≤ 1000) (hg : ∀ a ∈ L, RG C vs g (enc a) (up a))
    (hb : ∀ a ∈ L, RT C (up a (wipeR ρ vs)) tt (b a)) (S1 : ∀ a ∈ L, b a = true → RI2 C (up a (wipeR ρ vs)) wi1 ((f a).map enc1)) (hg1 : ∀ a ∈ L, ∀ z ∈ f a, RG C vs1 g1 (enc1 z) (up1 a z))
    (hc : ∀ a ∈ L, b a = true → ∀ z ∈ f a, RT C (up1 a z (wipeR (up a (wipeR ρ vs)) vs1)) tu (c a z)) (hr : ∀ a ∈ L, b a = true → ∀ z ∈ f a, c a z = true → RD C (up1 a z (wipeR (up a (wipeR ρ vs)) vs1)) te (r a z)) :
    RD C ρ (tLc2 wi g tt wi1 g1 tu te vs vs1) (.lst ((L.filter b).flatMap fun a => ((f a).filter (c a)).map (r a))) := fun F σ H Q e fm k => by
  refine S F σ H _ e fm fun J H1 W Y s1 wk hW hY D hD => ?_
  have fm1 := fm.same s1
  have nF : ¬ F D := fm1.fresh hD
  have e1 : EnvD C (Plus F D) H1 σ ρ := (e.same fm s1).grow hD
  rw [List.length_map] at wk
  have snoc : ∀ {i : Nat} {a : α}, L[i]? = some a → ((L.take (i + 1)).filter b).flatMap (fun a => ((f a).filter (c a)).map (r a)) = ((L.take i).filter b).flatMap (fun a => ((f a).filter (c a)).map (r a)) ++ (if b a = true then ((f a).filter (c a)).map (r a) else []) := fun {i a} h => by
    rw [take_snoc h, List.filter_append, List.flatMap_append]
    congr 1
    cases e : b a <;> simp [e]
  have small : ∀ {i : Nat} {a : α} {m : Nat}, L[i]? = some a → (((L.take i).filter b).flatMap (fun a => ((f a).filter (c a)).map (r a)) ++ (((f a).take m).filter (c a)).map (r a)).length ≤ 1000 := fun {i a m} h => by
    have h0 : ∀ M : List α, ((M.filter b).flatMap (fun a => ((f a).filter (c a)).map (r a))).length ≤ (M.flatMap f).length := by
      intro M
      induction M with
      | nil => simp
      | cons x t ih =>
        rw [List.flatMap_cons, List.length_append, List.filter_cons]
        split
        · rw [List.flatMap_cons, List.length_append, List.length_map]
          have := List.length_filter_le (c x) (f x)
          omega
        · omega
    have h1 := h0 (L.take i)
    have h2 : (L.flatMap f).length = ((L.take i).flatMap f).length + ((f a).length + ((L.drop (i + 1)).flatMap f).length) := by
      have hl := (List.getElem?_eq_some_iff.mp h).1
      conv => lhs; rw [← List.take_append_drop i L, List.flatMap_append, List.drop_eq_getElem_cons hl, List.flatMap_cons]
      rw [show L[i] = a from (List.getElem?_eq_some_iff.mp h).2, List.length_append, List.length_append]
    have h3 := List.length_filter_le (c a) ((f a).take m)
    rw [List.length_take] at h3
    rw [List.length_append, List.length_map]
    omega
  refine out_it wk (fun i H' => Same H1 H' ∧ ∃ vs', H' D = some (.lst vs') ∧ VRs C (Plus F D) H' vs' (((L.take i).filter b).flatMap fun a => ((f a).filter (c a)).map (r a))) ⟨Same.add hD, [], upd_same, .nil⟩ (fun i H' _ p => hW H' (.same p.1)) (fun i x H2 H3 hi p y => ?_) (fun H2 p => ?_)
  · obtain ⟨s2, acc, hacc, ra⟩ := p
    obtain ⟨s3, o, ho, ro⟩ := hY i H2 x H3 (by simpa using hi) (.same s2) y
    rw [List.getElem?_map] at ho
    obtain ⟨a, ha, rfl⟩ := Option.map_eq_some_iff.mp ho
    have mo := List.mem_of_getElem? ha
    have fm2 : Fm (Plus F D) H2 := (fm1.same s2).plus hacc (mo_lst _)
    have fm3 := fm2.same s3
    have e2 : EnvD C (Plus F D) H3 (wipe σ vs) (wipeR ρ vs) :=
      ((show EnvD C (Plus F D) H2 σ ρ from ⟨e1.1, fun i o q => (e1.2 i o q).imp fun v z => ⟨z.1, z.2.kpG fm1 (.same s2) fun _ => .inl⟩⟩).same fm2 s3).wipe vs
    refine hg a mo (Plus F D) _ H3 _ x _ e2 (ro _ (fun _ => .inl) (fun p hp => hp.imp id fun (z : p = D) => z ▸ hD) fm2) fun σ' e4 off len => ⟨wipe_of off (by rw [len, wipe_length]), hb a mo _ _ _ _ e4 fm3 fun H4 s4 => ?_⟩
    have fm4 := fm3.same s4
    have ra4 := (ra.same fm2 s3).same fm3 s4
    have hacc4 := s4 _ _ (s3 _ _ hacc)
    have e5 := e4.same fm3 s4
    cases eb : b a with
    | false =>
      refine iteFk rfl ⟨fun c u q => s4 _ _ (s3 _ _ (s2 _ _ q)), acc, hacc4, ?_⟩
      rw [snoc ha, eb]
      simpa using ra4
    | true =>
      refine iteTk rfl (S1 a mo eb _ _ _ _ e5 fm4 fun J1 H5 W1 Y1 s5 wk1 hW1 hY1 => ?_)
      have fm5 := fm4.same s5
      rw [List.length_map] at wk1
      refine in_it wk1 (fun j1 H' => Kp (Plus F D) H5 H' ∧ Fm (Plus F D) H' ∧ Same H1 H' ∧ ∃ vs', H' D = some (.lst vs') ∧ VRs C (Plus F D) H' vs' (((L.take i).filter b).flatMap (fun a => ((f a).filter (c a)).map (r a)) ++ (((f a).take j1).filter (c a)).map (r a)))
        ⟨.refl _ _, fm5, (((s2.trans s3).trans s4).trans s5), acc, s5 _ _ hacc4, by simpa using ra4.same fm4 s5⟩ (fun j1 H' _ p => hW1 H' p.1) (fun j1 y1 H6 H7 hj1 p yy => ?_) (fun H6 p => ?_)
      · obtain ⟨kp6, fm6, s6, acc6, h6, ra6⟩ := p
        obtain ⟨s7, o1, ho1, ro1⟩ := hY1 j1 H6 y1 H7 (by simpa using hj1) kp6 yy
        rw [List.getElem?_map] at ho1
        obtain ⟨z, hz, rfl⟩ := Option.map_eq_some_iff.mp ho1
        have mz := List.mem_of_getElem? hz
        have fm7 := fm6.same s7
        have e6 := ((((e5.same fm4 s5).kp fm5 kp6).same fm6 s7).wipe vs1)
        refine hg1 a mo z mz (Plus F D) _ H7 _ y1 _ e6 (ro1 (Plus F D) (fun _ q => q) (fun _ q => .inl q) fm6) fun σ3 e7 off1 len1 => ⟨wipe_of off1 (by rw [len1, wipe_length]), hc a mo eb z mz _ _ _ _ e7 fm7 fun H8 s8 => ?_⟩
        have fm8 := fm7.same s8
        have ra8 := (ra6.same fm6 s7).same fm7 s8
        have h8 := s8 _ _ (s7 _ _ h6)
        cases ec : c a z with
        | false =>
          refine iteFk rfl ⟨fun b u n q => s8 _ _ (s7 _ _ (kp6 _ _ n q)), fm8, fun b u q => s8 _ _ (s7 _ _ (s6 _ _ q)), acc6, h8, ?_⟩
          rw [filt_snocA hz, ec]
          simpa using ra8
        | true =>
          refine iteTk rfl (hr a mo eb z mz ec _ _ _ _ (e7.same fm7 s8) fm8 fun v H9 s9 r9 => ?_)
          have fm9 := fm8.same s9
          have ra9 := ra8.same fm8 s9
          have kpD : ∀ u, Kp (Plus F D) H9 (upd H9 D (.lst u)) := fun u b o n q => by rw [upd_ne (fun z => n (.inr z))]; exact q
          refine ⟨acc6, s9 _ _ h8, ?_, fun b u n q => ?_, ?_, fun b u q => ?_, acc6 ++ [v], upd_same, ?_⟩
          · have := small (m := j1) ha
            rw [ra9.length, sizeLine_eq]; omega
          · rw [upd_ne (fun z => n (.inr z))]; exact s9 _ _ (s8 _ _ (s7 _ _ (kp6 _ _ n q)))
          · exact (fm9.less (G := F) fun _ => .inl).put (mo_lst _)
          · rw [upd_ne (fun z => by rw [z, hD] at q; cases q)]; exact s9 _ _ (s8 _ _ (s7 _ _ (s6 _ _ q)))
          · rw [filt_snocA hz, if_pos ec, ← List.append_assoc]
            exact (ra9.app (.cons r9 .nil)).kp fm9 (kpD _)
      · obtain ⟨kp6, fm6, s6, acc6, h6, ra6⟩ := p
        rw [List.take_length] at ra6
        refine ⟨s6, acc6, h6, ?_⟩
        rw [snoc ha, eb]
        exact ra6
  · obtain ⟨s2, acc, hacc, ra⟩ := p
    rw [List.take_length] at ra
    exact k _ H2 (s1.trans s2) (.lst nF hacc (ra.mono fun _ => .inl))
/-- for x in L: .. -/
theorem st_forA {up : α → List (Option Ob) → List (Option Ob)} {tb : TS} (q : Sq C A F H0 ρ σ H) (S : RI2 C ρ wi (L.map enc)) (hg : ∀ a ∈ L, RG C vs g (enc a) (up a))
    (Iv : Nat → List (Option Ob) → Hp → Prop) (k : ∀ H1, Same H H1 → Sq C A F H0 ρ σ H1 → ∃ P : Nat → L2.St → Hp → Prop, P 0 σ H1 ∧ (∀ n σ' H', P n σ' H' → Kp F H1 H' ∧ Fm F H' ∧ ∃ ρ', EnvD C F H' σ' ρ' ∧ Iv n ρ' H') ∧
    (∀ n a σ' H' σ2 H2 ρ', L[n]? = some a → P n σ' H' → Same H' H2 → Fm F H2 → EnvD C F H' σ' ρ' → Iv n ρ' H' → EnvD C F H2 σ2 (up a ρ') → (∀ j, j ∉ vs → σ2[j]? = σ'[j]?) → tb { D with nx := P (n + 1), ct := P (n + 1), bk := D.nx } σ2 H2) ∧ (∀ σ' H', P L.length σ' H' → D.nx σ' H')) : tFor wi g tb D σ H := by
  refine S F σ H _ q.env q.fm fun J H1 W Y s1 wk hW hY => ?_
  obtain ⟨P, h0, hk, hb, hd⟩ := k H1 s1 (q.same s1)
  rw [List.length_map] at wk
  refine for_it wk P h0 (fun n σ' H' _ p => hW H' (hk n σ' H' p).1) (fun n x σ' H2 H3 hn p y => ?_) hd
  obtain ⟨kp, fm2, ρ', e2, iv⟩ := hk n σ' H2 p
  obtain ⟨s3, o, ho, ro⟩ := hY n H2 x H3 (by simpa using hn) kp y
  rw [List.getElem?_map] at ho
  obtain ⟨a, ha, rfl⟩ := Option.map_eq_some_iff.mp ho
  refine hg a (List.mem_of_getElem? ha) F σ' H3 ρ' x _ (e2.same fm2 s3) (ro F (fun _ z => z) (fun _ z => .inl z) fm2) fun σ2 e3 off _ => ?_
  exact hb n a σ' H2 σ2 H3 ρ' ha p s3 (fm2.same s3) e2 iv e3 off
/-! ### walks -/
theorem ri_enum (a : RDs C ρ t [.lst os]) : RI2 C ρ (iEnum K t) (os.zipIdx.map fun z => .tup [.int (z.2 : Nat), z.1]) := fun F σ H R e fm k => a F σ H _ e fm fun vs H1 s1 r1 => by
  have fm1 := fm.same s1
  cases r1 with
  | cons r1 rn =>
    cases rn
    cases r1 with
    | lst n h rs =>
      refine ⟨_, _, rfl, SqL.of h, k _ H1 _ _ s1 (by rw [List.length_map, List.length_zipIdx, ← rs.length]; exact walk_enum) (fun H2 s2 => SqL.of (s2 _ _ n h)) fun i H2 x H3 hi s2 y => ?_⟩
      obtain ⟨T, x1, x2, rfl, hT, rfl, e1, e2⟩ := y
      cases e1
      have s3 : Same H2 (upd H2 T (.tup [.int (i : Nat), x2])) := Same.add hT
      obtain ⟨o, h1, h2⟩ := rs.get e2
      refine ⟨s3, .tup [.int (i : Nat), o], ?_, fun G g1 g2 fm2 => .tup upd_same (.cons (.int _) (.cons ?_ .nil))⟩
      · rw [List.getElem?_map, List.getElem?_zipIdx, h1]; simp
      · exact ((h2.grow g2).kpG fm1 s2 g1).same fm2 s3
/-! ### sorted, of data -/
def leO (x y : Ob) : Bool := PySem.W.dataLe false Ob.pd x y
theorem zip_fst : ∀ {vs : List V} {os : List Ob}, VRs C F H vs os → (vs.zip os).map (·.1) = vs
  | _, _, .nil => rfl
  | _, _, .cons _ b => by rw [List.zip_cons_cons, List.map_cons, zip_fst b]
theorem zip_snd : ∀ {vs : List V} {os : List Ob}, VRs C F H vs os → (vs.zip os).map (·.2) = os
  | _, _, .nil => rfl
  | _, _, .cons _ b => by rw [List.zip_cons_cons, List.map_cons, zip_snd b]
theorem zip_vr : ∀ {vs : List V} {os : List Ob}, VRs C F H vs os → ∀ z ∈ vs.zip os, VR C F H z.1 z.2
  | _, _, .nil, _, m => by cases m
  | _, _, .cons a b, z, m => by
    rw [List.zip_cons_cons] at m
    rcases List.mem_cons.mp m with rfl | m
    · exact a
    · exact zip_vr b z m
theorem vrs_of : ∀ {zs : List (V × Ob)}, (∀ z ∈ zs, VR C F H z.1 z.2) → VRs C F H (zs.map (·.1)) (zs.map (·.2))
  | [], _ => .nil
  | z :: r, h => .cons (h z List.mem_cons_self) (vrs_of fun y m => h y (List.mem_cons_of_mem _ m))
theorem rd_sortG (few : os.length ≤ 1000) (hd : ∀ o ∈ os, o.isD = true) (al : PySem.W.AllAlike (os.map Ob.pd)) (so : PySem.W.Sortable (os.map Ob.pd)) (dep : ∀ o ∈ os, o.pd.depth ≤ 50) (a : RD C ρ te (.lst os)) : RD C ρ (tCB (K1.rSortG K) (tCons te tNil)) (.lst (os.mergeSort leO)) :=
  rd_call1 a fun F v H Q fm r k => by
    cases r with
    | @lst p vs _ n h rs =>
      have zf := zip_fst rs
      have zs := zip_snd rs
      have e2 : ((vs.zip os).map fun z => (z.1, z.2.pd)).map (·.2) = os.map Ob.pd := by rw [List.map_map, ← zs, List.map_map, zs]; rfl
      refine ⟨p, (vs.zip os).map fun z => (z.1, z.2.pd), rfl, by rw [List.map_map]; exact zf.symm ▸ SqL.of h, fun b hb => ?_, by rw [e2]; exact al, by rw [e2]; exact so, by rw [List.length_map, List.length_zip, rs.length]; omega, fun b hb => ?_, fun q hq => ?_⟩
      · obtain ⟨z, mz, rfl⟩ := List.mem_map.mp hb
        exact (zip_vr rs z mz).dp (hd _ (List.of_mem_zip mz).2)
      · obtain ⟨z, mz, rfl⟩ := List.mem_map.mp hb
        exact dep _ (List.of_mem_zip mz).2
      · have e3 : ((vs.zip os).map fun z => (z.1, z.2.pd)).mergeSort (PySem.W.dataLe false (·.2)) = ((vs.zip os).mergeSort fun x y => leO x.2 y.2).map fun z => (z.1, z.2.pd) := (List.map_mergeSort (f := fun z : V × Ob => (z.1, z.2.pd)) (r := fun x y => leO x.2 y.2) (s := PySem.W.dataLe false (·.2)) fun _ _ _ _ => rfl).symm
        have e4 : ((vs.zip os).mergeSort fun x y => leO x.2 y.2).map (·.2) = os.mergeSort leO := by
          rw [List.map_mergeSort (s := leO) (fun _ _ _ _ => rfl), zs]
        rw [e3, List.map_map]
        refine k _ _ (Same.add hq) (.lst (fm.fresh hq) upd_same ?_)
        rw [← e4]
        exact (vrs_of (F := F) (H := H) fun z m => zip_vr rs z (List.mem_mergeSort.mp m)).same fm (Same.add hq)
end
end B30_

/-! ## B30_49 -/
set_option Elab.async false
set_option linter.all false
set_option maxRecDepth 100000
set_option maxHeartbeats 4000000
namespace B30_
open PySem PySem.Spec PyProof.Rows L2
section
variable {C : Addr} {A F G : Addr → Prop} {H0 H H' : Hp} {ρ : List (Option Ob)} {σ : L2.St} {K : PySem.W.Frag} {te ta tb : TE} {tt tu : TT} {t : TA} {os us : List Ob} {o x y : Ob} {wi wi1 : TI} {vs vs1 : List Nat} {i j n : Nat} {p : Addr} {g g1 : TG} {D : Ends}
variable {α β : Type} {enc : α → Ob} {L : List α}
/-- for x in L: .., what is known of the locals told by the turn -/
theorem st_for2 {up : α → List (Option Ob) → List (Option Ob)} {tb : TS} (vs : List Nat) (q : Sq C A F H0 ρ σ H) (S : RI2 C ρ wi (L.map enc)) (hg : ∀ a ∈ L, RG C vs g (enc a) (up a)) (I : Nat → List (Option Ob) → Prop) (h0 : I 0 ρ)
    (hb : ∀ n a ρ' σ' H' (D' : Ends), L[n]? = some a → I n ρ' → Kp F H H' → Sq C A F H0 (up a ρ') σ' H' → (∀ ρ2 σ2 H2, I (n + 1) ρ2 → Sq C A F H0 ρ2 σ2 H2 → Kp F H' H2 → D'.nx σ2 H2) → D'.ct = D'.nx → D'.rt = D.rt → D'.bk = D.nx → tb D' σ' H')
    (hd : ∀ ρ' σ' H', I L.length ρ' → Sq C A F H0 ρ' σ' H' → Kp F H H' → D.nx σ' H') : tFor wi g tb D σ H := by
  refine S F σ H _ q.env q.fm fun J H1 W Y s1 wk hW hY => ?_
  rw [List.length_map] at wk
  refine for_it wk (fun n σ' H' => ∃ ρ', I n ρ' ∧ Sq C A F H0 ρ' σ' H' ∧ Kp F H1 H') ⟨ρ, h0, q.same s1, .refl _ _⟩ (fun n σ' H' _ p => hW H' p.choose_spec.2.2) (fun n x σ' H2 H3 hn p y => ?_) (fun σ' H' p => ?_)
  · obtain ⟨ρ', iv, q2, kp⟩ := p
    obtain ⟨s3, o, ho, ro⟩ := hY n H2 x H3 (by simpa using hn) kp y
    rw [List.getElem?_map] at ho
    obtain ⟨a, ha, rfl⟩ := Option.map_eq_some_iff.mp ho
    have q3 := q2.same s3
    refine hg a (List.mem_of_getElem? ha) F σ' H3 ρ' x _ q3.env (ro F (fun _ z => z) (fun _ z => .inl z) q2.fm) fun σ2 e3 off _ => ?_
    exact hb n a ρ' σ2 H3 _ ha iv ((Kp.same s1).trans (kp.trans (.same s3))) ⟨q3.kp, e3, q3.fm⟩ (fun ρ2 σ3 H4 iv2 q4 kp4 => ⟨ρ2, iv2, q4, (kp.trans (.same s3)).trans kp4⟩) rfl rfl rfl
  · obtain ⟨ρ', iv, q2, kp⟩ := p
    exact hd ρ' σ' H' iv q2 ((Kp.same s1).trans kp)
theorem rd_lc2M {enc1 : β → Ob} {f : α → List β} {r : α → β → Ob} {up : α → List (Option Ob) → List (Option Ob)} {up1 : α → β → List (Option Ob) → List (Option Ob)} (S : RI2 C ρ wi (L.map enc)) (few : (L.flatMap f).length ≤ 1000) (hg : ∀ a ∈ L, RG C vs g (enc a) (up a))
    (S1 : ∀ a ∈ L, RI2 C (up a (wipeR ρ vs)) wi1 ((f a).map enc1)) (hg1 : ∀ a ∈ L, ∀ z ∈ f a, RG C vs1 g1 (enc1 z) (up1 a z)) (hr : ∀ a ∈ L, ∀ z ∈ f a, RD C (up1 a z (wipeR (up a (wipeR ρ vs)) vs1)) te (r a z)) :
    RD C ρ (tLc2 wi g tYes wi1 g1 tYes te vs vs1) (.lst (L.flatMap fun a => (f a).map (r a))) := by
  have h := rd_lc2A (b := fun _ => true) (c := fun _ _ => true) (r := r) (tt := tYes) (tu := tYes) S few hg (fun _ _ => rt_yes) (fun a m _ => S1 a m) hg1 (fun _ _ _ _ _ => rt_yes) (fun a m _ z mz _ => hr a m z mz)
  rw [List.filter_eq_self.mpr (fun _ _ => rfl)] at h
  refine h.cast (congrArg Ob.lst ?_)
  exact congrArg (fun f => L.flatMap f) (funext fun a => by rw [List.filter_eq_self.mpr (fun _ _ => rfl)])
/-! ### whole numbers, sorted -/
abbrev leI (a b : Int) : Bool := decide (a ≤ b)
def srtZ (ns : List Int) : List Int := ns.mergeSort leI
theorem srtZ_perm (ns : List Int) : (srtZ ns).Perm ns := List.mergeSort_perm _ _
theorem srtZ_pair (ns : List Int) : (srtZ ns).Pairwise fun a b => a ≤ b := by
  have h := List.pairwise_mergeSort (le := leI) (fun a b c h1 h2 => by simp only [leI, decide_eq_true_eq] at *; omega) (fun a b => by simp only [leI, Bool.or_eq_true, decide_eq_true_eq]; omega) ns
  exact h.imp fun h => by simpa using h
theorem pair_uniq : ∀ {l m : List Int}, l.Perm m → l.Pairwise (· ≤ ·) → m.Pairwise (· ≤ ·) → l = m
  | [], m, p, _, _ => (List.nil_perm.mp p).symm ▸ rfl
  | a :: l, m, p, hl, hm => by
    cases m with
    | nil => exact absurd p.length_eq (by simp)
    | cons b m =>
      have e : a = b := by
        have h1 : b ∈ a :: l := p.mem_iff.mpr List.mem_cons_self
        have h2 : a ∈ b :: m := p.mem_iff.mp List.mem_cons_self
        rcases List.mem_cons.mp h1 with h1 | h1
        · exact h1.symm
        rcases List.mem_cons.mp h2 with h2 | h2
        · exact h2
        have h3 := (List.pairwise_cons.mp hl).1 b h1
        have h4 := (List.pairwise_cons.mp hm).1 a h2
        omega
      subst e
      rw [pair_uniq p.cons_inv (List.pairwise_cons.mp hl).2 (List.pairwise_cons.mp hm).2]
theorem srtZ_of {l ns : List Int} (p : l.Perm ns) (h : l.Pairwise (· ≤ ·)) : l = srtZ ns := pair_uniq (p.trans (srtZ_perm ns).symm) h (srtZ_pair ns)
theorem vrs_ints : ∀ ns : List Int, VRs C F H (ns.map V.int) (ns.map .int)
  | [] => .nil
  | _ :: r => .cons (.int _) (vrs_ints r)
theorem VRs.ints : ∀ {vs : List V} {ns : List Int}, VRs C F H vs (ns.map .int) → vs = ns.map V.int
  | _, [], h => by cases h; rfl
  | _, n :: r, h => by
    cases h with
    | cons a b => cases a; rw [b.ints]; rfl
theorem rd_sortI {ns : List Int} (few : ns.length < 64) (a : RD C ρ te (.lst (ns.map .int))) : RD C ρ (tCB (rSorted K) (tCons te tNil)) (.lst ((srtZ ns).map .int)) :=
  rd_call1 a fun F v H Q fm r k => by
    cases r with
    | lst n h rs =>
      have e := rs.ints
      subst e
      refine ⟨_, ns, rfl, SqL.of h, few, fun ns' q pm so hq => ?_⟩
      obtain rfl := srtZ_of pm so
      exact k _ _ (Same.add hq) (.lst (fm.fresh hq) upd_same (vrs_ints _))
abbrev rTupOf' (K : PySem.W.Frag) : List V → Hp → VK → Prop := fun xs H Q => ∃ p ys, xs = [.ref p] ∧ ((SqL K H p ys ∧ ∀ l, H l = none → Q (.ref l) (upd H l (.tup ys))) ∨ (SqT K H p ys ∧ Q (.ref p) H))
end
end B30_

/-! ## B30_92 -/
set_option Elab.async false
set_option linter.all false
set_option maxRecDepth 100000
set_option maxHeartbeats 8000000
namespace B30_
open PySem PySem.Spec PyProof.Rows L2
def hcB (cs ds : List Str) : Bool := cs.any fun z => decide (z ∈ ds)
section
variable {P : Program} {w : World} {K : PySem.W.Frag} {mg : Str → Option Value} {base : Heap}
/-! ### have_common -/
abbrev s_hc : Stmt := topS 11
abbrev N_hc : List Str := ["columns", "others", "column"]
theorem sc_hc : FnScope N_hc ["columns", "others"] (defScope s_hc) := ⟨rfl, rfl, rfl, by decide +kernel, rfl, by decide +kernel, by decide +kernel⟩
def gHc (os : List Ob) (r : Ob) : Prop := ∃ x y cs ds, os = [x, y] ∧ (x = .txs cs ∨ x = .lxs cs) ∧ (y = .txs ds ∨ y = .lxs ds) ∧ cs.length ≤ 1000 ∧ r = .bl (hcB cs ds)
theorem ok_hc {f C : Addr} {fd : FuncData} (F : Fun K "have_common" "have_common" s_hc f fd) (T : NamesS mg) (hany : mg "any" = none)  : FnOk P w K mg base CX0 1 f fd ["columns", "others"] (spP C gHc) := by
  have nd := sc_hc.nd
  refine F.ok sc_hc (fun vs H Q E h => ?_) (fun cdv A outer s H vs Q E hr h => ?_)
  · obtain ⟨F, os, r, _, rs, ⟨x, y, cs, ds, rfl, _⟩, _⟩ := h
    exact rs.length
  · obtain ⟨F0, os, r, fm, rs, ⟨x, y, cs, ds, rfl, hx, hy, few, rfl⟩, k⟩ := h
    refine ⟨_, (pss_one
    (ps_ret (pe_callB (cr_any rfl) (by rfl) hany (by decide +kernel) (pa_cons (pe_lc (own := [("column", 2)]) (g := (gName 2)) (te := (tOp (rIn K false) (tVar 2) (tVar 1))) (tt := tYes) rfl nd (K1.pi_its (pv 0)) (blkOk_by (N := N_hc) (sc := defScope s_hc) (by decide +kernel)) (fun _ _ _ _ _ => (pg_name (i := 2) nd rfl (Or.inl rfl))) (fun _ _ _ _ _ => pts_nil) (fun _ _ _ _ _ => (pe_cmpR (r := rIn K false) op_in_seq (pv 2) (pv 1) rfl))) pa_nil)))), ?_⟩
    have q0 : Sq C Nil F0 H [some x, some y, none] (L2.start N_hc vs) H := Sq.start (N := N_hc) fm rs
    refine st_ret q0 (q0.ev (rd_anyA (L := cs) (enc := .str) (ri_its (os := cs.map .str) hx (rd_var (i := 0) rfl)).two few (fun a m => rg_name (by decide)) fun z mz => rd_in (K := K) y hy (rd_var rfl) (rd_var rfl))) ?_
    intro v H5 kp5 rv _ _
    exact k v H5 kp5.toSame rv
/-! ### hanging_together -/
abbrev Gr := List Int × List Str
def grO (g : Gr) : Ob := .tup [.lst (g.1.map .int), .lxs g.2]
def plO (ps : List Int) : Ob := .lst (ps.map .int)
def htStep (G : List Gr) (a : List Str × Nat) : List Gr := G.filter (fun g => !hcB g.2 a.1) ++ [(srtZ ((a.2 : Int) :: (G.filter fun g => hcB g.2 a.1).flatMap (·.1)), a.1 ++ (G.filter fun g => hcB g.2 a.1).flatMap (·.2))]
def htAll (L : List (List Str)) : List Gr := L.zipIdx.foldl htStep []
def leP (a b : List Int) : Bool := leO (plO a) (plO b)
def hang (L : List (List Str)) : List (List Int) := ((htAll L).map (·.1)).mergeSort leP
theorem flat_perm {α β : Type} (f : α → List β) (b : α → Bool) : ∀ G : List α, ((G.filter fun g => !b g).flatMap f ++ (G.filter b).flatMap f).Perm (G.flatMap f)
  | [] => .nil
  | g :: r => by
    have ih := flat_perm f b r
    rw [List.flatMap_cons, List.filter_cons, List.filter_cons]
    cases e : b g with
    | true =>
      simp only [Bool.not_true, Bool.false_eq_true, if_false, if_true, List.flatMap_cons]
      exact (List.perm_append_comm_assoc _ _ _).trans (ih.append_left _)
    | false =>
      simp only [Bool.not_false, Bool.false_eq_true, if_false, if_true, List.flatMap_cons, List.append_assoc]
      exact ih.append_left _
theorem htStep_ps (G : List Gr) (a : List Str × Nat) : ((htStep G a).flatMap (·.1)).Perm ((a.2 : Int) :: G.flatMap (·.1)) := by
  unfold htStep
  rw [List.flatMap_append]
  simp only [List.flatMap_cons, List.flatMap_nil, List.append_nil]
  refine ((srtZ_perm _).append_left _).trans ?_
  refine List.perm_middle.trans (.cons _ ?_)
  exact flat_perm (·.1) (fun g => hcB g.2 a.1) G
theorem htStep_cs (G : List Gr) (a : List Str × Nat) : ((htStep G a).flatMap (·.2)).Perm (a.1 ++ G.flatMap (·.2)) := by
  unfold htStep
  rw [List.flatMap_append]
  simp only [List.flatMap_cons, List.flatMap_nil, List.append_nil]
  refine (List.perm_append_comm_assoc _ _ _).trans (.append_left _ ?_)
  exact flat_perm (·.2) (fun g => hcB g.2 a.1) G
theorem htAll_ps (L : List (List Str)) : ∀ n, n ≤ L.length → (((L.zipIdx.take n).foldl htStep []).flatMap (·.1)).length = n ∧ (((L.zipIdx.take n).foldl htStep []).flatMap (·.2)).length = ((L.take n).flatten).length
  | 0, _ => ⟨rfl, rfl⟩
  | n + 1, h => by
    have ih := htAll_ps L n (by omega)
    have e : L.zipIdx[n]? = some (L[n], n) := by rw [List.getElem?_zipIdx, List.getElem?_eq_getElem (by omega)]; simp
    rw [take_snoc e, List.foldl_append]
    simp only [List.foldl_cons, List.foldl_nil]
    refine ⟨?_, ?_⟩
    · rw [(htStep_ps _ _).length_eq, List.length_cons, ih.1]
    · rw [(htStep_cs _ _).length_eq, List.length_append, ih.2, take_snoc (List.getElem?_eq_getElem (show n < L.length by omega)), List.flatten_append, List.length_append]
      simp; omega
theorem flat_len {α β : Type} (f : α → List β) {G : List α} {g : α} (m : g ∈ G) : (f g).length ≤ (G.flatMap f).length := by
  induction G with
  | nil => cases m
  | cons a r ih =>
    rw [List.flatMap_cons, List.length_append]
    rcases List.mem_cons.mp m with rfl | m
    · omega
    · have := ih m; omega
theorem flat_filt {α β : Type} (f : α → List β) (b : α → Bool) (G : List α) : ((G.filter b).flatMap f).length ≤ (G.flatMap f).length := by
  have h := (flat_perm f b G).length_eq
  rw [List.length_append] at h; omega
theorem htLen (L : List (List Str)) : ∀ n, ((L.zipIdx.take n).foldl htStep []).length ≤ n := by
  intro n
  induction n with
  | zero => simp
  | succ n ih =>
    cases e : L.zipIdx[n]? with
    | none =>
      rw [List.getElem?_eq_none_iff] at e
      rw [List.take_of_length_le (Nat.le_succ_of_le e)]
      rw [List.take_of_length_le e] at ih
      exact Nat.le_succ_of_le ih
    | some a =>
      rw [take_snoc e, List.foldl_append]
      simp only [List.foldl_cons, List.foldl_nil]
      unfold htStep
      rw [List.length_append, List.length_singleton]
      exact Nat.succ_le_succ (Nat.le_trans (List.length_filter_le _ _) ih)
theorem flat4 {L : List (List Str)} (h : ∀ c ∈ L, c.length ≤ 4) : (L.flatten).length ≤ 4 * L.length := by
  induction L with
  | nil => simp
  | cons c r ih =>
    rw [List.flatten_cons, List.length_append, List.length_cons]
    have h1 := h c List.mem_cons_self
    have h2 := ih fun d m => h d (List.mem_cons_of_mem _ m)
    omega
theorem alike_pl (ps qs : List Int) : PySem.W.alike (plO ps).pd (plO qs).pd = true := by
  have e : ∀ ns : List Int, pds (ns.map .int) = ns.map .int := by
    intro ns
    induction ns with
    | nil => rfl
    | cons n r ih => rw [List.map_cons, pds, ih]; rfl
  show PySem.W.alike (.list (pds (ps.map .int))) (.list (pds (qs.map .int))) = true
  rw [e, e, PySem.W.alike]
  exact PySem.W.alike_ints ps qs
theorem depth_pl (ps : List Int) : (plO ps).pd.depth ≤ 50 := by
  have e : ∀ ns : List Int, pds (ns.map .int) = ns.map .int := by
    intro ns
    induction ns with
    | nil => rfl
    | cons n r ih => rw [List.map_cons, pds, ih]; rfl
  show (PyData.list (pds (ps.map .int))).depth ≤ 50
  rw [e, PyData.depth, PySem.W.depth_ints]
  omega
theorem isD_pl (ps : List Int) : (plO ps).isD = true := by
  show areD (ps.map .int) = true
  induction ps with
  | nil => rfl
  | cons n r ih => rw [List.map_cons, areD, ih]; rfl
abbrev s_ht : Stmt := topS 34
abbrev N_ht : List Str := ["columns_of_each", "groups", "at", "columns", "near", "far", "places", "covered", "group", "place", "column", "_"]
theorem sc_ht : FnScope N_ht ["columns_of_each"] (defScope s_ht) := ⟨rfl, rfl, rfl, by decide +kernel, rfl, by decide +kernel, by decide +kernel⟩
def gHt (os : List Ob) (r : Ob) : Prop := ∃ L : List (List Str), os = [.lst (L.map .lxs)] ∧ L.length ≤ 6 ∧ (∀ c ∈ L, c.length ≤ 4) ∧ r = .lst ((hang L).map plO)
theorem ok_ht {f C : Addr} {fd : FuncData} (F : Fun K "hanging_together" "hanging_together" s_ht f fd) (T : NamesS mg) (hen : mg "enumerate" = none) (C_hc : Callee P w K mg base CX0 1 "have_common" ["columns", "others"] (spP C gHc)) : FnOk P w K mg base CX0 2 f fd ["columns_of_each"] (spP C gHt) := by
  have nd := sc_ht.nd
  refine F.ok sc_ht (fun vs H Q E h => ?_) (fun cdv A outer s H vs Q E hr h => ?_)
  · obtain ⟨F, os, r, _, rs, ⟨L, rfl, _⟩, _⟩ := h
    exact rs.length
  · obtain ⟨F0, os, r, fm, rs, ⟨L, rfl, six, four, rfl⟩, k⟩ := h
    have hu64 : (A.deeper (envOfC "hanging_together" (defScope s_ht) s.heap.objs.size f cdv)).units + 64 < cLine := by have := hr.un; omega
    refine ⟨_, (pss_cons
    (ps_set (i := 1) nd rfl (Or.inl rfl) (pe_lst pa_nil))
    (pss_cons
    (ps_for PassesOwn.never rfl (pi_enum (by rfl) hen (pa_cons (pv 0) pa_nil)) (pg_tup rfl (pgs_cons (pg_name (i := 2) nd rfl (Or.inl rfl)) (pgs_cons (pg_name (i := 3) nd rfl (Or.inr rfl)) pgs_nil))) (pss_cons
      (ps_setLc (i := 4) (own := [("group", 8)]) (g := (gName 8)) (te := (tVar 8)) (tt := (tB (tCall (spP C gHc) [] E0 (tCons (tOp (rIxT K) (tVar 8) (tC (.int 1))) (tCons (tVar 3) tNil))))) rfl nd rfl rfl (sw_true rfl rfl rfl (by decide +kernel)) (pi_list (pv 1)) (blkOk_by (N := N_ht) (sc := defScope s_ht) (by decide +kernel)) (fun _ _ _ _ _ => (pg_name (i := 8) nd rfl (Or.inl rfl))) (fun _ _ _ _ _ => (pts_one (pt_val (pe_use C_hc (hr.mono (by decide)) rfl pass0 (pa_cons (pe_ix ix_tup (pv 8) pe_int (fun _ _ => rfl)) (pa_cons (pv 3) pa_nil)))))) (fun _ _ _ _ _ => (pv 8)))
      (pss_cons
      (ps_setLc (i := 5) (own := [("group", 8)]) (g := (gName 8)) (te := (tVar 8)) (tt := (tNot (tB (tCall (spP C gHc) [] E0 (tCons (tOp (rIxT K) (tVar 8) (tC (.int 1))) (tCons (tVar 3) tNil)))))) rfl nd rfl rfl (sw_true rfl rfl rfl (by decide +kernel)) (pi_list (pv 1)) (blkOk_by (N := N_ht) (sc := defScope s_ht) (by decide +kernel)) (fun _ _ _ _ _ => (pg_name (i := 8) nd rfl (Or.inl rfl))) (fun _ _ _ _ _ => (pts_one (pt_not (pt_val (pe_use C_hc (hr.mono (by decide)) rfl pass0 (pa_cons (pe_ix ix_tup (pv 8) pe_int (fun _ _ => rfl)) (pa_cons (pv 3) pa_nil))))))) (fun _ _ _ _ _ => (pv 8)))
      (pss_cons
      (ps_set (i := 6) nd rfl (Or.inl rfl) (pe_lst (pa_cons (pv 2) (StX.pa_star (pe_lc2 (own := [("group", 8), ("place", 9)]) (vs1 := [9]) (g := (gName 8)) (g1 := (gName 9)) (te := (tVar 9)) (tt := tYes) (tt1 := tYes) (wi1 := (iList K (tOp (rIxT K) (tVar 8) (tC (.int 0))))) rfl nd (pi_list (pv 4)) (blkOk_by (N := N_ht) (sc := defScope s_ht) (by decide +kernel)) (by decide) (fun _ _ _ _ _ => (pg_name (i := 8) nd rfl (Or.inl rfl))) (fun _ _ _ _ _ => pts_nil) (fun _ _ _ _ _ => (pi_list (pe_ix ix_tup (pv 8) pe_int (fun _ _ => rfl)))) (fun _ _ _ _ _ => (pg_name (i := 9) nd rfl (Or.inl rfl))) (fun _ _ _ _ _ => pts_nil) (fun _ _ _ _ _ => (pv 9))) pa_nil))))
      (pss_cons
      (ps_set (i := 7) nd rfl (Or.inl rfl) (pe_lst (StX.pa_star (pv 3) (StX.pa_star (pe_lc2 (own := [("column", 10), ("group", 8)]) (vs1 := [10]) (g := (gName 8)) (g1 := (gName 10)) (te := (tVar 10)) (tt := tYes) (tt1 := tYes) (wi1 := (iList K (tOp (rIxT K) (tVar 8) (tC (.int 1))))) rfl nd (pi_list (pv 4)) (blkOk_by (N := N_ht) (sc := defScope s_ht) (by decide +kernel)) (by decide) (fun _ _ _ _ _ => (pg_name (i := 8) nd rfl (Or.inl rfl))) (fun _ _ _ _ _ => pts_nil) (fun _ _ _ _ _ => (pi_list (pe_ix ix_tup (pv 8) pe_int (fun _ _ => rfl)))) (fun _ _ _ _ _ => (pg_name (i := 10) nd rfl (Or.inl rfl))) (fun _ _ _ _ _ => pts_nil) (fun _ _ _ _ _ => (pv 10))) pa_nil))))
      (pss_one
      (ps_set (i := 1) nd rfl (Or.inl rfl) (pe_lst (StX.pa_star (pv 5) (pa_cons (pe_tup (pa_cons (pe_callB cr_sorted (by rfl) T.sorted (by decide +kernel) (pa_cons (pv 6) pa_nil)) (pa_cons (pv 7) pa_nil))) pa_nil))))))))))
    (pss_one
    (ps_ret (pe_callB (K1.cr_sortedG hu64) (by rfl) T.sorted (by decide +kernel) (pa_cons (pe_lc (own := [("_", 11), ("places", 6)]) (g := (gTup K 2 (gCons (gName 6) (gCons (gName 11) gNil)))) (te := (tVar 6)) (tt := tYes) rfl nd (pi_list (pv 1)) (blkOk_by (N := N_ht) (sc := defScope s_ht) (by decide +kernel)) (fun _ _ _ _ _ => (pg_tup rfl (pgs_cons (pg_name (i := 6) nd rfl (Or.inl rfl)) (pgs_cons (pg_name (i := 11) nd rfl (Or.inl rfl)) pgs_nil)))) (fun _ _ _ _ _ => pts_nil) (fun _ _ _ _ _ => (pv 6))) pa_nil)))))), ?_⟩
    have q0 : Sq C Nil F0 H [some (.lst (L.map .lxs)), none, none, none, none, none, none, none, none, none, none, none] (L2.start N_ht vs) H := Sq.start (N := N_ht) fm rs
    refine seq (st_set (i := 1) (o := .lst []) q0 (q0.ev (rd_lst rds_nil (by decide))) fun v1 H1 s1 q1 => ?_)
    dsimp only
    have l24 := flat4 four
    refine seq (st_for2 (L := L.zipIdx) (enc := fun z => .tup [.int (z.2 : Nat), .lxs z.1]) (up := fun z ρ => (ρ.set 2 (some (.int (z.2 : Nat)))).set 3 (some (.lxs z.1))) [2, 3] q1 ?_ (fun a m => rg_pair (by decide) (by decide)) (fun n ρ => ∃ x2 x3 x4 x5 x6 x7, ρ = [some (.lst (L.map .lxs)), some (.lst (((L.zipIdx.take n).foldl htStep []).map grO)), x2, x3, x4, x5, x6, x7, none, none, none, none]) ⟨none, none, none, none, none, none, rfl⟩ (fun n a ρ' σ' H' D' hn iv kp q2 fin _ _ _ => ?_) (fun ρ' σ' H' iv q2 kp => ?_))
    · have h := ri_enum (K := K) (rds_one (rd_var (C := C) (ρ := [some (.lst (L.map .lxs)), some (.lst []), none, none, none, none, none, none, none, none, none, none]) (i := 0) rfl))
      have e : (L.map Ob.lxs).zipIdx.map (fun z => Ob.tup [.int (z.2 : Nat), z.1]) = L.zipIdx.map fun z => .tup [.int (z.2 : Nat), .lxs z.1] := by
        rw [List.zipIdx_map, List.map_map]; rfl
      rw [← e]; exact h
    · obtain ⟨x2, x3, x4, x5, x6, x7, rfl⟩ := iv
      obtain ⟨hl, ha⟩ := List.getElem?_eq_some_iff.mp hn
      rw [List.length_zipIdx] at hl
      have small := htAll_ps L n (by omega)
      have lenG := htLen L n
      have next : (L.zipIdx.take (n + 1)).foldl htStep [] = htStep ((L.zipIdx.take n).foldl htStep []) a := by rw [take_snoc hn, List.foldl_append]; rfl
      generalize hG : (L.zipIdx.take n).foldl htStep [] = G at small lenG next q2
      have s1' : (G.flatMap (·.1)).length ≤ 6 := by omega
      have s2' : (G.flatMap (·.2)).length ≤ 24 := by
        rw [small.2]
        have : ((L.take n).flatten).length ≤ (L.flatten).length := by
          conv => rhs; rw [← List.take_append_drop n L, List.flatten_append, List.length_append]
          omega
        omega
      have a4 : a.1.length ≤ 4 := by
        have := List.getElem_zipIdx (l := L) (j := 0) (i := n) (by simpa using hl)
        rw [this] at ha
        rw [← ha]; exact four _ (List.getElem_mem _)
      have fewc : ∀ g ∈ G, g.2.length ≤ 1000 := fun g m => by have := flat_len (fun g : Gr => g.2) m; omega
      have hcc : ∀ {ρ : List (Option Ob)} {g : Gr}, g ∈ G → ρ[8]? = some (some (grO g)) → ρ[3]? = some (some (.lxs a.1)) → RD C ρ (tCall (spP C gHc) [] E0 (tCons (tOp (rIxT K) (tVar 8) (tC (.int 1))) (tCons (tVar 3) tNil))) (.bl (hcB g.2 a.1)) := fun {ρ g} m h1 h2 => rd_call (rds_cons (rd_ixT (j := 1) rfl (rd_var h1) (rd_int 1)) (rds_one (rd_var h2))) ⟨.lxs g.2, .lxs a.1, g.2, a.1, rfl, .inr rfl, .inr rfl, fewc g m, rfl⟩
      refine seq (st_set (i := 4) (o := .lst ((G.filter fun g => hcB g.2 a.1).map grO)) q2 (q2.ev (rd_lcA (L := G) (enc := grO) (ri_list (rd_var (i := 1) rfl)).two (by omega) (fun g m => rg_name (by decide)) (fun g m => rt_b (hcc m rfl rfl)) (fun g m _ => rd_var rfl))) fun v2 H2 s2 q3 => ?_)
      dsimp only
      refine seq (st_set (i := 5) (o := .lst ((G.filter fun g => !hcB g.2 a.1).map grO)) q3 (q3.ev (rd_lcA (L := G) (enc := grO) (ri_list (rd_var (i := 1) rfl)).two (by omega) (fun g m => rg_name (by decide)) (fun g m => rt_not (rt_b (hcc m rfl rfl))) (fun g m _ => rd_var rfl))) fun v3 H3 s3 q4 => ?_)
      dsimp only
      have fl := List.length_filter_le (fun g : Gr => hcB g.2 a.1) G
      have fl2 := List.length_filter_le (fun g : Gr => !hcB g.2 a.1) G
      have ff1 := flat_filt (fun g : Gr => g.1) (fun g => hcB g.2 a.1) G
      have ff2 := flat_filt (fun g : Gr => g.2) (fun g => hcB g.2 a.1) G
      refine seq (st_set (i := 6) (o := .lst (((a.2 : Int) :: (G.filter fun g => hcB g.2 a.1).flatMap (·.1)).map .int)) q4 (q4.ev ((rd_lst (rds_cons (rd_var (i := 2) rfl) (rds_star (.inr rfl) (rd_lc2M (L := G.filter fun g => hcB g.2 a.1) (enc := grO) (f := (·.1)) (enc1 := .int) (r := fun _ z => .int z) (ri_list (rd_var (i := 4) rfl)).two (by omega) (fun g m => rg_name (by decide)) (fun g m => (ri_list (rd_ixT (j := 0) rfl (rd_var (i := 8) rfl) (rd_int 0))).two) (fun g m z mz => rg_name (by decide)) (fun g m z mz => rd_var rfl)) rds_nil)) ?_).cast ?_)) fun v5 H5 s5 q5 => ?_)
      · simp only [List.append_nil, List.length_cons, List.length_flatMap, List.length_map]
        simp only [List.length_flatMap] at ff1 s1'
        omega
      · rw [List.append_nil, List.map_cons, List.map_flatMap]
      dsimp only
      refine seq (st_set (i := 7) (o := .lxs (a.1 ++ (G.filter fun g => hcB g.2 a.1).flatMap (·.2))) q5 (q5.ev ((rd_lst (rds_star (.inr rfl) (rd_var (i := 3) rfl) (rds_star (.inr rfl) (rd_lc2M (L := G.filter fun g => hcB g.2 a.1) (enc := grO) (f := (·.2)) (enc1 := .str) (r := fun _ z => .str z) (ri_list (rd_var (i := 4) rfl)).two (by omega) (fun g m => rg_name (by decide)) (fun g m => (ri_list (rd_ixT (j := 1) rfl (rd_var (i := 8) rfl) (rd_int 1))).two) (fun g m z mz => rg_name (by decide)) (fun g m z mz => rd_var rfl)) rds_nil)) ?_).cast ?_)) fun v6 H6 s6 q6 => ?_)
      · simp only [List.append_nil, List.length_append, List.length_flatMap, List.length_map]
        simp only [List.length_flatMap] at ff2 s2'
        omega
      · rw [List.append_nil, Ob.lxs, List.map_append, List.map_flatMap]
      dsimp only
      refine st_set (i := 1) (o := .lst ((htStep G a).map grO)) q6 (q6.ev ((rd_lst (rds_star (us := (G.filter fun g => !hcB g.2 a.1).map grO) (.inr rfl) (rd_var (i := 5) rfl) (rds_one (rd_tup (rds_cons (rd_sortI ?_ (rd_var (i := 6) rfl)) (rds_one (rd_var (i := 7) rfl))) (by show 2 ≤ 1000; decide)))) ?_).cast ?_)) ?_
      · rw [List.length_cons]; omega
      · rw [List.length_append, List.length_map]; show _ + 1 ≤ 1000; omega
      · unfold htStep
        rw [List.map_append]; rfl
      · intro v7 H7 s7 q7
        refine fin _ _ _ ?_ q7 (.same ((((s2.trans s3).trans s5).trans s6).trans s7))
        rw [next]
        exact ⟨_, _, _, _, _, _, rfl⟩
    · obtain ⟨x2, x3, x4, x5, x6, x7, rfl⟩ := iv
      have lenG := htLen L L.zipIdx.length
      rw [List.take_length] at q2 lenG
      rw [List.length_zipIdx] at lenG
      dsimp only
      have hall : L.zipIdx.foldl htStep [] = htAll L := rfl
      rw [hall] at q2 lenG
      refine st_ret (o := .lst ((hang L).map plO)) q2 (q2.ev ((rd_sortG (K := K) (os := (htAll L).map fun g => plO g.1) (by rw [List.length_map]; omega) (fun o m => ?_) (fun d1 m1 d2 m2 => ?_) (.inr fun d m => ?_) (fun o m => ?_) (rd_lcM (L := htAll L) (enc := grO) (r := fun g => plO g.1) (up := fun g ρ => (ρ.set 6 (some (plO g.1))).set 11 (some (.lxs g.2))) (ri_list (rd_var (i := 1) rfl)).two (by omega) (fun g m => rg_pair (by decide) (by decide)) (fun g m => rd_var rfl))).cast ?_)) ?_
      · obtain ⟨g, _, rfl⟩ := List.mem_map.mp m; exact isD_pl g.1
      · obtain ⟨o1, n1, rfl⟩ := List.mem_map.mp m1
        obtain ⟨o2, n2, rfl⟩ := List.mem_map.mp m2
        obtain ⟨g, _, rfl⟩ := List.mem_map.mp n1
        obtain ⟨g', _, rfl⟩ := List.mem_map.mp n2
        exact alike_pl g.1 g'.1
      · obtain ⟨o1, n1, rfl⟩ := List.mem_map.mp m
        obtain ⟨g, _, rfl⟩ := List.mem_map.mp n1
        exact ⟨fun z => (by cases z), fun xs z => (by cases z)⟩
      · obtain ⟨g, _, rfl⟩ := List.mem_map.mp m; exact depth_pl g.1
      · unfold hang
        rw [List.map_mergeSort (r := leP) (s := leO) (f := plO) (fun _ _ _ _ => rfl), List.map_map]; rfl
      · intro v H5 kp5 rv _ _
        exact k v H5 kp5.toSame rv
end
end B30_

/-! ## B30_93 -/
set_option Elab.async false
set_option linter.all false
set_option maxRecDepth 100000
set_option maxHeartbeats 4000000
namespace B30_
open PySem PySem.Spec PyProof.Rows L2
/-! ### what hangs together, as mathematics -/
section
variable {ι κ : Type} {items : List ι} {col : ι → List Str}
inductive Con (items : List ι) (col : ι → List Str) : ι → ι → Prop
  | refl {i : ι} : Con items col i i
  | step {i j k : ι} : Con items col i j → j ∈ items → k ∈ items → (∃ z, z ∈ col j ∧ z ∈ col k) → Con items col i k
theorem Con.trans {i j k : ι} (a : Con items col i j) (b : Con items col j k) : Con items col i k := by
  induction b with
  | refl => exact a
  | step _ h1 h2 h3 ih => exact .step ih h1 h2 h3
theorem Con.symm {i j : ι} (a : Con items col i j) : Con items col j i := by
  induction a with
  | refl => exact .refl
  | step _ h1 h2 h3 ih => exact Con.trans (.step .refl h2 h1 (h3.imp fun z q => ⟨q.2, q.1⟩)) ih
/-- groups of items and what they cover -/
structure Part (items : List ι) (col : ι → List Str) (G : List (List ι × List Str)) : Prop where
  perm : (G.flatMap (·.1)).Perm items
  ne : ∀ g ∈ G, g.1 ≠ []
  cov : ∀ g ∈ G, ∀ z, z ∈ g.2 ↔ ∃ i ∈ g.1, z ∈ col i
  con : ∀ g ∈ G, ∀ i ∈ g.1, ∀ j ∈ g.1, Con items col i j
def Apt {ι : Type} (g h : List ι × List Str) : Prop := ∀ z, z ∈ g.2 → z ∉ h.2
def Sep (G : List (List ι × List Str)) : Prop := G.Pairwise Apt
theorem pw_mem {α : Type} {R : α → α → Prop} : ∀ {l : List α}, l.Pairwise R → ∀ {a b : α}, a ∈ l → b ∈ l → a = b ∨ R a b ∨ R b a
  | [], _, _, _, h, _ => by cases h
  | x :: r, p, a, b, ha, hb => by
    rw [List.pairwise_cons] at p
    rcases List.mem_cons.mp ha with ea | ha
    · rcases List.mem_cons.mp hb with eb | hb
      · exact .inl (ea.trans eb.symm)
      · exact .inr (.inl (ea ▸ p.1 b hb))
    · rcases List.mem_cons.mp hb with eb | hb
      · exact .inr (.inr (eb ▸ p.1 a ha))
      · exact pw_mem p.2 ha hb
theorem Part.mem {G : List (List ι × List Str)} (p : Part items col G) {g : List ι × List Str} (h : g ∈ G) {i : ι} (m : i ∈ g.1) : i ∈ items := p.perm.mem_iff.mp (List.mem_flatMap.mpr ⟨g, h, m⟩)
theorem Part.at {G : List (List ι × List Str)} (p : Part items col G) {i : ι} (m : i ∈ items) : ∃ g ∈ G, i ∈ g.1 := List.mem_flatMap.mp (p.perm.mem_iff.mpr m)
theorem Part.closed {G : List (List ι × List Str)} (p : Part items col G) (s : Sep G) {g : List ι × List Str} (h : g ∈ G) {i j : ι} (m : i ∈ g.1) (c : Con items col i j) : j ∈ g.1 := by
  induction c with
  | refl => exact m
  | @step j k _ hj hk hz ih =>
    obtain ⟨z, z1, z2⟩ := hz
    obtain ⟨g', h', m'⟩ := p.at hk
    have c1 := (p.cov g h z).mpr ⟨j, ih, z1⟩
    have c2 := (p.cov g' h' z).mpr ⟨k, m', z2⟩
    rcases pw_mem s h h' with rfl | r | r
    · exact m'
    · exact absurd c2 (r z c1)
    · exact absurd c1 (r z c2)
theorem part_uniq {G G' : List (List ι × List Str)} (p : Part items col G) (s : Sep G) (p' : Part items col G') (s' : Sep G') {g : List ι × List Str} (h : g ∈ G) : ∃ g' ∈ G', ∀ i, i ∈ g.1 ↔ i ∈ g'.1 := by
  obtain ⟨i0, m0⟩ := List.exists_mem_of_ne_nil _ (p.ne g h)
  obtain ⟨g', h', m'⟩ := p'.at (p.mem h m0)
  exact ⟨g', h', fun i => ⟨fun m => p'.closed s' h' m' (p.con g h i0 m0 i m), fun m => p.closed s h m0 (p'.con g' h' i0 m' i m)⟩⟩
/-- groups of other names -/
theorem Part.map {G : List (List ι × List Str)} (p : Part items col G) {f : ι → κ} {items' : List κ} {col' : κ → List Str} (e : items.map f = items') (hc : ∀ i ∈ items, col' (f i) = col i) : Part items' col' (G.map fun g => (g.1.map f, g.2)) where
  perm := by
    rw [← e, List.flatMap_map]
    have : (G.flatMap fun g => g.1.map f) = (G.flatMap (·.1)).map f := by rw [List.map_flatMap]
    rw [this]
    exact p.perm.map f
  ne := fun g h => by
    obtain ⟨g0, h0, rfl⟩ := List.mem_map.mp h
    exact fun z => p.ne g0 h0 (List.map_eq_nil_iff.mp z)
  cov := fun g h z => by
    obtain ⟨g0, h0, rfl⟩ := List.mem_map.mp h
    rw [p.cov g0 h0 z]
    constructor
    · rintro ⟨i, m, hz⟩
      exact ⟨f i, List.mem_map.mpr ⟨i, m, rfl⟩, by rw [hc i (p.mem h0 m)]; exact hz⟩
    · rintro ⟨k, m, hz⟩
      obtain ⟨i, mi, rfl⟩ := List.mem_map.mp m
      exact ⟨i, mi, by rw [hc i (p.mem h0 mi)] at hz; exact hz⟩
  con := fun g h i hi j hj => by
    obtain ⟨g0, h0, rfl⟩ := List.mem_map.mp h
    obtain ⟨i0, mi, rfl⟩ := List.mem_map.mp hi
    obtain ⟨j0, mj, rfl⟩ := List.mem_map.mp hj
    have c := p.con g0 h0 i0 mi j0 mj
    have : ∀ {a b : ι}, Con items col a b → Con items' col' (f a) (f b) := by
      intro a b c
      induction c with
      | refl => exact .refl
      | step _ h1 h2 h3 ih =>
        obtain ⟨z, z1, z2⟩ := h3
        exact .step ih (e ▸ List.mem_map.mpr ⟨_, h1, rfl⟩) (e ▸ List.mem_map.mpr ⟨_, h2, rfl⟩) ⟨z, by rw [hc _ h1]; exact z1, by rw [hc _ h2]; exact z2⟩
    exact this c
theorem Sep.map {G : List (List ι × List Str)} (s : Sep G) {f : ι → κ} : Sep (G.map fun g => (g.1.map f, g.2)) := by
  unfold Sep
  rw [List.pairwise_map]
  exact s
/-- items that are there first stay together when more come -/
theorem Con.mono {items' : List ι} (h : ∀ i ∈ items, i ∈ items') {i j : ι} (c : Con items col i j) : Con items' col i j := by
  induction c with
  | refl => exact .refl
  | step _ h1 h2 h3 ih => exact .step ih (h _ h1) (h _ h2) h3
end
theorem hcB_iff {cs ds : List Str} : hcB cs ds = true ↔ ∃ z, z ∈ cs ∧ z ∈ ds := by
  unfold hcB
  simp only [List.any_eq_true, decide_eq_true_eq]
/-! ### hanging_together makes the groups -/
def colL (L : List (List Str)) (i : Int) : List Str := L.getD i.toNat []
def upTo (n : Nat) : List Int := (List.range n).map fun (k : Nat) => (k : Int)
theorem upTo_succ (n : Nat) : upTo (n + 1) = upTo n ++ [(n : Int)] := by
  unfold upTo
  rw [List.range_succ, List.map_append]; rfl
theorem mem_upTo {n : Nat} {i : Int} : i ∈ upTo n ↔ 0 ≤ i ∧ i < n := by
  unfold upTo
  rw [List.mem_map]
  constructor
  · rintro ⟨k, hk, rfl⟩
    rw [List.mem_range] at hk; omega
  · intro h
    exact ⟨i.toNat, List.mem_range.mpr (by omega), Int.toNat_of_nonneg h.1⟩
theorem htStep_ok {L : List (List Str)} {n : Nat} {a : List Str × Nat} {G : List Gr} (ha : a.2 = n) (hc : a.1 = colL L n) (p : Part (upTo n) (colL L) G) (s : Sep G) (so : ∀ g ∈ G, g.1 = srtZ g.1) :
    Part (upTo (n + 1)) (colL L) (htStep G a) ∧ Sep (htStep G a) ∧ ∀ g ∈ htStep G a, g.1 = srtZ g.1 := by
  have inc : ∀ i ∈ upTo n, i ∈ upTo (n + 1) := fun i m => by rw [mem_upTo] at *; omega
  have top : (n : Int) ∈ upTo (n + 1) := mem_upTo.mpr (by omega)
  have memN : ∀ g ∈ htStep G a, (g ∈ G ∧ hcB g.2 a.1 = false) ∨ g = (srtZ ((a.2 : Int) :: (G.filter fun g => hcB g.2 a.1).flatMap (·.1)), a.1 ++ (G.filter fun g => hcB g.2 a.1).flatMap (·.2)) := fun g m => by
    unfold htStep at m
    rcases List.mem_append.mp m with m | m
    · have := List.mem_filter.mp m
      exact .inl ⟨this.1, by simpa using this.2⟩
    · exact .inr (List.mem_singleton.mp m)
  have covN : ∀ z, z ∈ a.1 ++ (G.filter fun g => hcB g.2 a.1).flatMap (·.2) ↔ ∃ i ∈ srtZ ((a.2 : Int) :: (G.filter fun g => hcB g.2 a.1).flatMap (·.1)), z ∈ colL L i := fun z => by
    rw [List.mem_append, List.mem_flatMap]
    constructor
    · rintro (h | ⟨g, m, h⟩)
      · exact ⟨n, (srtZ_perm _).mem_iff.mpr (by rw [ha]; exact List.mem_cons_self), hc ▸ h⟩
      · obtain ⟨i, mi, hz⟩ := (p.cov g (List.mem_filter.mp m).1 z).mp h
        exact ⟨i, (srtZ_perm _).mem_iff.mpr (List.mem_cons_of_mem _ (List.mem_flatMap.mpr ⟨g, m, mi⟩)), hz⟩
    · rintro ⟨i, mi, hz⟩
      rcases List.mem_cons.mp ((srtZ_perm _).mem_iff.mp mi) with rfl | mi
      · exact .inl (by rw [hc]; rw [ha] at hz; exact hz)
      · obtain ⟨g, m, mg⟩ := List.mem_flatMap.mp mi
        exact .inr ⟨g, m, (p.cov g (List.mem_filter.mp m).1 z).mpr ⟨i, mg, hz⟩⟩
  refine ⟨⟨?_, fun g m => ?_, fun g m => ?_, fun g m => ?_⟩, ?_, fun g m => ?_⟩
  · refine (htStep_ps G a).trans ?_
    rw [upTo_succ, ha]
    exact (p.perm.cons _).trans (List.perm_append_comm (l₁ := [(n : Int)]))
  · rcases memN g m with ⟨m, _⟩ | rfl
    · exact p.ne g m
    · intro z
      have := congrArg List.length z
      rw [(srtZ_perm _).length_eq] at this
      simp at this
  · rcases memN g m with ⟨m, _⟩ | rfl
    · exact p.cov g m
    · exact covN
  · rcases memN g m with ⟨m, _⟩ | rfl
    · exact fun i hi j hj => (p.con g m i hi j hj).mono inc
    · have toN : ∀ i ∈ srtZ ((a.2 : Int) :: (G.filter fun g => hcB g.2 a.1).flatMap (·.1)), Con (upTo (n + 1)) (colL L) (n : Int) i := fun i hi => by
        rcases List.mem_cons.mp ((srtZ_perm _).mem_iff.mp hi) with rfl | hi
        · rw [ha]; exact .refl
        · obtain ⟨g, m, mg⟩ := List.mem_flatMap.mp hi
          obtain ⟨m, hb⟩ := List.mem_filter.mp m
          obtain ⟨z, z1, z2⟩ := hcB_iff.mp hb
          obtain ⟨k, mk, hz⟩ := (p.cov g m z).mp z1
          exact Con.trans (.step .refl top (inc _ (p.mem m mk)) ⟨z, hc ▸ z2, hz⟩) ((p.con g m k mk i mg).mono inc)
      exact fun i hi j hj => (toN i hi).symm.trans (toN j hj)
  · unfold htStep Sep
    rw [List.pairwise_append]
    refine ⟨s.sublist List.filter_sublist, List.pairwise_singleton _ _, fun g m h hm z hz1 hz2 => ?_⟩
    obtain ⟨m, hb⟩ := List.mem_filter.mp m
    have hb' : hcB g.2 a.1 = false := by simpa using hb
    obtain rfl := List.mem_singleton.mp hm
    rcases List.mem_append.mp hz2 with hz2 | hz2
    · rw [hcB_iff.mpr ⟨z, hz1, hz2⟩] at hb'; cases hb'
    · obtain ⟨g', m', hz3⟩ := List.mem_flatMap.mp hz2
      obtain ⟨m', hb2⟩ := List.mem_filter.mp m'
      rcases pw_mem s m m' with rfl | r | r
      · rw [hb'] at hb2; cases hb2
      · exact r z hz1 hz3
      · exact r z hz3 hz1
  · rcases memN g m with ⟨m, _⟩ | rfl
    · exact so g m
    · exact srtZ_of (.refl _) (srtZ_pair _)
theorem htAll_ok (L : List (List Str)) : ∀ n, n ≤ L.length → Part (upTo n) (colL L) ((L.zipIdx.take n).foldl htStep []) ∧ Sep ((L.zipIdx.take n).foldl htStep []) ∧ ∀ g ∈ (L.zipIdx.take n).foldl htStep [], g.1 = srtZ g.1
  | 0, _ => ⟨⟨.refl _, fun g m => (by cases m), fun g m => (by cases m), fun g m => (by cases m)⟩, .nil, fun g m => (by cases m)⟩
  | n + 1, h => by
    obtain ⟨p, s, so⟩ := htAll_ok L n (by omega)
    have e : L.zipIdx[n]? = some (L[n], n) := by rw [List.getElem?_zipIdx, List.getElem?_eq_getElem (by omega)]; simp
    rw [take_snoc e, List.foldl_append]
    simp only [List.foldl_cons, List.foldl_nil]
    refine htStep_ok rfl ?_ p s so
    unfold colL
    simp [List.getD, List.getElem?_eq_getElem (show n < L.length by omega)]
theorem ht_ok (L : List (List Str)) : Part (upTo L.length) (colL L) (htAll L) ∧ Sep (htAll L) ∧ ∀ g ∈ htAll L, g.1 = srtZ g.1 := by
  have h := htAll_ok L L.length (Nat.le_refl _)
  rw [List.take_of_length_le (by rw [List.length_zipIdx]; exact Nat.le_refl _)] at h
  exact h
end B30_

/-! ## B30_94 -/
set_option Elab.async false
set_option linter.all false
set_option maxRecDepth 100000
set_option maxHeartbeats 4000000
namespace B30_
open PySem PySem.Spec PyProof.Rows L2
/-! ### the order of lists that have nothing in common -/
theorem leO_tot : PySem.W.TotalLe leO := PySem.W.sortLe_total _ false _
theorem pds_ints (ns : List Int) : pds (ns.map .int) = ns.map .int := by
  induction ns with
  | nil => rfl
  | cons n r ih => rw [List.map_cons, pds, ih]; rfl
theorem leO_eq (a b : Ob) : leO a b = !PySem.W.dataLt b.pd a.pd := rfl
theorem head_pl {x y : Int} {a b : List Int} (h : leO (plO (x :: a)) (plO (y :: b)) = true) (n : x ≠ y) : x < y := by
  rw [leO_eq] at h
  have e1 : (plO (x :: a)).pd = .list (.int x :: a.map .int) := by show PyData.list (pds ((x :: a).map .int)) = _; rw [pds_ints]; rfl
  have e2 : (plO (y :: b)).pd = .list (.int y :: b.map .int) := by show PyData.list (pds ((y :: b).map .int)) = _; rw [pds_ints]; rfl
  rw [e1, e2, PySem.W.dataLt_list, PySem.W.dataLt_cons rfl] at h
  have ne : PyData.eqv (.int y) (.int x) = false := by
    have : ¬ y = x := fun z => n z.symm
    simp [PyData.eqv, this]
  rw [ne, if_neg Bool.false_ne_true, PySem.W.dataLt_int] at h
  simp only [Bool.not_eq_true', decide_eq_false_iff_not] at h
  omega
theorem head_tx {x y : Str} {a b : List Str} (h : leO (.txs (x :: a)) (.txs (y :: b)) = true) (n : x ≠ y) : x.cps.toList < y.cps.toList := by
  rw [leO_eq] at h
  have e1 : (Ob.txs (x :: a)).pd = .tuple (.str x :: a.map .str) := by show PyData.tuple (pds ((x :: a).map .str)) = _; rw [pds_strs]; rfl
  have e2 : (Ob.txs (y :: b)).pd = .tuple (.str y :: b.map .str) := by show PyData.tuple (pds ((y :: b).map .str)) = _; rw [pds_strs]; rfl
  rw [e1, e2, PySem.W.dataLt_tuple, PySem.W.dataLt_cons rfl] at h
  have ne : PyData.eqv (.str y) (.str x) = false := by
    have : ¬ y = x := fun z => n z.symm
    simp [PyData.eqv, this]
  rw [ne, if_neg Bool.false_ne_true, PySem.W.dataLt_str] at h
  simp only [Bool.not_eq_true', decide_eq_false_iff_not] at h
  rcases Classical.em (x.cps.toList < y.cps.toList) with h2 | h2
  · exact h2
  · exact absurd (PySem.W.str_of_cps (List.le_antisymm (List.not_lt.mp h) (List.not_lt.mp h2))) n
def hdLt (a b : List Str) : Prop := ∃ x y, a.head? = some x ∧ b.head? = some y ∧ x.cps.toList < y.cps.toList
theorem hdLt_as (a b : List Str) (h : hdLt a b) : ¬ hdLt b a := fun h2 => by
  obtain ⟨x, y, h1, h2', h3⟩ := h
  obtain ⟨u, v, h4, h5, h6⟩ := h2
  rw [h1] at h5; rw [h2'] at h4
  cases h4; cases h5
  exact List.lt_asymm h3 h6
theorem uniq_pw {α : Type} {R : α → α → Prop} (as : ∀ a b, R a b → ¬ R b a) : ∀ {l m : List α}, (∀ z, z ∈ l ↔ z ∈ m) → l.Pairwise R → m.Pairwise R → l = m
  | [], m, h, _, _ => by
    cases m with
    | nil => rfl
    | cons b m => exact absurd ((h b).mpr List.mem_cons_self) (by simp)
  | a :: l, m, h, hl, hm => by
    cases m with
    | nil => exact absurd ((h a).mp List.mem_cons_self) (by simp)
    | cons b m =>
      rw [List.pairwise_cons] at hl hm
      have e : a = b := by
        rcases List.mem_cons.mp ((h a).mp List.mem_cons_self) with e | h1
        · exact e
        rcases List.mem_cons.mp ((h b).mpr List.mem_cons_self) with e | h2
        · exact e.symm
        exact absurd (hm.1 a h1) (as _ _ (hl.1 b h2))
      subst e
      have t : l = m := uniq_pw as (fun z => by
        constructor
        · intro mz
          rcases List.mem_cons.mp ((h z).mp (List.mem_cons_of_mem _ mz)) with e | q
          · rw [e] at mz
            exact absurd (hl.1 a mz) (fun r => as _ _ r r)
          · exact q
        · intro mz
          rcases List.mem_cons.mp ((h z).mpr (List.mem_cons_of_mem _ mz)) with e | q
          · rw [e] at mz
            exact absurd (hm.1 a mz) (fun r => as _ _ r r)
          · exact q) hl.2 hm.2
      rw [t]
/-- nothing in common -/
def Dis {α : Type} (a b : List α) : Prop := ∀ i ∈ a, i ∉ b
theorem Dis.symm {α : Type} {a b : List α} (h : Dis a b) : Dis b a := fun i hb ha => h i ha hb
theorem dis_of {α β : Type} (f : α → List β) : ∀ {G : List α}, (G.flatMap f).Nodup → (G.map f).Pairwise Dis
  | [], _ => .nil
  | g :: r, h => by
    rw [List.flatMap_cons, List.nodup_append] at h
    rw [List.map_cons, List.pairwise_cons]
    refine ⟨fun b hb i hi hib => ?_, dis_of f h.2.1⟩
    obtain ⟨g', m, rfl⟩ := List.mem_map.mp hb
    exact h.2.2 i hi i (List.mem_flatMap.mpr ⟨g', m, hib⟩) rfl
theorem nd_of {α β : Type} (f : α → List β) {G : List α} (h : (G.flatMap f).Nodup) {g : α} (m : g ∈ G) : (f g).Nodup := by
  induction G with
  | nil => cases m
  | cons a r ih =>
    rw [List.flatMap_cons, List.nodup_append] at h
    rcases List.mem_cons.mp m with rfl | m
    · exact h.1
    · exact ih h.2.1 m
abbrev nmAt (others : List Str) (i : Int) : Str := others.getD i.toNat Str.empty
def leS (a b : List Str) : Bool := leO (.txs a) (.txs b)
theorem pieces_eq {others : List Str} (asc : others.Pairwise fun a b => a.cps.toList < b.cps.toList) {L : List (List Str)} (hl : L.length = others.length) {colN : Str → List Str} (hc : ∀ k, k < others.length → colN (nmAt others k) = colL L k) {G' : List (List Str × List Str)} (p' : Part others colN G') (s' : Sep G') :
    ((hang L).map fun ps => ps.map (nmAt others)) = (G'.map fun g => srtd g.1).mergeSort leS := by
  obtain ⟨p, s, so⟩ := ht_ok L
  have ndo : others.Nodup := asc.imp fun h e => by rw [e] at h; exact List.lt_irrefl _ h
  have fAt : ∀ k, (h : k < others.length) → nmAt others k = others[k] := fun k h => by
    show others.getD (k : Int).toNat Str.empty = _
    simp [List.getD, List.getElem?_eq_getElem h]
  have e : (upTo L.length).map (nmAt others) = others := by
    unfold upTo
    rw [List.map_map]
    refine List.ext_getElem (by simp [hl]) fun k h1 h2 => ?_
    rw [List.getElem_map, List.getElem_range]
    exact fAt k h2
  have hc' : ∀ i ∈ upTo L.length, colN (nmAt others i) = colL L i := fun i m => by
    rw [mem_upTo] at m
    obtain ⟨k, rfl⟩ := Int.eq_ofNat_of_zero_le m.1
    exact hc k (by omega)
  have mono : ∀ i j, i ∈ upTo L.length → j ∈ upTo L.length → i < j → (nmAt others i).cps.toList < (nmAt others j).cps.toList := fun i j mi mj h => by
    rw [mem_upTo] at mi mj
    obtain ⟨a, rfl⟩ := Int.eq_ofNat_of_zero_le mi.1
    obtain ⟨b, rfl⟩ := Int.eq_ofNat_of_zero_le mj.1
    rw [fAt a (by omega), fAt b (by omega)]
    exact List.pairwise_iff_getElem.mp asc a b (by omega) (by omega) (by omega)
  have pm := p.map e hc'
  have sm := s.map (f := nmAt others)
  have ndu : (upTo L.length).Nodup := by
    unfold upTo
    rw [List.nodup_iff_pairwise_ne, List.pairwise_map]
    exact List.nodup_range.imp fun h z => h (by exact Int.ofNat.inj z)
  have ndG : ((htAll L).flatMap (·.1)).Nodup := p.perm.nodup_iff.mpr ndu
  have ndG' : (G'.flatMap (·.1)).Nodup := p'.perm.nodup_iff.mpr ndo
  have one : ∀ g ∈ htAll L, ∀ g' ∈ G', (∀ i, i ∈ g.1.map (nmAt others) ↔ i ∈ g'.1) → g.1.map (nmAt others) = srtd g'.1 := fun g m g' m' h => by
    have nd1 := nd_of (fun g : Gr => g.1) ndG m
    have a1 : (g.1.map (nmAt others)).Pairwise fun a b => a.cps.toList < b.cps.toList := by
      rw [List.pairwise_map]
      have h1 : g.1.Pairwise (· ≤ ·) := by rw [so g m]; exact srtZ_pair _
      have h2 := (List.Pairwise.and h1 nd1)
      refine List.Pairwise.imp_of_mem (fun {i j} hi hj q => mono i j (p.mem m hi) (p.mem m hj) ?_) h2
      have := q.2; omega
    rw [← srtd_asc a1]
    refine srtd_congr (K1.perm_of_len ?_ (fun z mz => (h z).mp mz) ?_)
    · exact a1.imp fun h e => by rw [e] at h; exact List.lt_irrefl _ h
    · exact (nd_of (fun g : List Str × List Str => g.1) ndG' m').length_le_of_subset fun z mz => (h z).mpr mz
  refine uniq_pw hdLt_as (fun z => ?_) ?_ ?_
  · constructor
    · intro mz
      obtain ⟨ps, mp, rfl⟩ := List.mem_map.mp mz
      obtain ⟨g, mg, rfl⟩ := List.mem_map.mp (List.mem_mergeSort.mp mp)
      obtain ⟨g', m', h⟩ := part_uniq pm sm p' s' (List.mem_map.mpr ⟨g, mg, rfl⟩)
      exact List.mem_mergeSort.mpr (List.mem_map.mpr ⟨g', m', (one g mg g' m' h).symm⟩)
    · intro mz
      obtain ⟨g', m', rfl⟩ := List.mem_map.mp (List.mem_mergeSort.mp mz)
      obtain ⟨g0, m0, h⟩ := part_uniq p' s' pm sm m'
      obtain ⟨g, mg, rfl⟩ := List.mem_map.mp m0
      exact List.mem_map.mpr ⟨g.1, List.mem_mergeSort.mpr (List.mem_map.mpr ⟨g, mg, rfl⟩), one g mg g' m' fun i => (h i).symm⟩
  · rw [List.pairwise_map]
    have h1 : (hang L).Pairwise fun a b => leP a b = true := PySem.W.sort_pairwise (PySem.W.sortLe_total _ false _) _
    have h2 : (hang L).Pairwise Dis := ((List.mergeSort_perm _ _).pairwise_iff fun {a b} h => h.symm).mpr (dis_of (fun g : Gr => g.1) ndG)
    refine List.Pairwise.imp_of_mem (fun {a b} ma mb q => ?_) (h1.and h2)
    obtain ⟨g, mg, rfl⟩ := List.mem_map.mp (List.mem_mergeSort.mp ma)
    obtain ⟨g', mg', rfl⟩ := List.mem_map.mp (List.mem_mergeSort.mp mb)
    have n1 := p.ne g mg
    have n2 := p.ne g' mg'
    cases e1 : g.1 with
    | nil => exact absurd e1 n1
    | cons x r =>
      cases e2 : g'.1 with
      | nil => exact absurd e2 n2
      | cons y t =>
        rw [e1, e2] at q
        have ne : x ≠ y := fun z => q.2 x List.mem_cons_self (z ▸ List.mem_cons_self)
        refine ⟨nmAt others x, nmAt others y, rfl, rfl, mono x y (p.mem mg (e1 ▸ List.mem_cons_self)) (p.mem mg' (e2 ▸ List.mem_cons_self)) (head_pl q.1 ne)⟩
  · have h1 : ((G'.map fun g => srtd g.1).mergeSort leS).Pairwise fun a b => leS a b = true := PySem.W.sort_pairwise (le := leS) ⟨fun a b c => leO_tot.trans (.txs a) (.txs b) (.txs c), fun a b => leO_tot.total (.txs a) (.txs b)⟩ _
    have h0 : (G'.map fun g => srtd g.1).Pairwise Dis := by
      have := dis_of (fun g : List Str × List Str => g.1) ndG'
      rw [List.pairwise_map] at this ⊢
      exact this.imp fun h i hi hj => h i (mem_srtd.mp hi) (mem_srtd.mp hj)
    have h2 : ((G'.map fun g => srtd g.1).mergeSort leS).Pairwise Dis := ((List.mergeSort_perm _ _).pairwise_iff fun {a b} h => h.symm).mpr h0
    refine List.Pairwise.imp_of_mem (fun {a b} ma mb q => ?_) (h1.and h2)
    obtain ⟨g, mg, rfl⟩ := List.mem_map.mp (List.mem_mergeSort.mp ma)
    obtain ⟨g', mg', rfl⟩ := List.mem_map.mp (List.mem_mergeSort.mp mb)
    have n1 : srtd g.1 ≠ [] := fun z => p'.ne g mg (List.length_eq_zero_iff.mp (by rw [← srtd_len, z]; rfl))
    have n2 : srtd g'.1 ≠ [] := fun z => p'.ne g' mg' (List.length_eq_zero_iff.mp (by rw [← srtd_len, z]; rfl))
    cases e1 : srtd g.1 with
    | nil => exact absurd e1 n1
    | cons x r =>
      cases e2 : srtd g'.1 with
      | nil => exact absurd e2 n2
      | cons y t =>
        rw [e1, e2] at q
        have ne : x ≠ y := fun z => q.2 x List.mem_cons_self (z ▸ List.mem_cons_self)
        exact ⟨x, y, rfl, rfl, head_tx q.1 ne⟩
end B30_

/-! ## B30_95 -/
set_option Elab.async false
set_option linter.all false
set_option maxRecDepth 100000
set_option maxHeartbeats 8000000
namespace B30_
open PySem PySem.Spec PyProof.Rows L2
/-! ### roles among tables -/
def roleEq (o : Ob) (t : Str) : Bool := match o with
  | .str x => decide (t = x)
  | _ => false
def othersOf (o : Ob) (ts : List Str) : List Str := ts.filter fun t => !roleEq o t
def outerOf (Ls : List Ln) (cs ts : List Str) (t : Str) : List Str := (colsAt Ls t).filter fun c => !decide (c ∈ closureOf Ls cs ts)
def piecesOf (Ls : List Ln) (o : Ob) (cs ts : List Str) : List (List Str) := (hang ((othersOf o ts).map (outerOf Ls cs ts))).map fun ps => ps.map (nmAt (othersOf o ts))
section
variable {C : Addr} {ρ : List (Option Ob)} {K : PySem.W.Frag} {ta tb : TE} {t : TA} {Ls : List Ln} {o : Ob} {cs ts : List Str} {z : Str}
theorem shaped_str {z : Str} (h : PyData.strOk z = true) : SeqAt.shaped (.str z) = true := by
  unfold SeqAt.shaped
  rw [show PyData.canLay0 (.str z) = true from h, show PyData.depth (.str z) = 0 by simp [PyData.depth]]
  rfl
theorem rd_neRole (ok : LnsOk Ls) (ro : RoleIs Ls o cs) (hz : nameB z = true) (a : RD C ρ ta (.str z)) (b : RD C ρ tb o) : RD C ρ (tOp (rNeD K) ta tb) (.bl (!roleEq o z)) := by
  rcases ro with ⟨l, ml, lk, rfl, rfl⟩ | ⟨rfl, c, sub⟩
  · have h := rd_neD (K := K) a b rfl rfl (shaped_str (name_strOk hz)) (shaped_str (name_strOk (ok.good l ml).name))
    refine h.cast (congrArg Ob.bl ?_)
    show (!PyData.eqv (.str z) (.str l.t)) = !decide (z = l.t)
    have : PyData.eqv (.str z) (.str l.t) = decide (z = l.t) := by simp only [PyData.eqv]; rw [Bool.eq_iff_iff]; simp
    rw [this]
  · have h := rd_neD (K := K) a b rfl (areD_strs cs) (shaped_str (name_strOk hz)) (by show SeqAt.shaped (.tuple (pds (cs.map .str))) = true; rw [pds_strs]; exact shaped_tstrs cs fun z m => name_strOk (c.names z m))
    refine h.cast (congrArg Ob.bl ?_)
    show (!PyData.eqv (.str z) (.tuple (pds (cs.map .str)))) = !false
    congr 1
end
theorem hang_mem {L : List (List Str)} {ps : List Int} (m : ps ∈ hang L) : (∀ i ∈ ps, i ∈ upTo L.length) ∧ ps.length ≤ L.length := by
  obtain ⟨p, s, so⟩ := ht_ok L
  obtain ⟨g, mg, rfl⟩ := List.mem_map.mp (List.mem_mergeSort.mp m)
  refine ⟨fun i hi => p.mem mg hi, ?_⟩
  have h := flat_len (fun g : Gr => g.1) mg
  rw [p.perm.length_eq] at h
  unfold upTo at h
  simpa using h
theorem hang_len (L : List (List Str)) : (hang L).length ≤ L.length := by
  unfold hang
  rw [List.length_mergeSort, List.length_map]
  have := htLen L L.zipIdx.length
  rw [List.take_length, List.length_zipIdx] at this
  exact this
section
variable {P : Program} {w : World} {K : PySem.W.Frag} {mg : Str → Option Value} {base : Heap}
/-! ### _inner_columns -/
abbrev s_inn : Stmt := topS 42
abbrev N_inn : List Str := ["scene", "role", "given"]
theorem sc_inn : FnScope N_inn ["scene", "role", "given"] (defScope s_inn) := ⟨rfl, rfl, rfl, by decide +kernel, rfl, by decide +kernel, by decide +kernel⟩
def gInn (os : List Ob) (r : Ob) : Prop := ∃ (Ls : List Ln) (o : Ob) (cs ts : List Str), os = [.scn Ls, o, .txs ts] ∧ LnsOk Ls ∧ RoleIs Ls o cs ∧ ts.length ≤ 100 ∧ (∀ z ∈ ts, z ∈ tabsOf Ls) ∧ r = .txs (closureOf Ls cs ts)
theorem ok_inn {f C : Addr} {fd : FuncData} (F : Fun K "_inner_columns" "_inner_columns" s_inn f fd) (T : NamesS mg) (C_ci : Callee P w K mg base CX0 6 "closure_in" ["scene", "columns", "tables"] (spP C gCi)) (C_cor : Callee P w K mg base CX0 4 "columns_of_role" ["scene", "role"] (spP C gCor)) : FnOk P w K mg base CX0 7 f fd ["scene", "role", "given"] (spP C gInn) := by
  have nd := sc_inn.nd
  refine F.ok sc_inn (fun vs H Q E h => ?_) (fun cdv A outer s H vs Q E hr h => ?_)
  · obtain ⟨F, os, r, _, rs, ⟨Ls, o, cs, ts, rfl, _⟩, _⟩ := h
    exact rs.length
  · obtain ⟨F0, os, r, fm, rs, ⟨Ls, o, cs, ts, rfl, ok, ro, few, sub, rfl⟩, k⟩ := h
    refine ⟨_, (pss_one
    (ps_ret (pe_use C_ci (hr.mono (by decide)) rfl pass0 (pa_cons (pv 0) (pa_cons (pe_use C_cor (hr.mono (by decide)) rfl pass0 (pa_cons (pv 0) (pa_cons (pv 1) pa_nil))) (pa_cons (pv 2) pa_nil)))))), ?_⟩
    have q0 : Sq C Nil F0 H [some (.scn Ls), some o, some (.txs ts)] (L2.start N_inn vs) H := Sq.start (N := N_inn) fm rs
    have fewc := ro.few ok
    refine st_ret q0 (q0.ev (rd_call (rds_cons (rd_var (i := 0) rfl) (rds_cons (rd_call (rds_cons (rd_var (i := 0) rfl) (rds_one (rd_var (i := 1) rfl))) ⟨Ls, o, cs, rfl, ok, ro, rfl⟩) (rds_one (rd_var (i := 2) rfl)))) ⟨Ls, cs, ts, rfl, ok, ro.nd ok, fewc, few, sub, rfl⟩)) ?_
    intro v H5 kp5 rv _ _
    exact k v H5 kp5.toSame rv
/-! ### pieces_among -/
abbrev s_pa : Stmt := topS 41
abbrev N_pa : List Str := ["scene", "role", "given", "inner", "others", "outer", "table", "column", "places", "at"]
theorem sc_pa : FnScope N_pa ["scene", "role", "given"] (defScope s_pa) := ⟨rfl, rfl, rfl, by decide +kernel, rfl, by decide +kernel, by decide +kernel⟩
def gPa (os : List Ob) (r : Ob) : Prop := ∃ (Ls : List Ln) (o : Ob) (cs ts : List Str), os = [.scn Ls, o, .txs ts] ∧ LnsOk Ls ∧ RoleIs Ls o cs ∧ Cols ts ∧ (∀ z ∈ ts, z ∈ tabsOf Ls) ∧ r = .tup ((piecesOf Ls o cs ts).map .txs)
theorem ok_pa {f C : Addr} {fd : FuncData} (F : Fun K "pieces_among" "pieces_among" s_pa f fd) (T : NamesS mg) (W : Ways P w K mg base C) (C_inn : Callee P w K mg base CX0 7 "_inner_columns" ["scene", "role", "given"] (spP C gInn)) (C_ht : Callee P w K mg base CX0 2 "hanging_together" ["columns_of_each"] (spP C gHt)) : FnOk P w K mg base CX0 8 f fd ["scene", "role", "given"] (spP C gPa) := by
  have nd := sc_pa.nd
  refine F.ok sc_pa (fun vs H Q E h => ?_) (fun cdv A outer s H vs Q E hr h => ?_)
  · obtain ⟨F, os, r, _, rs, ⟨Ls, o, cs, ts, rfl, _⟩, _⟩ := h
    exact rs.length
  · obtain ⟨F0, os, r, fm, rs, ⟨Ls, o, cs, ts, rfl, ok, ro, ct, sub, rfl⟩, k⟩ := h
    have hu64 : (A.deeper (envOfC "pieces_among" (defScope s_pa) s.heap.objs.size f cdv)).units + 64 < cLine := by have := hr.un; omega
    refine ⟨_, (pss_cons
    (ps_set (i := 3) nd rfl (Or.inr rfl) (pe_use C_inn (hr.mono (by decide)) rfl pass0 (pa_cons (pv 0) (pa_cons (pv 1) (pa_cons (pv 2) pa_nil)))))
    (pss_cons
    (ps_set (i := 4) nd rfl (Or.inr rfl) (pe_lc (own := [("table", 6)]) (g := (gName 6)) (te := (tVar 6)) (tt := (tTest (tOp (rNeD K) (tVar 6) (tVar 1)))) rfl nd (pi_tup (pv 2)) (blkOk_by (N := N_pa) (sc := defScope s_pa) (by decide +kernel)) (fun _ _ _ _ _ => (pg_name (i := 6) nd rfl (Or.inl rfl))) (fun _ _ _ _ _ => (pts_one (pt_cmpR (op_neD hu64) (pv 6) (pv 1) (nomark _)))) (fun _ _ _ _ _ => (pv 6))))
    (pss_cons
    (ps_setLc (i := 5) (own := [("table", 6)]) (g := (gName 6)) (te := (tLc (iTup K (tMeth C "columns_of" (spCof C) [] E0 (tVar 0) (tCons (tVar 6) tNil))) (gName 7) (tTest (tOp (rIn K true) (tVar 7) (tVar 3))) (tVar 7) [7])) (tt := tYes) rfl nd rfl rfl (sw_true rfl rfl rfl (by decide +kernel)) (pi_list (pv 4)) (blkOk_by (N := N_pa) (sc := defScope s_pa) (by decide +kernel)) (fun _ _ _ _ _ => (pg_name (i := 6) nd rfl (Or.inl rfl))) (fun _ _ _ _ _ => pts_nil) (fun _ _ _ _ _ => (pe_lc (own := [("column", 7)]) (g := (gName 7)) (te := (tVar 7)) (tt := (tTest (tOp (rIn K true) (tVar 7) (tVar 3)))) rfl nd (pi_tup (pe_mth W.cof W.cl.cl (hr.mono (by decide)) (pv 0) (pa_cons (pv 6) pa_nil))) (blkOk_by (N := N_pa) (by kernel_rfl)) (fun _ _ _ _ _ => (pg_name (i := 7) nd rfl (Or.inl rfl))) (fun _ _ _ _ _ => (pts_one (pt_cmpR (r := rIn K true) op_notIn_seq (pv 7) (pv 3) rfl))) (fun _ _ _ _ _ => (pv 7)))))
    (pss_one
    (ps_ret (pe_callTy call_tuple_of (by rfl) T.tuple (by decide +kernel) (pa_cons (pe_lc (own := [("places", 8)]) (g := (gName 8)) (te := (tCB (rTupOf K) (tCons (tLc (iList K (tVar 8)) (gName 9) tYes (tOp (rIxL K) (tVar 4) (tVar 9)) [9]) tNil))) (tt := tYes) rfl nd (pi_list (pe_use C_ht (hr.mono (by decide)) rfl pass0 (pa_cons (pv 5) pa_nil))) (blkOk_by (N := N_pa) (sc := defScope s_pa) (by decide +kernel)) (fun _ _ _ _ _ => (pg_name (i := 8) nd rfl (Or.inl rfl))) (fun _ _ _ _ _ => pts_nil) (fun _ _ _ _ _ => (pe_callTy call_tuple_of (by rfl) T.tuple (by decide +kernel) (pa_cons (pe_lc (own := [("at", 9)]) (g := (gName 9)) (te := (tOp (rIxL K) (tVar 4) (tVar 9))) (tt := tYes) rfl nd (pi_list (pv 8)) (blkOk_by (N := N_pa) (by kernel_rfl)) (fun _ _ _ _ _ => (pg_name (i := 9) nd rfl (Or.inl rfl))) (fun _ _ _ _ _ => pts_nil) (fun _ _ _ _ _ => (pe_ix ix_list (pv 4) (pv 9) (fun _ _ => rfl)))) pa_nil)))) pa_nil))))))), ?_⟩
    have q0 : Sq C Nil F0 H [some (.scn Ls), some o, some (.txs ts), none, none, none, none, none, none, none] (L2.start N_pa vs) H := Sq.start (N := N_pa) fm rs
    have fewt : ts.length ≤ 6 := Nat.le_trans (ct.nd.length_le_of_subset sub) (tabs_six ok)
    refine seq (st_set (i := 3) (o := .txs (closureOf Ls cs ts)) q0 (q0.ev (rd_call (rds_cons (rd_var (i := 0) rfl) (rds_cons (rd_var (i := 1) rfl) (rds_one (rd_var (i := 2) rfl)))) ⟨Ls, o, cs, ts, rfl, ok, ro, by omega, sub, rfl⟩)) fun v1 H1 s1 q1 => ?_)
    dsimp only
    refine seq (st_set (i := 4) (o := .lxs (othersOf o ts)) q1 (q1.ev (rd_lcs (cs := ts) (b := fun t => !roleEq o t) (ri_tup (rd_var (i := 2) rfl)) (by omega) (by decide) (fun z mz => rt_test (rd_neRole ok ro (ct.names z mz) (rd_var rfl) (rd_var (i := 1) rfl))) (fun z mz _ => rd_var rfl))) fun v2 H2 s2 q2 => ?_)
    dsimp only
    have fewo : (othersOf o ts).length ≤ 6 := Nat.le_trans (List.length_filter_le _ _) fewt
    have subo : ∀ z ∈ othersOf o ts, z ∈ tabsOf Ls := fun z m => sub z (List.mem_filter.mp m).1
    have four : ∀ c ∈ (othersOf o ts).map (outerOf Ls cs ts), c.length ≤ 4 := fun c m => by
      obtain ⟨t, mt, rfl⟩ := List.mem_map.mp m
      obtain ⟨l, ml, rfl⟩ := List.mem_map.mp (subo t mt)
      refine Nat.le_trans (List.length_filter_le _ _) ?_
      rw [colsAt_ln ok.nd ml]; exact (ok.good l ml).few
    refine seq (st_set (i := 5) (o := .lst (((othersOf o ts).map (outerOf Ls cs ts)).map .lxs)) q2 (q2.ev ((rd_lcM (L := othersOf o ts) (enc := .str) (r := fun t => .lxs (outerOf Ls cs ts t)) (ri_list (rd_var (i := 4) rfl)).two (by omega) (fun a m => rg_name (by decide)) (fun z mz => ?_)).cast ?_)) fun v3 H3 s3 q3 => ?_)
    · obtain ⟨l, ml, rfl⟩ := List.mem_map.mp (subo z mz)
      unfold outerOf
      rw [colsAt_ln ok.nd ml]
      exact rd_lcs (cs := l.cs) (ri_tup (rd_cof (rd_var rfl) (rds_one (rd_var rfl)) ml ok.nd)) (Nat.le_trans (ok.good l ml).few (by decide)) (by decide) (fun y my => rt_test (rd_notIn (K := K) (cs := closureOf Ls cs ts) _ (.inl rfl) (rd_var rfl) (rd_var rfl))) (fun y my _ => rd_var rfl)
    · rw [List.map_map]; rfl
    dsimp only
    have hl := hang_len ((othersOf o ts).map (outerOf Ls cs ts))
    rw [List.length_map] at hl
    refine st_ret (o := .tup ((piecesOf Ls o cs ts).map .txs)) q3 (q3.ev (rd_tupleOf (K := K) (.inr rfl) ((rd_lcM (L := hang ((othersOf o ts).map (outerOf Ls cs ts))) (enc := plO) (r := fun ps => .txs (ps.map (nmAt (othersOf o ts)))) (ri_list (rd_call (rds_one (rd_var (i := 5) rfl)) ⟨_, rfl, by rw [List.length_map]; exact fewo, four, rfl⟩)).two (by omega) (fun a m => rg_name (by decide)) (fun ps mp => ?_)).cast ?_))) ?_
    · obtain ⟨h1, h2⟩ := hang_mem mp
      rw [List.length_map] at h1 h2
      refine rd_tupleOf (K := K) (.inr rfl) ((rd_lcM (L := ps) (enc := .int) (r := fun i => .str (nmAt (othersOf o ts) i)) (ri_list (rd_var (i := 8) rfl)).two (by omega) (fun a m => rg_name (by decide)) (fun i mi => ?_)).cast ?_)
      · have mi' := mem_upTo.mp (h1 i mi)
        obtain ⟨k, rfl⟩ := Int.eq_ofNat_of_zero_le mi'.1
        refine rd_ixL (K := K) (j := k) (os := (othersOf o ts).map .str) ?_ (rd_var rfl) (rd_var rfl)
        rw [List.getElem?_map]
        show Option.map Ob.str (othersOf o ts)[k]? = some (.str ((othersOf o ts).getD (k : Int).toNat Str.empty))
        rw [List.getElem?_eq_getElem (show k < (othersOf o ts).length by omega)]
        simp [List.getD, List.getElem?_eq_getElem (show k < (othersOf o ts).length by omega)]
      · rw [List.map_map]; rfl
    · unfold piecesOf
      rw [List.map_map]; rfl
    · intro v H5 kp5 rv _ _
      exact k v H5 kp5.toSame rv
/-! ### _given -/
abbrev s_giv : Stmt := topS 43
abbrev N_giv : List Str := ["scene", "role", "tables"]
theorem sc_giv : FnScope N_giv ["scene", "role", "tables"] (defScope s_giv) := ⟨rfl, rfl, rfl, by decide +kernel, rfl, by decide +kernel, by decide +kernel⟩
def Giv (Ls : List Ln) (o x : Ob) (ts : List Str) : Prop := (x = .non ∧ ts = tabsOf Ls) ∨ (x = .txs ts ∧ ts ≠ [] ∧ ∀ t, o = .str t → t ∈ ts)
def gGiv (os : List Ob) (r : Ob) : Prop := ∃ (Ls : List Ln) (o x : Ob) (cs ts : List Str), os = [.scn Ls, o, x] ∧ LnsOk Ls ∧ RoleIs Ls o cs ∧ Giv Ls o x ts ∧ Cols ts ∧ (∀ z ∈ ts, z ∈ tabsOf Ls) ∧ r = .txs ts
theorem ok_giv {f C : Addr} {fd : FuncData} (F : Fun K "_given" "_given" s_giv f fd) (T : NamesS mg) (hstr : mg "str" = none) (W : Ways P w K mg base C) (C_nt : Callee P w K mg base CX0 4 "need_tables" ["scene", "value"] (spP C gNt)) : FnOk P w K mg base CX0 5 f fd ["scene", "role", "tables"] (spP C gGiv) := by
  have nd := sc_giv.nd
  refine F.ok sc_giv (fun vs H Q E h => ?_) (fun cdv A outer s H vs Q E hr h => ?_)
  · obtain ⟨F, os, r, _, rs, ⟨Ls, o, x, cs, ts, rfl, _⟩, _⟩ := h
    exact rs.length
  · obtain ⟨F0, os, r, fm, rs, ⟨Ls, o, x, cs, ts, rfl, ok, ro, gv, ct, sub, rfl⟩, k⟩ := h
    refine ⟨_, (pss_cons
    (ps_if (pt_cmpR op_isN (pv 2) pe_non (nomark _)) (pss_one
      (ps_ret (pe_prp W.tables W.cl.cl (hr.mono (by decide)) (pv 0)))) pss_nil)
    (pss_cons
    (ps_expr (pe_use C_nt (hr.mono (by decide)) rfl pass0 (pa_cons (pv 0) (pa_cons (pv 2) pa_nil))))
    (pss_cons
    (ps_if (PW.pt (pw_and (pt_val (pe_callB (r := rIsi K) call_isi (by rfl) T.isinstance (by decide +kernel) (pa_cons (pv 1) (pa_cons (pe_bltn (v := .ty "str") (by rfl) hstr (by decide +kernel) rfl) pa_nil)))) (pw_and1 (pt_cmpR (r := rIn K true) op_notIn_seq (pv 1) (pv 2) rfl)))) (pss_one
      ps_never) pss_nil)
    (pss_one
    (ps_ret (pv 2)))))), ?_⟩
    have q0 : Sq C Nil F0 H [some (.scn Ls), some o, some x] (L2.start N_giv vs) H := Sq.start (N := N_giv) fm rs
    have fewt : ts.length ≤ 6 := Nat.le_trans (ct.nd.length_le_of_subset sub) (tabs_six ok)
    rcases gv with ⟨rfl, rfl⟩ | ⟨rfl, ne, hin⟩
    · refine seq (st_if (b := true) q0 (q0.evt (rt_test (rd_isN (rd_var (i := 2) rfl) rfl))) (fun z H1 s1 q1 => ?_) (fun z => by cases z))
      refine st_ret q1 (q1.ev (rd_tables (rd_var (i := 0) rfl))) ?_
      intro v H5 kp5 rv _ _
      exact k v H5 kp5.toSame rv
    · refine seq (st_if (b := false) q0 (q0.evt (rt_test (rd_isN (rd_var (i := 2) rfl) rfl))) (fun z => by cases z) (fun z H1 s1 q1 => ?_))
      dsimp only [tNext]
      refine seq (st_drop q1 (q1.ev (rd_call (rds_cons (rd_var (i := 0) rfl) (rds_one (rd_var (i := 2) rfl))) ⟨Ls, ts, rfl, ct, ne, by omega, sub, rfl⟩)) fun H2 s2 q2 => ?_)
      dsimp only
      refine seq (st_if (b := false) q2 (q2.evt ?_) (fun z => by cases z) (fun z H3 s3 q3 => ?_))
      · rcases ro with ⟨l, ml, lk, rfl, rfl⟩ | ⟨rfl, c, sub'⟩
        · refine rt_and (b := true) (c := false) (rt_b (rd_isStrT (K := K) (rd_var (i := 1) rfl))) fun _ => rt_test ((rd_notIn (K := K) (.txs ts) (.inl rfl) (rd_var (i := 1) rfl) (rd_var (i := 2) rfl)).cast ?_)
          rw [decide_eq_true (hin _ rfl)]; rfl
        · exact rt_and (b := false) (c := false) (rt_b (rd_isStrF (K := K) (rd_var (i := 1) rfl))) fun z => by cases z
      dsimp only [tNext]
      refine st_ret q3 (q3.ev (rd_var (i := 2) rfl)) ?_
      intro v H5 kp5 rv _ _
      exact k v H5 kp5.toSame rv
/-! ### pieces -/
abbrev s_pcs : Stmt := topS 40
abbrev N_pcs : List Str := ["scene", "role", "tables"]
theorem sc_pcs : FnScope N_pcs ["scene", "role", "tables"] (defScope s_pcs) := ⟨rfl, rfl, rfl, by decide +kernel, rfl, by decide +kernel, by decide +kernel⟩
def gPcs (os : List Ob) (r : Ob) : Prop := ∃ (Ls : List Ln) (o x : Ob) (cs ts : List Str), os = [.scn Ls, o, x] ∧ LnsOk Ls ∧ RoleIs Ls o cs ∧ Giv Ls o x ts ∧ Cols ts ∧ (∀ z ∈ ts, z ∈ tabsOf Ls) ∧ r = .tup ((piecesOf Ls o cs ts).map .txs)
theorem ok_pcs {f C : Addr} {fd : FuncData} (F : Fun K "pieces" "pieces" s_pcs f fd) (T : NamesS mg) (C_nsc : Callee P w K mg base CX0 1 "need_scene" ["value"] (spP C gNsc)) (C_nr : Callee P w K mg base CX0 4 "need_role" ["scene", "value"] (spP C gNr)) (C_pa : Callee P w K mg base CX0 8 "pieces_among" ["scene", "role", "given"] (spP C gPa)) (C_giv : Callee P w K mg base CX0 5 "_given" ["scene", "role", "tables"] (spP C gGiv)) : FnOk P w K mg base CX0 9 f fd ["scene", "role", "tables"] (spP C gPcs) := by
  have nd := sc_pcs.nd
  refine F.ok sc_pcs (fun vs H Q E h => ?_) (fun cdv A outer s H vs Q E hr h => ?_)
  · obtain ⟨F, os, r, _, rs, ⟨Ls, o, x, cs, ts, rfl, _⟩, _⟩ := h
    exact rs.length
  · obtain ⟨F0, os, r, fm, rs, ⟨Ls, o, x, cs, ts, rfl, ok, ro, gv, ct, sub, rfl⟩, k⟩ := h
    refine ⟨_, (pss_cons
    (ps_expr (pe_use C_nsc (hr.mono (by decide)) rfl pass0 (pa_cons (pv 0) pa_nil)))
    (pss_cons
    (ps_expr (pe_use C_nr (hr.mono (by decide)) rfl pass0 (pa_cons (pv 0) (pa_cons (pv 1) pa_nil))))
    (pss_one
    (ps_ret (pe_use C_pa (hr.mono (by decide)) rfl pass0 (pa_cons (pv 0) (pa_cons (pv 1) (pa_cons (pe_use C_giv (hr.mono (by decide)) rfl pass0 (pa_cons (pv 0) (pa_cons (pv 1) (pa_cons (pv 2) pa_nil)))) pa_nil)))))))), ?_⟩
    have q0 : Sq C Nil F0 H [some (.scn Ls), some o, some x] (L2.start N_pcs vs) H := Sq.start (N := N_pcs) fm rs
    refine seq (st_drop q0 (q0.ev (rd_call (rds_one (rd_var (i := 0) rfl)) ⟨Ls, rfl, rfl⟩)) fun H1 s1 q1 => ?_)
    dsimp only
    refine seq (st_drop q1 (q1.ev (rd_call (rds_cons (rd_var (i := 0) rfl) (rds_one (rd_var (i := 1) rfl))) ⟨Ls, o, cs, rfl, ok, ro, rfl⟩)) fun H2 s2 q2 => ?_)
    dsimp only
    refine st_ret q2 (q2.ev (rd_call (rds_cons (rd_var (i := 0) rfl) (rds_cons (rd_var (i := 1) rfl) (rds_one (rd_call (r := .txs ts) (rds_cons (rd_var (i := 0) rfl) (rds_cons (rd_var (i := 1) rfl) (rds_one (rd_var (i := 2) rfl)))) ⟨Ls, o, x, cs, ts, rfl, ok, ro, gv, ct, sub, rfl⟩)))) ⟨Ls, o, cs, ts, rfl, ok, ro, ct, sub, rfl⟩)) ?_
    intro v H5 kp5 rv _ _
    exact k v H5 kp5.toSame rv
end
end B30_

/-! ## B30_96 -/
set_option Elab.async false
set_option linter.all false
set_option maxRecDepth 100000
set_option maxHeartbeats 8000000
namespace B30_
open PySem PySem.Spec PyProof.Rows L2
/-! ### the law's groups, as mathematics -/
abbrev Gs := List Str × List Str
def gsO (g : Gs) : Ob := .tup [.lxs g.1, .lxs g.2]
def dropB (a b : Nat) (z : Gs × Nat) : Bool := !(decide (z.2 = a) || decide (z.2 = b))
def mergeG (G : List Gs) (a b : Nat) (g h : Gs) : List Gs := (G.zipIdx.filter (dropB a b)).map (·.1) ++ [(g.1 ++ h.1, g.2 ++ h.2)]
theorem zip_keep {A : List Gs} {k a b : Nat} (h1 : ∀ i, k ≤ i → i < k + A.length → i ≠ a ∧ i ≠ b) : ((A.zipIdx k).filter (dropB a b)).map (·.1) = A := by
  rw [List.filter_eq_self.mpr fun z m => ?_]
  · exact List.zipIdx_map_fst k A
  · obtain ⟨x, i⟩ := z
    have := List.mem_zipIdx m
    obtain ⟨n1, n2⟩ := h1 i this.1 this.2.1
    unfold dropB
    simp [n1, n2]
theorem merge_split {G : List Gs} {a b : Nat} {g h : Gs} (ab : a < b) (hg : G[a]? = some g) (hh : G[b]? = some h) : ∃ A B C : List Gs, G = A ++ (g :: (B ++ (h :: C))) ∧ mergeG G a b g h = A ++ B ++ C ++ [(g.1 ++ h.1, g.2 ++ h.2)] := by
  obtain ⟨la, ea⟩ := List.getElem?_eq_some_iff.mp hg
  obtain ⟨lb, eb⟩ := List.getElem?_eq_some_iff.mp hh
  have e1 : G = G.take a ++ (g :: G.drop (a + 1)) := by rw [← ea, ← List.drop_eq_getElem_cons la, List.take_append_drop]
  have hb' : (G.drop (a + 1))[b - (a + 1)]? = some h := by rw [List.getElem?_drop, show a + 1 + (b - (a + 1)) = b by omega]; exact hh
  obtain ⟨lb', eb'⟩ := List.getElem?_eq_some_iff.mp hb'
  have e2 : G.drop (a + 1) = (G.drop (a + 1)).take (b - (a + 1)) ++ (h :: (G.drop (a + 1)).drop (b - (a + 1) + 1)) := by rw [← eb', ← List.drop_eq_getElem_cons lb', List.take_append_drop]
  have lA : (G.take a).length = a := by rw [List.length_take]; omega
  have lB : ((G.drop (a + 1)).take (b - (a + 1))).length = b - (a + 1) := by rw [List.length_take, List.length_drop]; omega
  generalize G.take a = A at e1 lA
  generalize (G.drop (a + 1)).take (b - (a + 1)) = B at e2 lB
  generalize (G.drop (a + 1)).drop (b - (a + 1) + 1) = C at e2
  rw [e2] at e1
  refine ⟨A, B, C, e1, ?_⟩
  unfold mergeG
  rw [e1, List.zipIdx_append, List.zipIdx_cons, List.zipIdx_append, List.zipIdx_cons]
  rw [List.filter_append, List.filter_cons, List.filter_append, List.filter_cons]
  have d1 : dropB a b (g, 0 + A.length) = false := by unfold dropB; simp [lA]
  have d2 : dropB a b (h, 0 + A.length + 1 + B.length) = false := by
    have : 0 + A.length + 1 + B.length = b := by omega
    show (!(decide (0 + A.length + 1 + B.length = a) || decide (0 + A.length + 1 + B.length = b))) = false
    rw [this]; simp
  rw [d1, d2]
  simp only [Bool.false_eq_true, if_false, List.map_append]
  rw [zip_keep (fun i h1 h2 => by omega), zip_keep (fun i h1 h2 => by omega), zip_keep (fun i h1 h2 => by omega)]
  simp
theorem merge_flat {β : Type} (f : Gs → List β) {G : List Gs} {a b : Nat} {g h : Gs} (ab : a < b) (hg : G[a]? = some g) (hh : G[b]? = some h) (hf : f (g.1 ++ h.1, g.2 ++ h.2) = f g ++ f h) : ((mergeG G a b g h).flatMap f).Perm (G.flatMap f) := by
  obtain ⟨A, B, C, e1, e2⟩ := merge_split ab hg hh
  rw [e2, e1]
  simp only [List.flatMap_append, List.flatMap_cons, List.flatMap_nil, List.append_nil, hf, List.append_assoc]
  refine .append_left _ ?_
  refine (List.Perm.append_left _ (List.perm_append_comm (l₁ := C.flatMap f) (l₂ := f g ++ f h))).trans ?_
  rw [List.append_assoc]
  exact List.perm_append_comm_assoc _ _ _
theorem merge_mem {G : List Gs} {a b : Nat} {g h x : Gs} (ab : a < b) (hg : G[a]? = some g) (hh : G[b]? = some h) (m : x ∈ mergeG G a b g h) : x ∈ G ∨ x = (g.1 ++ h.1, g.2 ++ h.2) := by
  obtain ⟨A, B, C, e1, e2⟩ := merge_split ab hg hh
  rw [e2] at m
  rw [e1]
  simp only [List.mem_append, List.mem_cons, List.not_mem_nil, or_false] at m ⊢
  rcases m with ((m | m) | m) | m
  · exact .inl (.inl m)
  · exact .inl (.inr (.inr (.inl m)))
  · exact .inl (.inr (.inr (.inr (.inr m))))
  · exact .inr m
theorem merge_len {G : List Gs} {a b : Nat} {g h : Gs} (ab : a < b) (hg : G[a]? = some g) (hh : G[b]? = some h) : (mergeG G a b g h).length + 1 = G.length := by
  obtain ⟨A, B, C, e1, e2⟩ := merge_split ab hg hh
  rw [e2, e1]
  simp only [List.length_append, List.length_cons, List.length_nil]
  omega
theorem Part.merge {items : List Str} {col : Str → List Str} {G : List Gs} (p : Part items col G) {a b : Nat} {g h : Gs} (ab : a < b) (hg : G[a]? = some g) (hh : G[b]? = some h) (hz : ∃ z, z ∈ g.2 ∧ z ∈ h.2) : Part items col (mergeG G a b g h) where
  perm := (merge_flat (·.1) ab hg hh rfl).trans p.perm
  ne := fun x m => by
    rcases merge_mem ab hg hh m with m | rfl
    · exact p.ne x m
    · exact fun z => p.ne g (List.mem_of_getElem? hg) (List.append_eq_nil_iff.mp z).1
  cov := fun x m z => by
    rcases merge_mem ab hg hh m with m | rfl
    · exact p.cov x m z
    · show z ∈ g.2 ++ h.2 ↔ ∃ i ∈ g.1 ++ h.1, z ∈ col i
      rw [List.mem_append, p.cov g (List.mem_of_getElem? hg), p.cov h (List.mem_of_getElem? hh)]
      constructor
      · rintro (⟨i, m, hz⟩ | ⟨i, m, hz⟩)
        · exact ⟨i, List.mem_append.mpr (.inl m), hz⟩
        · exact ⟨i, List.mem_append.mpr (.inr m), hz⟩
      · rintro ⟨i, m, hz⟩
        rcases List.mem_append.mp m with m | m
        · exact .inl ⟨i, m, hz⟩
        · exact .inr ⟨i, m, hz⟩
  con := fun x m => by
    rcases merge_mem ab hg hh m with m | rfl
    · exact p.con x m
    · have mg := List.mem_of_getElem? hg
      have mh := List.mem_of_getElem? hh
      obtain ⟨z, z1, z2⟩ := hz
      obtain ⟨i, mi, hi⟩ := (p.cov g mg z).mp z1
      obtain ⟨j, mj, hj⟩ := (p.cov h mh z).mp z2
      have ij : Con items col i j := .step .refl (p.mem mg mi) (p.mem mh mj) ⟨z, hi, hj⟩
      have gh : ∀ x ∈ g.1, ∀ y ∈ h.1, Con items col x y := fun x hx y hy => Con.trans (Con.trans (p.con g mg x hx i mi) ij) (p.con h mh j mj y hy)
      intro x hx y hy
      rcases List.mem_append.mp hx with hx | hx <;> rcases List.mem_append.mp hy with hy | hy
      · exact p.con g mg x hx y hy
      · exact gh x hx y hy
      · exact (gh y hy x hx).symm
      · exact p.con h mh x hx y hy
theorem part_start (items : List Str) (col : Str → List Str) : Part items col (items.map fun t => ([t], col t)) where
  perm := by
    rw [List.flatMap_map]
    have : (items.flatMap fun t => [t]) = items := by
      induction items with
      | nil => rfl
      | cons a r ih => rw [List.flatMap_cons, ih]; rfl
    rw [this]
  ne := fun g m => by
    obtain ⟨t, _, rfl⟩ := List.mem_map.mp m
    simp
  cov := fun g m z => by
    obtain ⟨t, _, rfl⟩ := List.mem_map.mp m
    simp
  con := fun g m i hi j hj => by
    obtain ⟨t, _, rfl⟩ := List.mem_map.mp m
    rw [List.mem_singleton.mp hi, List.mem_singleton.mp hj]
    exact .refl
theorem Part.len {items : List Str} {col : Str → List Str} {G : List Gs} (p : Part items col G) : G.length ≤ items.length := by
  rw [← p.perm.length_eq]
  have : ∀ {G : List Gs}, (∀ g ∈ G, g.1 ≠ []) → G.length ≤ (G.flatMap (·.1)).length := by
    intro G h
    induction G with
    | nil => simp
    | cons g r ih =>
      rw [List.flatMap_cons, List.length_append, List.length_cons]
      have h1 := List.length_pos_iff.mpr (h g List.mem_cons_self)
      have h2 := ih fun x m => h x (List.mem_cons_of_mem _ m)
      omega
  exact this p.ne
theorem alike_tx (a b : List Str) : PySem.W.alike (Ob.txs a).pd (Ob.txs b).pd = true := by
  show PySem.W.alike (.tuple (pds (a.map .str))) (.tuple (pds (b.map .str))) = true
  rw [pds_strs, pds_strs, PySem.W.alike]
  induction a generalizing b with
  | nil => simp [PySem.W.alikeAll]
  | cons x r ih =>
    cases b with
    | nil => simp [PySem.W.alikeAll]
    | cons y t =>
      rw [List.map_cons, List.map_cons, PySem.W.alikeAll, ih]
      simp [PySem.W.alike]
theorem depth_tx (a : List Str) : (Ob.txs a).pd.depth ≤ 50 := by
  show (PyData.tuple (pds (a.map .str))).depth ≤ 50
  rw [pds_strs]
  show PyData.depthAll (a.map .str) + 1 ≤ 50
  rw [depth_strs]; omega
theorem in_ints (z : Int) (xs : List Int) : inV (.int z) (xs.map V.int) = decide (z ∈ xs) := by
  unfold inV
  induction xs with
  | nil => rfl
  | cons x r ih =>
    rw [List.map_cons, List.any_cons, ih]
    have e : eqV (.int x) (.int z) = (x == z) := rfl
    rw [e]
    by_cases h : x = z
    · subst h; simp
    · have h2 : (x == z) = false := by simpa using h
      have h3 : ¬ z = x := fun q => h q.symm
      rw [h2, Bool.false_or]
      simp [h3]
section
variable {C d : Addr} {A F G : Addr → Prop} {H0 H H' : Hp} {ρ : List (Option Ob)} {σ : L2.St} {K : PySem.W.Frag} {te ta tb : TE} {tt : TT} {t : TA} {cs : List Str} {Ls : List Ln}
theorem rd_notInI {z : Int} {ns : List Int} (a : RD C ρ ta (.int z)) (b : RD C ρ tb (.tup (ns.map .int))) : RD C ρ (tOp (rIn K true) ta tb) (.bl (!decide (z ∈ ns))) :=
  rd_op a b fun F v w H Q fm r1 r2 k => by
    cases r1
    cases r2 with
    | tup e rs =>
      have e2 := rs.ints
      subst e2
      refine ⟨_, _, rfl, .inr (SqT.of e), rfl, by rw [List.all_map, List.all_eq_true]; exact fun _ _ => rfl, ?_⟩
      rw [in_ints]
      exact k _ H (Same.refl H) (.bl _)
theorem rd_neg {z : Int} (a : RD C ρ ta (.int z)) : RD C ρ (tUn (rU fun i => .int (-i)) ta) (.int (-z)) := fun F σ H Q e fm k => a F σ H _ e fm fun v H1 s1 r1 => by
  cases r1
  exact ⟨z, rfl, k _ H1 s1 (.int _)⟩
theorem rd_setSortedL {P : Program} {w : World} (few : cs.length < 64) (a : RD C ρ te (.lxs cs)) : RD C ρ (tCB (rSortSS P w) (tCons (tCB (fun xs H Q => ∃ (a : Addr) (zs : List Str), xs = [.ref a] ∧ SqL K H a (zs.map V.str) ∧ zs.length < 64 ∧ ∀ p, H p = none → Q (.ref p) (upd H p (K1.SetS P w p zs))) (tCons te tNil)) tNil)) (.lxs (uniqS cs)) := fun F σ H Q e fm k =>
  a F σ H _ e fm fun v H1 s1 r1 => by
    obtain ⟨a, rfl, _, ha⟩ := r1.lxs
    refine ⟨a, cs, rfl, SqL.of ha, few, fun p hp => ⟨p, cs, rfl, upd_same, few, fun ys q n m so hq => ?_⟩⟩
    obtain rfl : ys = uniqS cs := by rw [uniqS_of n m so]
    have s := (Same.add (u := K1.SetS P w p cs) hp).trans (Same.add (u := .lst ((uniqS cs).map V.str)) hq)
    exact k _ _ (s1.trans s) (vr_lxs (((fm.same s1).same (Same.add hp)).fresh hq) upd_same)
/-- a list of whole numbers that is not empty -/
theorem rd_neIs {ns : List Int} (a : RD C ρ ta (.lst (ns.map .int))) (b : RD C ρ tb (.lst [])) (sh : SeqAt.shaped (.list (ns.map .int)) = true) : RD C ρ (tOp (rNeD K) ta tb) (.bl (!decide (ns = []))) := by
  have h := rd_neD (K := K) a b (isD_pl ns) rfl (by show SeqAt.shaped (.list (pds (ns.map .int))) = true; rw [pds_ints]; exact sh) (by decide +kernel)
  refine h.cast (congrArg Ob.bl ?_)
  show (!PyData.eqv (.list (pds (ns.map .int))) (.list [])) = _
  rw [pds_ints]
  cases ns with
  | nil => rfl
  | cons n r => simp [PyData.eqv, PyData.eqvAll]
theorem shaped_ints (ns : List Int) : SeqAt.shaped (.list (ns.map .int)) = true := by
  unfold SeqAt.shaped
  have h1 : PyData.canLay0 (.list (ns.map PyData.int)) = true := by
    show PyData.canLayAll0 (ns.map .int) = true
    induction ns with
    | nil => rfl
    | cons n r ih => rw [List.map_cons]; show (PyData.canLay0 (.int n) && PyData.canLayAll0 (r.map .int)) = true; rw [ih]; rfl
  have h2 : PyData.depth (.list (ns.map PyData.int)) = 1 := by
    show PyData.depthAll (ns.map PyData.int) + 1 = 1
    rw [PySem.W.depth_ints]
  rw [h1, h2]; rfl
end
end B30_

/-! ## B30_97 -/
set_option Elab.async false
set_option linter.all false
set_option maxRecDepth 100000
set_option maxHeartbeats 8000000
namespace B30_
open PySem PySem.Spec PyProof.Rows L2
section
variable {P : Program} {w : World} {K : PySem.W.Frag} {mg : Str → Option Value} {base : Heap}
/-! ### _law_groups -/
abbrev s_lgr : Stmt := topS 61
abbrev N_lgr : List Str := ["scene", "role", "given", "inside", "groups", "size", "at", "near", "both", "name", "one", "to", "group", "names", "columns"]
theorem sc_lgr : FnScope N_lgr ["scene", "role", "given"] (defScope s_lgr) := ⟨rfl, rfl, rfl, by decide +kernel, rfl, by decide +kernel, by decide +kernel⟩
def gLgr (os : List Ob) (r : Ob) : Prop := ∃ (Ls : List Ln) (o : Ob) (cs ts : List Str), os = [.pln Ls, o, .lxs ts] ∧ LnsOk Ls ∧ RoleIs Ls o cs ∧ Cols ts ∧ (∀ z ∈ ts, z ∈ tabsOf Ls) ∧ r = .tup ((piecesOf Ls o cs ts).map .txs)
theorem lawIn {Ls : List Ln} {cs ts : List Str} (ok : LnsOk Ls) (t : Str) : (colsAt Ls t).filter (fun c => !decide (c ∈ lawCl Ls cs ts)) = outerOf Ls cs ts t := by
  unfold outerOf
  congr 1
  funext c
  congr 1
  rw [Bool.eq_iff_iff, decide_eq_true_eq, decide_eq_true_eq, mem_lawCl, mem_closureOf]
theorem outer_sub {Ls : List Ln} {cs ts : List Str} {t z : Str} (m : z ∈ outerOf Ls cs ts t) : z ∈ allCols Ls := mem_colsAt (List.mem_filter.mp m).1
def shB (G : List Gs) (n k : Nat) : List Str := ((G.getD k ([], [])).2).filter fun c => decide (c ∈ (G.getD n ([], [])).2)
theorem outer_flat {Ls : List Ln} {cs ts us : List Str} (ok : LnsOk Ls) (sub : ∀ z ∈ us, z ∈ tabsOf Ls) : ((us.map fun t => (([t] : List Str), outerOf Ls cs ts t)).flatMap fun g => g.2).length ≤ 4 * us.length := by
  induction us with
  | nil => simp
  | cons a r ih =>
    rw [List.map_cons, List.flatMap_cons, List.length_append, List.length_cons]
    have h1 := ih fun z m => sub z (List.mem_cons_of_mem _ m)
    have h2 : (outerOf Ls cs ts a).length ≤ 4 := by
      obtain ⟨l, ml, e⟩ := List.mem_map.mp (sub a List.mem_cons_self)
      refine Nat.le_trans (List.length_filter_le _ _) ?_
      rw [← e, colsAt_ln ok.nd ml]; exact (ok.good l ml).few
    show (outerOf Ls cs ts a).length + _ ≤ _
    omega
theorem ok_lgr {f C : Addr} {fd : FuncData} (F : Fun K "_law_groups" "_law_groups" s_lgr f fd) (T : NamesS mg) (hen : mg "enumerate" = none) (hrange : mg "range" = none) (C_lc : Callee P w K mg base CX0 1 "_law_closure" ["scene", "columns", "names"] (spP C gLc)) (C_lrc : Callee P w K mg base CX0 1 "_law_role_columns" ["scene", "role"] (spP C gLrc)) : FnOk P w K mg base CX0 2 f fd ["scene", "role", "given"] (spP C gLgr) := by
  have nd := sc_lgr.nd
  refine F.ok sc_lgr (fun vs H Q E h => ?_) (fun cdv A outer s H vs Q E hr h => ?_)
  · obtain ⟨F, os, r, _, rs, ⟨Ls, o, cs, ts, rfl, _⟩, _⟩ := h
    exact rs.length
  · obtain ⟨F0, os, r, fm, rs, ⟨Ls, o, cs, ts, rfl, ok, ro, ct, sub, rfl⟩, k⟩ := h
    have hu := hu_of hr
    have hu64 : (A.deeper (envOfC "_law_groups" (defScope s_lgr) s.heap.objs.size f cdv)).units + 64 < cLine := by have := hr.un; omega
    refine ⟨_, (pss_cons
    (ps_set (i := 3) nd rfl (Or.inr rfl) (pe_use C_lc (hr.mono (by decide)) rfl pass0 (pa_cons (pv 0) (pa_cons (pe_use C_lrc (hr.mono (by decide)) rfl pass0 (pa_cons (pv 0) (pa_cons (pv 1) pa_nil))) (pa_cons (pv 2) pa_nil)))))
    (pss_cons
    (ps_set (i := 4) nd rfl (Or.inr rfl) (pe_lc (own := [("name", 9)]) (g := (gName 9)) (te := (tTup (tCons (tLst (tCons (tVar 9) tNil)) (tCons (tLc (iTup K (tOp (rIxT K) (tDGet (tVar 0) (tVar 9)) (tC (.int 0)))) (gName 10) (tTest (tOp (rIn K true) (tVar 10) (tVar 3))) (tVar 10) [10]) tNil)))) (tt := (tTest (tOp (rNeD K) (tVar 9) (tVar 1)))) rfl nd (pi_list (pv 2)) (blkOk_by (N := N_lgr) (sc := defScope s_lgr) (by decide +kernel)) (fun _ _ _ _ _ => (pg_name (i := 9) nd rfl (Or.inl rfl))) (fun _ _ _ _ _ => (pts_one (pt_cmpR (op_neD hu64) (pv 9) (pv 1) (nomark _)))) (fun _ _ _ _ _ => (pe_tup (pa_cons (pe_lst (pa_cons (pv 9) pa_nil)) (pa_cons (pe_lc (own := [("one", 10)]) (g := (gName 10)) (te := (tVar 10)) (tt := (tTest (tOp (rIn K true) (tVar 10) (tVar 3)))) rfl nd (pi_tup (pe_ix ix_tup (pe_dget hu (pv 0) (pv 9) (fun _ _ => rfl)) pe_int (fun _ _ => rfl))) (blkOk_by (N := N_lgr) (by kernel_rfl)) (fun _ _ _ _ _ => (pg_name (i := 10) nd rfl (Or.inl rfl))) (fun _ _ _ _ _ => (pts_one (pt_cmpR (r := rIn K true) op_notIn_seq (pv 10) (pv 3) rfl))) (fun _ _ _ _ _ => (pv 10))) pa_nil))))))
    (pss_cons
    (ps_set (i := 5) nd rfl (Or.inl rfl) (pe_un un_neg pe_int))
    (pss_cons
    (ps_while PassesOwn.never (pt_cmpR op_ne (pv 5) (pe_callB call_len_seq (by rfl) T.len (by decide +kernel) (pa_cons (pv 4) pa_nil)) (nomark _)) (pss_cons
      (ps_set (i := 5) nd rfl (Or.inl rfl) (pe_callB call_len_seq (by rfl) T.len (by decide +kernel) (pa_cons (pv 4) pa_nil)))
      (pss_one
      (ps_for PassesOwn.never rfl (pi_range1 (by rfl) hrange (pa_cons (pv 5) pa_nil)) (pg_name (i := 6) nd rfl (Or.inr rfl)) (pss_cons
        (ps_set (i := 7) nd rfl (Or.inr rfl) (pe_lc (own := [("to", 11)]) (g := (gName 11)) (te := (tVar 11)) (tt := (tTest (tOp (rNeD K) (tLc (iList K (tOp (rIxT K) (tOp (rIxL K) (tVar 4) (tVar 11)) (tC (.int 1)))) (gName 10) (tTest (tOp (rIn K false) (tVar 10) (tOp (rIxT K) (tOp (rIxL K) (tVar 4) (tVar 6)) (tC (.int 1))))) (tVar 10) [10]) (tLst tNil)))) rfl nd (pi_range1 (by rfl) hrange (pa_cons (pv 6) pa_nil)) (blkOk_by (N := N_lgr) (sc := defScope s_lgr) (by decide +kernel)) (fun _ _ _ _ _ => (pg_name (i := 11) nd rfl (Or.inl rfl))) (fun _ _ _ _ _ => (pts_one (pt_cmpR (op_neD hu64) (pe_lc (own := [("one", 10)]) (g := (gName 10)) (te := (tVar 10)) (tt := (tTest (tOp (rIn K false) (tVar 10) (tOp (rIxT K) (tOp (rIxL K) (tVar 4) (tVar 6)) (tC (.int 1)))))) rfl nd (pi_list (pe_ix ix_tup (pe_ix ix_list (pv 4) (pv 11) (fun _ _ => rfl)) pe_int (fun _ _ => rfl))) (blkOk_by (N := N_lgr) (by kernel_rfl)) (fun _ _ _ _ _ => (pg_name (i := 10) nd rfl (Or.inl rfl))) (fun _ _ _ _ _ => (pts_one (pt_cmpR (r := rIn K false) op_in_seq (pv 10) (pe_ix ix_tup (pe_ix ix_list (pv 4) (pv 6) (fun _ _ => rfl)) pe_int (fun _ _ => rfl)) rfl))) (fun _ _ _ _ _ => (pv 10))) (pe_lst pa_nil) (nomark _)))) (fun _ _ _ _ _ => (pv 11))))
        (pss_one
        (ps_if (pt_cmpR (op_neD hu64) (pv 7) (pe_lst pa_nil) (nomark _)) (pss_cons
          (ps_set (i := 8) nd rfl (Or.inl rfl) (pe_tup (pa_cons (pe_op op_cat (pe_ix ix_tup (pe_ix ix_list (pv 4) (pe_ix ix_list (pv 7) pe_int (fun _ _ => rfl)) (fun _ _ => rfl)) pe_int (fun _ _ => rfl)) (pe_ix ix_tup (pe_ix ix_list (pv 4) (pv 6) (fun _ _ => rfl)) pe_int (fun _ _ => rfl))) (pa_cons (pe_op op_cat (pe_ix ix_tup (pe_ix ix_list (pv 4) (pe_ix ix_list (pv 7) pe_int (fun _ _ => rfl)) (fun _ _ => rfl)) pe_int (fun _ _ => rfl)) (pe_ix ix_tup (pe_ix ix_list (pv 4) (pv 6) (fun _ _ => rfl)) pe_int (fun _ _ => rfl))) pa_nil))))
          (pss_cons
          (ps_set (i := 4) nd rfl (Or.inr rfl) (pe_op op_cat (pe_lc (own := [("group", 12), ("to", 11)]) (g := (gTup K 2 (gCons (gName 11) (gCons (gName 12) gNil)))) (te := (tVar 12)) (tt := (tTest (tOp (rIn K true) (tVar 11) (tTup (tCons (tOp (rIxL K) (tVar 7) (tC (.int 0))) (tCons (tVar 6) tNil)))))) rfl nd (pi_enum (by rfl) hen (pa_cons (pv 4) pa_nil)) (blkOk_by (N := N_lgr) (sc := defScope s_lgr) (by decide +kernel)) (fun _ _ _ _ _ => (pg_tup rfl (pgs_cons (pg_name (i := 11) nd rfl (Or.inl rfl)) (pgs_cons (pg_name (i := 12) nd rfl (Or.inl rfl)) pgs_nil)))) (fun _ _ _ _ _ => (pts_one (pt_cmpR (r := rIn K true) op_notIn_seq (pv 11) (pe_tup (pa_cons (pe_ix ix_list (pv 7) pe_int (fun _ _ => rfl)) (pa_cons (pv 6) pa_nil))) rfl))) (fun _ _ _ _ _ => (pv 12))) (pe_lst (pa_cons (pv 8) pa_nil))))
          (pss_one
          ps_break))) pss_nil)))))))
    (pss_one
    (ps_ret (pe_callTy call_tuple_of (by rfl) T.tuple (by decide +kernel) (pa_cons (pe_callB (K1.cr_sortedG hu64) (by rfl) T.sorted (by decide +kernel) (pa_cons (pe_lc (own := [("columns", 14), ("names", 13)]) (g := (gTup K 2 (gCons (gName 13) (gCons (gName 14) gNil)))) (te := (tCB (rTupOf K) (tCons (tCB (rSortedS K) (tCons (tVar 13) tNil)) tNil))) (tt := tYes) rfl nd (pi_list (pv 4)) (blkOk_by (N := N_lgr) (sc := defScope s_lgr) (by decide +kernel)) (fun _ _ _ _ _ => (pg_tup rfl (pgs_cons (pg_name (i := 13) nd rfl (Or.inl rfl)) (pgs_cons (pg_name (i := 14) nd rfl (Or.inl rfl)) pgs_nil)))) (fun _ _ _ _ _ => pts_nil) (fun _ _ _ _ _ => (pe_callTy call_tuple_of (by rfl) T.tuple (by decide +kernel) (pa_cons (pe_callB cr_sortedS (by rfl) T.sorted (by decide +kernel) (pa_cons (pv 13) pa_nil)) pa_nil)))) pa_nil)) pa_nil)))))))), ?_⟩
    have q0 : Sq C Nil F0 H [some (.pln Ls), some o, some (.lxs ts), none, none, none, none, none, none, none, none, none, none, none, none] (L2.start N_lgr vs) H := Sq.start (N := N_lgr) fm rs
    have fewt : ts.length ≤ 6 := Nat.le_trans (ct.nd.length_le_of_subset sub) (tabs_six ok)
    have fo := role_found ok ro
    have fewo : (othersOf o ts).length ≤ 6 := Nat.le_trans (List.length_filter_le _ _) fewt
    have subo : ∀ z ∈ othersOf o ts, z ∈ tabsOf Ls := fun z m => sub z (List.mem_filter.mp m).1
    have asco : (othersOf o ts).Pairwise fun a b => a.cps.toList < b.cps.toList := (asc_pair ct.asc).sublist List.filter_sublist
    refine seq (st_set (i := 3) (o := .lxs (lawCl Ls cs ts)) q0 (q0.ev (rd_call (rds_cons (rd_var (i := 0) rfl) (rds_cons (rd_call (r := .txs cs) (rds_cons (rd_var (i := 0) rfl) (rds_one (rd_var (i := 1) rfl))) ⟨Ls, o, cs, rfl, ok, ro, rfl⟩) (rds_one (rd_var (i := 2) rfl)))) ⟨Ls, cs, ts, rfl, ok, fo, by omega, sub, rfl⟩)) fun v1 H1 s1 q1 => ?_)
    dsimp only
    have fewc : (lawCl Ls cs ts).length ≤ 24 := (passN_ok ok fo : FoundOk Ls (lawCl Ls cs ts)).few ok
    refine seq (st_set (i := 4) (o := .lst (((othersOf o ts).map fun t => (([t] : List Str), outerOf Ls cs ts t)).map gsO)) q1 (q1.ev ((rd_lcA (L := ts) (enc := .str) (b := fun t => !roleEq o t) (r := fun t => gsO ([t], outerOf Ls cs ts t)) (ri_list (rd_var (i := 2) rfl)).two (by omega) (fun a m => rg_name (by decide)) (fun z mz => rt_test (rd_neRole ok ro (ct.names z mz) (rd_var rfl) (rd_var (i := 1) rfl))) (fun z mz _ => ?_)).cast ?_)) fun v2 H2 s2 q2 => ?_)
    · obtain ⟨l, ml, rfl⟩ := List.mem_map.mp (sub z mz)
      refine rd_tup (rds_cons (rd_lst (rds_one (rd_var (i := 9) rfl)) (by show 1 ≤ 1000; decide)) (rds_one ((rd_lcs (cs := l.cs) (ri_tup (rd_ixT (j := 0) rfl (rd_plain ok.nd ml (rd_var (i := 0) rfl) (rd_var (i := 9) rfl)) (rd_int 0))) (Nat.le_trans (ok.good l ml).few (by decide)) (by decide) (fun y my => rt_test (rd_notIn (K := K) (cs := lawCl Ls cs ts) _ (.inr rfl) (rd_var rfl) (rd_var rfl))) (fun y my _ => rd_var rfl)).cast (o' := .lxs (outerOf Ls cs ts l.t)) ?_))) (by show 2 ≤ 1000; decide)
      rw [← lawIn ok, colsAt_ln ok.nd ml]
    · rw [List.map_map]; rfl
    dsimp only
    refine seq (st_set (i := 5) (o := .int (-1)) q2 (q2.ev (rd_neg (rd_int 1))) fun v3 H3 s3 q3 => ?_)
    dsimp only
    have p0 := part_start (othersOf o ts) (outerOf Ls cs ts)
    have fl0 := outer_flat (cs := cs) (ts := ts) ok subo
    have hlen0 : ((-1 : Int)) ≠ (((othersOf o ts).map fun t => (([t] : List Str), outerOf Ls cs ts t)).length : Nat) := by omega
    generalize ((othersOf o ts).map fun t => (([t] : List Str), outerOf Ls cs ts t)) = G0 at q3 p0 fl0 hlen0
    have fl0' : (G0.flatMap fun g => g.2).length ≤ 24 := Nat.le_trans fl0 (by omega)
    refine seq ⟨fun m σ' H' => ∃ (G : List Gs) (size : Int) (x6 x7 x8 : Option Ob), Sq C Nil F0 H [some (.pln Ls), some o, some (.lxs ts), some (.lxs (lawCl Ls cs ts)), some (.lst (G.map gsO)), some (.int size), x6, x7, x8, none, none, none, none, none, none] σ' H' ∧ Part (othersOf o ts) (outerOf Ls cs ts) G ∧ (G.flatMap fun g => g.2).length ≤ 24 ∧ ((size = (G.length : Nat) ∧ Sep G) ∨ (size ≠ (G.length : Nat) ∧ m = G.length + 1)),
      ⟨G0.length + 1, G0, -1, none, none, none, q3, p0, fl0', .inr ⟨hlen0, rfl⟩⟩, fun m σ' H' w => ?_⟩
    obtain ⟨G, size, x6, x7, x8, q, p, fl, hm⟩ := w
    have lenG : G.length ≤ 6 := Nat.le_trans p.len fewo
    have small2 : ∀ g ∈ G, g.2.length ≤ 24 := fun g m => by have := flat_len (fun g : Gs => g.2) m; omega
    have small1 : ∀ g ∈ G, g.1.length ≤ 6 := fun g m => by
      have h1 := flat_len (fun g : Gs => g.1) m
      rw [p.perm.length_eq] at h1
      exact Nat.le_trans h1 fewo
    have so2 : ∀ g ∈ G, ∀ z ∈ g.2, PyData.strOk z = true := fun g m z hz => by
      obtain ⟨i, _, h⟩ := (p.cov g m z).mp hz
      exact name_strOk (allCols_name ok z (outer_sub h))
    refine q.evt (rt_test (rd_neI (y := ((G.length : Nat) : Int)) (rd_var (i := 5) rfl) ((rd_len (K := K) (os := G.map gsO) (.inr rfl) (rd_var (i := 4) rfl)).cast (by rw [List.length_map])))) _ fun H4 s4 => ?_
    replace q := q.same s4
    rcases hm with ⟨rfl, sep⟩ | ⟨ne, rfl⟩
    · refine iteFk (by simp) ?_
      dsimp only
      have fin := pieces_eq asco (L := (othersOf o ts).map (outerOf Ls cs ts)) (by rw [List.length_map]) (colN := outerOf Ls cs ts) (fun k hk => ?_) p sep
      · refine st_ret (o := .tup ((piecesOf Ls o cs ts).map .txs)) q (q.ev (rd_tupleOf (K := K) (.inr rfl) ((rd_sortG (K := K) (os := G.map fun g => .txs (srtd g.1)) (by rw [List.length_map]; omega) (fun x m => ?_) (fun d1 m1 d2 m2 => ?_) (.inl fun d m => ?_) (fun x m => ?_) (rd_lcM (L := G) (enc := gsO) (r := fun g => .txs (srtd g.1)) (up := fun g ρ => (ρ.set 13 (some (.lxs g.1))).set 14 (some (.lxs g.2))) (ri_list (rd_var (i := 4) rfl)).two (by omega) (fun g m => rg_pair (by decide) (by decide)) (fun g m => rd_tupleOf (K := K) (os := (srtd g.1).map .str) (.inr rfl) (rd_sortedS (by have := small1 g m; omega) (rd_var rfl))))).cast ?_))) ?_
        · obtain ⟨g, _, rfl⟩ := List.mem_map.mp m; exact areD_strs _
        · obtain ⟨o1, n1, rfl⟩ := List.mem_map.mp m1
          obtain ⟨o2, n2, rfl⟩ := List.mem_map.mp m2
          obtain ⟨g, _, rfl⟩ := List.mem_map.mp n1
          obtain ⟨g', _, rfl⟩ := List.mem_map.mp n2
          exact alike_tx _ _
        · obtain ⟨o1, n1, rfl⟩ := List.mem_map.mp m
          obtain ⟨g, mg, rfl⟩ := List.mem_map.mp n1
          have ne1 : srtd g.1 ≠ [] := fun z => p.ne g mg (List.length_eq_zero_iff.mp (by rw [← srtd_len, z]; rfl))
          cases e : srtd g.1 with
          | nil => exact absurd e ne1
          | cons a r => exact ⟨_, _, rfl⟩
        · obtain ⟨g, _, rfl⟩ := List.mem_map.mp m; exact depth_tx _
        · have e : (piecesOf Ls o cs ts).map Ob.txs = ((G.map fun g => srtd g.1).mergeSort leS).map .txs := congrArg (List.map Ob.txs) fin
          rw [e, List.map_mergeSort (r := leS) (s := leO) (f := Ob.txs) (fun _ _ _ _ => rfl), List.map_map]; rfl
        · intro v H5 kp5 rv _ _
          exact k v H5 kp5.toSame rv
      · have e1 : nmAt (othersOf o ts) k = (othersOf o ts)[k] := by
          show (othersOf o ts).getD (k : Int).toNat Str.empty = _
          simp [List.getD, List.getElem?_eq_getElem hk]
        rw [e1]
        unfold colL
        simp [List.getD, List.getElem?_eq_getElem hk]
    · refine iteTk (by simp [ne]) ?_
      refine ⟨_, fun σ' H' h => h, ?_⟩
      refine seq (st_set (i := 5) (o := .int ((G.length : Nat) : Int)) q (q.ev ((rd_len (K := K) (os := G.map gsO) (.inr rfl) (rd_var (i := 4) rfl)).cast (by rw [List.length_map]))) fun v5 H5 s5 q5 => ?_)
      dsimp only
      have inG : ∀ {k : Nat}, k < G.length → G[k]? = some (G.getD k ([], [])) := fun {k} h => by simp [List.getD, List.getElem?_eq_getElem h]
      refine st_for2 (L := List.range G.length) (enc := fun k => .int (k : Nat)) (up := fun k ρ => ρ.set 6 (some (.int (k : Nat)))) [6] q5 (ri_range (rds_one (rd_var (i := 5) rfl)) (by omega)).two (fun a m => rg_name (by decide)) (fun n ρ => ∃ x6 x7 x8, ρ = [some (.pln Ls), some o, some (.lxs ts), some (.lxs (lawCl Ls cs ts)), some (.lst (G.map gsO)), some (.int ((G.length : Nat) : Int)), x6, x7, x8, none, none, none, none, none, none] ∧ ∀ a < n, ∀ b < a, shB G a b = []) ⟨_, _, _, rfl, fun a h => absurd h (Nat.not_lt_zero _)⟩ (fun n a ρ' σ' H' D' hn iv kp q6 fin hct hrt hbk => ?_) (fun ρ' σ' H' iv q6 kp => ?_)
      · obtain ⟨x6, x7, x8, rfl, apt⟩ := iv
        obtain ⟨hl, ha⟩ := List.getElem?_eq_some_iff.mp hn
        rw [List.length_range] at hl
        rw [List.getElem_range] at ha
        subst ha
        have ix : ∀ {ρ : List (Option Ob)} {te : TE} {k : Nat}, k < G.length → ρ[4]? = some (some (.lst (G.map gsO))) → RD C ρ te (.int (k : Nat)) → RD C ρ (tOp (rIxL K) (tVar 4) te) (gsO (G.getD k ([], []))) := fun {ρ te k} h h1 h2 => rd_ixL (K := K) (j := k) (os := G.map gsO) (by rw [List.getElem?_map, inG h]; rfl) (rd_var h1) h2
        have mG : ∀ {k : Nat}, k < G.length → G.getD k ([], []) ∈ G := fun h => List.mem_of_getElem? (inG h)
        refine seq (st_set (i := 7) (o := .lst ((((List.range n).filter fun b => !decide (shB G n b = [])).map fun (b : Nat) => (b : Int)).map .int)) q6 (q6.ev ((rd_lcA (L := List.range n) (enc := fun k => .int (k : Nat)) (b := fun b => !decide (shB G n b = [])) (r := fun b => .int (b : Nat)) (ri_range (n := n) (rds_one (rd_var (i := 6) rfl)) (by omega)).two (by rw [List.length_range]; omega) (fun a m => rg_name (by decide)) (fun b mb => ?_) (fun b mb _ => rd_var rfl)).cast (by rw [List.map_map]; rfl))) fun v7 H7 s7 q7 => ?_)
        · rw [List.mem_range] at mb
          have g1 := mG (k := b) (by omega)
          exact rt_test (rd_neLs (K := K) (cs := shB G n b) (ds := []) (rd_lcs (cs := (G.getD b ([], [])).2) (ri_list (rd_ixT (j := 1) rfl (ix (k := b) (by omega) rfl (rd_var rfl)) (rd_int 1))) (by have := small2 _ g1; omega) (by decide) (fun z mz => rt_test (rd_in (K := K) (cs := (G.getD n ([], [])).2) (.lxs (G.getD n ([], [])).2) (.inr rfl) (rd_var rfl) (rd_ixT (j := 1) rfl (ix (k := n) hl rfl (rd_var (i := 6) rfl)) (rd_int 1)))) (fun z mz _ => rd_var rfl)) (rd_lst rds_nil (by decide)) (fun z m => so2 _ g1 z (List.mem_filter.mp m).1) (by simp))
        dsimp only
        refine st_if (b := !decide ((((List.range n).filter fun b => !decide (shB G n b = [])).map fun (b : Nat) => (b : Int)) = [])) q7 (q7.evt (rt_test (rd_neIs (K := K) (rd_var (i := 7) rfl) (rd_lst rds_nil (by decide)) (shaped_ints _)))) (fun z H8 s8 q8 => ?_) (fun z H8 s8 q8 => ?_)
        · obtain ⟨b0, r0, e0⟩ : ∃ b r, (List.range n).filter (fun b => !decide (shB G n b = [])) = b :: r := by
            cases e : (List.range n).filter fun b => !decide (shB G n b = []) with
            | nil => rw [e] at z; simp at z
            | cons b r => exact ⟨b, r, rfl⟩
          have mb := List.mem_filter.mp (e0 ▸ List.mem_cons_self : b0 ∈ (List.range n).filter fun b => !decide (shB G n b = []))
          have lb : b0 < n := List.mem_range.mp mb.1
          have nb : shB G n b0 ≠ [] := by have := mb.2; simpa using this
          rw [e0] at q8
          have hg := inG (k := b0) (by omega)
          have hh := inG (k := n) hl
          have nr : ∀ {ρ : List (Option Ob)}, ρ[7]? = some (some (.lst (((b0 :: r0).map fun (b : Nat) => (b : Int)).map .int))) → RD C ρ (tOp (rIxL K) (tVar 7) (tC (.int 0))) (.int (b0 : Nat)) := fun {ρ} h => rd_ixL (K := K) (j := 0) rfl (rd_var h) (rd_int 0)
          have g1 := List.mem_of_getElem? hg
          have g2 := List.mem_of_getElem? hh
          have l1 := small1 _ g1
          have l2 := small1 _ g2
          have l3 := small2 _ g1
          have l4 := small2 _ g2
          refine seq (st_set (i := 8) (o := gsO ((G.getD b0 ([], [])).1 ++ (G.getD n ([], [])).1, (G.getD b0 ([], [])).2 ++ (G.getD n ([], [])).2)) q8 (q8.ev (rd_tup (rds_cons (rd_catS (cs := (G.getD b0 ([], [])).1) (ds := (G.getD n ([], [])).1) (rd_ixT (j := 0) rfl (ix (k := b0) (by omega) rfl (nr rfl)) (rd_int 0)) (rd_ixT (j := 0) rfl (ix (k := n) hl rfl (rd_var (i := 6) rfl)) (rd_int 0)) (by omega)) (rds_one (rd_catS (cs := (G.getD b0 ([], [])).2) (ds := (G.getD n ([], [])).2) (rd_ixT (j := 1) rfl (ix (k := b0) (by omega) rfl (nr rfl)) (rd_int 1)) (rd_ixT (j := 1) rfl (ix (k := n) hl rfl (rd_var (i := 6) rfl)) (rd_int 1)) (by omega)))) (by show 2 ≤ 1000; decide))) fun v9 H9 s9 q9 => ?_)
          dsimp only
          have ml := merge_len lb hg hh
          refine seq (st_set (i := 4) (o := .lst ((mergeG G b0 n (G.getD b0 ([], [])) (G.getD n ([], []))).map gsO)) q9 (q9.ev ((rd_cat (os := ((G.zipIdx.filter (dropB b0 n)).map fun z => gsO z.1)) (rd_lcA (L := G.zipIdx) (enc := fun z => .tup [.int (z.2 : Nat), gsO z.1]) (b := dropB b0 n) (r := fun z => gsO z.1) (up := fun z ρ => (ρ.set 11 (some (.int (z.2 : Nat)))).set 12 (some (gsO z.1))) ?_ (by rw [List.length_zipIdx]; omega) (fun z m => rg_pair (by decide) (by decide)) (fun z m => rt_test ((rd_notInI (K := K) (ns := [(b0 : Int), (n : Int)]) (rd_var (i := 11) rfl) (rd_tup (rds_cons (nr rfl) (rds_one (rd_var (i := 6) rfl))) (by show 2 ≤ 1000; decide))).cast ?_)) (fun z m _ => rd_var rfl)) (rd_lst (rds_one (rd_var (i := 8) rfl)) (by show 1 ≤ 1000; decide)) ?_).cast ?_)) fun v10 H10 s10 q10 => ?_)
          · have h := ri_enum (K := K) (rds_one (rd_var (C := C) (i := 4) (show (([some (Ob.pln Ls), some o, some (Ob.lxs ts), some (Ob.lxs (lawCl Ls cs ts)), some (Ob.lst (G.map gsO)), some (Ob.int ((G.length : Nat) : Int)), some (Ob.int (n : Nat)), some (Ob.lst (((b0 :: r0).map fun (b : Nat) => (b : Int)).map .int)), some (gsO ((G.getD b0 ([], [])).1 ++ (G.getD n ([], [])).1, (G.getD b0 ([], [])).2 ++ (G.getD n ([], [])).2)), none, none, none, none, none, none] : List (Option Ob)))[4]? = some (some (.lst (G.map gsO))) from rfl)))
            have e : (G.map gsO).zipIdx.map (fun z => Ob.tup [.int (z.2 : Nat), z.1]) = G.zipIdx.map fun z => .tup [.int (z.2 : Nat), gsO z.1] := by
              rw [List.zipIdx_map, List.map_map]; rfl
            rw [← e]; exact h
          · congr 1
            unfold dropB
            congr 1
            rw [Bool.eq_iff_iff]
            simp only [decide_eq_true_eq, Bool.or_eq_true, List.mem_cons, List.not_mem_nil, or_false, Int.natCast_inj]
          · rw [List.length_map]
            have := List.length_filter_le (dropB b0 n) G.zipIdx
            rw [List.length_zipIdx] at this
            show _ + 1 ≤ 1000
            omega
          · unfold mergeG
            rw [List.map_append, List.map_map]; rfl
          show D'.bk _ H10
          rw [hbk]
          have hsh : ∃ z, z ∈ (G.getD b0 ([], [])).2 ∧ z ∈ (G.getD n ([], [])).2 := by
            obtain ⟨z, hz⟩ := List.exists_mem_of_ne_nil _ nb
            have := List.mem_filter.mp hz
            exact ⟨z, this.1, by simpa using this.2⟩
          refine ⟨(mergeG G b0 n (G.getD b0 ([], [])) (G.getD n ([], []))).length + 1, by omega, mergeG G b0 n (G.getD b0 ([], [])) (G.getD n ([], [])), ((G.length : Nat) : Int), _, _, _, q10, p.merge lb hg hh hsh, ?_, .inr ⟨by omega, rfl⟩⟩
          rw [(merge_flat (fun g : Gs => g.2) lb hg hh rfl).length_eq]
          exact fl
        · refine fin _ _ _ ⟨_, _, _, rfl, fun a ha b hb => ?_⟩ q8 (.same (s7.trans s8))
          rcases Nat.lt_succ_iff_lt_or_eq.mp ha with h | rfl
          · exact apt a h b hb
          · have e0 : (List.range a).filter (fun b => !decide (shB G a b = [])) = [] := by
              cases e : (List.range a).filter fun b => !decide (shB G a b = []) with
              | nil => rfl
              | cons x r => rw [e] at z; simp at z
            have := List.filter_eq_nil_iff.mp e0 b (List.mem_range.mpr hb)
            simpa using this
      · obtain ⟨x6, x7, x8, rfl, apt⟩ := iv
        rw [List.length_range] at apt
        refine ⟨0, by omega, G, ((G.length : Nat) : Int), x6, x7, x8, q6, p, fl, .inl ⟨rfl, ?_⟩⟩
        unfold Sep
        rw [List.pairwise_iff_getElem]
        intro i j hi hj hij z hz hz2
        have h := apt j hj i hij
        unfold shB at h
        have := List.filter_eq_nil_iff.mp h z (by simpa [List.getD, List.getElem?_eq_getElem hi] using hz)
        apply this
        simpa [List.getD, List.getElem?_eq_getElem hj] using hz2
end
end B30_

/-! ## B30_98 -/
set_option Elab.async false
set_option linter.all false
set_option maxRecDepth 100000
set_option maxHeartbeats 8000000
namespace B30_
open PySem PySem.Spec PyProof.Rows L2
/-! ### defs with keywords -/
structure CalleeD (P : Program) (w : World) (K : PySem.W.Frag) (mg : Str → Option Value) (base : Heap) (k : Nat) (x : Str) (ps : List Str) (sp : Sp) (n : Nat) (ks : List Str) (dv : List V) : Prop where
  ex : ∃ f fd ds g, mg x = some (.ref f) ∧ PySem.W.keepIn K (.ref f) = true ∧ FnOk P w K mg base CX0 k f fd ps sp ∧ Binds K fd ps ds ∧ Vals dv ds ∧ KBn K fd ps n ks g (fun vs zs => vs ++ zs)
section
variable {X : Cx}
theorem pe_useD {k n : Nat} {x : Str} {ps ks : List Str} {dv : List V} {sp : Sp} {e : Expr} {es : List Expr} {t : TA} {E : XK} {p pos : Pos} (C : CalleeD X.prog X.w X.K X.mg X.base k x ps sp n ks dv) (hr : Room k X.A) (hg : Gl X x) (hx : Passes CX0 X E) (ha : PA X (e :: es) t)
    (hd : (x == ("__debug__" : Str)) = false := by decide) (he : starEach (e :: es) X.env = (false, eval e X.env) :: starEach es X.env := by rfl)
    (hpl : (backTo pos (starEach es X.env)).any (·.1) = false := by rfl) :
    PE X (.Call (.Name x p) (e :: es) [] pos) (tCall sp dv E t) := by
  obtain ⟨f, fd, ds, g, hm, hk, F, hb, hv, _⟩ := C.ex
  exact pe_call F hr hg hm hk hb hv hx ha (by assumption) (by assumption) (by assumption)
theorem pe_useN {k n : Nat} {x : Str} {ps ks : List Str} {dv : List V} {sp : Sp} {e : Expr} {es : List Expr} {kws : List Keyword} {t tk : TA} {E : XK} {p pos : Pos} (C : CalleeD X.prog X.w X.K X.mg X.base k x ps sp n ks dv) (hr : Room k X.A) (hg : Gl X x) (hx : Passes CX0 X E) (ha : PA X (e :: es) t) (hkw : PK X kws tk)
    (hall : (backToKw pos (keywordEach kws X.env)).all (·.1.isSome) = true := by rfl) (hks : (backToKw pos (keywordEach kws X.env)).filterMap (·.1) = ks := by rfl)
    (hdb : (x == ("__debug__" : Str)) = false := by decide) (he : starEach (e :: es) X.env = (false, eval e X.env) :: starEach es X.env := by rfl)
    (hpl : ((backTo pos (starEach (e :: es) X.env)).any (·.1) || (backToKw pos (keywordEach kws X.env)).any (·.1.isNone)) = false := by rfl) :
    PE X (.Call (.Name x p) (e :: es) kws pos) (tCallN n ks.length sp (fun vs zs => vs ++ zs) E t tk) := by
  obtain ⟨f, fd, ds, g, hm, hk, F, _, _, hb⟩ := C.ex
  exact pe_callN F hr hg hm hk hb hx ha hkw (by assumption) (by assumption) (by assumption) (by assumption) (by assumption)
end
section
variable {C d : Addr} {A F G : Addr → Prop} {H0 H H' : Hp} {ρ : List (Option Ob)} {σ : L2.St} {K : PySem.W.Frag} {te ta tb : TE} {tt : TT} {t tk : TA} {os us : List Ob} {o : Ob} {cs : List Str} {Ls : List Ln}
theorem rd_callD {g : List Ob → Ob → Prop} {E : XK} {r : Ob} (a : RDs C ρ t os) (h : g (os ++ [.non]) r) : RD C ρ (tCall (spP C g) [.non] E t) r := fun F σ H Q e fm k => a F σ H _ e fm fun vs H1 s1 r1 => by
  refine ⟨F, _, r, fm.same s1, r1.app (.cons .non .nil), h, fun v H2 s2 r2 => k v H2 (s1.trans s2) r2⟩
theorem rd_callN {g : List Ob → Ob → Prop} {E : XK} {r : Ob} {n m : Nat} (a : RDs C ρ t os) (b : RDs C ρ tk us) (hn : os.length = n) (hm : us.length = m) (h : g (os ++ us) r) : RD C ρ (tCallN n m (spP C g) (fun vs zs => vs ++ zs) E t tk) r := fun F σ H Q e fm k => a F σ H _ e fm fun vs H1 s1 r1 => by
  refine b F σ H1 _ (e.same fm s1) (fm.same s1) fun zs H2 s2 r2 => ⟨by rw [r1.length, hn], by rw [r2.length, hm], F, _, r, (fm.same s1).same s2, (r1.same (fm.same s1) s2).app r2, h, fun v H3 s3 r3 => k v H3 ((s1.trans s2).trans s3) r3⟩
theorem evc_ev (hd : Dice H d) (ev : Ev C (Eq1 d) σ H te o) : EvC C d σ H te (fun x => x = o) := fun Q k => ev Q fun v H' s rv => k o v H' rfl (.same s) (hd.same s) rv
end
/-! ### tuples of tuples of texts -/
theorem pds_txs (L : List (List Str)) : pds (L.map Ob.txs) = L.map fun cs => .tuple (cs.map .str) := by
  induction L with
  | nil => rfl
  | cons a r ih =>
    rw [List.map_cons, pds, ih]
    show PyData.tuple (pds (a.map .str)) :: _ = _
    rw [pds_strs]; rfl
theorem areD_txs (L : List (List Str)) : areD (L.map Ob.txs) = true := by
  induction L with
  | nil => rfl
  | cons a r ih =>
    rw [List.map_cons, areD, ih]
    show (areD (a.map .str) && true) = true
    rw [areD_strs]; rfl
theorem shaped_ttx (L : List (List Str)) (h : ∀ cs ∈ L, ∀ z ∈ cs, PyData.strOk z = true) : SeqAt.shaped (Ob.tup (L.map Ob.txs)).pd = true := by
  show SeqAt.shaped (.tuple (pds (L.map Ob.txs))) = true
  rw [pds_txs]
  unfold SeqAt.shaped
  have h1 : PyData.canLay0 (.tuple (L.map fun cs => PyData.tuple (cs.map .str))) = true := by
    show PyData.canLayAll0 (L.map fun cs => PyData.tuple (cs.map .str)) = true
    induction L with
    | nil => rfl
    | cons a r ih =>
      rw [List.map_cons]
      show (PyData.canLayAll0 (a.map .str) && PyData.canLayAll0 (r.map fun cs => PyData.tuple (cs.map .str))) = true
      rw [canLay_strs a (h a List.mem_cons_self), ih fun cs m => h cs (List.mem_cons_of_mem _ m)]; rfl
  have h2 : PyData.depth (.tuple (L.map fun cs => PyData.tuple (cs.map .str))) ≤ 64 := by
    have : PyData.depthAll (L.map fun cs => PyData.tuple (cs.map .str)) ≤ 1 := by
      clear h h1
      induction L with
      | nil => show 0 ≤ 1; decide
      | cons a r ih =>
        show max (PyData.depthAll (a.map .str) + 1) (PyData.depthAll (r.map fun cs => PyData.tuple (cs.map .str))) ≤ 1
        rw [depth_strs]; omega
    show PyData.depthAll (L.map fun cs => PyData.tuple (cs.map .str)) + 1 ≤ 64
    omega
  rw [h1, decide_eq_true h2]; rfl
theorem eqv_ttx : ∀ L M : List (List Str), PyData.eqvAll (L.map fun cs => PyData.tuple (cs.map .str)) (M.map fun cs => PyData.tuple (cs.map .str)) = decide (L = M)
  | [], [] => rfl
  | [], _ :: _ => by simp [PyData.eqvAll]
  | _ :: _, [] => by simp [PyData.eqvAll]
  | a :: L, b :: M => by
    rw [List.map_cons, List.map_cons, PyData.eqvAll, eqv_ttx L M, Bool.eq_iff_iff]
    simp only [PyData.eqv, Bool.and_eq_true, eqv_strs, decide_eq_true_eq, List.cons.injEq]
theorem rd_eqTT {C : Addr} {ρ : List (Option Ob)} {K : PySem.W.Frag} {ta tb : TE} {L M : List (List Str)} (a : RD C ρ ta (.tup (L.map .txs))) (b : RD C ρ tb (.tup (M.map .txs))) (h1 : ∀ cs ∈ L, ∀ z ∈ cs, PyData.strOk z = true) (h2 : ∀ cs ∈ M, ∀ z ∈ cs, PyData.strOk z = true) : RD C ρ (tOp (rEqD K) ta tb) (.bl (decide (L = M))) := by
  refine (rd_eqD (K := K) a b (areD_txs L) (areD_txs M) (shaped_ttx L h1) (shaped_ttx M h2)).cast (congrArg Ob.bl ?_)
  show PyData.eqv (.tuple (pds (L.map Ob.txs))) (.tuple (pds (M.map Ob.txs))) = _
  rw [pds_txs, pds_txs]
  simp only [PyData.eqv]
  exact eqv_ttx L M
theorem rd_neTT {C : Addr} {ρ : List (Option Ob)} {K : PySem.W.Frag} {ta tb : TE} {L M : List (List Str)} (a : RD C ρ ta (.tup (L.map .txs))) (b : RD C ρ tb (.tup (M.map .txs))) (h1 : ∀ cs ∈ L, ∀ z ∈ cs, PyData.strOk z = true) (h2 : ∀ cs ∈ M, ∀ z ∈ cs, PyData.strOk z = true) : RD C ρ (tOp (rNeD K) ta tb) (.bl (!decide (L = M))) := by
  refine (rd_neD (K := K) a b (areD_txs L) (areD_txs M) (shaped_ttx L h1) (shaped_ttx M h2)).cast (congrArg Ob.bl ?_)
  show (!PyData.eqv (.tuple (pds (L.map Ob.txs))) (.tuple (pds (M.map Ob.txs)))) = _
  rw [pds_txs, pds_txs]
  simp only [PyData.eqv]
  rw [eqv_ttx L M]
theorem pieces_ok {Ls : List Ln} {o : Ob} {cs ts : List Str} (ct : Cols ts) : ∀ ps ∈ piecesOf Ls o cs ts, ∀ z ∈ ps, PyData.strOk z = true := fun ps m z hz => by
  obtain ⟨is, mi, rfl⟩ := List.mem_map.mp m
  obtain ⟨i, hi, rfl⟩ := List.mem_map.mp hz
  have h := mem_upTo.mp ((hang_mem mi).1 i hi)
  rw [List.length_map] at h
  have lt : i.toNat < (othersOf o ts).length := by omega
  show PyData.strOk ((othersOf o ts).getD i.toNat Str.empty) = true
  simp only [List.getD, List.getElem?_eq_getElem lt, Option.getD_some]
  exact name_strOk (ct.names _ (List.mem_filter.mp (List.getElem_mem lt)).1)
section
variable {P : Program} {w : World} {K : PySem.W.Frag} {mg : Str → Option Value} {base : Heap}
/-! ### _law_given -/
abbrev s_lgv : Stmt := topS 60
abbrev N_lgv : List Str := ["dice", "scene", "role", "some"]
theorem sc_lgv : FnScope N_lgv ["dice", "scene", "role"] (defScope s_lgv) := ⟨rfl, rfl, rfl, by decide +kernel, rfl, by decide +kernel, by decide +kernel⟩
abbrev preGv : List Ob → Prop := fun os => ∃ Ls o cs, os = [.pln Ls, o] ∧ PlOk Ls ∧ RoleIs Ls o cs
abbrev gGv : List Ob → Ob → Prop := fun os r => ∃ Ls o ts, os = [.pln Ls, o] ∧ r = .lxs ts ∧ Cols ts ∧ (∀ z ∈ ts, z ∈ tabsOf Ls) ∧ ts ≠ [] ∧ ∀ t, o = .str t → t ∈ ts
theorem ok_lgv {f C : Addr} {fd : FuncData} (F : Fun K "_law_given" "_law_given" s_lgv f fd) (T : NamesS mg) (hstr : mg "str" = none) (C_some : Callee P w K mg base CX0 3 "_law_some" ["dice", "items", "least", "most"] spSome) : FnOk P w K mg base CX0 4 f fd ["dice", "scene", "role"] (spDi C preGv gGv) := by
  have nd := sc_lgv.nd
  refine F.ok sc_lgv (fun vs H Q E h => ?_) (fun cdv A outer s H vs Q E hr h => ?_)
  · obtain ⟨d, vs', os, rfl, _, rs, ⟨Ls, o, cs, rfl, _⟩, _⟩ := h
    show vs'.length + 1 = 3
    rw [rs.length]; rfl
  · obtain ⟨d, vs', os, rfl, hd, rs, ⟨Ls, o, cs, rfl, ok, ro⟩, k⟩ := h
    refine ⟨_, (pss_cons
    (ps_set (i := 3) nd rfl (Or.inl rfl) (pe_use C_some (hr.mono (by decide)) rfl pass0 (pa_cons (pv 0) (pa_cons (pe_callB (call_sortedD rfl) (by rfl) T.sorted (by decide +kernel) (pa_cons (pv 1) pa_nil)) (pa_cons pe_int (pa_cons pe_int pa_nil))))))
    (pss_one
    (ps_ret (pe_callB (K1.cr_sortedSS rfl) (by rfl) T.sorted (by decide +kernel) (pa_cons (pe_callTy (K1.cr_setLS rfl) (by rfl) T.set (by decide +kernel) (pa_cons (pe_op op_cat (pv 3) (pe_ifExp (pt_val (pe_callB (r := rIsi K) call_isi (by rfl) T.isinstance (by decide +kernel) (pa_cons (pv 2) (pa_cons (pe_bltn (v := .ty "str") (by rfl) hstr (by decide +kernel) rfl) pa_nil)))) (pe_lst (pa_cons (pv 2) pa_nil)) (pe_lst pa_nil))) pa_nil)) pa_nil))))), ?_⟩
    have q0 : Sq C (Eq1 d) (Eq1 d) H [some (.own d), some (.pln Ls), some o, none] (L2.start N_lgv (.ref d :: vs')) H := Sq.start (N := N_lgv) (os := [.own d, .pln Ls, o]) (fm_dice hd) (.cons (.own d) rs)
    have lk := ok.toLnsOk
    have six := ok.six
    have one := ok.one
    have tl : (tabsOf Ls).length = Ls.length := List.length_map ..
    refine seq (st_setC q0 (evc_some (lo := 1) (hi := 6) (xs := tabsOf Ls) q0 hd (rds_cons (rd_var (i := 0) rfl) (rds_cons ((rd_sortD (by omega) (rd_var (i := 1) rfl)).cast (o' := .lxs (tabsOf Ls)) (by rw [ok.tabs])) (rds_cons (rd_int 1) (rds_one (rd_int 6))))) (by decide) (by decide) (by omega) (fun x m => name_strOk (tabs_name lk x m))) fun x v1 H1 go kp1 hd1 q1 => ?_)
    obtain ⟨ys, n, pm, n1, n2, rfl⟩ := go
    dsimp only
    have sub1 : ∀ z ∈ ys.take n, z ∈ tabsOf Ls := fun z m => pm.mem_iff.mp (List.mem_of_mem_take m)
    have len1 : (ys.take n).length ≤ 6 := by rw [List.length_take]; omega
    have len2 : 1 ≤ (ys.take n).length := by rw [List.length_take, pm.length_eq]; omega
    generalize ys.take n = zs at sub1 len1 len2 q1
    have fin : ∀ (ex : List Str), ex.length ≤ 1 → (∀ z ∈ ex, z ∈ tabsOf Ls) → (∀ t, o = .str t → t ∈ ex) → gGv [.pln Ls, o] (.lxs (uniqS (zs ++ ex))) := fun ex _ h2 h3 => by
      refine ⟨Ls, o, _, rfl, rfl, cols_uniqS fun z m => ?_, fun z m => ?_, fun e => ?_, fun t e => mem_uniqS.mpr (List.mem_append.mpr (.inr (h3 t e)))⟩
      · exact tabs_name lk z ((List.mem_append.mp m).elim (sub1 z) (h2 z))
      · exact (List.mem_append.mp (mem_uniqS.mp m)).elim (sub1 z) (h2 z)
      · cases zs with
        | nil => simp at len2
        | cons a r => have : a ∈ uniqS (a :: r ++ ex) := mem_uniqS.mpr (List.mem_append.mpr (.inl List.mem_cons_self)); rw [e] at this; cases this
    rcases ro with ⟨l, ml, lk', rfl, rfl⟩ | ⟨rfl, c, sub⟩
    · refine st_ret (o := .lxs (uniqS (zs ++ [l.t]))) q1 (q1.ev (rd_setSortedL (K := K) (by rw [List.length_append]; show _ + 1 < 64; omega) (rd_catS (cs := zs) (ds := [l.t]) (rd_var (i := 3) rfl) (rd_ifx (b := true) (rt_b (rd_isStrT (K := K) (rd_var (i := 2) rfl))) (fun _ => rd_lst (rds_one (rd_var (i := 2) rfl)) (by show 1 ≤ 1000; decide)) (fun z => by cases z)) (by show _ + 1 ≤ 1000; omega)))) ?_
      intro v H2 kp2 rv _ s2
      exact k _ v H2 (fin [l.t] (by simp) (fun z m => by rw [List.mem_singleton.mp m]; exact List.mem_map.mpr ⟨l, ml, rfl⟩) (fun t e => by cases e; exact List.mem_singleton.mpr rfl)) kp2 (hd1.same s2) rv
    · refine st_ret (o := .lxs (uniqS (zs ++ []))) q1 (q1.ev (rd_setSortedL (K := K) (by rw [List.length_append]; show _ + 0 < 64; omega) (rd_catS (cs := zs) (ds := []) (rd_var (i := 3) rfl) (rd_ifx (b := false) (rt_b (rd_isStrF (K := K) (rd_var (i := 2) rfl))) (fun z => by cases z) (fun _ => rd_lst rds_nil (by decide))) (by show _ + 0 ≤ 1000; omega)))) ?_
      intro v H2 kp2 rv _ s2
      exact k _ v H2 (fin [] (by simp) (fun z m => by cases m) (fun t e => by cases e)) kp2 (hd1.same s2) rv
/-! ### _law_case_right -/
abbrev s_lcr : Stmt := topS 62
abbrev N_lcr : List Str := ["dice", "scene", "made", "role", "given", "due"]
theorem sc_lcr : FnScope N_lcr ["dice"] (defScope s_lcr) := ⟨rfl, rfl, rfl, by decide +kernel, rfl, by decide +kernel, by decide +kernel⟩
def spLcr : Sp := fun vs H Q _ => ∃ d, vs = [.ref d] ∧ Dice H d ∧ ∀ H', But d H H' → Dice H' d → Q (.bl true) H'
theorem ok_lcr {f C : Addr} {fd : FuncData} (F : Fun K "_law_case_right" "_law_case_right" s_lcr f fd) (T : NamesS mg) (W : Ways P w K mg base C) (C_lsc : Callee P w K mg base CX0 5 "_law_scene" ["dice", "most_tables", "most_columns", "still"] spLsc) (C_lro : Callee P w K mg base CX0 5 "_law_role" ["dice", "scene"] (spDi C preDo gRo)) (C_lsm : Callee P w K mg base CX0 11 "_law_scene_made" ["scene"] (spP C gLsm)) (C_lgv : Callee P w K mg base CX0 4 "_law_given" ["dice", "scene", "role"] (spDi C preGv gGv)) (C_lgr : Callee P w K mg base CX0 2 "_law_groups" ["scene", "role", "given"] (spP C gLgr)) (C_pcs : CalleeD P w K mg base 9 "pieces" ["scene", "role", "tables"] (spP C gPcs) 2 ["tables"] [.non]) : FnOk P w K mg base CX0 12 f fd ["dice"] spLcr := by
  have nd := sc_lcr.nd
  refine F.ok sc_lcr (fun vs H Q E h => ?_) (fun cdv A outer s H vs Q E hr h => ?_)
  · obtain ⟨d, rfl, _⟩ := h
    rfl
  · obtain ⟨d, rfl, hd, k⟩ := h
    have hu64 : (A.deeper (envOfC "_law_case_right" (defScope s_lcr) s.heap.objs.size f cdv)).units + 64 < cLine := by have := hr.un; omega
    refine ⟨_, (pss_cons
    (ps_set (i := 1) nd rfl (Or.inl rfl) (pe_use C_lsc (hr.mono (by decide)) rfl pass0 (pa_cons (pv 0) (pa_cons pe_int (pa_cons pe_int (pa_cons pe_int pa_nil))))))
    (pss_cons
    (ps_par (i := 2) (j := 3) (by rfl) nd rfl rfl (by decide) rfl rfl (pa_cons (pe_use C_lsm (hr.mono (by decide)) rfl pass0 (pa_cons (pv 1) pa_nil)) (pa_cons (pe_use C_lro (hr.mono (by decide)) rfl pass0 (pa_cons (pv 0) (pa_cons (pv 1) pa_nil))) pa_nil)) (by rfl))
    (pss_cons
    (ps_set (i := 4) nd rfl (Or.inl rfl) (pe_use C_lgv (hr.mono (by decide)) rfl pass0 (pa_cons (pv 0) (pa_cons (pv 1) (pa_cons (pv 3) pa_nil)))))
    (pss_cons
    (ps_set (i := 5) nd rfl (Or.inl rfl) (pe_use C_lgr (hr.mono (by decide)) rfl pass0 (pa_cons (pv 1) (pa_cons (pv 3) (pa_cons (pe_callB (call_sortedD rfl) (by rfl) T.sorted (by decide +kernel) (pa_cons (pv 1) pa_nil)) pa_nil)))))
    (pss_cons
    (ps_if (PW.pt (pw_or (pt_cmpR (op_neD hu64) (pe_useD C_pcs (hr.mono (by decide)) rfl pass0 (pa_cons (pv 2) (pa_cons (pv 3) pa_nil))) (pv 5) (nomark _)) (pw_or1 (pt_cmpR (op_neD hu64) (pe_useN C_pcs (hr.mono (by decide)) rfl pass0 (pa_cons (pv 2) (pa_cons (pv 3) pa_nil)) (pk_cons pe_non pk_nil)) (pv 5) (nomark _))))) (pss_one
      (ps_ret pe_bl)) pss_nil)
    (pss_cons
    (ps_if (pt_cmpR (op_neD hu64) (pe_useN C_pcs (hr.mono (by decide)) rfl pass0 (pa_cons (pv 2) (pa_cons (pv 3) pa_nil)) (pk_cons (pe_callTy call_tuple_of (by rfl) T.tuple (by decide +kernel) (pa_cons (pe_callB (call_sortedD rfl) (by rfl) T.sorted (by decide +kernel) (pa_cons (pv 1) pa_nil)) pa_nil)) pk_nil)) (pv 5) (nomark _)) (pss_one
      (ps_ret pe_bl)) pss_nil)
    (pss_one
    (ps_ret (pe_cmpR (op_eqD hu64) (pe_useN C_pcs (hr.mono (by decide)) rfl pass0 (pa_cons (pv 2) (pa_cons (pv 3) pa_nil)) (pk_cons (pe_callTy call_tuple_of (by rfl) T.tuple (by decide +kernel) (pa_cons (pv 4) pa_nil)) pk_nil)) (pe_use C_lgr (hr.mono (by decide)) rfl pass0 (pa_cons (pv 1) (pa_cons (pv 3) (pa_cons (pv 4) pa_nil)))) (nomark _)))))))))), ?_⟩
    have q0 : Sq C (Eq1 d) (Eq1 d) H [some (.own d), none, none, none, none, none] (L2.start N_lcr [.ref d]) H := Sq.start (N := N_lcr) (os := [.own d]) (fm_dice hd) (.cons (.own d) .nil)
    refine seq (st_setC q0 (evc_lsc (nt := 6) (nc := 6) q0 hd (rds_cons (rd_var (i := 0) rfl) (rds_cons (rd_int 6) (rds_cons (rd_int 6) (rds_one (rd_int 3))))) (by decide) (by decide) (by decide) (by decide) (by decide) (by decide)) fun o v H1 go kp1 hd1 q1 => ?_)
    obtain ⟨Ls, rfl, ok⟩ := go
    dsimp only
    have lk := ok.toLnsOk
    have six := ok.six
    refine seq (st_parC (g1 := fun x => x = .scn Ls) (g2 := gRo [.pln Ls]) q1 (evc_ev hd1 (q1.ev (rd_call (rds_one (rd_var (i := 1) rfl)) ⟨Ls, rfl, ok, rfl⟩))) (fun H2 kp2 hd2 => evc_call (os := [.pln Ls]) (q1.kpC kp2 hd2) hd2 (rds_cons (rd_var (i := 0) rfl) (rds_one (rd_var (i := 1) rfl))) ⟨Ls, rfl, ok⟩) fun x o v2 v3 H2 g1 g2 kp2 hd2 q2 => ?_)
    subst g1
    obtain ⟨Ls', cs, e, ro⟩ := g2
    cases e
    dsimp only
    refine seq (st_setC (g := gGv [.pln Ls, o]) q2 (evc_call (os := [.pln Ls, o]) q2 hd2 (rds_cons (rd_var (i := 0) rfl) (rds_cons (rd_var (i := 1) rfl) (rds_one (rd_var (i := 3) rfl)))) ⟨Ls, o, cs, rfl, ok, ro⟩) fun x v4 H4 go kp4 hd4 q4 => ?_)
    obtain ⟨Ls', o', ts, e, rfl, ct, sub, ne, hin⟩ := go
    cases e
    dsimp only
    have ca := cols_tabs ok
    have soA := pieces_ok (Ls := Ls) (o := o) (cs := cs) ca
    have soT := pieces_ok (Ls := Ls) (o := o) (cs := cs) ct
    have one := ok.one
    have tl : (tabsOf Ls).length = Ls.length := List.length_map ..
    have neA : tabsOf Ls ≠ [] := fun e => by rw [e] at tl; simp at tl; omega
    have inA : ∀ t, o = .str t → t ∈ tabsOf Ls := fun t e => by
      rcases ro with ⟨l, ml, _, rfl, _⟩ | ⟨rfl, _, _⟩
      · cases e; exact List.mem_map.mpr ⟨l, ml, rfl⟩
      · cases e
    have srt : ∀ {ρ : List (Option Ob)}, ρ[1]? = some (some (.pln Ls)) → RD C ρ (tCB rSortD (tCons (tVar 1) tNil)) (.lxs (tabsOf Ls)) := fun {ρ} h => (rd_sortD (by omega) (rd_var h)).cast (by rw [ok.tabs])
    refine seq (st_set (i := 5) (o := .tup ((piecesOf Ls o cs (tabsOf Ls)).map .txs)) q4 (q4.ev (rd_call (rds_cons (rd_var (i := 1) rfl) (rds_cons (rd_var (i := 3) rfl) (rds_one (srt rfl)))) ⟨Ls, o, cs, tabsOf Ls, rfl, lk, ro, ca, fun z m => m, rfl⟩)) fun v5 H5 s5 q5 => ?_)
    dsimp only
    refine seq (st_if (b := false) q5 (q5.evt (rt_or (b := false) (c := false) (rt_test ((rd_neTT (K := K) (rd_callD (g := gPcs) (rds_cons (rd_var (i := 2) rfl) (rds_one (rd_var (i := 3) rfl))) ⟨Ls, o, .non, cs, tabsOf Ls, rfl, lk, ro, .inl ⟨rfl, rfl⟩, ca, fun z m => m, rfl⟩) (rd_var (i := 5) rfl) soA soA).cast (by rw [decide_eq_true rfl]; rfl))) fun _ => rt_test ((rd_neTT (K := K) (rd_callN (g := gPcs) (rds_cons (rd_var (i := 2) rfl) (rds_one (rd_var (i := 3) rfl))) (rds_one rd_non) rfl rfl ⟨Ls, o, .non, cs, tabsOf Ls, rfl, lk, ro, .inl ⟨rfl, rfl⟩, ca, fun z m => m, rfl⟩) (rd_var (i := 5) rfl) soA soA).cast (by rw [decide_eq_true rfl]; rfl)))) (fun z => by cases z) (fun z H6 s6 q6 => ?_))
    dsimp only [tNext]
    refine seq (st_if (b := false) q6 (q6.evt (rt_test ((rd_neTT (K := K) (rd_callN (g := gPcs) (rds_cons (rd_var (i := 2) rfl) (rds_one (rd_var (i := 3) rfl))) (rds_one (rd_tupleOf (K := K) (os := (tabsOf Ls).map .str) (.inr rfl) (srt rfl))) rfl rfl ⟨Ls, o, .txs (tabsOf Ls), cs, tabsOf Ls, rfl, lk, ro, .inr ⟨rfl, neA, inA⟩, ca, fun z m => m, rfl⟩) (rd_var (i := 5) rfl) soA soA).cast (by rw [decide_eq_true rfl]; rfl)))) (fun z => by cases z) (fun z H7 s7 q7 => ?_))
    dsimp only [tNext]
    refine st_ret (o := .bl true) q7 (q7.ev ((rd_eqTT (K := K) (rd_callN (g := gPcs) (rds_cons (rd_var (i := 2) rfl) (rds_one (rd_var (i := 3) rfl))) (rds_one (rd_tupleOf (K := K) (os := ts.map .str) (.inr rfl) (rd_var (i := 4) rfl))) rfl rfl ⟨Ls, o, .txs ts, cs, ts, rfl, lk, ro, .inr ⟨rfl, ne, hin⟩, ct, sub, rfl⟩) (rd_call (rds_cons (rd_var (i := 1) rfl) (rds_cons (rd_var (i := 3) rfl) (rds_one (rd_var (i := 4) rfl)))) ⟨Ls, o, cs, ts, rfl, lk, ro, ct, sub, rfl⟩) soT soT).cast (by rw [decide_eq_true rfl]))) ?_
    intro v8 H8 kp8 rv _ s8
    cases rv
    exact k H8 kp8 ((((hd4.same s5).same s6).same s7).same s8)
end
end B30_

/-! ## B30_99 -/
set_option Elab.async false
set_option linter.all false
set_option maxRecDepth 100000
set_option maxHeartbeats 16000000
namespace B30_
open PySem PySem.Spec PyProof.Rows L2
/-! ### sorting that can be run -/
section
variable {α : Type} (le : α → α → Bool)
def insB (l : α) : List α → List α
  | [] => [l]
  | a :: r => if le l a = true then l :: a :: r else a :: insB l r
def isB : List α → List α
  | [] => []
  | l :: r => insB le l (isB r)
theorem insB_perm (l : α) : ∀ r : List α, (insB le l r).Perm (l :: r)
  | [] => .refl _
  | a :: r => by
    unfold insB
    split
    · exact .refl _
    · exact ((insB_perm l r).cons a).trans (.swap l a r)
theorem isB_perm : ∀ r : List α, (isB le r).Perm r
  | [] => .refl _
  | l :: r => (insB_perm le l (isB le r)).trans ((isB_perm r).cons l)
variable {le}
theorem insB_pair (tot : ∀ a b, le a b = true ∨ le b a = true) (tr : ∀ a b c, le a b = true → le b c = true → le a c = true) (l : α) : ∀ r : List α, (r.Pairwise fun a b => le a b = true) → (insB le l r).Pairwise fun a b => le a b = true
  | [], _ => List.pairwise_singleton _ _
  | a :: r, h => by
    unfold insB
    have h' := List.pairwise_cons.mp h
    split
    · rename_i q
      refine List.pairwise_cons.mpr ⟨fun b hb => ?_, h⟩
      rcases List.mem_cons.mp hb with rfl | hb
      · exact q
      · exact tr _ _ _ q (h'.1 b hb)
    · rename_i q
      refine List.pairwise_cons.mpr ⟨fun b hb => ?_, insB_pair tot tr l r h'.2⟩
      rcases List.mem_cons.mp ((insB_perm le l r).mem_iff.mp hb) with rfl | hb
      · exact (tot b a).resolve_left q
      · exact h'.1 b hb
theorem isB_pair (tot : ∀ a b, le a b = true ∨ le b a = true) (tr : ∀ a b c, le a b = true → le b c = true → le a c = true) : ∀ r : List α, (isB le r).Pairwise fun a b => le a b = true
  | [] => .nil
  | l :: r => insB_pair tot tr l _ (isB_pair tot tr r)
theorem ms_isB (tot : ∀ a b, le a b = true ∨ le b a = true) (tr : ∀ a b c, le a b = true → le b c = true → le a c = true) (an : ∀ a b, le a b = true → le b a = true → a = b) (l : List α) : l.mergeSort le = isB le l :=
  List.Perm.eq_of_pairwise (le := fun a b => le a b = true) (fun a b _ _ h1 h2 => an a b h1 h2) (List.pairwise_mergeSort (fun a b c => tr a b c) (fun a b => by rw [Bool.or_eq_true]; exact tot a b) l) (isB_pair tot tr l) ((List.mergeSort_perm l le).trans (isB_perm le l).symm)
end
abbrev leL (a b : List Int) : Bool := decide (a ≤ b)
theorem leP_eq : leP = leL := by
  have h := PySem.W.dataLe_rows (fun b : List Int => b)
  funext a b
  have e : ∀ ns : List Int, (plO ns).pd = .list (ns.map .int) := fun ns => by show PyData.list (pds (ns.map .int)) = _; rw [pds_ints]
  have h2 := congrFun (congrFun h a) b
  show (!PySem.W.dataLt (plO b).pd (plO a).pd) = _
  rw [e, e]
  exact h2
theorem srtZ_I (ns : List Int) : srtZ ns = isB leI ns := ms_isB (fun a b => by simp only [leI, decide_eq_true_eq]; omega) (fun a b c h1 h2 => by simp only [leI, decide_eq_true_eq] at *; omega) (fun a b h1 h2 => by simp only [leI, decide_eq_true_eq] at *; omega) ns
def htStepI (G : List Gr) (a : List Str × Nat) : List Gr := G.filter (fun g => !hcB g.2 a.1) ++ [(isB leI ((a.2 : Int) :: (G.filter fun g => hcB g.2 a.1).flatMap (·.1)), a.1 ++ (G.filter fun g => hcB g.2 a.1).flatMap (·.2))]
def outerI (Ls : List Ln) (cs ts : List Str) (t : Str) : List Str := (colsAt Ls t).filter fun c => !decide (c ∈ cs ++ (stepsOf Ls cs ts).flatMap (colsAt Ls))
def piecesI (Ls : List Ln) (o : Ob) (cs ts : List Str) : List (List Str) := (isB leL ((((othersOf o ts).map (outerI Ls cs ts)).zipIdx.foldl htStepI []).map (·.1))).map fun ps => ps.map (nmAt (othersOf o ts))
theorem pieces_I (Ls : List Ln) (o : Ob) (cs ts : List Str) : piecesOf Ls o cs ts = piecesI Ls o cs ts := by
  have e1 : outerOf Ls cs ts = outerI Ls cs ts := funext fun t => by
    unfold outerOf outerI
    congr 1
    funext c
    congr 1
    rw [Bool.eq_iff_iff, decide_eq_true_eq, decide_eq_true_eq]
    exact mem_uniqS
  have e2 : htStep = htStepI := by
    funext G a
    unfold htStep htStepI
    rw [srtZ_I]
  unfold piecesOf piecesI hang htAll
  rw [e1, e2, leP_eq]
  rw [ms_isB (le := leL) (fun a b => by simp only [leL, decide_eq_true_eq]; exact List.le_total a b) (fun a b c h1 h2 => by simp only [leL, decide_eq_true_eq] at *; exact List.le_trans h1 h2) (fun a b h1 h2 => by simp only [leL, decide_eq_true_eq] at *; exact List.le_antisymm h1 h2)]
def doorB (Ls : List Ln) (cs : List Str) : Bool := cs.all nameB && ascB cs && cs.all (fun z => decide (z ∈ Ls.flatMap (·.cs)))
theorem doorB_ok {Ls : List Ln} {cs : List Str} (h : doorB Ls cs = true) : RoleIs Ls (.txs cs) cs := by
  unfold doorB at h
  simp only [Bool.and_eq_true, List.all_eq_true, decide_eq_true_eq] at h
  exact .inr ⟨rfl, ⟨h.1.1, h.1.2⟩, fun z m => mem_colsOf.mpr (h.2 z m)⟩
def tabsB (Ls : List Ln) (ts : List Str) : Bool := ts.all nameB && ascB ts && ts.all fun z => decide (z ∈ tabsOf Ls)
theorem tabsB_ok {Ls : List Ln} {ts : List Str} (h : tabsB Ls ts = true) : Cols ts ∧ ∀ z ∈ ts, z ∈ tabsOf Ls := by
  unfold tabsB at h
  simp only [Bool.and_eq_true, List.all_eq_true, decide_eq_true_eq] at h
  exact ⟨⟨h.1.1, h.1.2⟩, h.2⟩
section
variable {C : Addr} {ρ : List (Option Ob)} {K : PySem.W.Frag} {te ta : TE} {t tk : TA} {Ls : List Ln} {cs ts : List Str} {L : List (List Str)} {E : XK} {o : Ob}
theorem rd_pcD (ok : LnsOk Ls) (ro : RoleIs Ls o cs) (tb : tabsB Ls (tabsOf Ls) = true) (e : piecesI Ls o cs (tabsOf Ls) = L) (a : RDs C ρ t [.scn Ls, o]) : RD C ρ (tCall (spP C gPcs) [.non] E t) (.tup (L.map .txs)) :=
  rd_callD a ⟨Ls, o, .non, cs, tabsOf Ls, rfl, ok, ro, .inl ⟨rfl, rfl⟩, (tabsB_ok tb).1, (tabsB_ok tb).2, by rw [pieces_I, e]⟩
theorem rd_pcN (ok : LnsOk Ls) (ro : RoleIs Ls o cs) (tb : tabsB Ls ts = true) (ne : ts ≠ []) (hin : ∀ t, o = .str t → t ∈ ts) (e : piecesI Ls o cs ts = L) (a : RDs C ρ t [.scn Ls, o]) (b : RDs C ρ tk [.txs ts]) : RD C ρ (tCallN 2 1 (spP C gPcs) (fun vs zs => vs ++ zs) E t tk) (.tup (L.map .txs)) :=
  rd_callN a b rfl rfl ⟨Ls, o, .txs ts, cs, ts, rfl, ok, ro, .inr ⟨rfl, ne, hin⟩, (tabsB_ok tb).1, (tabsB_ok tb).2, by rw [pieces_I, e]⟩
end
def lineL : List Ln := [⟨"a", ["x"], .chg⟩, ⟨"b", ["y"], .chg⟩, ⟨"c", [], .fix⟩, ⟨"k", ["x", "y"], .key ["x"]⟩]
theorem line_ok : LnsOk lineL := lnsB_ok (by decide +kernel)
theorem line_ord : ordL lineL = lineL := by rw [ordL_I line_ok.nd]; kernel_rfl
theorem line_a : RoleIs lineL (.str "a") ["x"] := .inl ⟨⟨"a", ["x"], .chg⟩, .head _, rfl, rfl, rfl⟩
theorem line_b : RoleIs lineL (.str "b") ["y"] := .inl ⟨⟨"b", ["y"], .chg⟩, .tail _ (.head _), rfl, rfl, rfl⟩
abbrev s_law : Stmt := topS 63
abbrev N_law : List Str := ["script", "spot", "dice", "turn", "lines", "made", "told"]
theorem sc_law : FnScope N_law ["script"] (defScope s_law) := ⟨rfl, rfl, rfl, by decide +kernel, rfl, by decide +kernel, by decide +kernel⟩
def spLaw (K : PySem.W.Frag) : Sp := fun vs H Q _ => ∃ (a : Addr) (ns : List Int), vs = [.ref a] ∧ SqL K H a (ns.map V.int) ∧ ∀ H', Q (.bl true) H'
abbrev All : Addr → Prop := fun _ => True
section
variable {P : Program} {w : World} {K : PySem.W.Frag} {mg : Str → Option Value} {base : Heap}
theorem ok_law {f C : Addr} {fd : FuncData} (F : Fun K "law" "law" s_law f fd) (T : NamesR mg) (hrange : mg "range" = none) (W : Ways P w K mg base C) (O : OfM P w K mg base C)
    (C_dice : Callee P w K mg base CX0 1 "_law_dice" ["script", "spot"] (spDice K)) (C_pcs : CalleeD P w K mg base 9 "pieces" ["scene", "role", "tables"] (spP C gPcs) 2 ["tables"] [.non]) (C_lcr : Callee P w K mg base CX0 12 "_law_case_right" ["dice"] spLcr) : K1.FnOkG P w K mg base 14 f fd ["script"] (spLaw K) := by
  have nd := sc_law.nd
  refine K1.fn_ofG F sc_law (fun vs H Q E h => ?_) (fun cdv A outer s H vs Q hr quiet h => ?_)
  · obtain ⟨a, ns, rfl, _⟩ := h
    rfl
  · obtain ⟨a, ns, rfl, hs, k⟩ := h
    have hu64 : (A.deeper (envOfC "law" (defScope s_law) s.heap.objs.size f cdv)).units + 64 < cLine := by have := hr.un; omega
    refine ⟨_, (pss_cons
    (ps_for PassesOwn.never rfl (pi_range1 (by rfl) hrange (pa_cons (pe_callB (call_max2 rfl) (by rfl) T.max (by decide +kernel) (pa_cons pe_int (pa_cons (pe_callB (call_min2 rfl) (by rfl) T.min (by decide +kernel) (pa_cons pe_int (pa_cons (pe_callB call_len_seq (by rfl) T.len (by decide +kernel) (pa_cons (pv 0) pa_nil)) pa_nil))) pa_nil))) pa_nil)) (pg_name (i := 1) nd rfl (Or.inl rfl)) (pss_cons
      (ps_set (i := 2) nd rfl (Or.inl rfl) (pe_use C_dice (hr.mono (by decide)) rfl pass0 (pa_cons (pv 0) (pa_cons (pv 1) pa_nil))))
      (pss_one
      (ps_for PassesOwn.never rfl (pi_range1 (by rfl) hrange (pa_cons pe_int pa_nil)) (pg_name (i := 3) nd rfl (Or.inl rfl)) (pss_one
        (ps_if (pt_not (pt_val (pe_use C_lcr (hr.mono (by decide)) rfl pass0 (pa_cons (pv 2) pa_nil)))) (pss_one
          (ps_ret pe_bl)) pss_nil))))))
    (pss_cons
    (ps_set (i := 4) nd rfl (Or.inl rfl) (pe_tup (pa_cons (pe_tup (pa_cons pe_str (pa_cons (pe_tup (pa_cons pe_str pa_nil)) (pa_cons pe_str pa_nil)))) (pa_cons (pe_tup (pa_cons pe_str (pa_cons (pe_tup (pa_cons pe_str pa_nil)) (pa_cons pe_str pa_nil)))) (pa_cons (pe_tup (pa_cons pe_str (pa_cons (pe_tup pa_nil) (pa_cons pe_non pa_nil)))) (pa_cons (pe_tup (pa_cons pe_str (pa_cons (pe_tup (pa_cons pe_str (pa_cons pe_str pa_nil))) (pa_cons (pe_tup (pa_cons pe_str pa_nil)) pa_nil)))) pa_nil))))))
    (pss_cons
    (ps_set (i := 5) nd rfl (Or.inl rfl) (pe_of O W.cl.mgC (by rfl) (hr.mono (by decide)) (pa_cons (pv 4) pa_nil)))
    (pss_cons
    (ps_set (i := 6) nd rfl (Or.inl rfl) (pe_lst (pa_cons (pe_useD C_pcs (hr.mono (by decide)) rfl pass0 (pa_cons (pv 5) (pa_cons pe_str pa_nil))) (pa_cons (pe_useD C_pcs (hr.mono (by decide)) rfl pass0 (pa_cons (pv 5) (pa_cons pe_str pa_nil))) (pa_cons (pe_useN C_pcs (hr.mono (by decide)) rfl pass0 (pa_cons (pv 5) (pa_cons (pe_tup (pa_cons pe_str pa_nil)) pa_nil)) (pk_cons (pe_tup (pa_cons pe_str (pa_cons pe_str pa_nil))) pk_nil)) pa_nil)))))
    (pss_cons
    (ps_if (pt_cmpR (op_neD hu64) (pv 6) (pe_lst (pa_cons (pe_tup (pa_cons (pe_tup (pa_cons pe_str pa_nil)) (pa_cons (pe_tup (pa_cons pe_str pa_nil)) (pa_cons (pe_tup (pa_cons pe_str pa_nil)) pa_nil)))) (pa_cons (pe_tup (pa_cons (pe_tup (pa_cons pe_str (pa_cons pe_str pa_nil))) (pa_cons (pe_tup (pa_cons pe_str pa_nil)) pa_nil))) (pa_cons (pe_tup (pa_cons (pe_tup (pa_cons pe_str pa_nil)) (pa_cons (pe_tup (pa_cons pe_str pa_nil)) pa_nil))) pa_nil)))) (nomark _)) (pss_one
      (ps_ret pe_bl)) pss_nil)
    (pss_one
    (ps_ret (pe_and (pe_cmpR (op_eqD hu64) (pe_useN C_pcs (hr.mono (by decide)) rfl pass0 (pa_cons (pv 5) (pa_cons pe_str pa_nil)) (pk_cons (pe_tup (pa_cons pe_str pa_nil)) pk_nil)) (pe_tup pa_nil) (nomark _)) (pe_one (pe_cmpR (op_eqD hu64) (pe_useD C_pcs (hr.mono (by decide)) rfl pass0 (pa_cons (pv 5) (pa_cons (pe_tup pa_nil) pa_nil))) (pe_tup (pa_cons (pe_tup (pa_cons pe_str (pa_cons pe_str (pa_cons pe_str pa_nil)))) (pa_cons (pe_tup (pa_cons pe_str pa_nil)) pa_nil))) (nomark _))))))))))), ?_⟩
    refine ⟨_, rfl, a, _, rfl, .inl hs, _, _, rfl, _, _, rfl, ?_⟩
    refine ⟨_, rfl, ?_, ?_, for_range (fun i σ H' => ∃ v1 v2 v3 : Option V, σ = [some (.ref a), v1, v2, v3, none, none, none] ∧ SqL K H' a (ns.map V.int)) ⟨none, none, none, rfl, hs⟩ (fun i σ H1 hi ⟨v1, v2, v3, hσ, hs1⟩ => ?_) (fun σ H1 ⟨v1, v2, v3, hσ, hs1⟩ => ?_)⟩
    · repeat' split
      all_goals omega
    · repeat' split
      all_goals omega
    · subst hσ
      refine ⟨_, rfl, _, rfl, a, ns, i, by rw [Int.zero_add]; rfl, hs1, fun p H2 hp s2 hd2 => ?_⟩
      refine ⟨4, rfl, by decide, by decide, for_range (n := 4) (fun j σ H' => ∃ v3 : Option V, σ = [some (.ref a), some (.int (0 + (i : Int))), some (.ref p), v3, none, none, none] ∧ Same H1 H' ∧ Dice H' p) ⟨v3, rfl, s2, hd2⟩ (fun j σ H3 hj ⟨v4, hσ, b3, hd3⟩ => ?_) (fun σ H3 ⟨v4, hσ, b3, hd3⟩ => ?_)⟩
      · subst hσ
        refine ⟨_, rfl, p, rfl, hd3, fun H4 b4 hd4 => ⟨_, rfl, iteF ?_⟩⟩
        exact ⟨_, rfl, fun b o e => b4 _ _ (ne_of_none e hp) (b3 _ _ e), hd4⟩
      · subst hσ
        exact ⟨_, _, _, rfl, K1.sql_same hs1 b3⟩
    · subst hσ
      clear hs hs1
      have q0 : Sq C All Nil H1 [none, none, none, none, none, none, none] [some (.ref a), v1, v2, v3, none, none, none] H1 := ⟨.refl _ _, ⟨rfl, fun i o e => by
        match i, e with
        | 0, e | 1, e | 2, e | 3, e | 4, e | 5, e | 6, e => cases e
        | i + 7, e => simp at e⟩, fun _ z => z.elim⟩
      dsimp only
      refine seq (st_set (o := .tup (lineL.map lnOb)) q0 (q0.ev (by (repeat' first | exact rd_str _ | exact rd_non | exact rds_nil | refine rds_cons ?_ ?_ | refine rd_tup ?_ (by first | decide | simp)))) fun v4 H4 s4 q4 => ?_)
      dsimp only
      refine seq (st_set (o := .scn lineL) q4 (q4.ev ((rd_of (Ls := lineL) line_ok (rds_one (rd_var (i := 4) rfl))).cast (by rw [line_ord]))) fun v5 H5 s5 q5 => ?_)
      dsimp only
      refine seq (st_set (o := .lst [.tup [.txs ["b"], .txs ["c"], .txs ["k"]], .tup [.txs ["a", "k"], .txs ["c"]], .tup [.txs ["b"], .txs ["c"]]]) q5 (q5.ev (rd_lst (rds_cons (rd_pcD (L := [["b"], ["c"], ["k"]]) line_ok line_a (by decide +kernel) (by decide +kernel) ?_) (rds_cons (rd_pcD (L := [["a", "k"], ["c"]]) line_ok line_b (by decide +kernel) (by decide +kernel) ?_) (rds_one (rd_pcN (o := .txs ["x"]) (ts := ["b", "c"]) (L := [["b"], ["c"]]) line_ok (doorB_ok (by decide +kernel)) (by decide +kernel) (by decide +kernel) (fun t e => by cases e) (by decide +kernel) ?_ ?_)))) (by decide))) fun v6 H6 s6 q6 => ?_)
      iterate 4 exact (by (repeat' first | exact rd_str _ | exact rds_nil | exact rd_var rfl | refine rds_cons ?_ ?_ | refine rd_tup ?_ (by first | decide | simp)))
      dsimp only
      refine seq (st_if (b := false) q6 (q6.evt (rt_test ((rd_neD (K := K) (y := .lst [.tup [.txs ["b"], .txs ["c"], .txs ["k"]], .tup [.txs ["a", "k"], .txs ["c"]], .tup [.txs ["b"], .txs ["c"]]]) (rd_var (i := 6) rfl) (rd_lst ?_ (by decide)) rfl rfl (by decide +kernel) (by decide +kernel)).cast (congrArg Ob.bl (by decide +kernel))))) (fun z => by cases z) (fun z H8 s8 q8 => ?_))
      · repeat' first | exact rd_str _ | exact rds_nil | refine rds_cons ?_ ?_ | refine rd_tup ?_ (by first | decide | simp)
      dsimp only [tNext]
      refine st_ret (o := .bl true) q8 (q8.ev (rd_and (b := true) (c := true) ((rd_eqTT (K := K) (L := []) (M := []) (rd_pcN (o := .str "a") (ts := ["a"]) (L := []) line_ok line_a (by decide +kernel) (by decide +kernel) (fun t e => by cases e; exact .head _) (by decide +kernel) ?_ ?_) (rd_tup rds_nil (by decide)) (by simp) (by simp)).cast rfl) fun _ => (rd_eqTT (K := K) (L := [["a", "b", "k"], ["c"]]) (M := [["a", "b", "k"], ["c"]]) (rd_pcD (o := .txs []) (L := [["a", "b", "k"], ["c"]]) line_ok (doorB_ok (by decide +kernel)) (by decide +kernel) (by decide +kernel) ?_) ?_ (by decide +kernel) (by decide +kernel)).cast (by rw [decide_eq_true rfl]))) ?_
      iterate 4 exact (by (repeat' first | exact rd_str _ | exact rds_nil | exact rd_var rfl | refine rds_cons ?_ ?_ | refine rd_tup ?_ (by first | decide | simp)))
      intro v H13 kp13 rv _ _
      cases rv
      exact k H13
end
end B30_

/-! ## B30_100 -/
set_option Elab.async false
set_option linter.all false
set_option maxRecDepth 100000
set_option maxHeartbeats 8000000
namespace B30_
open PySem PySem.Spec PyProof.Rows L2
/-! ### what the top has written -/
structure At (K : PySem.W.Frag) (x : Str) (st : Stmt) (f : Addr) : Prop where
  g : PySem.W.nsIn K mainGlobals x = some (some (.ref f))
  fn : ∃ fd, Fun K x x st f fd
  keep : PySem.W.keepIn K (.ref f) = true
theorem at_mk {K : PySem.W.Frag} {x : Str} {st : Stmt} {f : Addr} {od an : Option Addr} {sl : Array (Option Value)} {oc kV dc pm cd ct : Value} (a : PySem.W.nsIn K mainGlobals x = some (some (.ref f)))
    (l : K.lookup f = some ⟨oc, od, .func (PySem.W.fnOf x x (defArgs st) (defBody st) (defScope st) .none kV dc pm an cd ct), sl⟩) (c : PySem.W.codeIn K cd x = true) (k : PySem.W.keepIn K (.ref f) = true) : At K x st f :=
  ⟨a, ⟨_, fun_mk l c k⟩, k⟩
structure AtM (K : PySem.W.Frag) (C : Addr) (m q : Str) (st : Stmt) (f : Addr) : Prop where
  me : Meth K C m f
  fn : ∃ fd, Fun K m q st f fd
theorem atM_mk {K : PySem.W.Frag} {C : Addr} {m q : Str} {st : Stmt} {f : Addr} {od an : Option Addr} {sl : Array (Option Value)} {oc kV dc pm cd ct : Value} (a : PySem.W.findIn K (.ref C) m = some (some (.ref f))) (i : PySem.W.isFn K (.ref f) = true)
    (l : K.lookup f = some ⟨oc, od, .func (PySem.W.fnOf m q (defArgs st) (defBody st) (defScope st) .none kV dc pm an cd ct), sl⟩) (c : PySem.W.codeIn K cd q = true) (k : PySem.W.keepIn K (.ref f) = true) : AtM K C m q st f :=
  ⟨⟨a, i, k⟩, ⟨_, fun_mk l c k⟩⟩
structure AtP (K : PySem.W.Frag) (C : Addr) (m q : Str) (st : Stmt) : Prop where
  ex : ∃ p g fd, PropOf K C m p g ∧ Fun K m q st g fd
theorem atP_mk {K : PySem.W.Frag} {C : Addr} {m q : Str} {st : Stmt} {p f : Addr} {rest : List Value} {od an : Option Addr} {sl : Array (Option Value)} {oc kV dc pm cd ct : Value} (a : PySem.W.findIn K (.ref C) m = some (some (.ref p)))
    (g : PySem.W.specialIn K (.ref p) "__get__" = some (some (.builtin "property.__get__"))) (t : PySem.W.takesIn K (.ref p) = some true) (r : PySem.W.recIn K p "property" = some (.ref f :: rest))
    (l : K.lookup f = some ⟨oc, od, .func (PySem.W.fnOf m q (defArgs st) (defBody st) (defScope st) .none kV dc pm an cd ct), sl⟩) (c : PySem.W.codeIn K cd q = true) (k : PySem.W.keepIn K (.ref f) = true) : AtP K C m q st :=
  ⟨p, f, _, ⟨a, g, t, ⟨rest, r⟩⟩, fun_mk l c k⟩
section
variable {P : Program} {w : World} {K : PySem.W.Frag} {h : Heap} {mg : Str → Option Value} {base : Heap} {x m q : Str} {st : Stmt} {f C : Addr}
theorem callee {CX : CXT} {k : Nat} {ps : List Str} {sp : Sp} (X : K.In h) (G : h.Ns mainGlobals mg) (A : At K x st f) (B : ∀ fd, Fun K x x st f fd → Binds K fd ps []) (O : ∀ fd, Fun K x x st f fd → FnOk P w K mg base CX k f fd ps sp) : Callee P w K mg base CX k x ps sp := by
  obtain ⟨fd, F⟩ := A.fn
  exact ⟨f, fd, PySem.W.mg_of X G A.g, A.keep, O fd F, B fd F⟩
theorem calleeG {k : Nat} {ps : List Str} {sp : Sp} (X : K.In h) (G : h.Ns mainGlobals mg) (A : At K x st f) (B : ∀ fd, Fun K x x st f fd → Binds K fd ps []) (O : ∀ fd, Fun K x x st f fd → K1.FnOkG P w K mg base k f fd ps sp) : K1.CalleeG P w K mg base k x ps sp := by
  obtain ⟨fd, F⟩ := A.fn
  exact ⟨f, fd, PySem.W.mg_of X G A.g, A.keep, O fd F, B fd F⟩
theorem mth {k : Nat} {ps : List Str} {sp : Sp} (A : AtM K C m q st f) (B : ∀ fd, Fun K m q st f fd → Binds K fd ps []) (O : ∀ fd, Fun K m q st f fd → FnOk P w K mg base CX0 k f fd ps sp) : Mth P w K mg base C k m ps sp := by
  obtain ⟨fd, F⟩ := A.fn
  exact ⟨f, fd, A.me, O fd F, B fd F⟩
theorem prp {N : List Str} {g : Str} {p1 p2 p3 : Pos} (A : AtP K C m q st) (cl : Cls K C) (n : NoAttr K C g) (S : FnScope N ["self"] (defScope st)) (hN : N[0]? = some ("self" : Str)) (hb : defBody st = [.Return (some (.Attribute (.Name "self" p1) g p2)) p3])
    (B : ∀ f fd, Fun K m q st f fd → Binds K fd ["self"] []) : Prp P w K mg base C m g := by
  obtain ⟨p, gf, fd, h1, F⟩ := A.ex
  refine ⟨p, gf, fd, h1, ?_, B _ _ F⟩
  obtain ⟨oc, od, kV, doc, pm, an, cdv, ct, osl, rfl, lk, hcd⟩ := F.ex
  exact fn_getter lk hcd S hN hb cl n
end
abbrev sp_tables : Stmt := inClass (topS 17) 2
theorem scp_tables : FnScope ["self"] ["self"] (defScope sp_tables) := ⟨rfl, rfl, rfl, by decide +kernel, rfl, by decide +kernel, by decide +kernel⟩
abbrev sp_changing : Stmt := inClass (topS 17) 3
theorem scp_changing : FnScope ["self"] ["self"] (defScope sp_changing) := ⟨rfl, rfl, rfl, by decide +kernel, rfl, by decide +kernel, by decide +kernel⟩
abbrev sp_fixed : Stmt := inClass (topS 17) 4
theorem scp_fixed : FnScope ["self"] ["self"] (defScope sp_fixed) := ⟨rfl, rfl, rfl, by decide +kernel, rfl, by decide +kernel, by decide +kernel⟩
abbrev sp_columns : Stmt := inClass (topS 17) 5
theorem scp_columns : FnScope ["self"] ["self"] (defScope sp_columns) := ⟨rfl, rfl, rfl, by decide +kernel, rfl, by decide +kernel, by decide +kernel⟩
abbrev sp_lines : Stmt := inClass (topS 17) 6
theorem scp_lines : FnScope ["self"] ["self"] (defScope sp_lines) := ⟨rfl, rfl, rfl, by decide +kernel, rfl, by decide +kernel, by decide +kernel⟩
/-- a def with one keyword-only parameter, None if it is not told -/
structure AtD (K : PySem.W.Frag) (x : Str) (st : Stmt) (kw : Str) (f : Addr) : Prop where
  g : PySem.W.nsIn K mainGlobals x = some (some (.ref f))
  fn : ∃ fd, FunD K x x (defArgs st) (defBody st) (defScope st) [] [(kw, .non)] f fd ∧ Fun K x x st f fd
  keep : PySem.W.keepIn K (.ref f) = true
theorem atD_mk {K : PySem.W.Frag} {x kw : Str} {st : Stmt} {f D : Addr} {od an : Option Addr} {sl : Array (Option Value)} {oc dc pm cd ct : Value} (a : PySem.W.nsIn K mainGlobals x = some (some (.ref f)))
    (l : K.lookup f = some ⟨oc, od, .func (PySem.W.fnOf x x (defArgs st) (defBody st) (defScope st) .none (.ref D) dc pm an cd ct), sl⟩) (c : PySem.W.codeIn K cd x = true) (k : PySem.W.keepIn K (.ref f) = true) (d : PySem.W.nsIn K D kw = some (some .none)) : AtD K x st kw f := by
  refine ⟨a, ⟨_, ⟨⟨oc, od, _, _, dc, pm, an, cd, ct, sl, rfl, l, c, .inl ⟨rfl, rfl⟩, .inr ⟨D, rfl, fun q hq => ?_⟩⟩, k⟩, fun_mk l c k⟩, k⟩
  rcases List.mem_cons.mp hq with rfl | hq
  · exact ⟨_, d, rfl⟩
  cases hq
theorem calleeD {P : Program} {w : World} {K : PySem.W.Frag} {h : Heap} {mg : Str → Option Value} {base : Heap} {x kw : Str} {st : Stmt} {f : Addr} {k n : Nat} {ps : List Str} {sp : Sp} (X : K.In h) (G : h.Ns mainGlobals mg) (A : AtD K x st kw f)
    (B : ∀ fd, FunD K x x (defArgs st) (defBody st) (defScope st) [] [(kw, .non)] f fd → (∃ ds, Vals [.non] ds ∧ Binds K fd ps ds) ∧ ∃ g, KBn K fd ps n [kw] g (fun vs zs => vs ++ zs)) (O : ∀ fd, Fun K x x st f fd → FnOk P w K mg base CX0 k f fd ps sp) : CalleeD P w K mg base k x ps sp n [kw] [.non] := by
  obtain ⟨fd, FD, F⟩ := A.fn
  obtain ⟨⟨ds, hv, hb⟩, g, hk⟩ := B fd FD
  exact ⟨f, fd, ds, g, PySem.W.mg_of X G A.g, A.keep, O fd F, hb, hv, hk⟩
structure Tops (K : PySem.W.Frag) (f_roll f_pick f_mixed f_some f_words f_dice f_name f_cols f_choice f_key f_cl f_chk f_dt f_lt f_do f_kind f_lsc f_ns f_si f_ci f_nsc f_itb f_lsm f_idr f_nt f_nr f_cor f_lco f_ldo f_lch f_lro f_lrc f_lc f_hc f_ht f_inn f_pa f_giv f_lgv f_lgr f_lcr f_pcs : Addr) : Prop where
  roll_ : At K "_law_roll" s_roll f_roll
  pick_ : At K "_law_pick" s_pick f_pick
  mixed_ : At K "_law_mixed" s_mixed f_mixed
  some_ : At K "_law_some" s_some f_some
  words_ : At K "_law_words" s_words f_words
  dice_ : At K "_law_dice" s_dice f_dice
  name_ : At K "is_name" s_is_name f_name
  cols_ : At K "is_columns" s_is_columns f_cols
  choice_ : At K "_is_choice" s_choice f_choice
  key_ : At K "_is_key" s_key f_key
  cl_ : At K "_checked_line" s_cl f_cl
  chk_ : At K "_checked" s_chk f_chk
  dt_ : At K "_dict_told" s_dt f_dt
  lt_ : At K "_lines_told" s_lt f_lt
  do_ : At K "_dicts_of" s_do f_do
  kind_ : At K "_law_kind" s_kind f_kind
  lsc_ : At K "_law_scene" s_lsc f_lsc
  ns_ : At K "_next_step" s_ns f_ns
  si_ : At K "steps_in" s_si f_si
  ci_ : At K "closure_in" s_ci f_ci
  nsc_ : At K "need_scene" s_nsc f_nsc
  itb_ : At K "is_tables" s_itb f_itb
  lsm_ : At K "_law_scene_made" s_lsm f_lsm
  idr_ : At K "is_door" s_idr f_idr
  nt_ : At K "need_tables" s_nt f_nt
  nr_ : At K "need_role" s_nr f_nr
  cor_ : At K "columns_of_role" s_cor f_cor
  lco_ : At K "_law_columns" s_lco f_lco
  ldo_ : At K "_law_door" s_ldo f_ldo
  lch_ : At K "_law_changing" s_lch f_lch
  lro_ : At K "_law_role" s_lro f_lro
  lrc_ : At K "_law_role_columns" s_lrc f_lrc
  lc_ : At K "_law_closure" s_lc f_lc
  hc_ : At K "have_common" s_hc f_hc
  ht_ : At K "hanging_together" s_ht f_ht
  inn_ : At K "_inner_columns" s_inn f_inn
  pa_ : At K "pieces_among" s_pa f_pa
  giv_ : At K "_given" s_giv f_giv
  lgv_ : At K "_law_given" s_lgv f_lgv
  lgr_ : At K "_law_groups" s_lgr f_lgr
  lcr_ : At K "_law_case_right" s_lcr f_lcr
  pcs_ : AtD K "pieces" s_pcs "tables" f_pcs
structure Mets (K : PySem.W.Frag) (C m_con m_need m_cof m_kof m_eq m_len m_it m_str : Addr) : Prop where
  con_ : AtM K C "__contains__" "Scene.__contains__" s_con m_con
  need_ : AtM K C "_need" "Scene._need" s_need m_need
  cof_ : AtM K C "columns_of" "Scene.columns_of" s_cof m_cof
  kof_ : AtM K C "key_of" "Scene.key_of" s_kof m_kof
  eq_ : AtM K C "__eq__" "Scene.__eq__" s_eq m_eq
  len_ : AtM K C "__len__" "Scene.__len__" s_len m_len
  it_ : AtM K C "__iter__" "Scene.__iter__" s_it m_it
  str_ : AtM K C "__str__" "Scene.__str__" s_str m_str
  p_tables : AtP K C "tables" "Scene.tables" sp_tables
  p_changing : AtP K C "changing" "Scene.changing" sp_changing
  p_fixed : AtP K C "fixed" "Scene.fixed" sp_fixed
  p_columns : AtP K C "columns" "Scene.columns" sp_columns
  p_lines : AtP K C "lines" "Scene.lines" sp_lines
structure Blt (K : PySem.W.Frag) : Prop where
  z_int : PySem.W.nsIn K mainGlobals "int" = some none
  z_len : PySem.W.nsIn K mainGlobals "len" = some none
  z_abs : PySem.W.nsIn K mainGlobals "abs" = some none
  z_max : PySem.W.nsIn K mainGlobals "max" = some none
  z_min : PySem.W.nsIn K mainGlobals "min" = some none
  z_list : PySem.W.nsIn K mainGlobals "list" = some none
  z_isinstance : PySem.W.nsIn K mainGlobals "isinstance" = some none
  z_str : PySem.W.nsIn K mainGlobals "str" = some none
  z_tuple : PySem.W.nsIn K mainGlobals "tuple" = some none
  z_bool : PySem.W.nsIn K mainGlobals "bool" = some none
  z_all : PySem.W.nsIn K mainGlobals "all" = some none
  z_zip : PySem.W.nsIn K mainGlobals "zip" = some none
  z_sorted : PySem.W.nsIn K mainGlobals "sorted" = some none
  z_set : PySem.W.nsIn K mainGlobals "set" = some none
  z_dict : PySem.W.nsIn K mainGlobals "dict" = some none
  z_repr : PySem.W.nsIn K mainGlobals "repr" = some none
  z_iter : PySem.W.nsIn K mainGlobals "iter" = some none
  z_enumerate : PySem.W.nsIn K mainGlobals "enumerate" = some none
  z_range : PySem.W.nsIn K mainGlobals "range" = some none
  z_any : PySem.W.nsIn K mainGlobals "any" = some none
  c_letters : ∃ t, PySem.W.nsIn K mainGlobals "MOST_LETTERS" = some (some (.int 8 t))
  c_mtab : ∃ t, PySem.W.nsIn K mainGlobals "MAX_TABLES" = some (some (.int 6 t))
  c_mcol : ∃ t, PySem.W.nsIn K mainGlobals "MAX_COLUMNS" = some (some (.int 6 t))
  c_most : ∃ t, PySem.W.nsIn K mainGlobals "MOST_COLUMNS" = some (some (.int 4 t))
  c_chg : ∃ t, PySem.W.nsIn K mainGlobals "CHANGING" = some (some (.str "changing" t))
structure ScK (K : PySem.W.Frag) (C fi pc fo : Addr) : Prop where
  aC : PySem.W.nsIn K mainGlobals "Scene" = some (some (.ref C))
  pg : PySem.W.plainGet K C Str.empty = true
  hd : PySem.W.hasDictIn K C = true
  po : PySem.W.plainOver K C = true
  sa : PySem.W.findIn K (.ref C) "__setattr__" = some (some (.builtin "object.__setattr__"))
  nl : PySem.W.findIn K (.ref C) "_lines" = some none
  nt : PySem.W.findIn K (.ref C) "_tables" = some none
  nc : PySem.W.findIn K (.ref C) "_columns" = some none
  ng : PySem.W.findIn K (.ref C) "_changing" = some none
  nf : PySem.W.findIn K (.ref C) "_fixed" = some none
  ncb : PySem.W.findIn K (.ref C) "_columns_by_table" = some none
  nkb : PySem.W.findIn K (.ref C) "_key_by_table" = some none
  ga : PySem.W.findIn K (.ref C) "__class__" = some (some (.builtin "object.__class__"))
  gn : PySem.W.specialIn K (.builtin "object.__class__") "__get__" = some (some (.builtin "getset_descriptor.__get__"))
  gt : PySem.W.takesIn K (.builtin "object.__class__") = some true
  gm : PySem.W.mroIn K C (.type "object") = some true
  self : PySem.W.kitOne K (.ref C) (.ref C) = some true
  str : PySem.W.kitOne K (.ref C) (.type "str") = some false
  ne : PySem.W.findIn K (.ref C) "__ne__" = some (some (.builtin "object.__ne__"))
  mks : PySem.W.makesIn K C = true
  ini : PySem.W.findIn K (.ref C) "__init__" = some (some (.ref fi))
  fni : PySem.W.isFn K (.ref fi) = true
  kp : PySem.W.keepIn K (.ref C) = true
  fin : ∃ fd, FunD K "__init__" "Scene.__init__" (defArgs s_ini) (defBody s_ini) (defScope s_ini) [] [("changing", .non), ("fixed", .non), ("keyed", .non)] fi fd ∧ Fun K "__init__" "Scene.__init__" s_ini fi fd
  rd : PySem.W.readsIn K C (.type "type") = true
  gat : PySem.W.specialIn K (.ref C) "__getattribute__" = some (some (.builtin "type.__getattribute__"))
  at_ : PySem.W.findCls K (.ref C) (.type "type") "of" = some (.get (.builtin "classmethod.__get__") (.ref pc) .none (.ref C))
  rc : ∃ rest, PySem.W.recIn K pc "classmethod" = some (.ref fo :: rest)
  fno : PySem.W.fnIn K fo = true
  fof : ∃ fd, Fun K "of" "Scene.of" s_of fo fd
theorem fof_mk {K : PySem.W.Frag} {f : Addr} {od an : Option Addr} {sl : Array (Option Value)} {oc kV dc pm cd ct : Value}
    (l : K.lookup f = some ⟨oc, od, .func (PySem.W.fnOf "of" "Scene.of" (defArgs s_of) (defBody s_of) (defScope s_of) .none kV dc pm an cd ct), sl⟩) (c : PySem.W.codeIn K cd "Scene.of" = true) (k : PySem.W.keepIn K (.ref f) = true) : ∃ fd, Fun K "of" "Scene.of" s_of f fd := ⟨_, fun_mk l c k⟩
theorem fin_mk {K : PySem.W.Frag} {f D : Addr} {od an : Option Addr} {sl : Array (Option Value)} {oc dc pm cd ct : Value}
    (l : K.lookup f = some ⟨oc, od, .func (PySem.W.fnOf "__init__" "Scene.__init__" (defArgs s_ini) (defBody s_ini) (defScope s_ini) .none (.ref D) dc pm an cd ct), sl⟩) (c : PySem.W.codeIn K cd "Scene.__init__" = true) (k : PySem.W.keepIn K (.ref f) = true)
    (d1 : PySem.W.nsIn K D "changing" = some (some .none)) (d2 : PySem.W.nsIn K D "fixed" = some (some .none)) (d3 : PySem.W.nsIn K D "keyed" = some (some .none)) :
    ∃ fd, FunD K "__init__" "Scene.__init__" (defArgs s_ini) (defBody s_ini) (defScope s_ini) [] [("changing", .non), ("fixed", .non), ("keyed", .non)] f fd ∧ Fun K "__init__" "Scene.__init__" s_ini f fd := by
  refine ⟨_, ⟨⟨oc, od, _, _, dc, pm, an, cd, ct, sl, rfl, l, c, .inl ⟨rfl, rfl⟩, .inr ⟨D, rfl, fun q hq => ?_⟩⟩, k⟩, fun_mk l c k⟩
  rcases List.mem_cons.mp hq with rfl | hq
  · exact ⟨_, d1, rfl⟩
  rcases List.mem_cons.mp hq with rfl | hq
  · exact ⟨_, d2, rfl⟩
  rcases List.mem_cons.mp hq with rfl | hq
  · exact ⟨_, d3, rfl⟩
  cases hq
structure More (K : PySem.W.Frag) (C : Addr) : Prop where
  none_ : True
theorem con_letters {K : PySem.W.Frag} {t : Tok} (a : PySem.W.nsIn K mainGlobals "MOST_LETTERS" = some (some (.int 8 t))) : ∃ t, PySem.W.nsIn K mainGlobals "MOST_LETTERS" = some (some (.int 8 t)) := ⟨t, a⟩
theorem con_mtab {K : PySem.W.Frag} {t : Tok} (a : PySem.W.nsIn K mainGlobals "MAX_TABLES" = some (some (.int 6 t))) : ∃ t, PySem.W.nsIn K mainGlobals "MAX_TABLES" = some (some (.int 6 t)) := ⟨t, a⟩
theorem con_mcol {K : PySem.W.Frag} {t : Tok} (a : PySem.W.nsIn K mainGlobals "MAX_COLUMNS" = some (some (.int 6 t))) : ∃ t, PySem.W.nsIn K mainGlobals "MAX_COLUMNS" = some (some (.int 6 t)) := ⟨t, a⟩
theorem con_most {K : PySem.W.Frag} {t : Tok} (a : PySem.W.nsIn K mainGlobals "MOST_COLUMNS" = some (some (.int 4 t))) : ∃ t, PySem.W.nsIn K mainGlobals "MOST_COLUMNS" = some (some (.int 4 t)) := ⟨t, a⟩
theorem con_chg {K : PySem.W.Frag} {t : Tok} (a : PySem.W.nsIn K mainGlobals "CHANGING" = some (some (.str "changing" t))) : ∃ t, PySem.W.nsIn K mainGlobals "CHANGING" = some (some (.str "changing" t)) := ⟨t, a⟩
theorem rest_mk {K : PySem.W.Frag} {p f : Addr} {rest : List Value} (a : PySem.W.recIn K p "classmethod" = some (.ref f :: rest)) : ∃ rest, PySem.W.recIn K p "classmethod" = some (.ref f :: rest) := ⟨rest, a⟩
theorem kb1 {K : PySem.W.Frag} {f : Addr} {fd : FuncData} (F : FunD K "__init__" "Scene.__init__" (defArgs s_ini) (defBody s_ini) (defScope s_ini) [] [("changing", .non), ("fixed", .non), ("keyed", .non)] f fd) :
    ∃ g, KBn K fd psI 1 ["changing"] g (fun vs zs => vs ++ (zs ++ [.non, .non])) := by
  obtain ⟨mv, h⟩ := F.kbinds0 (ps := psI) 1 ["changing"] [("fixed", .non), ("keyed", .non)] (fun us mv ws => us ++ (ws ++ mv)) (by simp) (by simp) (fun a b c => a.append (c.append b)) (fun D doc pm an cdv ct us mv ws l1 l2 l3 => by
    match us, mv, ws, l1, l2, l3 with
    | [u], [m1, m2], [w], _, _, _ => exact ⟨_, _, _, _, _, _, rfl, rfl, ⟨_, _, _, _, _, _, rfl, rfl, rfl⟩⟩)
  exact ⟨_, h⟩
theorem kb3 {K : PySem.W.Frag} {f : Addr} {fd : FuncData} (F : FunD K "__init__" "Scene.__init__" (defArgs s_ini) (defBody s_ini) (defScope s_ini) [] [("changing", .non), ("fixed", .non), ("keyed", .non)] f fd) :
    ∃ g, KBn K fd psI 1 ["changing", "fixed", "keyed"] g (fun vs zs => vs ++ zs) := by
  obtain ⟨mv, h⟩ := F.kbinds0 (ps := psI) 1 ["changing", "fixed", "keyed"] [] (fun us mv ws => us ++ ws) (by simp) (by simp) (fun a b c => a.append c) (fun D doc pm an cdv ct us mv ws l1 l2 l3 => by
    match us, mv, ws, l1, l2, l3 with
    | [u], [], [w1, w2, w3], _, _, _ => exact rfl)
  exact ⟨_, h⟩
theorem kbr {K : PySem.W.Frag} {f : Addr} {fd : FuncData} (F : FunD K "__init__" "Scene.__init__" (defArgs s_ini) (defBody s_ini) (defScope s_ini) [] [("changing", .non), ("fixed", .non), ("keyed", .non)] f fd) :
    ∃ g, KBn K fd psI 1 ["keyed", "fixed", "changing"] g (fun vs zs => vs ++ zs.reverse) := by
  obtain ⟨mv, h⟩ := F.kbinds0 (ps := psI) 1 ["keyed", "fixed", "changing"] [] (fun us mv ws => us ++ ws.reverse) (by simp) (by simp) (fun a b c => a.append c.reverse) (fun D doc pm an cdv ct us mv ws l1 l2 l3 => by
    match us, mv, ws, l1, l2, l3 with
    | [u], [], [w1, w2, w3], _, _, _ => exact rfl)
  exact ⟨_, h⟩
theorem kb2 {K : PySem.W.Frag} {f : Addr} {fd : FuncData} (F : FunD K "__init__" "Scene.__init__" (defArgs s_ini) (defBody s_ini) (defScope s_ini) [] [("changing", .non), ("fixed", .non), ("keyed", .non)] f fd) :
    ∃ g, KBn K fd psI 1 ["fixed", "keyed"] g (fun vs zs => vs ++ (.non :: zs)) := by
  obtain ⟨mv, h⟩ := F.kbinds0 (ps := psI) 1 ["fixed", "keyed"] [("changing", .non)] (fun us mv ws => us ++ (mv ++ ws)) (by simp) (by simp) (fun a b c => a.append (b.append c)) (fun D doc pm an cdv ct us mv ws l1 l2 l3 => by
    match us, mv, ws, l1, l2, l3 with
    | [u], [m], [w1, w2], _, _, _ => exact ⟨_, _, _, _, _, _, rfl, rfl, rfl⟩)
  exact ⟨_, h⟩
theorem all_mk {P : Program} {w : World} {K : PySem.W.Frag} {h : Heap} {mg : Str → Option Value} {fa f_law C fi pc fo f_roll f_pick f_mixed f_some f_words f_dice f_name f_cols f_choice f_key f_cl f_chk f_dt f_lt f_do f_kind f_lsc f_ns f_si f_ci f_nsc f_itb f_lsm f_idr f_nt f_nr f_cor f_lco f_ldo f_lch f_lro f_lrc f_lc f_hc f_ht f_inn f_pa f_giv f_lgv f_lgr f_lcr f_pcs m_con m_need m_cof m_kof m_eq m_len m_it m_str : Addr} (X : K.In h) (G : h.Ns mainGlobals mg) (hfa : mg "law" = some (.ref fa))
    (L : At K "law" s_law f_law) (U : Tops K f_roll f_pick f_mixed f_some f_words f_dice f_name f_cols f_choice f_key f_cl f_chk f_dt f_lt f_do f_kind f_lsc f_ns f_si f_ci f_nsc f_itb f_lsm f_idr f_nt f_nr f_cor f_lco f_ldo f_lch f_lro f_lrc f_lc f_hc f_ht f_inn f_pa f_giv f_lgv f_lgr f_lcr f_pcs) (S : ScK K C fi pc fo) (MT : Mets K C m_con m_need m_cof m_kof m_eq m_len m_it m_str) (Z : Blt K) (Y : More K C) :
    ∃ fd : FuncData, (∀ (s : Shared) (v : Value), BindsTo s fd ⟨[v], []⟩ [("script", v)]) ∧ ∀ base : Heap, K.In base → base.Ns mainGlobals mg → K1.FnOkG P w K mg base 14 fa fd ["script"] (spLaw K) := by
  have e := hfa.symm.trans (PySem.W.mg_of X G L.g)
  cases e
  obtain ⟨fdL, FL⟩ := L.fn
  have T : NamesR mg :=
    { int := PySem.W.mg_none_of X G Z.z_int, len := PySem.W.mg_none_of X G Z.z_len, abs := PySem.W.mg_none_of X G Z.z_abs, max := PySem.W.mg_none_of X G Z.z_max, min := PySem.W.mg_none_of X G Z.z_min, list := PySem.W.mg_none_of X G Z.z_list, isinstance := PySem.W.mg_none_of X G Z.z_isinstance, str := PySem.W.mg_none_of X G Z.z_str, tuple := PySem.W.mg_none_of X G Z.z_tuple, bool := PySem.W.mg_none_of X G Z.z_bool, all := PySem.W.mg_none_of X G Z.z_all, zip := PySem.W.mg_none_of X G Z.z_zip, sorted := PySem.W.mg_none_of X G Z.z_sorted, set := PySem.W.mg_none_of X G Z.z_set, dict := PySem.W.mg_none_of X G Z.z_dict, repr := PySem.W.mg_none_of X G Z.z_repr, iter := PySem.W.mg_none_of X G Z.z_iter, enum := PySem.W.mg_none_of X G Z.z_enumerate, letters := (by obtain ⟨t, q⟩ := Z.c_letters; exact ⟨t, PySem.W.mg_of X G q⟩), mtab := (by obtain ⟨t, q⟩ := Z.c_mtab; exact ⟨t, PySem.W.mg_of X G q⟩), mcol := (by obtain ⟨t, q⟩ := Z.c_mcol; exact ⟨t, PySem.W.mg_of X G q⟩), most := (by obtain ⟨t, q⟩ := Z.c_most; exact ⟨t, PySem.W.mg_of X G q⟩), chg := (by obtain ⟨t, q⟩ := Z.c_chg; exact ⟨t, PySem.W.mg_of X G q⟩) }
  have bindL := FL.binds (ps := ["script"]) fun _ _ _ _ _ _ us hl => match us, hl with | [_], _ => rfl
  have cl : Cls K C := ⟨S.pg, S.hd, S.po, S.sa⟩
  have TC : ClsS K mg C := ⟨cl, S.nl, S.nt, S.nc, S.ng, S.nf, S.ncb, S.nkb, PySem.W.mg_of X G S.aC⟩
  have IC : ClsI K C := ⟨cl, S.ga, S.gn, S.gt, S.gm, S.self, S.str⟩
  obtain ⟨fdO, FO⟩ := S.fof
  obtain ⟨fdI, FDI, FI⟩ := S.fin
  refine ⟨fdL, fun s v => ?_, fun base K0 G0 => ?_⟩
  · obtain ⟨oc, od, kV, doc, pm, an, cdv, ct, osl, rfl, lk, hcd⟩ := FL.ex
    exact .of_eq rfl
  · have Croll : Callee P w K mg base CX0 1 "_law_roll" ["dice", "upto"] spRoll := callee X G U.roll_ (fun fd F => F.binds (ps := ["dice", "upto"]) fun _ _ _ _ _ _ us hl => match us, hl with | [_, _], _ => rfl) fun fd F => ok_roll F T.toNamesS.toNames2.toNames
    have Cpick : Callee P w K mg base CX0 2 "_law_pick" ["dice", "items"] spPick := callee X G U.pick_ (fun fd F => F.binds (ps := ["dice", "items"]) fun _ _ _ _ _ _ us hl => match us, hl with | [_, _], _ => rfl) fun fd F => ok_pick F T.toNamesS.toNames2.toNames Croll
    have Cmixed : Callee P w K mg base CX0 2 "_law_mixed" ["dice", "items"] spMixed := callee X G U.mixed_ (fun fd F => F.binds (ps := ["dice", "items"]) fun _ _ _ _ _ _ us hl => match us, hl with | [_, _], _ => rfl) fun fd F => ok_mixed F T.toNamesS.toNames2.toNames Croll
    have Csome : Callee P w K mg base CX0 3 "_law_some" ["dice", "items", "least", "most"] spSome := callee X G U.some_ (fun fd F => F.binds (ps := ["dice", "items", "least", "most"]) fun _ _ _ _ _ _ us hl => match us, hl with | [_, _, _, _], _ => rfl) fun fd F => ok_some F T.toNamesS.toNames2.toNames Croll Cmixed
    have Cwords : Callee P w K mg base CX0 3 "_law_words" ["dice", "upto"] spWords := callee X G U.words_ (fun fd F => F.binds (ps := ["dice", "upto"]) fun _ _ _ _ _ _ us hl => match us, hl with | [_, _], _ => rfl) fun fd F => ok_words F T.toNamesS.toNames2.toNames Cmixed
    have Cdice : Callee P w K mg base CX0 1 "_law_dice" ["script", "spot"] (spDice K) := callee X G U.dice_ (fun fd F => F.binds (ps := ["script", "spot"]) fun _ _ _ _ _ _ us hl => match us, hl with | [_, _], _ => rfl) fun fd F => ok_dice F T.toNamesS.toNames2.toNames
    have Cname : Callee P w K mg base CX0 1 "is_name" ["value"] (spName K) := callee X G U.name_ (fun fd F => F.binds (ps := ["value"]) fun _ _ _ _ _ _ us hl => match us, hl with | [_], _ => rfl) fun fd F => ok_name F T.toNamesS.toNames2
    have Ccols : Callee P w K mg base CX0 2 "is_columns" ["value"] (spCols K) := callee X G U.cols_ (fun fd F => F.binds (ps := ["value"]) fun _ _ _ _ _ _ us hl => match us, hl with | [_], _ => rfl) fun fd F => ok_cols F T.toNamesS.toNames2 Cname
    have Cchoice : Callee P w K mg base CX0 3 "_is_choice" ["value"] (spChoice K) := callee X G U.choice_ (fun fd F => F.binds (ps := ["value"]) fun _ _ _ _ _ _ us hl => match us, hl with | [_], _ => rfl) fun fd F => ok_choice F T.toNamesS.toNames2 T.sorted Cname Ccols
    have Ckey : Callee P w K mg base CX0 4 "_is_key" ["value", "columns"] (spKey K) := callee X G U.key_ (fun fd F => F.binds (ps := ["value", "columns"]) fun _ _ _ _ _ _ us hl => match us, hl with | [_, _], _ => rfl) fun fd F => ok_key F T.toNamesS.toNames2 Cchoice
    have Ccl : Callee P w K mg base CX0 5 "_checked_line" ["line"] spCL := callee X G U.cl_ (fun fd F => F.binds (ps := ["line"]) fun _ _ _ _ _ _ us hl => match us, hl with | [_], _ => rfl) fun fd F => ok_cl F T.toNamesS Cname Cchoice Ckey
    have Cchk : Callee P w K mg base CX0 6 "_checked" ["lines"] spChk := callee X G U.chk_ (fun fd F => F.binds (ps := ["lines"]) fun _ _ _ _ _ _ us hl => match us, hl with | [_], _ => rfl) fun fd F => ok_chk F T.toNamesS Ccl
    have Cdt : Callee P w K mg base CX0 2 "_dict_told" ["value"] spDT := callee X G U.dt_ (fun fd F => F.binds (ps := ["value"]) fun _ _ _ _ _ _ us hl => match us, hl with | [_], _ => rfl) fun fd F => ok_dt F T.toNamesS Cname
    have Clt : Callee P w K mg base CX0 7 "_lines_told" ["changing", "fixed", "keyed"] spLT := callee X G U.lt_ (fun fd F => F.binds (ps := ["changing", "fixed", "keyed"]) fun _ _ _ _ _ _ us hl => match us, hl with | [_, _, _], _ => rfl) fun fd F => ok_lt F T.toNamesS Cdt Cchk
    have Cdo : Callee P w K mg base CX0 7 "_dicts_of" ["lines"] spDO := callee X G U.do_ (fun fd F => F.binds (ps := ["lines"]) fun _ _ _ _ _ _ us hl => match us, hl with | [_], _ => rfl) fun fd F => ok_do F T.toNamesS Cchk
    have MS : MakeS P w K mg base C := ⟨fi, fdI, ⟨S.mks, S.ini, S.fni, S.kp⟩, ok_ini FI T.toNamesS TC Clt, kb3 FDI, kb1 FDI, kbr FDI, kb2 FDI⟩
    have OF : OfM P w K mg base C := ⟨.type "type", pc, fo, fdO, ⟨S.rd, S.gat⟩, ⟨S.at_, S.rc, S.fno⟩, ok_of FO T.toNamesS Cdo MS, FO.binds (ps := ["cls", "lines"]) fun _ _ _ _ _ _ us hl => match us, hl with | [_, _], _ => rfl⟩
    have Mcon : Mth P w K mg base C 1 "__contains__" ["self", "value"] (spCon K C) := mth MT.con_ (fun fd F => F.binds (ps := ["self", "value"]) fun _ _ _ _ _ _ us hl => match us, hl with | [_, _], _ => rfl) fun fd F => ok_con F T.toNamesS T.str TC
    have Mneed : Mth P w K mg base C 2 "_need" ["self", "table"] (spNeed C) := mth MT.need_ (fun fd F => F.binds (ps := ["self", "table"]) fun _ _ _ _ _ _ us hl => match us, hl with | [_, _], _ => rfl) fun fd F => ok_need F Mcon
    have Mcof : Mth P w K mg base C 3 "columns_of" ["self", "table"] (spCof C) := mth MT.cof_ (fun fd F => F.binds (ps := ["self", "table"]) fun _ _ _ _ _ _ us hl => match us, hl with | [_, _], _ => rfl) fun fd F => ok_cof F TC Mneed
    have Mkof : Mth P w K mg base C 3 "key_of" ["self", "table"] (spKof C) := mth MT.kof_ (fun fd F => F.binds (ps := ["self", "table"]) fun _ _ _ _ _ _ us hl => match us, hl with | [_, _], _ => rfl) fun fd F => ok_kof F TC Mneed
    have Meq : Mth P w K mg base C 1 "__eq__" ["self", "other"] (spEq K C) := mth MT.eq_ (fun fd F => F.binds (ps := ["self", "other"]) fun _ _ _ _ _ _ us hl => match us, hl with | [_, _], _ => rfl) fun fd F => ok_eq F T.toNamesS TC IC S.kp
    have Mlen : Mth P w K mg base C 1 "__len__" ["self"] (spLen C) := mth MT.len_ (fun fd F => F.binds (ps := ["self"]) fun _ _ _ _ _ _ us hl => match us, hl with | [_], _ => rfl) fun fd F => ok_len F T.toNamesS TC
    have Mit : Mth P w K mg base C 1 "__iter__" ["self"] (spIt C) := mth MT.it_ (fun fd F => F.binds (ps := ["self"]) fun _ _ _ _ _ _ us hl => match us, hl with | [_], _ => rfl) fun fd F => ok_it F T.iter TC
    have Mstr : Mth P w K mg base C 1 "__str__" ["self"] (spStr C) := mth MT.str_ (fun fd F => F.binds (ps := ["self"]) fun _ _ _ _ _ _ us hl => match us, hl with | [_], _ => rfl) fun fd F => ok_str F T.toNamesS TC
    have Ptables : Prp P w K mg base C "tables" "_tables" := prp MT.p_tables cl S.nt scp_tables rfl rfl fun f fd F => F.binds (ps := ["self"]) fun _ _ _ _ _ _ us hl => match us, hl with | [_], _ => rfl
    have Pchanging : Prp P w K mg base C "changing" "_changing" := prp MT.p_changing cl S.ng scp_changing rfl rfl fun f fd F => F.binds (ps := ["self"]) fun _ _ _ _ _ _ us hl => match us, hl with | [_], _ => rfl
    have Pfixed : Prp P w K mg base C "fixed" "_fixed" := prp MT.p_fixed cl S.nf scp_fixed rfl rfl fun f fd F => F.binds (ps := ["self"]) fun _ _ _ _ _ _ us hl => match us, hl with | [_], _ => rfl
    have Pcolumns : Prp P w K mg base C "columns" "_columns" := prp MT.p_columns cl S.nc scp_columns rfl rfl fun f fd F => F.binds (ps := ["self"]) fun _ _ _ _ _ _ us hl => match us, hl with | [_], _ => rfl
    have Plines : Prp P w K mg base C "lines" "_lines" := prp MT.p_lines cl S.nl scp_lines rfl rfl fun f fd F => F.binds (ps := ["self"]) fun _ _ _ _ _ _ us hl => match us, hl with | [_], _ => rfl
    have WY : Ways P w K mg base C := ⟨TC, IC, ⟨S.ne, S.gm⟩, Mcon, Mlen, Mit, Meq, Mstr, Mcof, Mkof, Ptables, Pchanging, Pfixed, Pcolumns, Plines⟩
    have Ckind : Callee P w K mg base CX0 4 "_law_kind" ["dice", "columns", "still"] spKind := callee X G U.kind_ (fun fd F => F.binds (ps := ["dice", "columns", "still"]) fun _ _ _ _ _ _ us hl => match us, hl with | [_, _, _], _ => rfl) fun fd F => ok_kind F T.toNamesS Croll Csome
    have Clsc : Callee P w K mg base CX0 5 "_law_scene" ["dice", "most_tables", "most_columns", "still"] spLsc := callee X G U.lsc_ (fun fd F => F.binds (ps := ["dice", "most_tables", "most_columns", "still"]) fun _ _ _ _ _ _ us hl => match us, hl with | [_, _, _, _], _ => rfl) fun fd F => ok_lsc F T.toNamesS T.enum Croll Cmixed Csome Cwords Ckind
    have Cns : Callee P w K mg base CX0 4 "_next_step" ["scene", "have", "tables", "used"] (spP C gNs) := callee X G U.ns_ (fun fd F => F.binds (ps := ["scene", "have", "tables", "used"]) fun _ _ _ _ _ _ us hl => match us, hl with | [_, _, _, _], _ => rfl) fun fd F => ok_ns F T.toNamesS WY
    have Csi : Callee P w K mg base CX0 5 "steps_in" ["scene", "columns", "tables"] (spP C gSi) := callee X G U.si_ (fun fd F => F.binds (ps := ["scene", "columns", "tables"]) fun _ _ _ _ _ _ us hl => match us, hl with | [_, _, _], _ => rfl) fun fd F => ok_si F T.toNamesS WY Cns
    have Cci : Callee P w K mg base CX0 6 "closure_in" ["scene", "columns", "tables"] (spP C gCi) := callee X G U.ci_ (fun fd F => F.binds (ps := ["scene", "columns", "tables"]) fun _ _ _ _ _ _ us hl => match us, hl with | [_, _, _], _ => rfl) fun fd F => ok_ci F T.toNamesS WY Csi
    have Cnsc : Callee P w K mg base CX0 1 "need_scene" ["value"] (spP C gNsc) := callee X G U.nsc_ (fun fd F => F.binds (ps := ["value"]) fun _ _ _ _ _ _ us hl => match us, hl with | [_], _ => rfl) fun fd F => ok_nsc F T.toNamesS TC IC
    have Citb : Callee P w K mg base CX0 3 "is_tables" ["scene", "value"] (spP C gItb) := callee X G U.itb_ (fun fd F => F.binds (ps := ["scene", "value"]) fun _ _ _ _ _ _ us hl => match us, hl with | [_, _], _ => rfl) fun fd F => ok_itb F T.toNamesS WY Ccols
    have Clsm : Callee P w K mg base CX0 11 "_law_scene_made" ["scene"] (spP C gLsm) := callee X G U.lsm_ (fun fd F => F.binds (ps := ["scene"]) fun _ _ _ _ _ _ us hl => match us, hl with | [_], _ => rfl) fun fd F => ok_lsm F T.toNamesS WY OF
    have Cidr : Callee P w K mg base CX0 3 "is_door" ["scene", "value"] (spP C gIdo) := callee X G U.idr_ (fun fd F => F.binds (ps := ["scene", "value"]) fun _ _ _ _ _ _ us hl => match us, hl with | [_, _], _ => rfl) fun fd F => ok_ido F T.toNamesS WY Ccols
    have Cnt : Callee P w K mg base CX0 4 "need_tables" ["scene", "value"] (spP C gNt) := callee X G U.nt_ (fun fd F => F.binds (ps := ["scene", "value"]) fun _ _ _ _ _ _ us hl => match us, hl with | [_, _], _ => rfl) fun fd F => ok_nt F Citb
    have Cnr : Callee P w K mg base CX0 4 "need_role" ["scene", "value"] (spP C gNr) := callee X G U.nr_ (fun fd F => F.binds (ps := ["scene", "value"]) fun _ _ _ _ _ _ us hl => match us, hl with | [_, _], _ => rfl) fun fd F => ok_nr F WY Cidr
    have Ccor : Callee P w K mg base CX0 4 "columns_of_role" ["scene", "role"] (spP C gCor) := callee X G U.cor_ (fun fd F => F.binds (ps := ["scene", "role"]) fun _ _ _ _ _ _ us hl => match us, hl with | [_, _], _ => rfl) fun fd F => ok_cor F T.toNamesS T.str WY
    have Clco : Callee P w K mg base CX0 1 "_law_columns" ["scene"] spLco := callee X G U.lco_ (fun fd F => F.binds (ps := ["scene"]) fun _ _ _ _ _ _ us hl => match us, hl with | [_], _ => rfl) fun fd F => ok_lco F T.toNamesS
    have Cldo : Callee P w K mg base CX0 4 "_law_door" ["dice", "scene"] (spDi C preDo gDo) := callee X G U.ldo_ (fun fd F => F.binds (ps := ["dice", "scene"]) fun _ _ _ _ _ _ us hl => match us, hl with | [_, _], _ => rfl) fun fd F => ok_ldo F T.toNamesS Csome Clco
    have Clch : Callee P w K mg base CX0 1 "_law_changing" ["scene"] (spP C gLch) := callee X G U.lch_ (fun fd F => F.binds (ps := ["scene"]) fun _ _ _ _ _ _ us hl => match us, hl with | [_], _ => rfl) fun fd F => ok_lch F T.toNamesS
    have Clro : Callee P w K mg base CX0 5 "_law_role" ["dice", "scene"] (spDi C preDo gRo) := callee X G U.lro_ (fun fd F => F.binds (ps := ["dice", "scene"]) fun _ _ _ _ _ _ us hl => match us, hl with | [_, _], _ => rfl) fun fd F => ok_lro F Croll Cpick Clch Cldo
    have Clrc : Callee P w K mg base CX0 1 "_law_role_columns" ["scene", "role"] (spP C gLrc) := callee X G U.lrc_ (fun fd F => F.binds (ps := ["scene", "role"]) fun _ _ _ _ _ _ us hl => match us, hl with | [_, _], _ => rfl) fun fd F => ok_lrc F T.toNamesS T.str
    have Clc : Callee P w K mg base CX0 1 "_law_closure" ["scene", "columns", "names"] (spP C gLc) := callee X G U.lc_ (fun fd F => F.binds (ps := ["scene", "columns", "names"]) fun _ _ _ _ _ _ us hl => match us, hl with | [_, _, _], _ => rfl) fun fd F => ok_lc F T.toNamesS (PySem.W.mg_none_of X G Z.z_range)
    have Chc : Callee P w K mg base CX0 1 "have_common" ["columns", "others"] (spP C gHc) := callee X G U.hc_ (fun fd F => F.binds (ps := ["columns", "others"]) fun _ _ _ _ _ _ us hl => match us, hl with | [_, _], _ => rfl) fun fd F => ok_hc F T.toNamesS (PySem.W.mg_none_of X G Z.z_any)
    have Cht : Callee P w K mg base CX0 2 "hanging_together" ["columns_of_each"] (spP C gHt) := callee X G U.ht_ (fun fd F => F.binds (ps := ["columns_of_each"]) fun _ _ _ _ _ _ us hl => match us, hl with | [_], _ => rfl) fun fd F => ok_ht F T.toNamesS (PySem.W.mg_none_of X G Z.z_enumerate) Chc
    have Cinn : Callee P w K mg base CX0 7 "_inner_columns" ["scene", "role", "given"] (spP C gInn) := callee X G U.inn_ (fun fd F => F.binds (ps := ["scene", "role", "given"]) fun _ _ _ _ _ _ us hl => match us, hl with | [_, _, _], _ => rfl) fun fd F => ok_inn F T.toNamesS Cci Ccor
    have Cpa : Callee P w K mg base CX0 8 "pieces_among" ["scene", "role", "given"] (spP C gPa) := callee X G U.pa_ (fun fd F => F.binds (ps := ["scene", "role", "given"]) fun _ _ _ _ _ _ us hl => match us, hl with | [_, _, _], _ => rfl) fun fd F => ok_pa F T.toNamesS WY Cinn Cht
    have Cgiv : Callee P w K mg base CX0 5 "_given" ["scene", "role", "tables"] (spP C gGiv) := callee X G U.giv_ (fun fd F => F.binds (ps := ["scene", "role", "tables"]) fun _ _ _ _ _ _ us hl => match us, hl with | [_, _, _], _ => rfl) fun fd F => ok_giv F T.toNamesS T.str WY Cnt
    have Cpcs : CalleeD P w K mg base 9 "pieces" ["scene", "role", "tables"] (spP C gPcs) 2 ["tables"] [.non] := calleeD X G U.pcs_ (fun fd FD => ⟨(FD.binds0 (ps := ["scene", "role", "tables"]) 2 (by simp) (by simp) fun D doc pm an cdv ct us ks l1 l2 => by
      match us, ks, l1, l2 with
      | [_, _], [_], _, _ => exact ⟨_, _, _, _, _, _, rfl, rfl, rfl⟩), by
      obtain ⟨mv, h⟩ := FD.kbinds0 (ps := ["scene", "role", "tables"]) 2 ["tables"] [] (fun us mv ws => us ++ ws) (by simp) (by simp) (fun a b c => a.append c) (fun D doc pm an cdv ct us mv ws l1 l2 l3 => by
        match us, mv, ws, l1, l2, l3 with
        | [_, _], [], [_], _, _, _ => exact rfl)
      exact ⟨_, h⟩⟩) fun fd F => ok_pcs F T.toNamesS Cnsc Cnr Cpa Cgiv
    have Clgv : Callee P w K mg base CX0 4 "_law_given" ["dice", "scene", "role"] (spDi C preGv gGv) := callee X G U.lgv_ (fun fd F => F.binds (ps := ["dice", "scene", "role"]) fun _ _ _ _ _ _ us hl => match us, hl with | [_, _, _], _ => rfl) fun fd F => ok_lgv F T.toNamesS T.str Csome
    have Clgr : Callee P w K mg base CX0 2 "_law_groups" ["scene", "role", "given"] (spP C gLgr) := callee X G U.lgr_ (fun fd F => F.binds (ps := ["scene", "role", "given"]) fun _ _ _ _ _ _ us hl => match us, hl with | [_, _, _], _ => rfl) fun fd F => ok_lgr F T.toNamesS (PySem.W.mg_none_of X G Z.z_enumerate) (PySem.W.mg_none_of X G Z.z_range) Clc Clrc
    have Clcr : Callee P w K mg base CX0 12 "_law_case_right" ["dice"] spLcr := callee X G U.lcr_ (fun fd F => F.binds (ps := ["dice"]) fun _ _ _ _ _ _ us hl => match us, hl with | [_], _ => rfl) fun fd F => ok_lcr F T.toNamesS WY Clsc Clro Clsm Clgv Clgr Cpcs
    exact ok_law FL T (PySem.W.mg_none_of X G Z.z_range) WY OF Cdice Cpcs Clcr
end B30_

/-! ## B30_101 -/
set_option Elab.async false
open PySem PySem.W PyProof.Rows
set_option maxRecDepth 100000 in
set_option maxHeartbeats 0 in
theorem PySem.Challenge.cw_fewtouched_k30_pieces_holds : PySem.Challenge.rw_fewtouched_k30_pieces.Holds := by
  w_on; o_law; k_head; (case hw => w_witness2)
  k_fill
  refine K1.walkB (l := PySem.Challenge.rw_fewtouched_k30_pieces) (k := 14) (sp := fun K => B30_.spLaw K) rfl rfl ⟨rfl, by decide, by decide⟩ (fun w h Y => PySem.W.kIn_of Y) (fun K H a ns hS => ⟨a, ns, rfl, hS, fun _ => rfl⟩) ?parts
  case parts =>
    intro w mg fa h KX G hmg
    refine' B30_.all_mk KX G hmg (B30_.at_mk ?a_law ?l_law ?c_law ?k_law) ⟨(B30_.at_mk ?a_roll ?l_roll ?c_roll ?k_roll), (B30_.at_mk ?a_pick ?l_pick ?c_pick ?k_pick), (B30_.at_mk ?a_mixed ?l_mixed ?c_mixed ?k_mixed), (B30_.at_mk ?a_some ?l_some ?c_some ?k_some), (B30_.at_mk ?a_words ?l_words ?c_words ?k_words), (B30_.at_mk ?a_dice ?l_dice ?c_dice ?k_dice), (B30_.at_mk ?a_name ?l_name ?c_name ?k_name), (B30_.at_mk ?a_cols ?l_cols ?c_cols ?k_cols), (B30_.at_mk ?a_choice ?l_choice ?c_choice ?k_choice), (B30_.at_mk ?a_key ?l_key ?c_key ?k_key), (B30_.at_mk ?a_cl ?l_cl ?c_cl ?k_cl), (B30_.at_mk ?a_chk ?l_chk ?c_chk ?k_chk), (B30_.at_mk ?a_dt ?l_dt ?c_dt ?k_dt), (B30_.at_mk ?a_lt ?l_lt ?c_lt ?k_lt), (B30_.at_mk ?a_do ?l_do ?c_do ?k_do), (B30_.at_mk ?a_kind ?l_kind ?c_kind ?k_kind), (B30_.at_mk ?a_lsc ?l_lsc ?c_lsc ?k_lsc), (B30_.at_mk ?a_ns ?l_ns ?c_ns ?k_ns), (B30_.at_mk ?a_si ?l_si ?c_si ?k_si), (B30_.at_mk ?a_ci ?l_ci ?c_ci ?k_ci), (B30_.at_mk ?a_nsc ?l_nsc ?c_nsc ?k_nsc), (B30_.at_mk ?a_itb ?l_itb ?c_itb ?k_itb), (B30_.at_mk ?a_lsm ?l_lsm ?c_lsm ?k_lsm), (B30_.at_mk ?a_idr ?l_idr ?c_idr ?k_idr), (B30_.at_mk ?a_nt ?l_nt ?c_nt ?k_nt), (B30_.at_mk ?a_nr ?l_nr ?c_nr ?k_nr), (B30_.at_mk ?a_cor ?l_cor ?c_cor ?k_cor), (B30_.at_mk ?a_lco ?l_lco ?c_lco ?k_lco), (B30_.at_mk ?a_ldo ?l_ldo ?c_ldo ?k_ldo), (B30_.at_mk ?a_lch ?l_lch ?c_lch ?k_lch), (B30_.at_mk ?a_lro ?l_lro ?c_lro ?k_lro), (B30_.at_mk ?a_lrc ?l_lrc ?c_lrc ?k_lrc), (B30_.at_mk ?a_lc ?l_lc ?c_lc ?k_lc), (B30_.at_mk ?a_hc ?l_hc ?c_hc ?k_hc), (B30_.at_mk ?a_ht ?l_ht ?c_ht ?k_ht), (B30_.at_mk ?a_inn ?l_inn ?c_inn ?k_inn), (B30_.at_mk ?a_pa ?l_pa ?c_pa ?k_pa), (B30_.at_mk ?a_giv ?l_giv ?c_giv ?k_giv), (B30_.at_mk ?a_lgv ?l_lgv ?c_lgv ?k_lgv), (B30_.at_mk ?a_lgr ?l_lgr ?c_lgr ?k_lgr), (B30_.at_mk ?a_lcr ?l_lcr ?c_lcr ?k_lcr), (B30_.atD_mk ?a_pcs ?l_pcs ?c_pcs ?k_pcs ?d_pcs)⟩ ⟨?s_aC, ?s_pg, ?s_hd, ?s_po, ?s_sa, ?s_nl, ?s_nt, ?s_nc, ?s_ng, ?s_nf, ?s_ncb, ?s_nkb, ?s_ga, ?s_gn, ?s_gt, ?s_gm, ?s_self, ?s_str, ?s_ne, ?s_mks, ?s_ini, ?s_fni, ?s_kp, B30_.fin_mk ?s_fl ?s_fc ?s_fk ?s_d1 ?s_d2 ?s_d3, ?s_rd, ?s_gat, ?s_at, B30_.rest_mk ?s_rc, ?s_fno, B30_.fof_mk ?s_ol ?s_oc ?s_ok⟩ ⟨(B30_.atM_mk ?ma_con ?mi_con ?ml_con ?mc_con ?mk_con), (B30_.atM_mk ?ma_need ?mi_need ?ml_need ?mc_need ?mk_need), (B30_.atM_mk ?ma_cof ?mi_cof ?ml_cof ?mc_cof ?mk_cof), (B30_.atM_mk ?ma_kof ?mi_kof ?ml_kof ?mc_kof ?mk_kof), (B30_.atM_mk ?ma_eq ?mi_eq ?ml_eq ?mc_eq ?mk_eq), (B30_.atM_mk ?ma_len ?mi_len ?ml_len ?mc_len ?mk_len), (B30_.atM_mk ?ma_it ?mi_it ?ml_it ?mc_it ?mk_it), (B30_.atM_mk ?ma_str ?mi_str ?ml_str ?mc_str ?mk_str), (B30_.atP_mk ?pa_tables ?pg_tables ?pt_tables ?pr_tables ?pl_tables ?pc_tables ?pk_tables), (B30_.atP_mk ?pa_changing ?pg_changing ?pt_changing ?pr_changing ?pl_changing ?pc_changing ?pk_changing), (B30_.atP_mk ?pa_fixed ?pg_fixed ?pt_fixed ?pr_fixed ?pl_fixed ?pc_fixed ?pk_fixed), (B30_.atP_mk ?pa_columns ?pg_columns ?pt_columns ?pr_columns ?pl_columns ?pc_columns ?pk_columns), (B30_.atP_mk ?pa_lines ?pg_lines ?pt_lines ?pr_lines ?pl_lines ?pc_lines ?pk_lines)⟩ ⟨?z_int, ?z_len, ?z_abs, ?z_max, ?z_min, ?z_list, ?z_isinstance, ?z_str, ?z_tuple, ?z_bool, ?z_all, ?z_zip, ?z_sorted, ?z_set, ?z_dict, ?z_repr, ?z_iter, ?z_enumerate, ?z_range, ?z_any, B30_.con_letters ?c_letters, B30_.con_mtab ?c_mtab, B30_.con_mcol ?c_mcol, B30_.con_most ?c_most, B30_.con_chg ?c_chg⟩ ⟨trivial⟩
    (case a_law => k_is)
    (case l_law => k_is)
    (case c_law => k_is)
    (case k_law => k_is)
    (case a_roll => k_is)
    (case l_roll => k_is)
    (case c_roll => k_is)
    (case k_roll => k_is)
    (case a_pick => k_is)
    (case l_pick => k_is)
    (case c_pick => k_is)
    (case k_pick => k_is)
    (case a_mixed => k_is)
    (case l_mixed => k_is)
    (case c_mixed => k_is)
    (case k_mixed => k_is)
    (case a_some => k_is)
    (case l_some => k_is)
    (case c_some => k_is)
    (case k_some => k_is)
    (case a_words => k_is)
    (case l_words => k_is)
    (case c_words => k_is)
    (case k_words => k_is)
    (case a_dice => k_is)
    (case l_dice => k_is)
    (case c_dice => k_is)
    (case k_dice => k_is)
    (case a_name => k_is)
    (case l_name => k_is)
    (case c_name => k_is)
    (case k_name => k_is)
    (case a_cols => k_is)
    (case l_cols => k_is)
    (case c_cols => k_is)
    (case k_cols => k_is)
    (case a_choice => k_is)
    (case l_choice => k_is)
    (case c_choice => k_is)
    (case k_choice => k_is)
    (case a_key => k_is)
    (case l_key => k_is)
    (case c_key => k_is)
    (case k_key => k_is)
    (case a_cl => k_is)
    (case l_cl => k_is)
    (case c_cl => k_is)
    (case k_cl => k_is)
    (case a_chk => k_is)
    (case l_chk => k_is)
    (case c_chk => k_is)
    (case k_chk => k_is)
    (case a_dt => k_is)
    (case l_dt => k_is)
    (case c_dt => k_is)
    (case k_dt => k_is)
    (case a_lt => k_is)
    (case l_lt => k_is)
    (case c_lt => k_is)
    (case k_lt => k_is)
    (case a_do => k_is)
    (case l_do => k_is)
    (case c_do => k_is)
    (case k_do => k_is)
    (case a_kind => k_is)
    (case l_kind => k_is)
    (case c_kind => k_is)
    (case k_kind => k_is)
    (case a_lsc => k_is)
    (case l_lsc => k_is)
    (case c_lsc => k_is)
    (case k_lsc => k_is)
    (case a_ns => k_is)
    (case l_ns => k_is)
    (case c_ns => k_is)
    (case k_ns => k_is)
    (case a_si => k_is)
    (case l_si => k_is)
    (case c_si => k_is)
    (case k_si => k_is)
    (case a_ci => k_is)
    (case l_ci => k_is)
    (case c_ci => k_is)
    (case k_ci => k_is)
    (case a_nsc => k_is)
    (case l_nsc => k_is)
    (case c_nsc => k_is)
    (case k_nsc => k_is)
    (case a_itb => k_is)
    (case l_itb => k_is)
    (case c_itb => k_is)
    (case k_itb => k_is)
    (case a_lsm => k_is)
    (case l_lsm => k_is)
    (case c_lsm => k_is)
    (case k_lsm => k_is)
    (case a_idr => k_is)
    (case l_idr => k_is)
    (case c_idr => k_is)
    (case k_idr => k_is)
    (case a_nt => k_is)
    (case l_nt => k_is)
    (case c_nt => k_is)
    (case k_nt => k_is)
    (case a_nr => k_is)
    (case l_nr => k_is)
    (case c_nr => k_is)
    (case k_nr => k_is)
    (case a_cor => k_is)
    (case l_cor => k_is)
    (case c_cor => k_is)
    (case k_cor => k_is)
    (case a_lco => k_is)
    (case l_lco => k_is)
    (case c_lco => k_is)
    (case k_lco => k_is)
    (case a_ldo => k_is)
    (case l_ldo => k_is)
    (case c_ldo => k_is)
    (case k_ldo => k_is)
    (case a_lch => k_is)
    (case l_lch => k_is)
    (case c_lch => k_is)
    (case k_lch => k_is)
    (case a_lro => k_is)
    (case l_lro => k_is)
    (case c_lro => k_is)
    (case k_lro => k_is)
    (case a_lrc => k_is)
    (case l_lrc => k_is)
    (case c_lrc => k_is)
    (case k_lrc => k_is)
    (case a_lc => k_is)
    (case l_lc => k_is)
    (case c_lc => k_is)
    (case k_lc => k_is)
    (case a_hc => k_is)
    (case l_hc => k_is)
    (case c_hc => k_is)
    (case k_hc => k_is)
    (case a_ht => k_is)
    (case l_ht => k_is)
    (case c_ht => k_is)
    (case k_ht => k_is)
    (case a_inn => k_is)
    (case l_inn => k_is)
    (case c_inn => k_is)
    (case k_inn => k_is)
    (case a_pa => k_is)
    (case l_pa => k_is)
    (case c_pa => k_is)
    (case k_pa => k_is)
    (case a_giv => k_is)
    (case l_giv => k_is)
    (case c_giv => k_is)
    (case k_giv => k_is)
    (case a_lgv => k_is)
    (case l_lgv => k_is)
    (case c_lgv => k_is)
    (case k_lgv => k_is)
    (case a_lgr => k_is)
    (case l_lgr => k_is)
    (case c_lgr => k_is)
    (case k_lgr => k_is)
    (case a_lcr => k_is)
    (case l_lcr => k_is)
    (case c_lcr => k_is)
    (case k_lcr => k_is)
    (case a_pcs => k_is)
    (case l_pcs => k_is)
    (case c_pcs => k_is)
    (case k_pcs => k_is)
    (case d_pcs => first | k_is | kernel_rfl | decide +kernel)
    (case s_aC => first | k_is | kernel_rfl | decide +kernel)
    (case s_pg => first | k_is | kernel_rfl | decide +kernel)
    (case s_hd => first | k_is | kernel_rfl | decide +kernel)
    (case s_po => first | k_is | kernel_rfl | decide +kernel)
    (case s_sa => first | k_is | kernel_rfl | decide +kernel)
    (case s_nl => first | k_is | kernel_rfl | decide +kernel)
    (case s_nt => first | k_is | kernel_rfl | decide +kernel)
    (case s_nc => first | k_is | kernel_rfl | decide +kernel)
    (case s_ng => first | k_is | kernel_rfl | decide +kernel)
    (case s_nf => first | k_is | kernel_rfl | decide +kernel)
    (case s_ncb => first | k_is | kernel_rfl | decide +kernel)
    (case s_nkb => first | k_is | kernel_rfl | decide +kernel)
    (case s_ga => first | k_is | kernel_rfl | decide +kernel)
    (case s_gn => first | k_is | kernel_rfl | decide +kernel)
    (case s_gt => first | k_is | kernel_rfl | decide +kernel)
    (case s_gm => first | k_is | kernel_rfl | decide +kernel)
    (case s_self => first | k_is | kernel_rfl | decide +kernel)
    (case s_str => first | k_is | kernel_rfl | decide +kernel)
    (case s_ne => first | k_is | kernel_rfl | decide +kernel)
    (case s_mks => first | k_is | kernel_rfl | decide +kernel)
    (case s_ini => first | k_is | kernel_rfl | decide +kernel)
    (case s_fni => first | k_is | kernel_rfl | decide +kernel)
    (case s_kp => first | k_is | kernel_rfl | decide +kernel)
    (case s_fl => first | k_is | kernel_rfl | decide +kernel)
    (case s_fc => first | k_is | kernel_rfl | decide +kernel)
    (case s_fk => first | k_is | kernel_rfl | decide +kernel)
    (case s_d1 => first | k_is | kernel_rfl | decide +kernel)
    (case s_d2 => first | k_is | kernel_rfl | decide +kernel)
    (case s_d3 => first | k_is | kernel_rfl | decide +kernel)
    (case s_rd => first | k_is | kernel_rfl | decide +kernel)
    (case s_gat => first | k_is | kernel_rfl | decide +kernel)
    (case s_at => first | k_is | kernel_rfl | decide +kernel)
    (case s_rc => first | k_is | kernel_rfl | decide +kernel)
    (case s_fno => first | k_is | kernel_rfl | decide +kernel)
    (case s_ol => first | k_is | kernel_rfl | decide +kernel)
    (case s_oc => first | k_is | kernel_rfl | decide +kernel)
    (case s_ok => first | k_is | kernel_rfl | decide +kernel)
    (case ma_con => k_is)
    (case mi_con => k_is)
    (case ml_con => k_is)
    (case mc_con => k_is)
    (case mk_con => k_is)
    (case ma_need => k_is)
    (case mi_need => k_is)
    (case ml_need => k_is)
    (case mc_need => k_is)
    (case mk_need => k_is)
    (case ma_cof => k_is)
    (case mi_cof => k_is)
    (case ml_cof => k_is)
    (case mc_cof => k_is)
    (case mk_cof => k_is)
    (case ma_kof => k_is)
    (case mi_kof => k_is)
    (case ml_kof => k_is)
    (case mc_kof => k_is)
    (case mk_kof => k_is)
    (case ma_eq => k_is)
    (case mi_eq => k_is)
    (case ml_eq => k_is)
    (case mc_eq => k_is)
    (case mk_eq => k_is)
    (case ma_len => k_is)
    (case mi_len => k_is)
    (case ml_len => k_is)
    (case mc_len => k_is)
    (case mk_len => k_is)
    (case ma_it => k_is)
    (case mi_it => k_is)
    (case ml_it => k_is)
    (case mc_it => k_is)
    (case mk_it => k_is)
    (case ma_str => k_is)
    (case mi_str => k_is)
    (case ml_str => k_is)
    (case mc_str => k_is)
    (case mk_str => k_is)
    (case pa_tables => first | k_is | kernel_rfl)
    (case pg_tables => first | k_is | kernel_rfl)
    (case pt_tables => first | k_is | kernel_rfl)
    (case pr_tables => first | k_is | kernel_rfl)
    (case pl_tables => first | k_is | kernel_rfl)
    (case pc_tables => first | k_is | kernel_rfl)
    (case pk_tables => first | k_is | kernel_rfl)
    (case pa_changing => first | k_is | kernel_rfl)
    (case pg_changing => first | k_is | kernel_rfl)
    (case pt_changing => first | k_is | kernel_rfl)
    (case pr_changing => first | k_is | kernel_rfl)
    (case pl_changing => first | k_is | kernel_rfl)
    (case pc_changing => first | k_is | kernel_rfl)
    (case pk_changing => first | k_is | kernel_rfl)
    (case pa_fixed => first | k_is | kernel_rfl)
    (case pg_fixed => first | k_is | kernel_rfl)
    (case pt_fixed => first | k_is | kernel_rfl)
    (case pr_fixed => first | k_is | kernel_rfl)
    (case pl_fixed => first | k_is | kernel_rfl)
    (case pc_fixed => first | k_is | kernel_rfl)
    (case pk_fixed => first | k_is | kernel_rfl)
    (case pa_columns => first | k_is | kernel_rfl)
    (case pg_columns => first | k_is | kernel_rfl)
    (case pt_columns => first | k_is | kernel_rfl)
    (case pr_columns => first | k_is | kernel_rfl)
    (case pl_columns => first | k_is | kernel_rfl)
    (case pc_columns => first | k_is | kernel_rfl)
    (case pk_columns => first | k_is | kernel_rfl)
    (case pa_lines => first | k_is | kernel_rfl)
    (case pg_lines => first | k_is | kernel_rfl)
    (case pt_lines => first | k_is | kernel_rfl)
    (case pr_lines => first | k_is | kernel_rfl)
    (case pl_lines => first | k_is | kernel_rfl)
    (case pc_lines => first | k_is | kernel_rfl)
    (case pk_lines => first | k_is | kernel_rfl)
    (case z_int => k_is)
    (case z_len => k_is)
    (case z_abs => k_is)
    (case z_max => k_is)
    (case z_min => k_is)
    (case z_list => k_is)
    (case z_isinstance => k_is)
    (case z_str => k_is)
    (case z_tuple => k_is)
    (case z_bool => k_is)
    (case z_all => k_is)
    (case z_zip => k_is)
    (case z_sorted => k_is)
    (case z_set => k_is)
    (case z_dict => k_is)
    (case z_repr => k_is)
    (case z_iter => k_is)
    (case z_enumerate => k_is)
    (case z_range => k_is)
    (case z_any => k_is)
    (case c_letters => first | k_is | rfl | kernel_rfl)
    (case c_mtab => first | k_is | rfl | kernel_rfl)
    (case c_mcol => first | k_is | rfl | kernel_rfl)
    (case c_most => first | k_is | rfl | kernel_rfl)
    (case c_chg => first | k_is | rfl | kernel_rfl)
