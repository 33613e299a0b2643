import Derived.Test.YtgknomjgpkpjdaaME
import Derived.Test.YtgknomjgpkpjdaaTY
import Derived.Test.YtgknomjgpkpjdaaFref02Add
import Derived.Test.YtgknomjgpkpjdaaFref02Sub
import Derived.Test.YtgknomjgpkpjdaaFref02Zero
import Derived.Test.YtgknomjgpkpjdaaFref02reduce
import Derived.Test.YtgknomjgpkpjdaaMG
namespace Go.Ab
open Go Go.Proofs
set_option linter.unusedVariables false
set_option linter.unusedSimpArgs false
set_option maxRecDepth 8000
set_option maxHeartbeats 4000000

noncomputable def B42 : Code := bodyOf Try.f42
theorem B42_eq : Try.f42.body = some B42 := by kernel_rfl
noncomputable def n42_0 : Code := B42
noncomputable def n42_1 : Code := codeAt B42 [0]
noncomputable def n42_2 : Code := codeAt B42 [1]
noncomputable def n42_3 : Code := codeAt B42 [1,0]
noncomputable def n42_4 : Code := codeAt B42 [1,0,0]
noncomputable def n42_5 : Code := codeAt B42 [1,0,1]
noncomputable def n42_6 : Code := codeAt B42 [1,0,1,0]
noncomputable def n42_7 : Code := codeAt B42 [1,0,1,0,0]
noncomputable def n42_8 : Code := codeAt B42 [1,0,1,0,1]
noncomputable def n42_9 : Code := codeAt B42 [1,0,1,1]
noncomputable def n42_10 : Code := codeAt B42 [1,1]
noncomputable def n42_11 : Code := codeAt B42 [1,1,0]
noncomputable def n42_12 : Code := codeAt B42 [1,1,1]
noncomputable def n42_13 : Code := codeAt B42 [1,1,1,0]
noncomputable def n42_14 : Code := codeAt B42 [1,1,1,1]
noncomputable def n42_15 : Code := codeAt B42 [1,1,1,1,0]
noncomputable def n42_16 : Code := codeAt B42 [1,1,1,1,0,0]
noncomputable def n42_17 : Code := codeAt B42 [1,1,1,1,0,1]
noncomputable def n42_18 : Code := codeAt B42 [1,1,1,1,0,1,0]
noncomputable def n42_19 : Code := codeAt B42 [1,1,1,1,0,1,1]
noncomputable def n42_20 : Code := codeAt B42 [1,1,1,1,1]
noncomputable def n42_21 : Code := codeAt B42 [1,1,1,1,1,0]
noncomputable def n42_22 : Code := codeAt B42 [1,1,1,1,1,1]
theorem e42_0 : n42_0 = .seq n42_1 n42_2 := rfl
noncomputable def r42_1 := opsAt n42_1
theorem e42_1 : n42_1 = .region 0 (r42_1).toArray false := rfl
theorem e42_2 : n42_2 = .seq n42_3 n42_10 := rfl
theorem e42_3 : n42_3 = .seq n42_4 n42_5 := rfl
noncomputable def r42_4 := opsAt n42_4
theorem e42_4 : n42_4 = .region 1 (r42_4).toArray false := rfl
theorem e42_5 : n42_5 = .cond (.tmp 10) n42_6 n42_9 := rfl
theorem e42_6 : n42_6 = .seq n42_7 n42_8 := rfl
noncomputable def r42_7 := opsAt n42_7
theorem e42_7 : n42_7 = .region 2 (r42_7).toArray false := rfl
theorem e42_8 : n42_8 = .ret := rfl
theorem e42_9 : n42_9 = .skip := rfl
theorem e42_10 : n42_10 = .seq n42_11 n42_12 := rfl
noncomputable def r42_11 := opsAt n42_11
theorem e42_11 : n42_11 = .region 3 (r42_11).toArray true := rfl
theorem a42_11 : anyOk r42_11 = true := by decide +kernel
theorem e42_12 : n42_12 = .seq n42_13 n42_14 := rfl
noncomputable def r42_13 := opsAt n42_13
theorem e42_13 : n42_13 = .region 4 (r42_13).toArray false := rfl
theorem e42_14 : n42_14 = .seq n42_15 n42_20 := rfl
theorem e42_15 : n42_15 = .seq n42_16 n42_17 := rfl
noncomputable def r42_16 := opsAt n42_16
theorem e42_16 : n42_16 = .region 5 (r42_16).toArray false := rfl
theorem e42_17 : n42_17 = .cond (.tmp 24) n42_18 n42_19 := rfl
noncomputable def r42_18 := opsAt n42_18
theorem e42_18 : n42_18 = .region 6 (r42_18).toArray false := rfl
theorem e42_19 : n42_19 = .skip := rfl
theorem e42_20 : n42_20 = .seq n42_21 n42_22 := rfl
noncomputable def r42_21 := opsAt n42_21
theorem e42_21 : n42_21 = .region 7 (r42_21).toArray false := rfl
theorem e42_22 : n42_22 = .ret := rfl
theorem f_ref02_SubMod : PureOk Try.prog 42 sSubMod := by
  refine pureOk_of (c := n42_0) (Γ := conOf [(26, .pure sAdd), (28, .pure sSub), (60, .pure sZero), (61, .pure sReduce2)]) (conOf_ok (conOf_one (S := .pure sAdd) f_ref02_Add (conOf_one (S := .pure sSub) f_ref02_Sub (conOf_one (S := .pure sZero) f_ref02_Zero (conOf_one (S := .pure sReduce2) f_ref02_reduce (conOf_end)))))) mixed Try.func42 B42_eq (by decide +kernel) Try.call42 ?_
  intro args hS
  unfold sSubMod at hS ⊢
  split at hS
  · refine ⟨by rw [Try.ntmps42]; simp, vC_sound ?_⟩
    rename_i xa xb xm
    obtain ⟨ha, hb, hm⟩ := hS
    obtain ⟨a, la, rfl⟩ := isU_out ha
    obtain ⟨b, lb, rfl⟩ := isU_out hb
    obtain ⟨m, lm, rfl⟩ := isU_out hm
    simp only [uv_u4, Nat.mod_eq_of_lt la, Nat.mod_eq_of_lt lb, Nat.mod_eq_of_lt lm]
    clear ha hb hm
    simp only [entry_cons, entry_nil, Nat.reduceAdd]
    by_cases hm : m = 0
    · repeat' (first
        | (with_reducible first | apply seqC_normal | apply seqC_ret)
        | ((with_reducible apply wC_seq e42_0; apply kC_less [0, 1, 2] (c := n42_1)); (exact rfl); (exact rfl); (with_reducible apply wC_region e42_1); refine vOps_open (l := _ :: _) rfl ?_; refine kOps_box (row := ?_) (n := ?_) rfl rfl rfl rfl rfl ?_ ?_ ?_ ?_; rotate_left 2; (simp only [↓List.length_append, ↓List.length_set, ↓List.length_cons, List.length_nil, Nat.reduceAdd, Nat.zero_add]; rfl); (simp only [clg0, clg1, clg2, clg3, splice_cl, splice_one, len_cl, Nat.mod_eq_of_lt la, Nat.mod_eq_of_lt lb, hm, if_true, if_false, n_zero_mul, n_zero_add, Nat.reduceMod, decide_true, decide_false, eq_self, Nat.zero_mod, Bool.not_true, Bool.not_false, cells_ul, cells_u4]; rfl); (focus (first | rfl | exact one_cl _ _ | exact one_bv _ | (simp only [one_cl, one_ul, List.all_cons, List.all_nil, Bool.and_self, PV.one]; done) | (simp [PV.one, one_ul, one_cl, one_bv, Value.oneCell']; done))); refine kOps_box (row := ?_) (n := ?_) rfl rfl rfl rfl rfl ?_ ?_ ?_ ?_; rotate_left 2; (simp only [↓List.length_append, ↓List.length_set, ↓List.length_cons, List.length_nil, Nat.reduceAdd, Nat.zero_add]; rfl); (simp only [clg0, clg1, clg2, clg3, splice_cl, splice_one, len_cl, Nat.mod_eq_of_lt la, Nat.mod_eq_of_lt lb, hm, if_true, if_false, n_zero_mul, n_zero_add, Nat.reduceMod, decide_true, decide_false, eq_self, Nat.zero_mod, Bool.not_true, Bool.not_false, cells_ul, cells_u4]; rfl); (focus (first | rfl | exact one_cl _ _ | exact one_bv _ | (simp only [one_cl, one_ul, List.all_cons, List.all_nil, Bool.and_self, PV.one]; done) | (simp [PV.one, one_ul, one_cl, one_bv, Value.oneCell']; done))); refine kOps_box (row := ?_) (n := ?_) rfl rfl rfl rfl rfl ?_ ?_ ?_ ?_; rotate_left 2; (simp only [↓List.length_append, ↓List.length_set, ↓List.length_cons, List.length_nil, Nat.reduceAdd, Nat.zero_add]; rfl); (simp only [clg0, clg1, clg2, clg3, splice_cl, splice_one, len_cl, Nat.mod_eq_of_lt la, Nat.mod_eq_of_lt lb, hm, if_true, if_false, n_zero_mul, n_zero_add, Nat.reduceMod, decide_true, decide_false, eq_self, Nat.zero_mod, Bool.not_true, Bool.not_false, cells_ul, cells_u4]; rfl); (focus (first | rfl | exact one_cl _ _ | exact one_bv _ | (simp only [one_cl, one_ul, List.all_cons, List.all_nil, Bool.and_self, PV.one]; done) | (simp [PV.one, one_ul, one_cl, one_bv, Value.oneCell']; done))); refine kOps_alloc (row := ?_) (n := ?_) rfl rfl rfl rfl ty26 ?_ ?_ ?_ ?_; rotate_left 2; (simp only [↓List.length_append, ↓List.length_set, ↓List.length_cons, List.length_nil, Nat.reduceAdd, Nat.zero_add]; rfl); (simp only [clg0, clg1, clg2, clg3, splice_cl, splice_one, len_cl, Nat.mod_eq_of_lt la, Nat.mod_eq_of_lt lb, hm, if_true, if_false, n_zero_mul, n_zero_add, Nat.reduceMod, decide_true, decide_false, eq_self, Nat.zero_mod, Bool.not_true, Bool.not_false, Value.cells, List.map_cons, List.map_nil, List.toList_toArray, zero_cl4, zero_cl8, lit_ul0]; rfl); (focus (first | (simp only [Value.cells, List.toList_toArray, List.forall_mem_cons, List.forall_mem_nil, Value.oneCell', and_self]; done) | (simp [Value.cells, Value.oneCell']; done))); refine vOps_nil ?_; (with_reducible apply seqC_normal; apply wC_seq e42_2; apply wC_seq e42_3; apply wC_region e42_4); refine vOps_open (l := _ :: _) rfl ?_; (first | refine kOps_loadp (pre := ?_) (val := ?_) rfl rfl rfl rfl rfl ty26 ?_ ?_ ?_ | refine kOps_loadr (pre := ?_) (val := ?_) rfl rfl rfl rfl ty26 ?_ ?_ ?_); rotate_left 2; (simp only [clg0, clg1, clg2, clg3, splice_cl, splice_one, len_cl, Nat.mod_eq_of_lt la, Nat.mod_eq_of_lt lb, hm, if_true, if_false, n_zero_mul, n_zero_add, Nat.reduceMod, decide_true, decide_false, eq_self, Nat.zero_mod, Bool.not_true, Bool.not_false, partF, isAggD, Bool.false_eq_true, reduceIte, take_cl, agg_cl, List.drop_zero, Int.toNat_natCast, Int.reduceToNat, Int.toNat_zero, n_add_zero, Nat.mul_one, Nat.reduceAdd, Nat.reduceMul, getD_bv, take_bytes, List.length_map, List.getD_cons_zero]; rfl); (focus ((repeat' apply And.intro) <;> first | exact True.intro | omega | (with_reducible rfl) | assumption | exact ⟨_, rfl⟩ | (simp only [one_cl, one_ul, cells_u4, cells_ul, len_cl, List.all_cons, List.all_nil, Bool.and_self, List.length_cons, List.length_nil]; done) | (simp only [len_cl]; omega) | (simp [Value.cells, Value.oneCell']; done))); refine kOps_callc (pre := ?_) (val := ?_) rfl rfl rfl rfl rfl ?_ ?_ ?_ ?_ ?_; rotate_left 2; (simp only [clg0, clg1, clg2, clg3, splice_cl, splice_one, len_cl, Nat.mod_eq_of_lt la, Nat.mod_eq_of_lt lb, hm, if_true, if_false, n_zero_mul, n_zero_add, Nat.reduceMod, decide_true, decide_false, eq_self, Nat.zero_mod, Bool.not_true, Bool.not_false, sAdd, sSub, sZero, sReduce2, nrmC, List.map_cons, List.map_nil, nrm_ul, nrm_u4, nrm_nil, nrm_int, nrm_bool, nrm_string, nrm_ro, nrm_agg, nrm_rptr, isul_ul, ulv_ul, isU_u4, uv_u4, bytesOf_bv, isB_bv, true_and, and_true, and_self, n_add_zero, n_sub_zero]; rfl); (focus (first | rfl | (simp only [closed, closedL, closed_ul, closed_u4, closedL_bv, closedL_cl, Bool.and_self, Bool.and_true]; done))); (focus (first | rfl | (simp only [closed, closedL, closed_ul, closed_u4, closedL_bv, closedL_cl, Bool.and_self, Bool.and_true]; done))); (focus ((repeat' apply And.intro) <;> first | exact True.intro | omega | (with_reducible rfl) | assumption | exact ⟨_, rfl⟩ | (simp only [one_cl, one_ul, cells_u4, cells_ul, len_cl, List.all_cons, List.all_nil, Bool.and_self, List.length_cons, List.length_nil]; done) | (simp only [len_cl]; omega) | (simp [Value.cells, Value.oneCell']; done))); refine vOps_nil ?_; (with_reducible apply seqC_normal; apply kC_cond e42_5); (exact rfl); all_goals (intro hb; first | (cases hb; done) | cases hb | ((try simp only [decide_eq_true_eq, decide_eq_false_iff_not, Bool.not_eq_true', Bool.not_eq_false'] at hb); try (exfalso; first | omega | exact hb trivial))))
        | ((with_reducible apply wC_seq e42_6; apply wC_region e42_7); refine vOps_open (l := _ :: _) rfl ?_; (first | refine kOps_loadp (pre := ?_) (val := ?_) rfl rfl rfl rfl rfl ty26 ?_ ?_ ?_ | refine kOps_loadr (pre := ?_) (val := ?_) rfl rfl rfl rfl ty26 ?_ ?_ ?_); rotate_left 2; (simp only [clg0, clg1, clg2, clg3, splice_cl, splice_one, len_cl, Nat.mod_eq_of_lt la, Nat.mod_eq_of_lt lb, hm, if_true, if_false, n_zero_mul, n_zero_add, Nat.reduceMod, decide_true, decide_false, eq_self, Nat.zero_mod, Bool.not_true, Bool.not_false, partF, isAggD, Bool.false_eq_true, reduceIte, take_cl, agg_cl, List.drop_zero, Int.toNat_natCast, Int.reduceToNat, Int.toNat_zero, n_add_zero, Nat.mul_one, Nat.reduceAdd, Nat.reduceMul, getD_bv, take_bytes, List.length_map, List.getD_cons_zero]; rfl); (focus ((repeat' apply And.intro) <;> first | exact True.intro | omega | (with_reducible rfl) | assumption | exact ⟨_, rfl⟩ | (simp only [one_cl, one_ul, cells_u4, cells_ul, len_cl, List.all_cons, List.all_nil, Bool.and_self, List.length_cons, List.length_nil]; done) | (simp only [len_cl]; omega) | (simp [Value.cells, Value.oneCell']; done))); refine kOps_store (cs' := ?_) rfl rfl rfl rfl rfl rfl rfl ty26 ?_ ?_ ?_; rotate_left 1; (simp only [clg0, clg1, clg2, clg3, splice_cl, splice_one, len_cl, Nat.mod_eq_of_lt la, Nat.mod_eq_of_lt lb, hm, if_true, if_false, n_zero_mul, n_zero_add, Nat.reduceMod, decide_true, decide_false, eq_self, Nat.zero_mod, Bool.not_true, Bool.not_false, cells_ul, cells_u4, isAggD, Bool.false_eq_true, reduceIte, take_cl, agg_cl, List.drop_zero, Int.toNat_natCast, Int.reduceToNat, Int.toNat_zero, n_add_zero, Nat.mul_one, Nat.reduceAdd, Nat.reduceMul, getD_bv, take_bytes, List.length_map, List.getD_cons_zero]; rfl); (focus (first | (simp only [cells_ul, cells_u4, List.length_cons, List.length_nil, len_cl, List.length_set, List.length_map, Nat.reduceAdd, Nat.zero_add, List.all_cons, List.all_nil, one_ul, one_cl, one_bv, PV.one, Value.oneCell', Bool.and_self, Nat.reduceLeDiff, Nat.le_refl, and_self, true_and, and_true]; done) | ((try simp only [cells_ul, cells_u4]); (focus ((repeat' apply And.intro) <;> first | exact True.intro | omega | (with_reducible rfl) | assumption | exact ⟨_, rfl⟩ | (simp only [one_cl, one_ul, cells_u4, cells_ul, len_cl, List.all_cons, List.all_nil, Bool.and_self, List.length_cons, List.length_nil]; done) | (simp only [len_cl]; omega) | (simp [Value.cells, Value.oneCell']; done)))))); refine vOps_nil ?_; (with_reducible apply seqC_normal; apply wC_ret e42_8))
        | ((with_reducible apply wC_skip e42_9)))
      all_goals (
        refine fin_c (p := ?_) (xs := [.cell 6 26]) (by simp) rfl ?_ ?_ ?_ ?_
        rotate_left 2
        · simp only [resAll_cons, resAll_nil, resPVl_0, resPVl_1, resPVl_2, resOne_tmp, resOne_cell, List.map_cons, List.map_nil, clg0, clg1, clg2, clg3, splice_cl, splice_one, len_cl, Nat.mod_eq_of_lt la, Nat.mod_eq_of_lt lb, hm, if_true, if_false, n_zero_mul, n_zero_add, Nat.reduceMod, decide_true, decide_false, eq_self, Nat.zero_mod, Bool.not_true, Bool.not_false, evalIn_tmp, evalIn_const, evalIn_func, lookup_cons, Nat.reduceBEq, cond_true, cond_false, lit_ul0, lit_ul1, loadF, partF, List.getElem?_cons_zero, List.getElem?_cons_succ, List.set_cons_zero, List.set_cons_succ, List.cons_append, List.nil_append, true_and, and_true, and_self, Nat.le_refl, Nat.reduceLeDiff, isAggD, Bool.false_eq_true, reduceIte, take_cl, agg_cl, List.drop_zero, Int.toNat_natCast, Int.reduceToNat, Int.toNat_zero, n_add_zero, Nat.mul_one, Nat.zero_add, Nat.reduceAdd, Nat.reduceMul, getD_bv, take_bytes, List.length_map, List.getD_cons_zero, ty22, ty26]; try rfl
        · first | rfl | (simp only [closed, closedL, closed_u4, closed_ul, closedL_cl, closedL_bv, Bool.and_self, Bool.and_true]; done) | (simp only [closed, closedL, closed_u4, closed_ul, closedL_cl, closedL_bv, Bool.and_self, Bool.and_true]; rfl)
        · rw [rem0_zero hm]
        · simp only [resAll_cons, resAll_nil, resPVl_0, resPVl_1, resPVl_2, resOne_tmp, resOne_cell, List.map_cons, List.map_nil, clg0, clg1, clg2, clg3, splice_cl, splice_one, len_cl, Nat.mod_eq_of_lt la, Nat.mod_eq_of_lt lb, hm, if_true, if_false, n_zero_mul, n_zero_add, Nat.reduceMod, decide_true, decide_false, eq_self, Nat.zero_mod, Bool.not_true, Bool.not_false, evalIn_tmp, evalIn_const, evalIn_func, lookup_cons, Nat.reduceBEq, cond_true, cond_false, lit_ul0, lit_ul1, loadF, partF, List.getElem?_cons_zero, List.getElem?_cons_succ, List.set_cons_zero, List.set_cons_succ, List.cons_append, List.nil_append, true_and, and_true, and_self, Nat.le_refl, Nat.reduceLeDiff, isAggD, Bool.false_eq_true, reduceIte, take_cl, agg_cl, List.drop_zero, Int.toNat_natCast, Int.reduceToNat, Int.toNat_zero, n_add_zero, Nat.mul_one, Nat.zero_add, Nat.reduceAdd, Nat.reduceMul, getD_bv, take_bytes, List.length_map, List.getD_cons_zero, ty22, ty26]; try trivial)
    · have h1 := Nat.mod_lt a (show 0 < m by omega)
      have h2 := Nat.mod_lt b (show 0 < m by omega)
      have la2 : a % m < 115792089237316195423570985008687907853269984665640564039457584007913129639936 := by omega
      have lb2 : b % m < 115792089237316195423570985008687907853269984665640564039457584007913129639936 := by omega
      repeat' (first
        | (with_reducible first | apply seqC_normal | apply seqC_ret)
        | ((with_reducible apply wC_seq e42_0; apply kC_less [0, 1, 2] (c := n42_1)); (exact rfl); (exact rfl); (with_reducible apply wC_region e42_1); refine vOps_open (l := _ :: _) rfl ?_)
        | ((with_reducible apply wC_seq e42_2; apply wC_seq e42_3; apply wC_region e42_4); refine vOps_open (l := _ :: _) rfl ?_)
        | ((with_reducible apply kC_cond e42_5); (exact rfl); all_goals (intro hb; first | (cases hb; done) | cases hb | ((try simp only [decide_eq_true_eq, decide_eq_false_iff_not, Bool.not_eq_true', Bool.not_eq_false'] at hb); try (exfalso; first | omega | exact hb trivial))))
        | ((with_reducible apply wC_seq e42_6; apply wC_region e42_7); refine vOps_open (l := _ :: _) rfl ?_)
        | ((with_reducible apply wC_ret e42_8))
        | ((with_reducible apply wC_skip e42_9))
        | ((with_reducible apply wC_seq e42_10; apply kC_less [3, 4, 5, 6] (c := n42_11)); (exact rfl); (exact rfl); (with_reducible apply wC_any e42_11 a42_11); refine vOps_open (l := _ :: _) rfl ?_)
        | ((with_reducible apply wC_seq e42_12; apply kC_less [3, 4, 5, 6] (c := n42_13)); (exact rfl); (exact rfl); (with_reducible apply wC_region e42_13); refine vOps_open (l := _ :: _) rfl ?_)
        | ((with_reducible apply wC_seq e42_14; apply wC_seq e42_15; apply wC_region e42_16); refine vOps_open (l := _ :: _) rfl ?_)
        | ((with_reducible apply kC_cond e42_17); (exact rfl); all_goals (intro hb; first | (cases hb; done) | cases hb | ((try simp only [decide_eq_true_eq, decide_eq_false_iff_not, Bool.not_eq_true', Bool.not_eq_false'] at hb); try (exfalso; first | omega | exact hb trivial))))
        | ((with_reducible apply kC_less [5, 6, 7] (c := n42_18)); (exact rfl); (exact rfl); (with_reducible apply wC_region e42_18); refine vOps_open (l := _ :: _) rfl ?_)
        | ((with_reducible apply wC_skip e42_19))
        | ((with_reducible apply wC_seq e42_20; apply wC_region e42_21); refine vOps_open (l := _ :: _) rfl ?_)
        | ((with_reducible apply wC_ret e42_22))
        | ((with_reducible apply vOps_nil); try (with_reducible refine And.intro (by kernel_rfl) ?_))
        | (refine kOps_gon (g := ?_) (p := ?_) rfl rfl ?_ ?_ ?_ ?_; rotate_left 2; fail; (exact rfl); (with_reducible rfl))
        | (refine kOps_gofft (g := ?_) (p := ?_) rfl rfl ?_ ?_ ?_ ?_; rotate_left 2; fail; (exact rfl); (with_reducible rfl))
        | (refine kOps_gofff (g := ?_) (p := ?_) rfl rfl ?_ ?_ ?_ ?_; rotate_left 2; fail; (exact rfl); (with_reducible rfl))
        | (refine kOps_pickt rfl rfl rfl rfl ?_ rfl ?_; (with_reducible rfl))
        | (refine kOps_pickf rfl rfl rfl rfl ?_ rfl ?_; (with_reducible rfl))
        | (refine kOps_box (row := ?_) (n := ?_) rfl rfl rfl rfl rfl ?_ ?_ ?_ ?_; rotate_left 2; (simp only [↓List.length_append, ↓List.length_set, ↓List.length_cons, List.length_nil, Nat.reduceAdd, Nat.zero_add]; rfl); (simp only [clg0, clg1, clg2, clg3, splice_cl, splice_one, len_cl, Nat.mod_eq_of_lt la, Nat.mod_eq_of_lt lb, Nat.mod_eq_of_lt lm, Nat.mod_eq_of_lt la2, Nat.mod_eq_of_lt lb2, cmp_ge, ne_eq, hm, not_false_eq_true, if_true, if_false, n_zero_mul, n_zero_add, Nat.reduceMod, decide_true, decide_false, eq_self, Nat.zero_mod, Bool.not_true, Bool.not_false, cells_ul, cells_u4]; rfl); (focus (first | rfl | exact one_cl _ _ | exact one_bv _ | (simp only [one_cl, one_ul, List.all_cons, List.all_nil, Bool.and_self, PV.one]; done) | (simp [PV.one, one_ul, one_cl, one_bv, Value.oneCell']; done))))
        | (refine kOps_alloc (row := ?_) (n := ?_) rfl rfl rfl rfl ty26 ?_ ?_ ?_ ?_; rotate_left 2; (simp only [↓List.length_append, ↓List.length_set, ↓List.length_cons, List.length_nil, Nat.reduceAdd, Nat.zero_add]; rfl); (simp only [clg0, clg1, clg2, clg3, splice_cl, splice_one, len_cl, Nat.mod_eq_of_lt la, Nat.mod_eq_of_lt lb, Nat.mod_eq_of_lt lm, Nat.mod_eq_of_lt la2, Nat.mod_eq_of_lt lb2, cmp_ge, ne_eq, hm, not_false_eq_true, if_true, if_false, n_zero_mul, n_zero_add, Nat.reduceMod, decide_true, decide_false, eq_self, Nat.zero_mod, Bool.not_true, Bool.not_false, Value.cells, List.map_cons, List.map_nil, List.toList_toArray, zero_cl4, zero_cl8, lit_ul0]; rfl); (focus (first | (simp only [Value.cells, List.toList_toArray, List.forall_mem_cons, List.forall_mem_nil, Value.oneCell', and_self]; done) | (simp [Value.cells, Value.oneCell']; done))))
        | ((first | refine kOps_loadp (pre := ?_) (val := ?_) rfl rfl rfl rfl rfl ty26 ?_ ?_ ?_ | refine kOps_loadr (pre := ?_) (val := ?_) rfl rfl rfl rfl ty26 ?_ ?_ ?_); rotate_left 2; (simp only [clg0, clg1, clg2, clg3, splice_cl, splice_one, len_cl, Nat.mod_eq_of_lt la, Nat.mod_eq_of_lt lb, Nat.mod_eq_of_lt lm, Nat.mod_eq_of_lt la2, Nat.mod_eq_of_lt lb2, cmp_ge, ne_eq, hm, not_false_eq_true, if_true, if_false, n_zero_mul, n_zero_add, Nat.reduceMod, decide_true, decide_false, eq_self, Nat.zero_mod, Bool.not_true, Bool.not_false, partF, isAggD, Bool.false_eq_true, reduceIte, take_cl, agg_cl, List.drop_zero, Int.toNat_natCast, Int.reduceToNat, Int.toNat_zero, n_add_zero, Nat.mul_one, Nat.reduceAdd, Nat.reduceMul, getD_bv, take_bytes, List.length_map, List.getD_cons_zero]; rfl); (focus ((repeat' apply And.intro) <;> first | exact True.intro | omega | (with_reducible rfl) | assumption | exact ⟨_, rfl⟩ | (simp only [one_cl, one_ul, cells_u4, cells_ul, len_cl, List.all_cons, List.all_nil, Bool.and_self, List.length_cons, List.length_nil]; done) | (simp only [len_cl]; omega) | (simp [Value.cells, Value.oneCell']; done))))
        | (refine kOps_callc (pre := ?_) (val := ?_) rfl rfl rfl rfl rfl ?_ ?_ ?_ ?_ ?_; rotate_left 2; (simp only [clg0, clg1, clg2, clg3, splice_cl, splice_one, len_cl, Nat.mod_eq_of_lt la, Nat.mod_eq_of_lt lb, Nat.mod_eq_of_lt lm, Nat.mod_eq_of_lt la2, Nat.mod_eq_of_lt lb2, cmp_ge, ne_eq, hm, not_false_eq_true, if_true, if_false, n_zero_mul, n_zero_add, Nat.reduceMod, decide_true, decide_false, eq_self, Nat.zero_mod, Bool.not_true, Bool.not_false, sAdd, sSub, sZero, sReduce2, lit_ul0, lit_ul1, nrmC, List.map_cons, List.map_nil, nrm_ul, nrm_u4, nrm_nil, nrm_int, nrm_bool, nrm_string, nrm_ro, nrm_agg, nrm_rptr, isul_ul, ulv_ul, isU_u4, uv_u4, bytesOf_bv, isB_bv, true_and, and_true, and_self, n_add_zero, n_sub_zero]; rfl); (focus (first | rfl | (simp only [closed, closedL, closed_ul, closed_u4, closedL_bv, closedL_cl, Bool.and_self, Bool.and_true]; done))); (focus (first | rfl | (simp only [closed, closedL, closed_ul, closed_u4, closedL_bv, closedL_cl, Bool.and_self, Bool.and_true]; done))); (focus ((repeat' apply And.intro) <;> first | exact True.intro | omega | (with_reducible rfl) | assumption | exact ⟨_, rfl⟩ | (simp only [one_cl, one_ul, cells_u4, cells_ul, len_cl, List.all_cons, List.all_nil, Bool.and_self, List.length_cons, List.length_nil]; done) | (simp only [len_cl]; omega) | (simp [Value.cells, Value.oneCell']; done))))
        | (refine kOps_store (cs' := ?_) rfl rfl rfl rfl rfl rfl rfl ty26 ?_ ?_ ?_; rotate_left 1; (simp only [clg0, clg1, clg2, clg3, splice_cl, splice_one, len_cl, Nat.mod_eq_of_lt la, Nat.mod_eq_of_lt lb, Nat.mod_eq_of_lt lm, Nat.mod_eq_of_lt la2, Nat.mod_eq_of_lt lb2, cmp_ge, ne_eq, hm, not_false_eq_true, if_true, if_false, n_zero_mul, n_zero_add, Nat.reduceMod, decide_true, decide_false, eq_self, Nat.zero_mod, Bool.not_true, Bool.not_false, lit_ul0, lit_ul1, cells_ul, cells_u4, isAggD, Bool.false_eq_true, reduceIte, take_cl, agg_cl, List.drop_zero, Int.toNat_natCast, Int.reduceToNat, Int.toNat_zero, n_add_zero, Nat.mul_one, Nat.reduceAdd, Nat.reduceMul, getD_bv, take_bytes, List.length_map, List.getD_cons_zero]; rfl); (focus (first | (simp only [lit_ul0, lit_ul1, cells_ul, cells_u4, List.length_cons, List.length_nil, len_cl, List.length_set, List.length_map, Nat.reduceAdd, Nat.zero_add, List.all_cons, List.all_nil, one_ul, one_cl, one_bv, PV.one, Value.oneCell', Bool.and_self, Nat.reduceLeDiff, Nat.le_refl, and_self, true_and, and_true]; done) | ((try simp only [lit_ul0, lit_ul1, cells_ul, cells_u4]); (focus ((repeat' apply And.intro) <;> first | exact True.intro | omega | (with_reducible rfl) | assumption | exact ⟨_, rfl⟩ | (simp only [one_cl, one_ul, cells_u4, cells_ul, len_cl, List.all_cons, List.all_nil, Bool.and_self, List.length_cons, List.length_nil]; done) | (simp only [len_cl]; omega) | (simp [Value.cells, Value.oneCell']; done)))))))
        | (refine kOps_mv rfl rfl rfl rfl ?_)
        | (refine kOps_ext rfl rfl rfl rfl rfl ?_)
        | (refine kOps_as rfl rfl rfl rfl ?_)
        | (refine vOps_gundef rfl rfl ?_ ?_; (focus (simp only [lookup_cons, Nat.reduceBEq, cond_true, cond_false]; done)); simp only [putIn])
        | (refine vOps_gpick (t := ?_) (val := ?_) rfl rfl ?_ rfl rfl ?_ ?_ ?_; rotate_left 2; (focus (simp only [lookup_cons, Nat.reduceBEq, cond_true, cond_false]; done)); (simp only [evalIn_tmp, evalIn_const, lookup_cons, Nat.reduceBEq, cond_true, cond_false]; rfl); (simp only [evalIn_tmp, evalIn_const, lookup_cons, Nat.reduceBEq, cond_true, cond_false]; rfl))
        | (refine vOps_pick (t := ?_) (val := ?_) rfl rfl rfl ?_ ?_ ?_; rotate_left 2; (simp only [evalIn_tmp, evalIn_const, lookup_cons, Nat.reduceBEq, cond_true, cond_false]; rfl); (simp only [evalIn_tmp, evalIn_const, lookup_cons, Nat.reduceBEq, cond_true, cond_false]; rfl))
        | (refine vOps_fork (b := ?_) rfl rfl ?_ ?_ ?_; rotate_left 1; (simp only [lookup_cons, Nat.reduceBEq, cond_true, cond_false]; rfl); all_goals (intro hb; simp only [hb]; (try simp only [decide_eq_true_eq, decide_eq_false_iff_not] at hb); try (exfalso; first | omega | exact hb trivial)))
        | (refine vOps_forkp (b := ?_) rfl ?_ ?_ ?_; rotate_left 1; (simp only [evalIn_tmp, lookup_cons, Nat.reduceBEq, cond_true, cond_false]; rfl); all_goals (intro hb; simp only [hb]; (try simp only [decide_eq_true_eq, decide_eq_false_iff_not] at hb); try (exfalso; first | omega | exact hb trivial))))
      all_goals (
        refine fin_c (p := ?_) (xs := [.cell 6 26]) (by simp) rfl ?_ ?_ ?_ ?_
        rotate_left 2
        · simp only [resAll_cons, resAll_nil, resPVl_0, resPVl_1, resPVl_2, resOne_tmp, resOne_cell, List.map_cons, List.map_nil, clg0, clg1, clg2, clg3, splice_cl, splice_one, len_cl, Nat.mod_eq_of_lt la, Nat.mod_eq_of_lt lb, Nat.mod_eq_of_lt lm, Nat.mod_eq_of_lt la2, Nat.mod_eq_of_lt lb2, cmp_ge, ne_eq, hm, not_false_eq_true, if_true, if_false, n_zero_mul, n_zero_add, Nat.reduceMod, decide_true, decide_false, eq_self, Nat.zero_mod, Bool.not_true, Bool.not_false, evalIn_tmp, evalIn_const, evalIn_func, lookup_cons, Nat.reduceBEq, cond_true, cond_false, lit_ul0, lit_ul1, loadF, partF, List.getElem?_cons_zero, List.getElem?_cons_succ, List.set_cons_zero, List.set_cons_succ, List.cons_append, List.nil_append, true_and, and_true, and_self, Nat.le_refl, Nat.reduceLeDiff, isAggD, Bool.false_eq_true, reduceIte, take_cl, agg_cl, List.drop_zero, Int.toNat_natCast, Int.reduceToNat, Int.toNat_zero, n_add_zero, Nat.mul_one, Nat.zero_add, Nat.reduceAdd, Nat.reduceMul, getD_bv, take_bytes, List.length_map, List.getD_cons_zero, ty22, ty26]; try rfl
        · first | rfl | (simp only [closed, closedL, closed_u4, closed_ul, closedL_cl, closedL_bv, Bool.and_self, Bool.and_true]; done) | (simp only [closed, closedL, closed_u4, closed_ul, closedL_cl, closedL_bv, Bool.and_self, Bool.and_true]; rfl)
        · rw [sub_red hm]
          split
          · exact u4_congr (by omega)
          · exact u4_congr (by omega)
        · simp only [resAll_cons, resAll_nil, resPVl_0, resPVl_1, resPVl_2, resOne_tmp, resOne_cell, List.map_cons, List.map_nil, clg0, clg1, clg2, clg3, splice_cl, splice_one, len_cl, Nat.mod_eq_of_lt la, Nat.mod_eq_of_lt lb, Nat.mod_eq_of_lt lm, Nat.mod_eq_of_lt la2, Nat.mod_eq_of_lt lb2, cmp_ge, ne_eq, hm, not_false_eq_true, if_true, if_false, n_zero_mul, n_zero_add, Nat.reduceMod, decide_true, decide_false, eq_self, Nat.zero_mod, Bool.not_true, Bool.not_false, evalIn_tmp, evalIn_const, evalIn_func, lookup_cons, Nat.reduceBEq, cond_true, cond_false, lit_ul0, lit_ul1, loadF, partF, List.getElem?_cons_zero, List.getElem?_cons_succ, List.set_cons_zero, List.set_cons_succ, List.cons_append, List.nil_append, true_and, and_true, and_self, Nat.le_refl, Nat.reduceLeDiff, isAggD, Bool.false_eq_true, reduceIte, take_cl, agg_cl, List.drop_zero, Int.toNat_natCast, Int.reduceToNat, Int.toNat_zero, n_add_zero, Nat.mul_one, Nat.zero_add, Nat.reduceAdd, Nat.reduceMul, getD_bv, take_bytes, List.length_map, List.getD_cons_zero, ty22, ty26]; try trivial)
  · exact hS.elim
end Go.Ab
