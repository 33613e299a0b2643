import Derived.Test.YtgknomjgpkpjdaaME
import Derived.Test.YtgknomjgpkpjdaaTY
import Derived.Test.YtgknomjgpkpjdaaFref02Cmp
import Derived.Test.YtgknomjgpkpjdaaFref02Add
import Derived.Test.YtgknomjgpkpjdaaFref02Sub
import Derived.Test.YtgknomjgpkpjdaaFref02Zero
import Derived.Test.YtgknomjgpkpjdaaFref02reduce
import Derived.Test.YtgknomjgpkpjdaaMG
namespace Go.Ab
open Go Go.Proofs
set_option linter.unusedVariables false
set_option linter.unusedSimpArgs false
set_option maxRecDepth 8000
set_option maxHeartbeats 4000000

noncomputable def B40 : Code := bodyOf Try.f40
theorem B40_eq : Try.f40.body = some B40 := by kernel_rfl
noncomputable def n40_0 : Code := B40
noncomputable def n40_1 : Code := codeAt B40 [0]
noncomputable def n40_2 : Code := codeAt B40 [1]
noncomputable def n40_3 : Code := codeAt B40 [1,0]
noncomputable def n40_4 : Code := codeAt B40 [1,0,0]
noncomputable def n40_5 : Code := codeAt B40 [1,0,1]
noncomputable def n40_6 : Code := codeAt B40 [1,0,1,0]
noncomputable def n40_7 : Code := codeAt B40 [1,0,1,0,0]
noncomputable def n40_8 : Code := codeAt B40 [1,0,1,0,1]
noncomputable def n40_9 : Code := codeAt B40 [1,0,1,1]
noncomputable def n40_10 : Code := codeAt B40 [1,1]
noncomputable def n40_11 : Code := codeAt B40 [1,1,0]
noncomputable def n40_12 : Code := codeAt B40 [1,1,1]
noncomputable def n40_13 : Code := codeAt B40 [1,1,1,0]
noncomputable def n40_14 : Code := codeAt B40 [1,1,1,1]
noncomputable def n40_15 : Code := codeAt B40 [1,1,1,1,0]
noncomputable def n40_16 : Code := codeAt B40 [1,1,1,1,0,0]
noncomputable def n40_17 : Code := codeAt B40 [1,1,1,1,0,1]
noncomputable def n40_18 : Code := codeAt B40 [1,1,1,1,0,1,0]
noncomputable def n40_19 : Code := codeAt B40 [1,1,1,1,0,1,1]
noncomputable def n40_20 : Code := codeAt B40 [1,1,1,1,1]
noncomputable def n40_21 : Code := codeAt B40 [1,1,1,1,1,0]
noncomputable def n40_22 : Code := codeAt B40 [1,1,1,1,1,1]
theorem e40_0 : n40_0 = .seq n40_1 n40_2 := rfl
noncomputable def r40_1 := opsAt n40_1
theorem e40_1 : n40_1 = .region 0 (r40_1).toArray false := rfl
theorem e40_2 : n40_2 = .seq n40_3 n40_10 := rfl
theorem e40_3 : n40_3 = .seq n40_4 n40_5 := rfl
noncomputable def r40_4 := opsAt n40_4
theorem e40_4 : n40_4 = .region 1 (r40_4).toArray false := rfl
theorem e40_5 : n40_5 = .cond (.tmp 10) n40_6 n40_9 := rfl
theorem e40_6 : n40_6 = .seq n40_7 n40_8 := rfl
noncomputable def r40_7 := opsAt n40_7
theorem e40_7 : n40_7 = .region 2 (r40_7).toArray false := rfl
theorem e40_8 : n40_8 = .ret := rfl
theorem e40_9 : n40_9 = .skip := rfl
theorem e40_10 : n40_10 = .seq n40_11 n40_12 := rfl
noncomputable def r40_11 := opsAt n40_11
theorem e40_11 : n40_11 = .region 3 (r40_11).toArray true := rfl
theorem a40_11 : anyOk r40_11 = true := by decide +kernel
theorem e40_12 : n40_12 = .seq n40_13 n40_14 := rfl
noncomputable def r40_13 := opsAt n40_13
theorem e40_13 : n40_13 = .region 4 (r40_13).toArray false := rfl
theorem e40_14 : n40_14 = .seq n40_15 n40_20 := rfl
theorem e40_15 : n40_15 = .seq n40_16 n40_17 := rfl
noncomputable def r40_16 := opsAt n40_16
theorem e40_16 : n40_16 = .region 5 (r40_16).toArray false := rfl
theorem g40_16_1 : (r40_16[1]?).bind (·.dst) = some 25 := by decide +kernel
theorem e40_17 : n40_17 = .cond (.tmp 30) n40_18 n40_19 := rfl
noncomputable def r40_18 := opsAt n40_18
theorem e40_18 : n40_18 = .region 6 (r40_18).toArray false := rfl
theorem e40_19 : n40_19 = .skip := rfl
theorem e40_20 : n40_20 = .seq n40_21 n40_22 := rfl
noncomputable def r40_21 := opsAt n40_21
theorem e40_21 : n40_21 = .region 7 (r40_21).toArray false := rfl
theorem e40_22 : n40_22 = .ret := rfl
theorem f_ref02_AddMod : PureOk Try.prog 40 sAddMod := by
  refine pureOk_of (c := n40_0) (Γ := conOf [(22, .pure sCmp), (26, .pure sAdd), (28, .pure sSub), (60, .pure sZero), (61, .pure sReduce2)]) (conOf_ok (conOf_one (S := .pure sCmp) f_ref02_Cmp (conOf_one (S := .pure sAdd) f_ref02_Add (conOf_one (S := .pure sSub) f_ref02_Sub (conOf_one (S := .pure sZero) f_ref02_Zero (conOf_one (S := .pure sReduce2) f_ref02_reduce (conOf_end))))))) mixed Try.func40 B40_eq (by decide +kernel) Try.call40 ?_
  intro args hS
  unfold sAddMod at hS ⊢
  split at hS
  · refine ⟨by rw [Try.ntmps40]; simp, vC_sound ?_⟩
    rename_i xa xb xm
    obtain ⟨ha, hb, hm⟩ := hS
    obtain ⟨a, la, rfl⟩ := isU_out ha
    obtain ⟨b, lb, rfl⟩ := isU_out hb
    obtain ⟨m, lm, rfl⟩ := isU_out hm
    simp only [uv_u4, Nat.mod_eq_of_lt la, Nat.mod_eq_of_lt lb, Nat.mod_eq_of_lt lm]
    clear ha hb hm
    simp only [entry_cons, entry_nil, Nat.reduceAdd]
    by_cases hm : m = 0
    · repeat' (first
        | (with_reducible first | apply seqC_normal | apply seqC_ret)
        | ((with_reducible apply wC_seq e40_0; apply kC_less [0, 1, 2] (c := n40_1)); (exact rfl); (exact rfl); (with_reducible apply wC_region e40_1); refine vOps_open (l := _ :: _) rfl ?_; refine kOps_box (row := ?_) (n := ?_) rfl rfl rfl rfl rfl ?_ ?_ ?_ ?_; rotate_left 2; (simp only [↓List.length_append, ↓List.length_set, ↓List.length_cons, List.length_nil, Nat.reduceAdd, Nat.zero_add]; rfl); (simp only [clg0, clg1, clg2, clg3, splice_cl, splice_one, len_cl, Nat.mod_eq_of_lt la, Nat.mod_eq_of_lt lb, hm, if_true, if_false, n_zero_mul, n_zero_add, Nat.reduceMod, decide_true, decide_false, eq_self, Nat.zero_mod, Bool.not_true, Bool.not_false, cells_ul, cells_u4]; rfl); (focus (first | rfl | exact one_cl _ _ | exact one_bv _ | (simp only [one_cl, one_ul, List.all_cons, List.all_nil, Bool.and_self, PV.one]; done) | (simp [PV.one, one_ul, one_cl, one_bv, Value.oneCell']; done))); refine kOps_box (row := ?_) (n := ?_) rfl rfl rfl rfl rfl ?_ ?_ ?_ ?_; rotate_left 2; (simp only [↓List.length_append, ↓List.length_set, ↓List.length_cons, List.length_nil, Nat.reduceAdd, Nat.zero_add]; rfl); (simp only [clg0, clg1, clg2, clg3, splice_cl, splice_one, len_cl, Nat.mod_eq_of_lt la, Nat.mod_eq_of_lt lb, hm, if_true, if_false, n_zero_mul, n_zero_add, Nat.reduceMod, decide_true, decide_false, eq_self, Nat.zero_mod, Bool.not_true, Bool.not_false, cells_ul, cells_u4]; rfl); (focus (first | rfl | exact one_cl _ _ | exact one_bv _ | (simp only [one_cl, one_ul, List.all_cons, List.all_nil, Bool.and_self, PV.one]; done) | (simp [PV.one, one_ul, one_cl, one_bv, Value.oneCell']; done))); refine kOps_box (row := ?_) (n := ?_) rfl rfl rfl rfl rfl ?_ ?_ ?_ ?_; rotate_left 2; (simp only [↓List.length_append, ↓List.length_set, ↓List.length_cons, List.length_nil, Nat.reduceAdd, Nat.zero_add]; rfl); (simp only [clg0, clg1, clg2, clg3, splice_cl, splice_one, len_cl, Nat.mod_eq_of_lt la, Nat.mod_eq_of_lt lb, hm, if_true, if_false, n_zero_mul, n_zero_add, Nat.reduceMod, decide_true, decide_false, eq_self, Nat.zero_mod, Bool.not_true, Bool.not_false, cells_ul, cells_u4]; rfl); (focus (first | rfl | exact one_cl _ _ | exact one_bv _ | (simp only [one_cl, one_ul, List.all_cons, List.all_nil, Bool.and_self, PV.one]; done) | (simp [PV.one, one_ul, one_cl, one_bv, Value.oneCell']; done))); refine kOps_alloc (row := ?_) (n := ?_) rfl rfl rfl rfl ty26 ?_ ?_ ?_ ?_; rotate_left 2; (simp only [↓List.length_append, ↓List.length_set, ↓List.length_cons, List.length_nil, Nat.reduceAdd, Nat.zero_add]; rfl); (simp only [clg0, clg1, clg2, clg3, splice_cl, splice_one, len_cl, Nat.mod_eq_of_lt la, Nat.mod_eq_of_lt lb, hm, if_true, if_false, n_zero_mul, n_zero_add, Nat.reduceMod, decide_true, decide_false, eq_self, Nat.zero_mod, Bool.not_true, Bool.not_false, Value.cells, List.map_cons, List.map_nil, List.toList_toArray, zero_cl4, zero_cl8, lit_ul0]; rfl); (focus (first | (simp only [Value.cells, List.toList_toArray, List.forall_mem_cons, List.forall_mem_nil, Value.oneCell', and_self]; done) | (simp [Value.cells, Value.oneCell']; done))); refine vOps_nil ?_; (with_reducible apply seqC_normal; apply wC_seq e40_2; apply wC_seq e40_3; apply wC_region e40_4); refine vOps_open (l := _ :: _) rfl ?_; (first | refine kOps_loadp (pre := ?_) (val := ?_) rfl rfl rfl rfl rfl ty26 ?_ ?_ ?_ | refine kOps_loadr (pre := ?_) (val := ?_) rfl rfl rfl rfl ty26 ?_ ?_ ?_); rotate_left 2; (simp only [clg0, clg1, clg2, clg3, splice_cl, splice_one, len_cl, Nat.mod_eq_of_lt la, Nat.mod_eq_of_lt lb, hm, if_true, if_false, n_zero_mul, n_zero_add, Nat.reduceMod, decide_true, decide_false, eq_self, Nat.zero_mod, Bool.not_true, Bool.not_false, partF, isAggD, Bool.false_eq_true, reduceIte, take_cl, agg_cl, List.drop_zero, Int.toNat_natCast, Int.reduceToNat, Int.toNat_zero, n_add_zero, Nat.mul_one, Nat.reduceAdd, Nat.reduceMul, getD_bv, take_bytes, List.length_map, List.getD_cons_zero]; rfl); (focus ((repeat' apply And.intro) <;> first | exact True.intro | omega | (with_reducible rfl) | assumption | exact ⟨_, rfl⟩ | (simp only [one_cl, one_ul, cells_u4, cells_ul, len_cl, List.all_cons, List.all_nil, Bool.and_self, List.length_cons, List.length_nil]; done) | (simp only [len_cl]; omega) | (simp [Value.cells, Value.oneCell']; done))); refine kOps_callc (pre := ?_) (val := ?_) rfl rfl rfl rfl rfl ?_ ?_ ?_ ?_ ?_; rotate_left 2; (simp only [clg0, clg1, clg2, clg3, splice_cl, splice_one, len_cl, Nat.mod_eq_of_lt la, Nat.mod_eq_of_lt lb, hm, if_true, if_false, n_zero_mul, n_zero_add, Nat.reduceMod, decide_true, decide_false, eq_self, Nat.zero_mod, Bool.not_true, Bool.not_false, sCmp, sAdd, sSub, sZero, sReduce2, nrmC, List.map_cons, List.map_nil, nrm_ul, nrm_u4, nrm_nil, nrm_int, nrm_bool, nrm_string, nrm_ro, nrm_agg, nrm_rptr, isul_ul, ulv_ul, isU_u4, uv_u4, bytesOf_bv, isB_bv, true_and, and_true, and_self, n_add_zero, n_sub_zero]; rfl); (focus (first | rfl | (simp only [closed, closedL, closed_ul, closed_u4, closedL_bv, closedL_cl, Bool.and_self, Bool.and_true]; done))); (focus (first | rfl | (simp only [closed, closedL, closed_ul, closed_u4, closedL_bv, closedL_cl, Bool.and_self, Bool.and_true]; done))); (focus ((repeat' apply And.intro) <;> first | exact True.intro | omega | (with_reducible rfl) | assumption | exact ⟨_, rfl⟩ | (simp only [one_cl, one_ul, cells_u4, cells_ul, len_cl, List.all_cons, List.all_nil, Bool.and_self, List.length_cons, List.length_nil]; done) | (simp only [len_cl]; omega) | (simp [Value.cells, Value.oneCell']; done))); refine vOps_nil ?_; (with_reducible apply seqC_normal; apply kC_cond e40_5); (exact rfl); all_goals (intro hb; first | (cases hb; done) | cases hb | ((try simp only [decide_eq_true_eq, decide_eq_false_iff_not, Bool.not_eq_true', Bool.not_eq_false'] at hb); try (exfalso; first | omega | exact hb trivial))))
        | ((with_reducible apply wC_seq e40_6; apply wC_region e40_7); refine vOps_open (l := _ :: _) rfl ?_; (first | refine kOps_loadp (pre := ?_) (val := ?_) rfl rfl rfl rfl rfl ty26 ?_ ?_ ?_ | refine kOps_loadr (pre := ?_) (val := ?_) rfl rfl rfl rfl ty26 ?_ ?_ ?_); rotate_left 2; (simp only [clg0, clg1, clg2, clg3, splice_cl, splice_one, len_cl, Nat.mod_eq_of_lt la, Nat.mod_eq_of_lt lb, hm, if_true, if_false, n_zero_mul, n_zero_add, Nat.reduceMod, decide_true, decide_false, eq_self, Nat.zero_mod, Bool.not_true, Bool.not_false, partF, isAggD, Bool.false_eq_true, reduceIte, take_cl, agg_cl, List.drop_zero, Int.toNat_natCast, Int.reduceToNat, Int.toNat_zero, n_add_zero, Nat.mul_one, Nat.reduceAdd, Nat.reduceMul, getD_bv, take_bytes, List.length_map, List.getD_cons_zero]; rfl); (focus ((repeat' apply And.intro) <;> first | exact True.intro | omega | (with_reducible rfl) | assumption | exact ⟨_, rfl⟩ | (simp only [one_cl, one_ul, cells_u4, cells_ul, len_cl, List.all_cons, List.all_nil, Bool.and_self, List.length_cons, List.length_nil]; done) | (simp only [len_cl]; omega) | (simp [Value.cells, Value.oneCell']; done))); refine kOps_store (cs' := ?_) rfl rfl rfl rfl rfl rfl rfl ty26 ?_ ?_ ?_; rotate_left 1; (simp only [clg0, clg1, clg2, clg3, splice_cl, splice_one, len_cl, Nat.mod_eq_of_lt la, Nat.mod_eq_of_lt lb, hm, if_true, if_false, n_zero_mul, n_zero_add, Nat.reduceMod, decide_true, decide_false, eq_self, Nat.zero_mod, Bool.not_true, Bool.not_false, cells_ul, cells_u4, isAggD, Bool.false_eq_true, reduceIte, take_cl, agg_cl, List.drop_zero, Int.toNat_natCast, Int.reduceToNat, Int.toNat_zero, n_add_zero, Nat.mul_one, Nat.reduceAdd, Nat.reduceMul, getD_bv, take_bytes, List.length_map, List.getD_cons_zero]; rfl); (focus (first | (simp only [cells_ul, cells_u4, List.length_cons, List.length_nil, len_cl, List.length_set, List.length_map, Nat.reduceAdd, Nat.zero_add, List.all_cons, List.all_nil, one_ul, one_cl, one_bv, PV.one, Value.oneCell', Bool.and_self, Nat.reduceLeDiff, Nat.le_refl, and_self, true_and, and_true]; done) | ((try simp only [cells_ul, cells_u4]); (focus ((repeat' apply And.intro) <;> first | exact True.intro | omega | (with_reducible rfl) | assumption | exact ⟨_, rfl⟩ | (simp only [one_cl, one_ul, cells_u4, cells_ul, len_cl, List.all_cons, List.all_nil, Bool.and_self, List.length_cons, List.length_nil]; done) | (simp only [len_cl]; omega) | (simp [Value.cells, Value.oneCell']; done)))))); refine vOps_nil ?_; (with_reducible apply seqC_normal; apply wC_ret e40_8))
        | ((with_reducible apply wC_skip e40_9)))
      all_goals (
        refine fin_c (p := ?_) (xs := [.cell 6 26]) (by simp) rfl ?_ ?_ ?_ ?_
        rotate_left 2
        · simp only [resAll_cons, resAll_nil, resPVl_0, resPVl_1, resPVl_2, resOne_tmp, resOne_cell, List.map_cons, List.map_nil, clg0, clg1, clg2, clg3, splice_cl, splice_one, len_cl, Nat.mod_eq_of_lt la, Nat.mod_eq_of_lt lb, hm, if_true, if_false, n_zero_mul, n_zero_add, Nat.reduceMod, decide_true, decide_false, eq_self, Nat.zero_mod, Bool.not_true, Bool.not_false, evalIn_tmp, evalIn_const, evalIn_func, lookup_cons, Nat.reduceBEq, cond_true, cond_false, lit_ul0, lit_ul1, loadF, partF, List.getElem?_cons_zero, List.getElem?_cons_succ, List.set_cons_zero, List.set_cons_succ, List.cons_append, List.nil_append, true_and, and_true, and_self, Nat.le_refl, Nat.reduceLeDiff, isAggD, Bool.false_eq_true, reduceIte, take_cl, agg_cl, List.drop_zero, Int.toNat_natCast, Int.reduceToNat, Int.toNat_zero, n_add_zero, Nat.mul_one, Nat.zero_add, Nat.reduceAdd, Nat.reduceMul, getD_bv, take_bytes, List.length_map, List.getD_cons_zero, ty3, ty22, ty26]; try rfl
        · first | rfl | (simp only [closed, closedL, closed_u4, closed_ul, closedL_cl, closedL_bv, Bool.and_self, Bool.and_true]; done) | (simp only [closed, closedL, closed_u4, closed_ul, closedL_cl, closedL_bv, Bool.and_self, Bool.and_true]; rfl)
        · rw [rem0_zero hm]
        · simp only [resAll_cons, resAll_nil, resPVl_0, resPVl_1, resPVl_2, resOne_tmp, resOne_cell, List.map_cons, List.map_nil, clg0, clg1, clg2, clg3, splice_cl, splice_one, len_cl, Nat.mod_eq_of_lt la, Nat.mod_eq_of_lt lb, hm, if_true, if_false, n_zero_mul, n_zero_add, Nat.reduceMod, decide_true, decide_false, eq_self, Nat.zero_mod, Bool.not_true, Bool.not_false, evalIn_tmp, evalIn_const, evalIn_func, lookup_cons, Nat.reduceBEq, cond_true, cond_false, lit_ul0, lit_ul1, loadF, partF, List.getElem?_cons_zero, List.getElem?_cons_succ, List.set_cons_zero, List.set_cons_succ, List.cons_append, List.nil_append, true_and, and_true, and_self, Nat.le_refl, Nat.reduceLeDiff, isAggD, Bool.false_eq_true, reduceIte, take_cl, agg_cl, List.drop_zero, Int.toNat_natCast, Int.reduceToNat, Int.toNat_zero, n_add_zero, Nat.mul_one, Nat.zero_add, Nat.reduceAdd, Nat.reduceMul, getD_bv, take_bytes, List.length_map, List.getD_cons_zero, ty3, ty22, ty26]; try trivial)
    · have h1 := Nat.mod_lt a (show 0 < m by omega)
      have h2 := Nat.mod_lt b (show 0 < m by omega)
      have la2 : a % m < 115792089237316195423570985008687907853269984665640564039457584007913129639936 := by omega
      have lb2 : b % m < 115792089237316195423570985008687907853269984665640564039457584007913129639936 := by omega
      repeat' (first
        | (with_reducible first | apply seqC_normal | apply seqC_ret)
        | ((with_reducible apply wC_seq e40_0; apply kC_less [0, 1, 2] (c := n40_1)); (exact rfl); (exact rfl); (with_reducible apply wC_region e40_1); refine vOps_open (l := _ :: _) rfl ?_)
        | ((with_reducible apply wC_seq e40_2; apply wC_seq e40_3; apply wC_region e40_4); refine vOps_open (l := _ :: _) rfl ?_)
        | ((with_reducible apply kC_cond e40_5); (exact rfl); all_goals (intro hb; first | (cases hb; done) | cases hb | ((try simp only [decide_eq_true_eq, decide_eq_false_iff_not, Bool.not_eq_true', Bool.not_eq_false'] at hb); try (exfalso; first | omega | exact hb trivial))))
        | ((with_reducible apply wC_seq e40_6; apply wC_region e40_7); refine vOps_open (l := _ :: _) rfl ?_)
        | ((with_reducible apply wC_ret e40_8))
        | ((with_reducible apply wC_skip e40_9))
        | ((with_reducible apply wC_seq e40_10; apply kC_less [3, 4, 5, 6] (c := n40_11)); (exact rfl); (exact rfl); (with_reducible apply wC_any e40_11 a40_11); refine vOps_open (l := _ :: _) rfl ?_)
        | ((with_reducible apply wC_seq e40_12; apply kC_less [3, 4, 5, 6] (c := n40_13)); (exact rfl); (exact rfl); (with_reducible apply wC_region e40_13); refine vOps_open (l := _ :: _) rfl ?_)
        | ((with_reducible apply wC_seq e40_14; apply wC_seq e40_15; apply kC_less [5, 6, 7, 8] (c := n40_16)); (exact rfl); (exact rfl); (with_reducible apply wC_region e40_16); refine vOps_open (l := _ :: _) rfl ?_)
        | ((with_reducible apply kC_cond e40_17); (exact rfl); all_goals (intro hb; first | (cases hb; done) | cases hb | ((try simp only [decide_eq_true_eq, decide_eq_false_iff_not, Bool.not_eq_true', Bool.not_eq_false'] at hb); try (exfalso; first | omega | exact hb trivial))))
        | ((with_reducible apply kC_less [5, 6, 7] (c := n40_18)); (exact rfl); (exact rfl); (with_reducible apply wC_region e40_18); refine vOps_open (l := _ :: _) rfl ?_)
        | ((with_reducible apply wC_skip e40_19))
        | ((with_reducible apply wC_seq e40_20; apply wC_region e40_21); refine vOps_open (l := _ :: _) rfl ?_)
        | ((with_reducible apply wC_ret e40_22))
        | ((with_reducible apply vOps_nil); try (with_reducible refine And.intro (by kernel_rfl) ?_))
        | (refine kOps_gon (g := ?_) (p := ?_) rfl rfl ?_ ?_ ?_ ?_; rotate_left 2; (with_reducible first | exact g40_16_1); (exact rfl); (with_reducible rfl))
        | (refine kOps_gofft (g := ?_) (p := ?_) rfl rfl ?_ ?_ ?_ ?_; rotate_left 2; (with_reducible first | exact g40_16_1); (exact rfl); (with_reducible rfl))
        | (refine kOps_gofff (g := ?_) (p := ?_) rfl rfl ?_ ?_ ?_ ?_; rotate_left 2; (with_reducible first | exact g40_16_1); (exact rfl); (with_reducible rfl))
        | (refine kOps_pickt rfl rfl rfl rfl ?_ rfl ?_; (with_reducible rfl))
        | (refine kOps_pickf rfl rfl rfl rfl ?_ rfl ?_; (with_reducible rfl))
        | (refine kOps_box (row := ?_) (n := ?_) rfl rfl rfl rfl rfl ?_ ?_ ?_ ?_; rotate_left 2; (simp only [↓List.length_append, ↓List.length_set, ↓List.length_cons, List.length_nil, Nat.reduceAdd, Nat.zero_add]; rfl); (simp only [clg0, clg1, clg2, clg3, splice_cl, splice_one, len_cl, Nat.mod_eq_of_lt la, Nat.mod_eq_of_lt lb, Nat.mod_eq_of_lt lm, Nat.mod_eq_of_lt la2, Nat.mod_eq_of_lt lb2, cmp_ge, ne_eq, hm, not_false_eq_true, if_true, if_false, n_zero_mul, n_zero_add, Nat.reduceMod, decide_true, decide_false, eq_self, Nat.zero_mod, Bool.not_true, Bool.not_false, cells_ul, cells_u4]; rfl); (focus (first | rfl | exact one_cl _ _ | exact one_bv _ | (simp only [one_cl, one_ul, List.all_cons, List.all_nil, Bool.and_self, PV.one]; done) | (simp [PV.one, one_ul, one_cl, one_bv, Value.oneCell']; done))))
        | (refine kOps_alloc (row := ?_) (n := ?_) rfl rfl rfl rfl ty26 ?_ ?_ ?_ ?_; rotate_left 2; (simp only [↓List.length_append, ↓List.length_set, ↓List.length_cons, List.length_nil, Nat.reduceAdd, Nat.zero_add]; rfl); (simp only [clg0, clg1, clg2, clg3, splice_cl, splice_one, len_cl, Nat.mod_eq_of_lt la, Nat.mod_eq_of_lt lb, Nat.mod_eq_of_lt lm, Nat.mod_eq_of_lt la2, Nat.mod_eq_of_lt lb2, cmp_ge, ne_eq, hm, not_false_eq_true, if_true, if_false, n_zero_mul, n_zero_add, Nat.reduceMod, decide_true, decide_false, eq_self, Nat.zero_mod, Bool.not_true, Bool.not_false, Value.cells, List.map_cons, List.map_nil, List.toList_toArray, zero_cl4, zero_cl8, lit_ul0]; rfl); (focus (first | (simp only [Value.cells, List.toList_toArray, List.forall_mem_cons, List.forall_mem_nil, Value.oneCell', and_self]; done) | (simp [Value.cells, Value.oneCell']; done))))
        | ((first | refine kOps_loadp (pre := ?_) (val := ?_) rfl rfl rfl rfl rfl ty26 ?_ ?_ ?_ | refine kOps_loadr (pre := ?_) (val := ?_) rfl rfl rfl rfl ty26 ?_ ?_ ?_); rotate_left 2; (simp only [clg0, clg1, clg2, clg3, splice_cl, splice_one, len_cl, Nat.mod_eq_of_lt la, Nat.mod_eq_of_lt lb, Nat.mod_eq_of_lt lm, Nat.mod_eq_of_lt la2, Nat.mod_eq_of_lt lb2, cmp_ge, ne_eq, hm, not_false_eq_true, if_true, if_false, n_zero_mul, n_zero_add, Nat.reduceMod, decide_true, decide_false, eq_self, Nat.zero_mod, Bool.not_true, Bool.not_false, partF, isAggD, Bool.false_eq_true, reduceIte, take_cl, agg_cl, List.drop_zero, Int.toNat_natCast, Int.reduceToNat, Int.toNat_zero, n_add_zero, Nat.mul_one, Nat.reduceAdd, Nat.reduceMul, getD_bv, take_bytes, List.length_map, List.getD_cons_zero]; rfl); (focus ((repeat' apply And.intro) <;> first | exact True.intro | omega | (with_reducible rfl) | assumption | exact ⟨_, rfl⟩ | (simp only [one_cl, one_ul, cells_u4, cells_ul, len_cl, List.all_cons, List.all_nil, Bool.and_self, List.length_cons, List.length_nil]; done) | (simp only [len_cl]; omega) | (simp [Value.cells, Value.oneCell']; done))))
        | (refine kOps_callc (pre := ?_) (val := ?_) rfl rfl rfl rfl rfl ?_ ?_ ?_ ?_ ?_; rotate_left 2; (simp only [clg0, clg1, clg2, clg3, splice_cl, splice_one, len_cl, Nat.mod_eq_of_lt la, Nat.mod_eq_of_lt lb, Nat.mod_eq_of_lt lm, Nat.mod_eq_of_lt la2, Nat.mod_eq_of_lt lb2, cmp_ge, ne_eq, hm, not_false_eq_true, if_true, if_false, n_zero_mul, n_zero_add, Nat.reduceMod, decide_true, decide_false, eq_self, Nat.zero_mod, Bool.not_true, Bool.not_false, sCmp, sAdd, sSub, sZero, sReduce2, lit_ul0, lit_ul1, nrmC, List.map_cons, List.map_nil, nrm_ul, nrm_u4, nrm_nil, nrm_int, nrm_bool, nrm_string, nrm_ro, nrm_agg, nrm_rptr, isul_ul, ulv_ul, isU_u4, uv_u4, bytesOf_bv, isB_bv, true_and, and_true, and_self, n_add_zero, n_sub_zero]; rfl); (focus (first | rfl | (simp only [closed, closedL, closed_ul, closed_u4, closedL_bv, closedL_cl, Bool.and_self, Bool.and_true]; done))); (focus (first | rfl | (simp only [closed, closedL, closed_ul, closed_u4, closedL_bv, closedL_cl, Bool.and_self, Bool.and_true]; done))); (focus ((repeat' apply And.intro) <;> first | exact True.intro | omega | (with_reducible rfl) | assumption | exact ⟨_, rfl⟩ | (simp only [one_cl, one_ul, cells_u4, cells_ul, len_cl, List.all_cons, List.all_nil, Bool.and_self, List.length_cons, List.length_nil]; done) | (simp only [len_cl]; omega) | (simp [Value.cells, Value.oneCell']; done))))
        | (refine kOps_store (cs' := ?_) rfl rfl rfl rfl rfl rfl rfl ty26 ?_ ?_ ?_; rotate_left 1; (simp only [clg0, clg1, clg2, clg3, splice_cl, splice_one, len_cl, Nat.mod_eq_of_lt la, Nat.mod_eq_of_lt lb, Nat.mod_eq_of_lt lm, Nat.mod_eq_of_lt la2, Nat.mod_eq_of_lt lb2, cmp_ge, ne_eq, hm, not_false_eq_true, if_true, if_false, n_zero_mul, n_zero_add, Nat.reduceMod, decide_true, decide_false, eq_self, Nat.zero_mod, Bool.not_true, Bool.not_false, lit_ul0, lit_ul1, cells_ul, cells_u4, isAggD, Bool.false_eq_true, reduceIte, take_cl, agg_cl, List.drop_zero, Int.toNat_natCast, Int.reduceToNat, Int.toNat_zero, n_add_zero, Nat.mul_one, Nat.reduceAdd, Nat.reduceMul, getD_bv, take_bytes, List.length_map, List.getD_cons_zero]; rfl); (focus (first | (simp only [lit_ul0, lit_ul1, cells_ul, cells_u4, List.length_cons, List.length_nil, len_cl, List.length_set, List.length_map, Nat.reduceAdd, Nat.zero_add, List.all_cons, List.all_nil, one_ul, one_cl, one_bv, PV.one, Value.oneCell', Bool.and_self, Nat.reduceLeDiff, Nat.le_refl, and_self, true_and, and_true]; done) | ((try simp only [lit_ul0, lit_ul1, cells_ul, cells_u4]); (focus ((repeat' apply And.intro) <;> first | exact True.intro | omega | (with_reducible rfl) | assumption | exact ⟨_, rfl⟩ | (simp only [one_cl, one_ul, cells_u4, cells_ul, len_cl, List.all_cons, List.all_nil, Bool.and_self, List.length_cons, List.length_nil]; done) | (simp only [len_cl]; omega) | (simp [Value.cells, Value.oneCell']; done)))))))
        | (refine kOps_mv rfl rfl rfl rfl ?_)
        | (refine kOps_ext rfl rfl rfl rfl rfl ?_)
        | (refine kOps_as rfl rfl rfl rfl ?_)
        | (refine kOps_bin (b := .geq) (pre := ?_) (val := ?_) rfl rfl rfl rfl rfl ?_ ?_ ?_; rotate_left 2; (intro L; simp only [clg0, clg1, clg2, clg3, splice_cl, splice_one, len_cl, Nat.mod_eq_of_lt la, Nat.mod_eq_of_lt lb, Nat.mod_eq_of_lt lm, Nat.mod_eq_of_lt la2, Nat.mod_eq_of_lt lb2, cmp_ge, ne_eq, hm, not_false_eq_true, if_true, if_false, n_zero_mul, n_zero_add, Nat.reduceMod, decide_true, decide_false, eq_self, Nat.zero_mod, Bool.not_true, Bool.not_false, eql_u4 ty26 ty22, neq_u4 ty26 ty22, lit_ul0, lit_ul1, geq_ul, binF_geq, Int.reduceAdd, Int.reduceSub, Int.reduceMul, Int.reduceNeg, Int.sub_zero, Int.cast_ofNat_Int, Int.reduceLT, Int.reduceLE, Int.reduceEq, Nat.reduceLT, ty3]; (first | (rw [wrap_i64] <;> first | omega | rfl) | (rw [wrap_u8] <;> first | omega | rfl) | (rw [wrap_u16] <;> first | omega | rfl) | (rw [wrap_u32] <;> first | omega | rfl) | rfl)); exact trivial)
        | (refine vOps_gundef rfl rfl ?_ ?_; (focus (simp only [lookup_cons, Nat.reduceBEq, cond_true, cond_false]; done)); simp only [putIn])
        | (refine vOps_gpick (t := ?_) (val := ?_) rfl rfl ?_ rfl rfl ?_ ?_ ?_; rotate_left 2; (focus (simp only [lookup_cons, Nat.reduceBEq, cond_true, cond_false]; done)); (simp only [evalIn_tmp, evalIn_const, lookup_cons, Nat.reduceBEq, cond_true, cond_false]; rfl); (simp only [evalIn_tmp, evalIn_const, lookup_cons, Nat.reduceBEq, cond_true, cond_false]; rfl))
        | (refine vOps_pick (t := ?_) (val := ?_) rfl rfl rfl ?_ ?_ ?_; rotate_left 2; (simp only [evalIn_tmp, evalIn_const, lookup_cons, Nat.reduceBEq, cond_true, cond_false]; rfl); (simp only [evalIn_tmp, evalIn_const, lookup_cons, Nat.reduceBEq, cond_true, cond_false]; rfl))
        | (refine vOps_fork (b := ?_) rfl rfl ?_ ?_ ?_; rotate_left 1; (simp only [lookup_cons, Nat.reduceBEq, cond_true, cond_false]; rfl); all_goals (intro hb; simp only [hb]; (try simp only [decide_eq_true_eq, decide_eq_false_iff_not] at hb); try (exfalso; first | omega | exact hb trivial)))
        | (refine vOps_forkp (b := ?_) rfl ?_ ?_ ?_; rotate_left 1; (simp only [evalIn_tmp, lookup_cons, Nat.reduceBEq, cond_true, cond_false]; rfl); all_goals (intro hb; simp only [hb]; (try simp only [decide_eq_true_eq, decide_eq_false_iff_not] at hb); try (exfalso; first | omega | exact hb trivial))))
      all_goals (
        refine fin_c (p := ?_) (xs := [.cell 6 26]) (by simp) rfl ?_ ?_ ?_ ?_
        rotate_left 2
        · simp only [resAll_cons, resAll_nil, resPVl_0, resPVl_1, resPVl_2, resOne_tmp, resOne_cell, List.map_cons, List.map_nil, clg0, clg1, clg2, clg3, splice_cl, splice_one, len_cl, Nat.mod_eq_of_lt la, Nat.mod_eq_of_lt lb, Nat.mod_eq_of_lt lm, Nat.mod_eq_of_lt la2, Nat.mod_eq_of_lt lb2, cmp_ge, ne_eq, hm, not_false_eq_true, if_true, if_false, n_zero_mul, n_zero_add, Nat.reduceMod, decide_true, decide_false, eq_self, Nat.zero_mod, Bool.not_true, Bool.not_false, evalIn_tmp, evalIn_const, evalIn_func, lookup_cons, Nat.reduceBEq, cond_true, cond_false, lit_ul0, lit_ul1, loadF, partF, List.getElem?_cons_zero, List.getElem?_cons_succ, List.set_cons_zero, List.set_cons_succ, List.cons_append, List.nil_append, true_and, and_true, and_self, Nat.le_refl, Nat.reduceLeDiff, isAggD, Bool.false_eq_true, reduceIte, take_cl, agg_cl, List.drop_zero, Int.toNat_natCast, Int.reduceToNat, Int.toNat_zero, n_add_zero, Nat.mul_one, Nat.zero_add, Nat.reduceAdd, Nat.reduceMul, getD_bv, take_bytes, List.length_map, List.getD_cons_zero, ty3, ty22, ty26]; try rfl
        · first | rfl | (simp only [closed, closedL, closed_u4, closed_ul, closedL_cl, closedL_bv, Bool.and_self, Bool.and_true]; done) | (simp only [closed, closedL, closed_u4, closed_ul, closedL_cl, closedL_bv, Bool.and_self, Bool.and_true]; rfl)
        · rw [add_red hm]
          split
          · exact u4_congr (by omega)
          · exact u4_congr (by omega)
        · simp only [resAll_cons, resAll_nil, resPVl_0, resPVl_1, resPVl_2, resOne_tmp, resOne_cell, List.map_cons, List.map_nil, clg0, clg1, clg2, clg3, splice_cl, splice_one, len_cl, Nat.mod_eq_of_lt la, Nat.mod_eq_of_lt lb, Nat.mod_eq_of_lt lm, Nat.mod_eq_of_lt la2, Nat.mod_eq_of_lt lb2, cmp_ge, ne_eq, hm, not_false_eq_true, if_true, if_false, n_zero_mul, n_zero_add, Nat.reduceMod, decide_true, decide_false, eq_self, Nat.zero_mod, Bool.not_true, Bool.not_false, evalIn_tmp, evalIn_const, evalIn_func, lookup_cons, Nat.reduceBEq, cond_true, cond_false, lit_ul0, lit_ul1, loadF, partF, List.getElem?_cons_zero, List.getElem?_cons_succ, List.set_cons_zero, List.set_cons_succ, List.cons_append, List.nil_append, true_and, and_true, and_self, Nat.le_refl, Nat.reduceLeDiff, isAggD, Bool.false_eq_true, reduceIte, take_cl, agg_cl, List.drop_zero, Int.toNat_natCast, Int.reduceToNat, Int.toNat_zero, n_add_zero, Nat.mul_one, Nat.zero_add, Nat.reduceAdd, Nat.reduceMul, getD_bv, take_bytes, List.length_map, List.getD_cons_zero, ty3, ty22, ty26]; try trivial)
  · exact hS.elim
end Go.Ab
