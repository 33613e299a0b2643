import Derived.Test.YtgknomjgpkpjdaaTY
import Derived.Test.YtgknomjgpkpjdaaME
import Derived.Test.YtgknomjgpkpjdaaFbitsSub64
namespace Go.Ab
open Go Go.Proofs
open Nat (reduceAdd zero_add reduceMul mul_one reduceLeDiff reduceMod reduceSub reduceEqDiff reduceDiv one_mul min_self)
open List (length_cons length_nil length_map getD_cons_zero drop_zero map_cons set_cons_zero set_cons_succ getElem?_cons_zero getElem?_cons_succ map_nil nil_append cons_append take_zero take_succ_cons getD_cons_succ drop_succ_cons take_nil getD_nil)
open Int (toNat_natCast reduceToNat toNat_zero cast_ofNat_Int)
set_option linter.unusedVariables false
set_option linter.unusedSimpArgs false
set_option maxRecDepth 8000
set_option maxHeartbeats 4000000

noncomputable def B58 : Code := bodyOf Try.f58
theorem B58_eq : Try.f58.body = some B58 := by kernel_rfl
noncomputable def n58_0 := B58
noncomputable def n58_1 := codeAt B58 [0]
noncomputable def n58_2 := codeAt B58 [1]
noncomputable def n58_3 := codeAt B58 [1,0]
noncomputable def n58_4 := codeAt B58 [1,1]
noncomputable def n58_5 := codeAt B58 [1,1,0]
noncomputable def n58_6 := codeAt B58 [1,1,1]
noncomputable def n58_7 := codeAt B58 [1,1,1,0]
noncomputable def n58_8 := codeAt B58 [1,1,1,1]
noncomputable def n58_9 := codeAt B58 [1,1,1,1,0]
noncomputable def n58_10 := codeAt B58 [1,1,1,1,1]
noncomputable def n58_11 := codeAt B58 [1,1,1,1,1,0]
noncomputable def n58_12 := codeAt B58 [1,1,1,1,1,0,0]
noncomputable def n58_13 := codeAt B58 [1,1,1,1,1,0,1]
noncomputable def n58_14 := codeAt B58 [1,1,1,1,1,0,1,0]
noncomputable def n58_15 := codeAt B58 [1,1,1,1,1,0,1,0,0]
noncomputable def n58_16 := codeAt B58 [1,1,1,1,1,0,1,0,1]
noncomputable def n58_17 := codeAt B58 [1,1,1,1,1,0,1,1]
noncomputable def n58_18 := codeAt B58 [1,1,1,1,1,1]
noncomputable def n58_19 := codeAt B58 [1,1,1,1,1,1,0]
noncomputable def n58_20 := codeAt B58 [1,1,1,1,1,1,1]
noncomputable def n58_21 := codeAt B58 [1,1,1,1,1,1,1,0]
noncomputable def n58_22 := codeAt B58 [1,1,1,1,1,1,1,1]
theorem e58_0 : n58_0 = .seq n58_1 n58_2 := rfl
noncomputable def r58_1 := opsAt n58_1
theorem e58_1 : n58_1 = .region 0 (r58_1).toArray false := rfl
theorem e58_2 : n58_2 = .seq n58_3 n58_4 := rfl
noncomputable def r58_3 := opsAt n58_3
theorem e58_3 : n58_3 = .region 1 (r58_3).toArray true := rfl
theorem a58_3 : anyOk r58_3 = true := by decide +kernel
theorem e58_4 : n58_4 = .seq n58_5 n58_6 := rfl
noncomputable def r58_5 := opsAt n58_5
theorem e58_5 : n58_5 = .region 2 (r58_5).toArray true := rfl
theorem a58_5 : anyOk r58_5 = true := by decide +kernel
theorem e58_6 : n58_6 = .seq n58_7 n58_8 := rfl
noncomputable def r58_7 := opsAt n58_7
theorem e58_7 : n58_7 = .region 3 (r58_7).toArray true := rfl
theorem a58_7 : anyOk r58_7 = true := by decide +kernel
theorem e58_8 : n58_8 = .seq n58_9 n58_10 := rfl
noncomputable def r58_9 := opsAt n58_9
theorem e58_9 : n58_9 = .region 4 (r58_9).toArray true := rfl
theorem a58_9 : anyOk r58_9 = true := by decide +kernel
theorem e58_10 : n58_10 = .seq n58_11 n58_18 := rfl
theorem e58_11 : n58_11 = .seq n58_12 n58_13 := rfl
noncomputable def r58_12 := opsAt n58_12
theorem e58_12 : n58_12 = .region 5 (r58_12).toArray false := rfl
theorem e58_13 : n58_13 = .cond (.tmp 65) n58_14 n58_17 := rfl
theorem e58_14 : n58_14 = .seq n58_15 n58_16 := rfl
noncomputable def r58_15 := opsAt n58_15
theorem e58_15 : n58_15 = .region 6 (r58_15).toArray false := rfl
theorem e58_16 : n58_16 = .ret := rfl
theorem e58_17 : n58_17 = .skip := rfl
theorem e58_18 : n58_18 = .seq n58_19 n58_20 := rfl
noncomputable def r58_19 := opsAt n58_19
theorem e58_19 : n58_19 = .region 7 (r58_19).toArray true := rfl
theorem a58_19 : anyOk r58_19 = true := by decide +kernel
theorem e58_20 : n58_20 = .seq n58_21 n58_22 := rfl
noncomputable def r58_21 := opsAt n58_21
theorem e58_21 : n58_21 = .region 8 (r58_21).toArray false := rfl
theorem e58_22 : n58_22 = .ret := rfl
theorem f_wide_takeOff : StOk Try.prog 58 tTakeOff := by
  refine stOk_of (c := n58_0) (tab := tabOf [(54, .ext sSub64)]) (tabOf_ok (conOf_one (S := .ext sSub64) f_bits_Sub64 (conOf_end))) mixed Try.func58 B58_eq (by decide +kernel) Try.call58 ?_
  intro args L hS
  unfold tTakeOff at hS ⊢
  split at hS
  rotate_left 1
  · exact hS.elim
  rename_i i j x
  obtain ⟨hLC, hr, hr2, hij, hx, hle⟩ := hS
  obtain ⟨a, la, hL, en⟩ := rowU_out hr
  obtain ⟨b, lb, hL2, en2⟩ := rowU_out hr2
  obtain ⟨x, lx, rfl⟩ := isul_out hx
  simp only [ulv_ul, Nat.mod_eq_of_lt lx] at hle
  dsimp only
  simp only [en, en2, ulv_ul, Nat.mod_eq_of_lt lx]
  clear hr hr2 hx en en2
  refine ⟨by rw [Try.ntmps58]; simp, by simp, vC_sound ?_⟩
  simp only [entry_cons, entry_nil, reduceAdd]
  repeat' (first | (with_reducible first | apply seqC_normal | apply seqC_ret) | ((with_reducible apply wC_seq e58_0; apply wC_region e58_1); refine vOps_open (l := _ :: _) rfl ?_) | ((with_reducible apply wC_seq e58_2; apply wC_any e58_3 a58_3); refine vOps_open (l := _ :: _) rfl ?_) | ((with_reducible apply wC_seq e58_4; apply wC_any e58_5 a58_5); refine vOps_open (l := _ :: _) rfl ?_) | ((with_reducible apply wC_seq e58_6; apply wC_any e58_7 a58_7); refine vOps_open (l := _ :: _) rfl ?_) | ((with_reducible apply wC_seq e58_8; apply wC_any e58_9 a58_9); refine vOps_open (l := _ :: _) rfl ?_) | ((with_reducible apply wC_seq e58_10; apply wC_seq e58_11; apply wC_region e58_12); refine vOps_open (l := _ :: _) rfl ?_) | ((with_reducible apply kC_cond e58_13); (exact rfl); all_goals (intro hb; first | (cases hb; done) | cases hb | ((try simp only [dxe] at hb); try (exfalso; first | omega | exact hb trivial)))) | ((with_reducible apply wC_seq e58_14; apply wC_region e58_15); refine vOps_open (l := _ :: _) rfl ?_) | ((with_reducible apply wC_ret e58_16)) | ((with_reducible apply wC_skip e58_17)) | ((with_reducible apply wC_seq e58_18; apply wC_any e58_19 a58_19); refine vOps_open (l := _ :: _) rfl ?_) | ((with_reducible apply wC_seq e58_20; apply wC_region e58_21); refine vOps_open (l := _ :: _) rfl ?_) | ((with_reducible apply wC_ret e58_22)) | ((with_reducible apply vOps_nil); try (with_reducible refine And.intro (by kernel_rfl) ?_)) | (refine kOps_gon (g := ?_) (p := ?_) rfl rfl ?_ ?_ ?_ ?_; rotate_left 2; fail; (exact rfl); (with_reducible rfl)) | (refine kOps_gofft (g := ?_) (p := ?_) rfl rfl ?_ ?_ ?_ ?_; rotate_left 2; fail; (exact rfl); (with_reducible rfl)) | (refine kOps_gofff (g := ?_) (p := ?_) rfl rfl ?_ ?_ ?_ ?_; rotate_left 2; fail; (exact rfl); (with_reducible rfl)) | (refine kOps_pickt rfl rfl rfl rfl ?_ rfl ?_; (with_reducible rfl)) | (refine kOps_pickf rfl rfl rfl rfl ?_ rfl ?_; (with_reducible rfl)) | (refine kOps_as rfl rfl rfl rfl ?_) | (refine kOps_mv rfl rfl rfl rfl ?_) | (refine kOps_nilp (cs := ?_) rfl rfl rfl rfl ?_ ?_; rotate_left 1; (focus (first | rfl | exact hL | exact hL2 | exact set_get hL | exact (set_get_ne hij).trans hL2 | exact set_get (set_get hL)))) | ((first | (refine kOps_ixap (cs := ?_) (off' := ?_) rfl rfl rfl rfl rfl ?_ ty26 ty22 ?_ ?_ ?_; rotate_left 2; (focus (first | rfl | exact hL | exact hL2 | exact set_get hL | exact (set_get_ne hij).trans hL2 | exact set_get (set_get hL))); rotate_right 1; rotate_left 1; (simp only [cl4, Nat.reducePow, reduceMod, reduceDiv, zero_add, n_add_zero, mul_one, one_mul, toNat_natCast, reduceToNat, toNat_zero, reduceMul, reduceAdd]; rfl)) | (refine kOps_ixaq (cs' := ?_) rfl rfl rfl rfl rfl ty26 ty22 ?_ ?_ ?_; rotate_left 1; (simp only [cl4, Nat.reducePow, reduceMod, reduceDiv, elemAt, cast_ofNat_Int, min_self, drop_succ_cons, Int.reduceSub, getElem?_cons_zero, getElem?_cons_succ, getD_cons_zero, getD_cons_succ, getD_nil, drop_zero, take_succ_cons, take_zero, take_nil, length_cons, length_nil, set_cons_zero, set_cons_succ, zero_add, n_add_zero, mul_one, one_mul, reduceAdd, reduceMul, reduceSub, reduceLeDiff, reduceEqDiff, toNat_natCast, reduceToNat, toNat_zero, reduceIte, if_true, if_false, Bool.false_eq_true, isAggD, len_cl, take_cl, agg_cl, getD_bv, take_bytes, length_map, cons_append, nil_append, true_and, and_true, and_self]; rfl))); (focus ((repeat' apply And.intro) <;> first | exact True.intro | omega | (with_reducible rfl) | assumption | exact ⟨_, rfl⟩ | (simp only [sda, sdb, Value.oneCell', and_self]; done) | exact (isByte_bv _).2 trivial | exact one_bv _ | (simp [Value.oneCell', PV.one, one_bv, closedL_bv, flatL_bv, closedL, closed, isByte_bv, Value.cells, PV.cells, sda]; first | done | omega)))) | ((first | (refine kOps_loadp (cs := ?_) (pre := ?_) (val := ?_) rfl rfl rfl rfl ?_ ty22 ?_ ?_ ?_; rotate_left 3; (focus (first | rfl | exact hL | exact hL2 | exact set_get hL | exact (set_get_ne hij).trans hL2 | exact set_get (set_get hL))); rotate_right 2) | refine kOps_loadr (pre := ?_) (val := ?_) rfl rfl rfl rfl ty22 ?_ ?_ ?_); rotate_left 2; (simp only [cl4, Nat.reducePow, reduceMod, reduceDiv, partF, cast_ofNat_Int, min_self, drop_succ_cons, Int.reduceSub, getElem?_cons_zero, getElem?_cons_succ, getD_cons_zero, getD_cons_succ, getD_nil, drop_zero, take_succ_cons, take_zero, take_nil, length_cons, length_nil, set_cons_zero, set_cons_succ, zero_add, n_add_zero, mul_one, one_mul, reduceAdd, reduceMul, reduceSub, reduceLeDiff, reduceEqDiff, toNat_natCast, reduceToNat, toNat_zero, reduceIte, if_true, if_false, Bool.false_eq_true, isAggD, len_cl, take_cl, agg_cl, getD_bv, take_bytes, length_map, cons_append, nil_append, true_and, and_true, and_self]; rfl); (focus ((repeat' apply And.intro) <;> first | exact True.intro | omega | (with_reducible rfl) | assumption | exact ⟨_, rfl⟩ | (simp only [sda, sdb, Value.oneCell', and_self]; done) | exact (isByte_bv _).2 trivial | exact one_bv _ | (simp [Value.oneCell', PV.one, one_bv, closedL_bv, flatL_bv, closedL, closed, isByte_bv, Value.cells, PV.cells, sda]; first | done | omega)))) | (refine kOps_calle (pre := ?_) (val := ?_) rfl rfl rfl rfl rfl ?_ ?_ ?_; rotate_left 2; (simp only [cl4, Nat.reducePow, reduceMod, reduceDiv, subd0, subd1, subc1, subd2, subc2, subd3, subc3, Nat.zero_mod, n_sub_zero, sSub64, lit_ul0, lit_ul1, nrmC, map_cons, map_nil, nrm_ul, nrm_u4, nrm_nil, nrm_int, nrm_bool, nrm_string, nrm_ro, nrm_agg, nrm_rptr, isul_ul, ulv_ul, isU_u4, uv_u4, bytesOf_bv, isB_bv, true_and, and_true, and_self, n_add_zero, zero_add]; rfl); (focus ((repeat' apply And.intro) <;> first | exact True.intro | omega | (with_reducible rfl) | assumption | exact ⟨_, rfl⟩ | (simp only [sda, sdb, Value.oneCell', and_self]; done) | exact (isByte_bv _).2 trivial | exact one_bv _ | (simp [Value.oneCell', PV.one, one_bv, closedL_bv, flatL_bv, closedL, closed, isByte_bv, Value.cells, PV.cells, sda]; first | done | omega)))) | (refine kOps_ext rfl rfl rfl rfl rfl ?_) | (refine kOps_bin (b := .gtr) (pre := ?_) (val := ?_) rfl rfl rfl rfl rfl ?_ ?_ ?_; rotate_left 2; (intro L; simp only [cl4, Nat.reducePow, reduceMod, reduceDiv, eql_u4 ty26 ty22, neq_u4 ty26 ty22, lit_ul0, lit_ul1, gtr_ul, binF_gtr, Int.reduceAdd, Int.reduceSub, Int.reduceMul, Int.reduceNeg, Int.sub_zero, cast_ofNat_Int, ne_eq, Int.reduceLT, Int.reduceLE, Int.reduceEq, Nat.reduceLT, decide_true, decide_false, ty22]; (first | (rw [wrap_i64] <;> first | omega | rfl) | (rw [wrap_u8] <;> first | omega | rfl) | (rw [wrap_u16] <;> first | omega | rfl) | (rw [wrap_u32] <;> first | omega | rfl) | rfl)); exact trivial) | (refine kOps_storeS (cs := ?_) (cs' := ?_) (L2 := ?_) rfl rfl rfl rfl rfl rfl ?_ ty22 ?_ ?_ ?_ ?_; rotate_left 3; (focus (first | rfl | exact hL | exact hL2 | exact set_get hL | exact (set_get_ne hij).trans hL2 | exact set_get (set_get hL))); (simp only [cl4, Nat.reducePow, reduceMod, reduceDiv, lit_ul0, lit_ul1, splice, cells_ul, cells_u4, cells_agg, cells_int, cells_bool, cells_string, cells_slice, cells_ro, cells_rptr, cast_ofNat_Int, min_self, drop_succ_cons, Int.reduceSub, getElem?_cons_zero, getElem?_cons_succ, getD_cons_zero, getD_cons_succ, getD_nil, drop_zero, take_succ_cons, take_zero, take_nil, length_cons, length_nil, set_cons_zero, set_cons_succ, zero_add, n_add_zero, mul_one, one_mul, reduceAdd, reduceMul, reduceSub, reduceLeDiff, reduceEqDiff, toNat_natCast, reduceToNat, toNat_zero, reduceIte, if_true, if_false, Bool.false_eq_true, isAggD, len_cl, take_cl, agg_cl, getD_bv, take_bytes, length_map, cons_append, nil_append, true_and, and_true, and_self]; rfl); (first | exact set_set' | (simp only [set_cons_zero, set_cons_succ]; rfl) | rfl); (focus (first | (simp only [lit_ul0, lit_ul1, cells_ul, cells_u4, cells_agg, cells_int, cells_bool, cells_string, cells_slice, cells_ro, cells_rptr, length_cons, length_nil, len_cl, List.length_set, length_map, reduceAdd, zero_add, List.all_cons, List.all_nil, one_ul, one_cl, one_bv, PV.one, Value.oneCell', Bool.and_self, reduceLeDiff, Nat.le_refl, and_self, true_and, and_true]; done) | ((try simp only [lit_ul0, lit_ul1, cells_ul, cells_u4, cells_agg, cells_int, cells_bool, cells_string, cells_slice, cells_ro, cells_rptr]); (focus ((repeat' apply And.intro) <;> first | exact True.intro | omega | (with_reducible rfl) | assumption | exact ⟨_, rfl⟩ | (simp only [sda, sdb, Value.oneCell', and_self]; done) | exact (isByte_bv _).2 trivial | exact one_bv _ | (simp [Value.oneCell', PV.one, one_bv, closedL_bv, flatL_bv, closedL, closed, isByte_bv, Value.cells, PV.cells, sda]; first | done | omega))))))) | (refine vOps_gundef rfl rfl ?_ ?_; (focus (simp only [lookup_cons, Nat.reduceBEq, cond_true, cond_false]; done)); simp only [putIn]) | (refine vOps_gpick (t := ?_) (val := ?_) rfl rfl ?_ rfl rfl ?_ ?_ ?_; rotate_left 2; (focus (simp only [lookup_cons, Nat.reduceBEq, cond_true, cond_false]; done)); (simp only [evalIn_tmp, evalIn_const, lookup_cons, Nat.reduceBEq, cond_true, cond_false]; rfl); (simp only [evalIn_tmp, evalIn_const, lookup_cons, Nat.reduceBEq, cond_true, cond_false]; rfl)) | (refine vOps_pick (t := ?_) (val := ?_) rfl rfl rfl ?_ ?_ ?_; rotate_left 2; (simp only [evalIn_tmp, evalIn_const, lookup_cons, Nat.reduceBEq, cond_true, cond_false]; rfl); (simp only [evalIn_tmp, evalIn_const, lookup_cons, Nat.reduceBEq, cond_true, cond_false]; rfl)) | (refine vOps_fork (b := ?_) rfl rfl ?_ ?_ ?_; rotate_left 1; (simp only [lookup_cons, Nat.reduceBEq, cond_true, cond_false]; rfl); all_goals (intro hb; simp only [hb]; (try simp only [decide_eq_true_eq, decide_eq_false_iff_not] at hb); try (exfalso; first | omega | exact hb trivial))) | (refine vOps_forkp (b := ?_) rfl ?_ ?_ ?_; rotate_left 1; (simp only [evalIn_tmp, lookup_cons, Nat.reduceBEq, cond_true, cond_false]; rfl); all_goals (intro hb; simp only [hb]; (try simp only [decide_eq_true_eq, decide_eq_false_iff_not] at hb); try (exfalso; first | omega | exact hb trivial))))
  · refine fin_s (p := ?_) (xs := [.tmp 6]) (by simp) rfl ?_ ?_ ?_ ?_ ?_ ?_
    rotate_left 2
    · simp only [rsx, map_cons, map_nil, cl4, Nat.reducePow, reduceMod, reduceDiv, evalIn_tmp, evalIn_const, evalIn_func, lookup_cons, Nat.reduceBEq, cond_true, cond_false, lit_ul0, lit_ul1, loadF, partF, cast_ofNat_Int, min_self, drop_succ_cons, Int.reduceSub, getElem?_cons_zero, getElem?_cons_succ, getD_cons_zero, getD_cons_succ, getD_nil, drop_zero, take_succ_cons, take_zero, take_nil, length_cons, length_nil, set_cons_zero, set_cons_succ, zero_add, n_add_zero, mul_one, one_mul, reduceAdd, reduceMul, reduceSub, reduceLeDiff, reduceEqDiff, toNat_natCast, reduceToNat, toNat_zero, reduceIte, if_true, if_false, Bool.false_eq_true, isAggD, len_cl, take_cl, agg_cl, getD_bv, take_bytes, length_map, cons_append, nil_append, true_and, and_true, and_self, ty22, ty26]; try rfl
    · first | rfl | (simp only [closed, closedL, closed_u4, closed_ul, closedL_cl, closedL_bv, Bool.and_self, Bool.and_true]; first | done | rfl)
    · exact bool_ff (by omega)
    · rw [if_neg (by omega), set_same hL]; exact take_same
    · exact LC_set (closedL_cl _ _) hLC
    · simp only [rsx, map_cons, map_nil, cl4, Nat.reducePow, reduceMod, reduceDiv, evalIn_tmp, evalIn_const, evalIn_func, lookup_cons, Nat.reduceBEq, cond_true, cond_false, lit_ul0, lit_ul1, loadF, partF, cast_ofNat_Int, min_self, drop_succ_cons, Int.reduceSub, getElem?_cons_zero, getElem?_cons_succ, getD_cons_zero, getD_cons_succ, getD_nil, drop_zero, take_succ_cons, take_zero, take_nil, length_cons, length_nil, set_cons_zero, set_cons_succ, zero_add, n_add_zero, mul_one, one_mul, reduceAdd, reduceMul, reduceSub, reduceLeDiff, reduceEqDiff, toNat_natCast, reduceToNat, toNat_zero, reduceIte, if_true, if_false, Bool.false_eq_true, isAggD, len_cl, take_cl, agg_cl, getD_bv, take_bytes, length_map, cons_append, nil_append, true_and, and_true, and_self, ty22, ty26]; try trivial
  · refine fin_s (p := ?_) (xs := [.tmp 6]) (by simp) rfl ?_ ?_ ?_ ?_ ?_ ?_
    rotate_left 2
    · simp only [rsx, map_cons, map_nil, cl4, Nat.reducePow, reduceMod, reduceDiv, evalIn_tmp, evalIn_const, evalIn_func, lookup_cons, Nat.reduceBEq, cond_true, cond_false, lit_ul0, lit_ul1, loadF, partF, cast_ofNat_Int, min_self, drop_succ_cons, Int.reduceSub, getElem?_cons_zero, getElem?_cons_succ, getD_cons_zero, getD_cons_succ, getD_nil, drop_zero, take_succ_cons, take_zero, take_nil, length_cons, length_nil, set_cons_zero, set_cons_succ, zero_add, n_add_zero, mul_one, one_mul, reduceAdd, reduceMul, reduceSub, reduceLeDiff, reduceEqDiff, toNat_natCast, reduceToNat, toNat_zero, reduceIte, if_true, if_false, Bool.false_eq_true, isAggD, len_cl, take_cl, agg_cl, getD_bv, take_bytes, length_map, cons_append, nil_append, true_and, and_true, and_self, ty22, ty26]; try rfl
    · first | rfl | (simp only [closed, closedL, closed_u4, closed_ul, closedL_cl, closedL_bv, Bool.and_self, Bool.and_true]; first | done | rfl)
    · exact bool_tt (by omega)
    · rw [if_pos (by omega), list4 (n := a + 115792089237316195423570985008687907853269984665640564039457584007913129639936 - b) (by omega)]; exact take_same
    · exact LC_set (closedL_cl _ _) hLC
    · simp only [rsx, map_cons, map_nil, cl4, Nat.reducePow, reduceMod, reduceDiv, evalIn_tmp, evalIn_const, evalIn_func, lookup_cons, Nat.reduceBEq, cond_true, cond_false, lit_ul0, lit_ul1, loadF, partF, cast_ofNat_Int, min_self, drop_succ_cons, Int.reduceSub, getElem?_cons_zero, getElem?_cons_succ, getD_cons_zero, getD_cons_succ, getD_nil, drop_zero, take_succ_cons, take_zero, take_nil, length_cons, length_nil, set_cons_zero, set_cons_succ, zero_add, n_add_zero, mul_one, one_mul, reduceAdd, reduceMul, reduceSub, reduceLeDiff, reduceEqDiff, toNat_natCast, reduceToNat, toNat_zero, reduceIte, if_true, if_false, Bool.false_eq_true, isAggD, len_cl, take_cl, agg_cl, getD_bv, take_bytes, length_map, cons_append, nil_append, true_and, and_true, and_self, ty22, ty26]; try trivial
end Go.Ab
