import Derived.Test.YtgknomjgpkpjdaaTY
import Derived.Test.YtgknomjgpkpjdaaME
namespace Go.Ab
open Go Go.Proofs
open Nat (reduceAdd mod_eq_of_lt zero_add reduceMul mul_one reduceLeDiff reduceMod reduceSub reduceEqDiff reduceDiv one_mul min_self)
open List (length_cons length_nil length_map getD_cons_zero drop_zero set_cons_zero set_cons_succ getElem?_cons_zero getElem?_cons_succ nil_append cons_append take_zero take_succ_cons getD_cons_succ drop_succ_cons take_nil getD_nil)
open Int (toNat_natCast reduceToNat toNat_zero cast_ofNat_Int)
set_option linter.unusedVariables false
set_option linter.unusedSimpArgs false
set_option maxRecDepth 8000
set_option maxHeartbeats 4000000

noncomputable def B57 : Code := bodyOf Try.f57
theorem B57_eq : Try.f57.body = some B57 := by kernel_rfl
noncomputable def n57_0 := B57
noncomputable def n57_1 := codeAt B57 [0]
noncomputable def n57_2 := codeAt B57 [1]
noncomputable def n57_3 := codeAt B57 [1,0]
noncomputable def n57_4 := codeAt B57 [1,1]
noncomputable def n57_5 := codeAt B57 [1,1,0]
noncomputable def n57_6 := codeAt B57 [1,1,1]
noncomputable def n57_7 := codeAt B57 [1,1,1,0]
noncomputable def n57_8 := codeAt B57 [1,1,1,1]
noncomputable def n57_9 := codeAt B57 [1,1,1,1,0]
noncomputable def n57_10 := codeAt B57 [1,1,1,1,1]
noncomputable def n57_11 := codeAt B57 [1,1,1,1,1,0]
noncomputable def n57_12 := codeAt B57 [1,1,1,1,1,1]
noncomputable def n57_13 := codeAt B57 [1,1,1,1,1,1,0]
noncomputable def n57_14 := codeAt B57 [1,1,1,1,1,1,1]
theorem e57_0 : n57_0 = .seq n57_1 n57_2 := rfl
noncomputable def r57_1 := opsAt n57_1
theorem e57_1 : n57_1 = .region 0 (r57_1).toArray false := rfl
theorem e57_2 : n57_2 = .seq n57_3 n57_4 := rfl
noncomputable def r57_3 := opsAt n57_3
theorem e57_3 : n57_3 = .region 1 (r57_3).toArray false := rfl
theorem e57_4 : n57_4 = .seq n57_5 n57_6 := rfl
noncomputable def r57_5 := opsAt n57_5
theorem e57_5 : n57_5 = .region 2 (r57_5).toArray true := rfl
theorem a57_5 : anyOk r57_5 = true := by decide +kernel
theorem e57_6 : n57_6 = .seq n57_7 n57_8 := rfl
noncomputable def r57_7 := opsAt n57_7
theorem e57_7 : n57_7 = .region 3 (r57_7).toArray true := rfl
theorem a57_7 : anyOk r57_7 = true := by decide +kernel
theorem e57_8 : n57_8 = .seq n57_9 n57_10 := rfl
noncomputable def r57_9 := opsAt n57_9
theorem e57_9 : n57_9 = .region 4 (r57_9).toArray true := rfl
theorem a57_9 : anyOk r57_9 = true := by decide +kernel
theorem e57_10 : n57_10 = .seq n57_11 n57_12 := rfl
noncomputable def r57_11 := opsAt n57_11
theorem e57_11 : n57_11 = .region 5 (r57_11).toArray true := rfl
theorem a57_11 : anyOk r57_11 = true := by decide +kernel
theorem e57_12 : n57_12 = .seq n57_13 n57_14 := rfl
noncomputable def r57_13 := opsAt n57_13
theorem e57_13 : n57_13 = .region 6 (r57_13).toArray false := rfl
theorem e57_14 : n57_14 = .ret := rfl
theorem f_wide_double : StOk Try.prog 57 tDouble := by
  refine stOk_of (c := n57_0) (tab := tabOf []) (tabOf_ok (conOf_end)) mixed Try.func57 B57_eq (by decide +kernel) Try.call57 ?_
  intro args L hS
  unfold tDouble at hS ⊢
  split at hS
  rotate_left 1
  · exact hS.elim
  rename_i i x
  obtain ⟨hLC, hr, hx, hle⟩ := hS
  obtain ⟨n, ln, hL, en⟩ := rowU_out hr
  obtain ⟨x, lx, rfl⟩ := isul_out hx
  simp only [ulv_ul, mod_eq_of_lt lx] at hle
  dsimp only
  simp only [en, ulv_ul, mod_eq_of_lt lx]
  clear hr hx en
  refine ⟨by rw [Try.ntmps57]; simp, by simp, vC_sound ?_⟩
  simp only [entry_cons, entry_nil, reduceAdd]
  repeat' (first | (with_reducible first | apply seqC_normal | apply seqC_ret) | ((with_reducible apply wC_seq e57_0; apply wC_region e57_1); refine vOps_open (l := _ :: _) rfl ?_) | ((with_reducible apply wC_seq e57_2; apply wC_region e57_3); refine vOps_open (l := _ :: _) rfl ?_) | ((with_reducible apply wC_seq e57_4; apply wC_any e57_5 a57_5); refine vOps_open (l := _ :: _) rfl ?_) | ((with_reducible apply wC_seq e57_6; apply wC_any e57_7 a57_7); refine vOps_open (l := _ :: _) rfl ?_) | ((with_reducible apply wC_seq e57_8; apply wC_any e57_9 a57_9); refine vOps_open (l := _ :: _) rfl ?_) | ((with_reducible apply wC_seq e57_10; apply wC_any e57_11 a57_11); refine vOps_open (l := _ :: _) rfl ?_) | ((with_reducible apply wC_seq e57_12; apply wC_region e57_13); refine vOps_open (l := _ :: _) rfl ?_) | ((with_reducible apply wC_ret e57_14)) | ((with_reducible apply vOps_nil); try (with_reducible refine And.intro (by kernel_rfl) ?_)) | (refine kOps_gon (g := ?_) (p := ?_) rfl rfl ?_ ?_ ?_ ?_; rotate_left 2; fail; (exact rfl); (with_reducible rfl)) | (refine kOps_gofft (g := ?_) (p := ?_) rfl rfl ?_ ?_ ?_ ?_; rotate_left 2; fail; (exact rfl); (with_reducible rfl)) | (refine kOps_gofff (g := ?_) (p := ?_) rfl rfl ?_ ?_ ?_ ?_; rotate_left 2; fail; (exact rfl); (with_reducible rfl)) | (refine kOps_pickt rfl rfl rfl rfl ?_ rfl ?_; (with_reducible rfl)) | (refine kOps_pickf rfl rfl rfl rfl ?_ rfl ?_; (with_reducible rfl)) | (refine kOps_asc rfl rfl rfl lit_ul0 ?_) | (refine kOps_mv rfl rfl rfl rfl ?_) | (refine kOps_nilp (cs := ?_) rfl rfl rfl rfl ?_ ?_; rotate_left 1; (focus (first | rfl | exact hL | exact hL2 | exact set_get hL | exact (set_get_ne hij).trans hL2 | exact set_get (set_get hL)))) | ((first | (refine kOps_ixap (cs := ?_) (off' := ?_) rfl rfl rfl rfl rfl ?_ ty26 ty22 ?_ ?_ ?_; rotate_left 2; (focus (first | rfl | exact hL | exact hL2 | exact set_get hL | exact (set_get_ne hij).trans hL2 | exact set_get (set_get hL))); rotate_right 1; rotate_left 1; (simp only [cl4, Nat.reducePow, reduceMod, reduceDiv, zero_add, n_add_zero, mul_one, one_mul, toNat_natCast, reduceToNat, toNat_zero, reduceMul, reduceAdd]; rfl)) | (refine kOps_ixaq (cs' := ?_) rfl rfl rfl rfl rfl ty26 ty22 ?_ ?_ ?_; rotate_left 1; (simp only [cl4, Nat.reducePow, reduceMod, reduceDiv, elemAt, cast_ofNat_Int, min_self, drop_succ_cons, Int.reduceSub, getElem?_cons_zero, getElem?_cons_succ, getD_cons_zero, getD_cons_succ, getD_nil, drop_zero, take_succ_cons, take_zero, take_nil, length_cons, length_nil, set_cons_zero, set_cons_succ, zero_add, n_add_zero, mul_one, one_mul, reduceAdd, reduceMul, reduceSub, reduceLeDiff, reduceEqDiff, toNat_natCast, reduceToNat, toNat_zero, reduceIte, if_true, if_false, Bool.false_eq_true, isAggD, len_cl, take_cl, agg_cl, getD_bv, take_bytes, length_map, cons_append, nil_append, true_and, and_true, and_self]; rfl))); (focus ((repeat' apply And.intro) <;> first | exact True.intro | omega | (with_reducible rfl) | assumption | exact ⟨_, rfl⟩ | (simp only [sda, sdb, Value.oneCell', and_self]; done) | exact (isByte_bv _).2 trivial | exact one_bv _ | (simp [Value.oneCell', PV.one, one_bv, closedL_bv, flatL_bv, closedL, closed, isByte_bv, Value.cells, PV.cells, sda]; first | done | omega)))) | ((first | (refine kOps_loadp (cs := ?_) (pre := ?_) (val := ?_) rfl rfl rfl rfl ?_ ty22 ?_ ?_ ?_; rotate_left 3; (focus (first | rfl | exact hL | exact hL2 | exact set_get hL | exact (set_get_ne hij).trans hL2 | exact set_get (set_get hL))); rotate_right 2) | refine kOps_loadr (pre := ?_) (val := ?_) rfl rfl rfl rfl ty22 ?_ ?_ ?_); rotate_left 2; (simp only [cl4, Nat.reducePow, reduceMod, reduceDiv, partF, cast_ofNat_Int, min_self, drop_succ_cons, Int.reduceSub, getElem?_cons_zero, getElem?_cons_succ, getD_cons_zero, getD_cons_succ, getD_nil, drop_zero, take_succ_cons, take_zero, take_nil, length_cons, length_nil, set_cons_zero, set_cons_succ, zero_add, n_add_zero, mul_one, one_mul, reduceAdd, reduceMul, reduceSub, reduceLeDiff, reduceEqDiff, toNat_natCast, reduceToNat, toNat_zero, reduceIte, if_true, if_false, Bool.false_eq_true, isAggD, len_cl, take_cl, agg_cl, getD_bv, take_bytes, length_map, cons_append, nil_append, true_and, and_true, and_self]; rfl); (focus ((repeat' apply And.intro) <;> first | exact True.intro | omega | (with_reducible rfl) | assumption | exact ⟨_, rfl⟩ | (simp only [sda, sdb, Value.oneCell', and_self]; done) | exact (isByte_bv _).2 trivial | exact one_bv _ | (simp [Value.oneCell', PV.one, one_bv, closedL_bv, flatL_bv, closedL, closed, isByte_bv, Value.cells, PV.cells, sda]; first | done | omega)))) | (refine kOps_bin (b := .shr) (pre := ?_) (val := ?_) rfl rfl rfl rfl rfl ?_ ?_ ?_; rotate_left 2; (intro L; simp only [cl4, Nat.reducePow, reduceMod, reduceDiv, or_dbl, or_one hle, mod_eq_of_lt lx, eql_u4 ty26 ty22, neq_u4 ty26 ty22, lit_ul0, lit_ul1, lc_63, shr_z, shr_ul, binF_shr, Int.reduceAdd, Int.reduceSub, Int.reduceMul, Int.reduceNeg, Int.sub_zero, cast_ofNat_Int, ne_eq, Int.reduceLT, Int.reduceLE, Int.reduceEq, Nat.reduceLT, decide_true, decide_false, ty22]; (first | (rw [wrap_i64] <;> first | omega | rfl) | (rw [wrap_u8] <;> first | omega | rfl) | (rw [wrap_u16] <;> first | omega | rfl) | (rw [wrap_u32] <;> first | omega | rfl) | rfl)); (focus ((repeat' apply And.intro) <;> first | exact True.intro | omega | (with_reducible rfl) | assumption | exact ⟨_, rfl⟩ | (simp only [sda, sdb, Value.oneCell', and_self]; done) | exact (isByte_bv _).2 trivial | exact one_bv _ | (simp [Value.oneCell', PV.one, one_bv, closedL_bv, flatL_bv, closedL, closed, isByte_bv, Value.cells, PV.cells, sda]; first | done | omega)))) | (refine kOps_as rfl rfl rfl rfl ?_) | (refine kOps_bin (b := .shl) (pre := ?_) (val := ?_) rfl rfl rfl rfl rfl ?_ ?_ ?_; rotate_left 2; (intro L; simp only [cl4, Nat.reducePow, reduceMod, reduceDiv, or_dbl, or_one hle, mod_eq_of_lt lx, eql_u4 ty26 ty22, neq_u4 ty26 ty22, lit_ul0, lit_ul1, lc_63, shl_z, shl_ul, binF_shl, Int.reduceAdd, Int.reduceSub, Int.reduceMul, Int.reduceNeg, Int.sub_zero, cast_ofNat_Int, ne_eq, Int.reduceLT, Int.reduceLE, Int.reduceEq, Nat.reduceLT, decide_true, decide_false, ty22]; (first | (rw [wrap_i64] <;> first | omega | rfl) | (rw [wrap_u8] <;> first | omega | rfl) | (rw [wrap_u16] <;> first | omega | rfl) | (rw [wrap_u32] <;> first | omega | rfl) | rfl)); (focus ((repeat' apply And.intro) <;> first | exact True.intro | omega | (with_reducible rfl) | assumption | exact ⟨_, rfl⟩ | (simp only [sda, sdb, Value.oneCell', and_self]; done) | exact (isByte_bv _).2 trivial | exact one_bv _ | (simp [Value.oneCell', PV.one, one_bv, closedL_bv, flatL_bv, closedL, closed, isByte_bv, Value.cells, PV.cells, sda]; first | done | omega)))) | (refine kOps_bin (b := .or) (pre := ?_) (val := ?_) rfl rfl rfl rfl rfl ?_ ?_ ?_; rotate_left 2; (intro L; simp only [cl4, Nat.reducePow, reduceMod, reduceDiv, or_dbl, or_one hle, mod_eq_of_lt lx, eql_u4 ty26 ty22, neq_u4 ty26 ty22, lit_ul0, lit_ul1, lc_63, or_ul, binF_or, Int.reduceAdd, Int.reduceSub, Int.reduceMul, Int.reduceNeg, Int.sub_zero, cast_ofNat_Int, ne_eq, Int.reduceLT, Int.reduceLE, Int.reduceEq, Nat.reduceLT, decide_true, decide_false, ty22]; (first | (rw [wrap_i64] <;> first | omega | rfl) | (rw [wrap_u8] <;> first | omega | rfl) | (rw [wrap_u16] <;> first | omega | rfl) | (rw [wrap_u32] <;> first | omega | rfl) | rfl)); exact trivial) | (refine kOps_storeS (cs := ?_) (cs' := ?_) (L2 := ?_) rfl rfl rfl rfl rfl rfl ?_ ty22 ?_ ?_ ?_ ?_; rotate_left 3; (focus (first | rfl | exact hL | exact hL2 | exact set_get hL | exact (set_get_ne hij).trans hL2 | exact set_get (set_get hL))); (simp only [cl4, Nat.reducePow, reduceMod, reduceDiv, lit_ul0, lit_ul1, lc_63, splice, cells_ul, cells_u4, cells_agg, cells_int, cells_bool, cells_string, cells_slice, cells_ro, cells_rptr, cast_ofNat_Int, min_self, drop_succ_cons, Int.reduceSub, getElem?_cons_zero, getElem?_cons_succ, getD_cons_zero, getD_cons_succ, getD_nil, drop_zero, take_succ_cons, take_zero, take_nil, length_cons, length_nil, set_cons_zero, set_cons_succ, zero_add, n_add_zero, mul_one, one_mul, reduceAdd, reduceMul, reduceSub, reduceLeDiff, reduceEqDiff, toNat_natCast, reduceToNat, toNat_zero, reduceIte, if_true, if_false, Bool.false_eq_true, isAggD, len_cl, take_cl, agg_cl, getD_bv, take_bytes, length_map, cons_append, nil_append, true_and, and_true, and_self]; rfl); (first | exact set_set' | (simp only [set_cons_zero, set_cons_succ]; rfl) | rfl); (focus (first | (simp only [lit_ul0, lit_ul1, lc_63, cells_ul, cells_u4, cells_agg, cells_int, cells_bool, cells_string, cells_slice, cells_ro, cells_rptr, length_cons, length_nil, len_cl, List.length_set, length_map, reduceAdd, zero_add, List.all_cons, List.all_nil, one_ul, one_cl, one_bv, PV.one, Value.oneCell', Bool.and_self, reduceLeDiff, Nat.le_refl, and_self, true_and, and_true]; done) | ((try simp only [lit_ul0, lit_ul1, lc_63, cells_ul, cells_u4, cells_agg, cells_int, cells_bool, cells_string, cells_slice, cells_ro, cells_rptr]); (focus ((repeat' apply And.intro) <;> first | exact True.intro | omega | (with_reducible rfl) | assumption | exact ⟨_, rfl⟩ | (simp only [sda, sdb, Value.oneCell', and_self]; done) | exact (isByte_bv _).2 trivial | exact one_bv _ | (simp [Value.oneCell', PV.one, one_bv, closedL_bv, flatL_bv, closedL, closed, isByte_bv, Value.cells, PV.cells, sda]; first | done | omega))))))) | (refine vOps_gundef rfl rfl ?_ ?_; (focus (simp only [lookup_cons, Nat.reduceBEq, cond_true, cond_false]; done)); simp only [putIn]) | (refine vOps_gpick (t := ?_) (val := ?_) rfl rfl ?_ rfl rfl ?_ ?_ ?_; rotate_left 2; (focus (simp only [lookup_cons, Nat.reduceBEq, cond_true, cond_false]; done)); (simp only [evalIn_tmp, evalIn_const, lookup_cons, Nat.reduceBEq, cond_true, cond_false]; rfl); (simp only [evalIn_tmp, evalIn_const, lookup_cons, Nat.reduceBEq, cond_true, cond_false]; rfl)) | (refine vOps_pick (t := ?_) (val := ?_) rfl rfl rfl ?_ ?_ ?_; rotate_left 2; (simp only [evalIn_tmp, evalIn_const, lookup_cons, Nat.reduceBEq, cond_true, cond_false]; rfl); (simp only [evalIn_tmp, evalIn_const, lookup_cons, Nat.reduceBEq, cond_true, cond_false]; rfl)) | (refine vOps_fork (b := ?_) rfl rfl ?_ ?_ ?_; rotate_left 1; (simp only [lookup_cons, Nat.reduceBEq, cond_true, cond_false]; rfl); all_goals (intro hb; simp only [hb]; (try simp only [decide_eq_true_eq, decide_eq_false_iff_not] at hb); try (exfalso; first | omega | exact hb trivial))) | (refine vOps_forkp (b := ?_) rfl ?_ ?_ ?_; rotate_left 1; (simp only [evalIn_tmp, lookup_cons, Nat.reduceBEq, cond_true, cond_false]; rfl); all_goals (intro hb; simp only [hb]; (try simp only [decide_eq_true_eq, decide_eq_false_iff_not] at hb); try (exfalso; first | omega | exact hb trivial))))
  refine fin_s (p := ?_) (xs := [.tmp 4]) (by simp) rfl ?_ ?_ ?_ ?_ ?_ ?_
  rotate_left 2
  · simp only [rsx, List.map_cons, List.map_nil, cl4, Nat.reducePow, reduceMod, reduceDiv, evalIn_tmp, evalIn_const, evalIn_func, lookup_cons, Nat.reduceBEq, cond_true, cond_false, lit_ul0, lit_ul1, lc_63, loadF, partF, cast_ofNat_Int, min_self, drop_succ_cons, Int.reduceSub, getElem?_cons_zero, getElem?_cons_succ, getD_cons_zero, getD_cons_succ, getD_nil, drop_zero, take_succ_cons, take_zero, take_nil, length_cons, length_nil, set_cons_zero, set_cons_succ, zero_add, n_add_zero, mul_one, one_mul, reduceAdd, reduceMul, reduceSub, reduceLeDiff, reduceEqDiff, toNat_natCast, reduceToNat, toNat_zero, reduceIte, if_true, if_false, Bool.false_eq_true, isAggD, len_cl, take_cl, agg_cl, getD_bv, take_bytes, length_map, cons_append, nil_append, true_and, and_true, and_self, ty22, ty26]; try rfl
  · first | rfl | (simp only [closed, closedL, closed_u4, closed_ul, closedL_cl, closedL_bv, Bool.and_self, Bool.and_true]; first | done | rfl)
  · exact ul_congr (by omega)
  · rw [list4 (n := 2 * n + x) (by omega)]; exact take_same
  · exact LC_set (closedL_cl _ _) hLC
  · simp only [rsx, List.map_cons, List.map_nil, cl4, Nat.reducePow, reduceMod, reduceDiv, evalIn_tmp, evalIn_const, evalIn_func, lookup_cons, Nat.reduceBEq, cond_true, cond_false, lit_ul0, lit_ul1, lc_63, loadF, partF, cast_ofNat_Int, min_self, drop_succ_cons, Int.reduceSub, getElem?_cons_zero, getElem?_cons_succ, getD_cons_zero, getD_cons_succ, getD_nil, drop_zero, take_succ_cons, take_zero, take_nil, length_cons, length_nil, set_cons_zero, set_cons_succ, zero_add, n_add_zero, mul_one, one_mul, reduceAdd, reduceMul, reduceSub, reduceLeDiff, reduceEqDiff, toNat_natCast, reduceToNat, toNat_zero, reduceIte, if_true, if_false, Bool.false_eq_true, isAggD, len_cl, take_cl, agg_cl, getD_bv, take_bytes, length_map, cons_append, nil_append, true_and, and_true, and_self, ty22, ty26]; try trivial
end Go.Ab
