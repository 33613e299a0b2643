import Derived.Test.YtaofjdaclnagnaaMG
import Derived.Test.YtaofjdaclnagnaaTY
import Derived.Test.YtaofjdaclnagnaaMX
namespace Go.Ab
open Go Go.Proofs
set_option linter.unusedVariables false
set_option linter.unusedSimpArgs false
set_option maxRecDepth 8000
set_option maxHeartbeats 4000000

noncomputable def B62 : Code := bodyOf Try.f62
theorem B62_eq : Try.f62.body = some B62 := by kernel_rfl
noncomputable def n62_0 : Code := B62
noncomputable def n62_1 : Code := codeAt B62 [0]
noncomputable def n62_2 : Code := codeAt B62 [1]
noncomputable def n62_3 : Code := codeAt B62 [1,0]
noncomputable def n62_4 : Code := codeAt B62 [1,0,0]
noncomputable def n62_5 : Code := codeAt B62 [1,0,1]
noncomputable def n62_6 : Code := codeAt B62 [1,0,1,0]
noncomputable def n62_7 : Code := codeAt B62 [1,0,1,0,0]
noncomputable def n62_8 : Code := codeAt B62 [1,0,1,0,1]
noncomputable def n62_9 : Code := codeAt B62 [1,0,1,1]
noncomputable def n62_10 : Code := codeAt B62 [1,1]
noncomputable def n62_11 : Code := codeAt B62 [1,1,0]
noncomputable def n62_12 : Code := codeAt B62 [1,1,0,0]
noncomputable def n62_13 : Code := codeAt B62 [1,1,0,1]
noncomputable def n62_14 : Code := codeAt B62 [1,1,0,1,0]
noncomputable def n62_15 : Code := codeAt B62 [1,1,0,1,0,0]
noncomputable def n62_16 : Code := codeAt B62 [1,1,0,1,0,1]
noncomputable def n62_17 : Code := codeAt B62 [1,1,0,1,1]
noncomputable def n62_18 : Code := codeAt B62 [1,1,1]
noncomputable def n62_19 : Code := codeAt B62 [1,1,1,0]
noncomputable def n62_20 : Code := codeAt B62 [1,1,1,0,0]
noncomputable def n62_21 : Code := codeAt B62 [1,1,1,0,1]
noncomputable def n62_22 : Code := codeAt B62 [1,1,1,0,1,0]
noncomputable def n62_23 : Code := codeAt B62 [1,1,1,0,1,0,0]
noncomputable def n62_24 : Code := codeAt B62 [1,1,1,0,1,0,1]
noncomputable def n62_25 : Code := codeAt B62 [1,1,1,0,1,1]
noncomputable def n62_26 : Code := codeAt B62 [1,1,1,1]
noncomputable def n62_27 : Code := codeAt B62 [1,1,1,1,0]
noncomputable def n62_28 : Code := codeAt B62 [1,1,1,1,1]
theorem e62_0 : n62_0 = .seq n62_1 n62_2 := rfl
noncomputable def r62_1 := opsAt n62_1
theorem e62_1 : n62_1 = .region 0 (r62_1).toArray false := rfl
theorem e62_2 : n62_2 = .seq n62_3 n62_10 := rfl
theorem e62_3 : n62_3 = .seq n62_4 n62_5 := rfl
noncomputable def r62_4 := opsAt n62_4
theorem e62_4 : n62_4 = .region 1 (r62_4).toArray false := rfl
theorem e62_5 : n62_5 = .cond (.tmp 4) n62_6 n62_9 := rfl
theorem e62_6 : n62_6 = .seq n62_7 n62_8 := rfl
noncomputable def r62_7 := opsAt n62_7
theorem e62_7 : n62_7 = .region 2 (r62_7).toArray false := rfl
noncomputable def r62_8 := opsAt n62_8
theorem e62_8 : n62_8 = .region 3 (r62_8).toArray false := rfl
theorem e62_9 : n62_9 = .skip := rfl
theorem e62_10 : n62_10 = .seq n62_11 n62_18 := rfl
theorem e62_11 : n62_11 = .seq n62_12 n62_13 := rfl
noncomputable def r62_12 := opsAt n62_12
theorem e62_12 : n62_12 = .region 4 (r62_12).toArray false := rfl
theorem e62_13 : n62_13 = .cond (.tmp 8) n62_14 n62_17 := rfl
theorem e62_14 : n62_14 = .seq n62_15 n62_16 := rfl
noncomputable def r62_15 := opsAt n62_15
theorem e62_15 : n62_15 = .region 5 (r62_15).toArray false := rfl
noncomputable def r62_16 := opsAt n62_16
theorem e62_16 : n62_16 = .region 6 (r62_16).toArray false := rfl
theorem e62_17 : n62_17 = .skip := rfl
theorem e62_18 : n62_18 = .seq n62_19 n62_26 := rfl
theorem e62_19 : n62_19 = .seq n62_20 n62_21 := rfl
noncomputable def r62_20 := opsAt n62_20
theorem e62_20 : n62_20 = .region 7 (r62_20).toArray false := rfl
theorem e62_21 : n62_21 = .cond (.tmp 14) n62_22 n62_25 := rfl
theorem e62_22 : n62_22 = .seq n62_23 n62_24 := rfl
noncomputable def r62_23 := opsAt n62_23
theorem e62_23 : n62_23 = .region 8 (r62_23).toArray false := rfl
noncomputable def r62_24 := opsAt n62_24
theorem e62_24 : n62_24 = .region 9 (r62_24).toArray false := rfl
theorem e62_25 : n62_25 = .skip := rfl
theorem e62_26 : n62_26 = .seq n62_27 n62_28 := rfl
noncomputable def r62_27 := opsAt n62_27
theorem e62_27 : n62_27 = .region 10 (r62_27).toArray false := rfl
theorem e62_28 : n62_28 = .ret := rfl
theorem f_bits_Len64 : PureOk Try.prog 62 sLen64 := by
  refine pureOk_of (c := n62_0) (Γ := conOf []) (conOf_ok (conOf_end)) mixed Try.func62 B62_eq (by decide +kernel) Try.call62 ?_
  intro args hS
  unfold sLen64 at hS ⊢
  split at hS
  · refine ⟨by rw [Try.ntmps62]; simp, vC_sound ?_⟩
    rename_i x
    obtain ⟨a, la, rfl⟩ := isul_out hS
    simp only [ulv_ul, Nat.mod_eq_of_lt la]
    clear hS
    simp only [entry_cons, entry_nil, Nat.reduceAdd]
    have d0 : a / 4294967296 % 18446744073709551616 = a / 4294967296 := Nat.mod_eq_of_lt (by omega)
    have d1 : a / 65536 % 18446744073709551616 = a / 65536 := Nat.mod_eq_of_lt (by omega)
    have d2 : a / 256 % 18446744073709551616 = a / 256 := Nat.mod_eq_of_lt (by omega)
    have d3 : a / 4294967296 / 65536 % 18446744073709551616 = a / 4294967296 / 65536 := Nat.mod_eq_of_lt (by omega)
    have d4 : a / 4294967296 / 256 % 18446744073709551616 = a / 4294967296 / 256 := Nat.mod_eq_of_lt (by omega)
    have d5 : a / 65536 / 256 % 18446744073709551616 = a / 65536 / 256 := Nat.mod_eq_of_lt (by omega)
    have d6 : a / 4294967296 / 65536 / 256 % 18446744073709551616 = a / 4294967296 / 65536 / 256 := Nat.mod_eq_of_lt (by omega)
    repeat' (first
      | (with_reducible first | apply seqC_normal | apply seqC_ret)
      | ((with_reducible apply wC_seq e62_0; apply wC_region e62_1); refine vOps_open (l := _ :: _) rfl ?_)
      | ((with_reducible apply wC_seq e62_2; apply wC_seq e62_3; apply wC_region e62_4); refine vOps_open (l := _ :: _) rfl ?_)
      | ((with_reducible apply kC_cond e62_5); (exact rfl); all_goals (intro hb; first | (cases hb; done) | cases hb | ((try simp only [decide_eq_true_eq, decide_eq_false_iff_not, Bool.not_eq_true', Bool.not_eq_false'] at hb); try (exfalso; first | omega | exact hb trivial))))
      | ((with_reducible apply wC_seq e62_6; apply wC_region e62_7); refine vOps_open (l := _ :: _) rfl ?_)
      | ((with_reducible apply wC_region e62_8); refine vOps_open (l := _ :: _) rfl ?_)
      | ((with_reducible apply wC_skip e62_9))
      | ((with_reducible apply wC_seq e62_10; apply wC_seq e62_11; apply wC_region e62_12); refine vOps_open (l := _ :: _) rfl ?_)
      | ((with_reducible apply kC_cond e62_13); (exact rfl); all_goals (intro hb; first | (cases hb; done) | cases hb | ((try simp only [decide_eq_true_eq, decide_eq_false_iff_not, Bool.not_eq_true', Bool.not_eq_false'] at hb); try (exfalso; first | omega | exact hb trivial))))
      | ((with_reducible apply wC_seq e62_14; apply wC_region e62_15); refine vOps_open (l := _ :: _) rfl ?_)
      | ((with_reducible apply wC_region e62_16); refine vOps_open (l := _ :: _) rfl ?_)
      | ((with_reducible apply wC_skip e62_17))
      | ((with_reducible apply wC_seq e62_18; apply wC_seq e62_19; apply wC_region e62_20); refine vOps_open (l := _ :: _) rfl ?_)
      | ((with_reducible apply kC_cond e62_21); (exact rfl); all_goals (intro hb; first | (cases hb; done) | cases hb | ((try simp only [decide_eq_true_eq, decide_eq_false_iff_not, Bool.not_eq_true', Bool.not_eq_false'] at hb); try (exfalso; first | omega | exact hb trivial))))
      | ((with_reducible apply wC_seq e62_22; apply wC_region e62_23); refine vOps_open (l := _ :: _) rfl ?_)
      | ((with_reducible apply wC_region e62_24); refine vOps_open (l := _ :: _) rfl ?_)
      | ((with_reducible apply wC_skip e62_25))
      | ((with_reducible apply wC_seq e62_26; apply wC_region e62_27); refine vOps_open (l := _ :: _) rfl ?_)
      | ((with_reducible apply wC_ret e62_28))
      | ((with_reducible apply vOps_nil); try (with_reducible refine And.intro (by kernel_rfl) ?_))
      | (refine kOps_gon (g := ?_) (p := ?_) rfl rfl ?_ ?_ ?_ ?_; rotate_left 2; fail; (exact rfl); (with_reducible rfl))
      | (refine kOps_gofft (g := ?_) (p := ?_) rfl rfl ?_ ?_ ?_ ?_; rotate_left 2; fail; (exact rfl); (with_reducible rfl))
      | (refine kOps_gofff (g := ?_) (p := ?_) rfl rfl ?_ ?_ ?_ ?_; rotate_left 2; fail; (exact rfl); (with_reducible rfl))
      | (refine kOps_pickt rfl rfl rfl rfl ?_ rfl ?_; (with_reducible rfl))
      | (refine kOps_pickf rfl rfl rfl rfl ?_ rfl ?_; (with_reducible rfl))
      | (refine kOps_as rfl rfl rfl rfl ?_)
      | (refine kOps_mv rfl rfl rfl rfl ?_)
      | (refine kOps_bin (b := .geq) (pre := ?_) (val := ?_) rfl rfl rfl rfl rfl ?_ ?_ ?_; rotate_left 2; (intro L; simp only [Nat.reducePow, Nat.reduceMod, Nat.mod_eq_of_lt la, d0, d1, d2, d3, d4, d5, d6, UInt8.toNat_ofNat', wrap_m256, lit_ul0, lit_ul1, lc_8, lc_16, lc_32, lc_256, lc_65536, lc_4294967296, geq_ul, binF_geq, Int.reduceAdd, Int.reduceSub, Int.reduceMul, Int.reduceNeg, Int.sub_zero, Int.cast_ofNat_Int, ne_eq, Int.reduceLT, Int.reduceLE, Int.reduceEq, Nat.reduceLT, decide_true, decide_false, ty23]; (first | (rw [wrap_i64] <;> first | omega | rfl) | (rw [wrap_u8] <;> first | omega | rfl) | (rw [wrap_u16] <;> first | omega | rfl) | (rw [wrap_u32] <;> first | omega | rfl) | rfl)); exact trivial)
      | (refine kOps_bin (b := .shr) (pre := ?_) (val := ?_) rfl rfl rfl rfl rfl ?_ ?_ ?_; rotate_left 2; (intro L; simp only [Nat.reducePow, Nat.reduceMod, Nat.mod_eq_of_lt la, d0, d1, d2, d3, d4, d5, d6, UInt8.toNat_ofNat', wrap_m256, lit_ul0, lit_ul1, lc_8, lc_16, lc_32, lc_256, lc_65536, lc_4294967296, shr_z, shr_ul, binF_shr, Int.reduceAdd, Int.reduceSub, Int.reduceMul, Int.reduceNeg, Int.sub_zero, Int.cast_ofNat_Int, ne_eq, Int.reduceLT, Int.reduceLE, Int.reduceEq, Nat.reduceLT, decide_true, decide_false, ty23]; (first | (rw [wrap_i64] <;> first | omega | rfl) | (rw [wrap_u8] <;> first | omega | rfl) | (rw [wrap_u16] <;> first | omega | rfl) | (rw [wrap_u32] <;> first | omega | rfl) | rfl)); (focus ((repeat' apply And.intro) <;> first | exact True.intro | omega | (with_reducible rfl) | assumption | exact one_bv _ | exact ⟨_, rfl⟩ | (simp [PV.one, one_bv, PV.cells, Value.cells, Value.oneCell']; done))))
      | (refine kOps_bin (b := .add) (pre := ?_) (val := ?_) rfl rfl rfl rfl rfl ?_ ?_ ?_; rotate_left 2; (intro L; simp only [Nat.reducePow, Nat.reduceMod, Nat.mod_eq_of_lt la, d0, d1, d2, d3, d4, d5, d6, UInt8.toNat_ofNat', wrap_m256, lit_ul0, lit_ul1, lc_8, lc_16, lc_32, lc_256, lc_65536, lc_4294967296, add_ul, binF_add, Int.reduceAdd, Int.reduceSub, Int.reduceMul, Int.reduceNeg, Int.sub_zero, Int.cast_ofNat_Int, ne_eq, Int.reduceLT, Int.reduceLE, Int.reduceEq, Nat.reduceLT, decide_true, decide_false, ty3]; (first | (rw [wrap_i64] <;> first | omega | rfl) | (rw [wrap_u8] <;> first | omega | rfl) | (rw [wrap_u16] <;> first | omega | rfl) | (rw [wrap_u32] <;> first | omega | rfl) | rfl)); exact trivial)
      | (refine kOps_conv (s := 23) (t := 5) (pre := ?_) (val := ?_) rfl rfl rfl rfl ?_ ?_ ?_; rotate_left 2; (intro L; simp only [Nat.reducePow, Nat.reduceMod, Nat.mod_eq_of_lt la, d0, d1, d2, d3, d4, d5, d6, UInt8.toNat_ofNat', wrap_m256, cv_23_5, cw_23_5]; first | rfl | (first | (rw [wrap_i64] <;> first | omega | rfl) | (rw [wrap_u8] <;> first | omega | rfl) | (rw [wrap_u16] <;> first | omega | rfl) | (rw [wrap_u32] <;> first | omega | rfl) | rfl)); exact trivial)
      | (refine kOps_ix (pre := ?_) (val := ?_) rfl rfl rfl rfl rfl ?_ ?_ ?_; rotate_left 2; (intro L; refine idx_tab ty9 ?_ ?_ _; (decide +kernel); (decide +kernel)); exact trivial)
      | (refine kOps_conv (s := 5) (t := 3) (pre := ?_) (val := ?_) rfl rfl rfl rfl ?_ ?_ ?_; rotate_left 2; (intro L; simp only [Nat.reducePow, Nat.reduceMod, Nat.mod_eq_of_lt la, d0, d1, d2, d3, d4, d5, d6, UInt8.toNat_ofNat', wrap_m256, cv_5_3, cw_5_3]; first | rfl | (first | (rw [wrap_i64] <;> first | omega | rfl) | (rw [wrap_u8] <;> first | omega | rfl) | (rw [wrap_u16] <;> first | omega | rfl) | (rw [wrap_u32] <;> first | omega | rfl) | rfl)); exact trivial)
      | (refine vOps_gundef rfl rfl ?_ ?_; (focus (simp only [lookup_cons, Nat.reduceBEq, cond_true, cond_false]; done)); simp only [putIn])
      | (refine vOps_gpick (t := ?_) (val := ?_) rfl rfl ?_ rfl rfl ?_ ?_ ?_; rotate_left 2; (focus (simp only [lookup_cons, Nat.reduceBEq, cond_true, cond_false]; done)); (simp only [evalIn_tmp, evalIn_const, lookup_cons, Nat.reduceBEq, cond_true, cond_false]; rfl); (simp only [evalIn_tmp, evalIn_const, lookup_cons, Nat.reduceBEq, cond_true, cond_false]; rfl))
      | (refine vOps_pick (t := ?_) (val := ?_) rfl rfl rfl ?_ ?_ ?_; rotate_left 2; (simp only [evalIn_tmp, evalIn_const, lookup_cons, Nat.reduceBEq, cond_true, cond_false]; rfl); (simp only [evalIn_tmp, evalIn_const, lookup_cons, Nat.reduceBEq, cond_true, cond_false]; rfl))
      | (refine vOps_fork (b := ?_) rfl rfl ?_ ?_ ?_; rotate_left 1; (simp only [lookup_cons, Nat.reduceBEq, cond_true, cond_false]; rfl); all_goals (intro hb; simp only [hb]; (try simp only [decide_eq_true_eq, decide_eq_false_iff_not] at hb); try (exfalso; first | omega | exact hb trivial)))
      | (refine vOps_forkp (b := ?_) rfl ?_ ?_ ?_; rotate_left 1; (simp only [evalIn_tmp, lookup_cons, Nat.reduceBEq, cond_true, cond_false]; rfl); all_goals (intro hb; simp only [hb]; (try simp only [decide_eq_true_eq, decide_eq_false_iff_not] at hb); try (exfalso; first | omega | exact hb trivial))))
    all_goals (
      refine fin_c (p := ?_) (xs := [.tmp 2]) (by simp) rfl ?_ ?_ ?_ ?_
      rotate_left 2
      · simp only [resAll_cons, resAll_nil, resPVl_0, resPVl_1, resPVl_2, resOne_tmp, resOne_cell, List.map_cons, List.map_nil, Nat.reducePow, Nat.reduceMod, Nat.mod_eq_of_lt la, d0, d1, d2, d3, d4, d5, d6, UInt8.toNat_ofNat', wrap_m256, evalIn_tmp, evalIn_const, evalIn_func, lookup_cons, Nat.reduceBEq, cond_true, cond_false, lit_ul0, lit_ul1, lc_8, lc_16, lc_32, lc_256, lc_65536, lc_4294967296, loadF, partF, Int.cast_ofNat_Int, Nat.min_self, List.drop_succ_cons, Int.reduceSub, List.getElem?_cons_zero, List.getElem?_cons_succ, List.getD_cons_zero, List.getD_cons_succ, List.getD_nil, List.drop_zero, List.take_succ_cons, List.take_zero, List.take_nil, List.length_cons, List.length_nil, List.set_cons_zero, List.set_cons_succ, Nat.zero_add, n_add_zero, Nat.mul_one, Nat.one_mul, Nat.reduceAdd, Nat.reduceMul, Nat.reduceSub, Nat.reduceLeDiff, Nat.reduceEqDiff, Int.toNat_natCast, Int.reduceToNat, Int.toNat_zero, reduceIte, if_true, if_false, Bool.false_eq_true, isAggD, len_cl, take_cl, agg_cl, getD_bv, take_bytes, List.length_map, List.cons_append, List.nil_append, true_and, and_true, and_self, ty3, ty5, ty9, ty23]; try rfl
      · first | (with_reducible rfl) | (simp only [closed, closedL, closed_u4, closed_ul, closed_uw, closed_sv, closedL_bv, closedL_wr, Bool.and_self, Bool.and_true]; done) | (simp only [closed, closedL, closed_u4, closed_ul, closed_uw, closed_sv, closedL_bv, closedL_wr, Bool.and_self, Bool.and_true]; rfl)
      · refine int_eq ?_
        first
          | (rw [blen_0 (a := a / 4294967296 / 65536 / 256) (by omega), blen_32 (a := a) (by omega), blen_16 (a := a / 4294967296) (by omega), blen_8 (a := a / 4294967296 / 65536) (by omega)]; omega)
          | (rw [blen_0 (a := a / 4294967296 / 65536) (by omega), blen_32 (a := a) (by omega), blen_16 (a := a / 4294967296) (by omega)]; omega)
          | (rw [blen_0 (a := a / 4294967296 / 256) (by omega), blen_32 (a := a) (by omega), blen_8 (a := a / 4294967296) (by omega)]; omega)
          | (rw [blen_0 (a := a / 4294967296) (by omega), blen_32 (a := a) (by omega)]; omega)
          | (rw [blen_0 (a := a / 65536 / 256) (by omega), blen_16 (a := a) (by omega), blen_8 (a := a / 65536) (by omega)]; omega)
          | (rw [blen_0 (a := a / 65536) (by omega), blen_16 (a := a) (by omega)]; omega)
          | (rw [blen_0 (a := a / 256) (by omega), blen_8 (a := a) (by omega)]; omega)
          | (rw [blen_0 (a := a) (by omega)]; omega)
      · simp only [resAll_cons, resAll_nil, resPVl_0, resPVl_1, resPVl_2, resOne_tmp, resOne_cell, List.map_cons, List.map_nil, Nat.reducePow, Nat.reduceMod, Nat.mod_eq_of_lt la, d0, d1, d2, d3, d4, d5, d6, UInt8.toNat_ofNat', wrap_m256, evalIn_tmp, evalIn_const, evalIn_func, lookup_cons, Nat.reduceBEq, cond_true, cond_false, lit_ul0, lit_ul1, lc_8, lc_16, lc_32, lc_256, lc_65536, lc_4294967296, loadF, partF, Int.cast_ofNat_Int, Nat.min_self, List.drop_succ_cons, Int.reduceSub, List.getElem?_cons_zero, List.getElem?_cons_succ, List.getD_cons_zero, List.getD_cons_succ, List.getD_nil, List.drop_zero, List.take_succ_cons, List.take_zero, List.take_nil, List.length_cons, List.length_nil, List.set_cons_zero, List.set_cons_succ, Nat.zero_add, n_add_zero, Nat.mul_one, Nat.one_mul, Nat.reduceAdd, Nat.reduceMul, Nat.reduceSub, Nat.reduceLeDiff, Nat.reduceEqDiff, Int.toNat_natCast, Int.reduceToNat, Int.toNat_zero, reduceIte, if_true, if_false, Bool.false_eq_true, isAggD, len_cl, take_cl, agg_cl, getD_bv, take_bytes, List.length_map, List.cons_append, List.nil_append, true_and, and_true, and_self, ty3, ty5, ty9, ty23]; try trivial)
  · exact hS.elim
end Go.Ab
