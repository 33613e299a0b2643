import Derived.Test.YtgknomjgpkpjdaaME
import Derived.Test.YtgknomjgpkpjdaaTY
import Derived.Test.YtgknomjgpkpjdaaMI
namespace Go.Ab
open Go Go.Proofs
set_option linter.unusedVariables false
set_option linter.unusedSimpArgs false
set_option maxRecDepth 8000
set_option maxHeartbeats 4000000

noncomputable def B51 : Code := bodyOf Try.f51
theorem B51_eq : Try.f51.body = some B51 := by kernel_rfl
noncomputable def n51_0 : Code := B51
noncomputable def n51_1 : Code := codeAt B51 [0]
noncomputable def n51_2 : Code := codeAt B51 [1]
noncomputable def n51_3 : Code := codeAt B51 [1,0]
noncomputable def n51_4 : Code := codeAt B51 [1,0,0]
noncomputable def n51_5 : Code := codeAt B51 [1,0,1]
noncomputable def n51_6 : Code := codeAt B51 [1,0,1,0]
noncomputable def n51_7 : Code := codeAt B51 [1,0,1,0,0]
noncomputable def n51_8 : Code := codeAt B51 [1,0,1,0,1]
noncomputable def n51_9 : Code := codeAt B51 [1,0,1,1]
noncomputable def n51_10 : Code := codeAt B51 [1,1]
noncomputable def n51_11 : Code := codeAt B51 [1,1,0]
noncomputable def n51_12 : Code := codeAt B51 [1,1,0,0]
noncomputable def n51_13 : Code := codeAt B51 [1,1,0,1]
noncomputable def n51_14 : Code := codeAt B51 [1,1,0,1,0]
noncomputable def n51_15 : Code := codeAt B51 [1,1,0,1,0,0]
noncomputable def n51_16 : Code := codeAt B51 [1,1,0,1,0,1]
noncomputable def n51_17 : Code := codeAt B51 [1,1,0,1,1]
noncomputable def n51_18 : Code := codeAt B51 [1,1,1]
noncomputable def n51_19 : Code := codeAt B51 [1,1,1,0]
noncomputable def n51_20 : Code := codeAt B51 [1,1,1,0,0]
noncomputable def n51_21 : Code := codeAt B51 [1,1,1,0,1]
noncomputable def n51_22 : Code := codeAt B51 [1,1,1,0,1,0]
noncomputable def n51_23 : Code := codeAt B51 [1,1,1,0,1,0,0]
noncomputable def n51_24 : Code := codeAt B51 [1,1,1,0,1,0,1]
noncomputable def n51_25 : Code := codeAt B51 [1,1,1,0,1,1]
noncomputable def n51_26 : Code := codeAt B51 [1,1,1,1]
noncomputable def n51_27 : Code := codeAt B51 [1,1,1,1,0]
noncomputable def n51_28 : Code := codeAt B51 [1,1,1,1,1]
theorem e51_0 : n51_0 = .seq n51_1 n51_2 := rfl
noncomputable def r51_1 := opsAt n51_1
theorem e51_1 : n51_1 = .region 0 (r51_1).toArray false := rfl
theorem e51_2 : n51_2 = .seq n51_3 n51_10 := rfl
theorem e51_3 : n51_3 = .seq n51_4 n51_5 := rfl
noncomputable def r51_4 := opsAt n51_4
theorem e51_4 : n51_4 = .region 1 (r51_4).toArray false := rfl
theorem e51_5 : n51_5 = .cond (.tmp 4) n51_6 n51_9 := rfl
theorem e51_6 : n51_6 = .seq n51_7 n51_8 := rfl
noncomputable def r51_7 := opsAt n51_7
theorem e51_7 : n51_7 = .region 2 (r51_7).toArray false := rfl
noncomputable def r51_8 := opsAt n51_8
theorem e51_8 : n51_8 = .region 3 (r51_8).toArray false := rfl
theorem e51_9 : n51_9 = .skip := rfl
theorem e51_10 : n51_10 = .seq n51_11 n51_18 := rfl
theorem e51_11 : n51_11 = .seq n51_12 n51_13 := rfl
noncomputable def r51_12 := opsAt n51_12
theorem e51_12 : n51_12 = .region 4 (r51_12).toArray false := rfl
theorem e51_13 : n51_13 = .cond (.tmp 8) n51_14 n51_17 := rfl
theorem e51_14 : n51_14 = .seq n51_15 n51_16 := rfl
noncomputable def r51_15 := opsAt n51_15
theorem e51_15 : n51_15 = .region 5 (r51_15).toArray false := rfl
noncomputable def r51_16 := opsAt n51_16
theorem e51_16 : n51_16 = .region 6 (r51_16).toArray false := rfl
theorem e51_17 : n51_17 = .skip := rfl
theorem e51_18 : n51_18 = .seq n51_19 n51_26 := rfl
theorem e51_19 : n51_19 = .seq n51_20 n51_21 := rfl
noncomputable def r51_20 := opsAt n51_20
theorem e51_20 : n51_20 = .region 7 (r51_20).toArray false := rfl
theorem e51_21 : n51_21 = .cond (.tmp 14) n51_22 n51_25 := rfl
theorem e51_22 : n51_22 = .seq n51_23 n51_24 := rfl
noncomputable def r51_23 := opsAt n51_23
theorem e51_23 : n51_23 = .region 8 (r51_23).toArray false := rfl
noncomputable def r51_24 := opsAt n51_24
theorem e51_24 : n51_24 = .region 9 (r51_24).toArray false := rfl
theorem e51_25 : n51_25 = .skip := rfl
theorem e51_26 : n51_26 = .seq n51_27 n51_28 := rfl
noncomputable def r51_27 := opsAt n51_27
theorem e51_27 : n51_27 = .region 10 (r51_27).toArray false := rfl
theorem e51_28 : n51_28 = .ret := rfl
theorem f_bits_Len64 : PureOk Try.prog 51 sLen64 := by
  refine pureOk_of (c := n51_0) (Γ := conOf []) (conOf_ok (conOf_end)) mixed Try.func51 B51_eq (by decide +kernel) Try.call51 ?_
  intro args hS
  unfold sLen64 at hS ⊢
  split at hS
  · refine ⟨by rw [Try.ntmps51]; simp, vC_sound ?_⟩
    rename_i xa
    have ha := hS
    obtain ⟨a, la, rfl⟩ := isul_out ha
    simp only [ulv_ul, Nat.mod_eq_of_lt la]
    clear ha
    simp only [entry_cons, entry_nil, Nat.reduceAdd]
    have d0 : a / 4294967296 % 18446744073709551616 = a / 4294967296 := Nat.mod_eq_of_lt (by omega)
    have d1 : a / 65536 % 18446744073709551616 = a / 65536 := Nat.mod_eq_of_lt (by omega)
    have d2 : a / 256 % 18446744073709551616 = a / 256 := Nat.mod_eq_of_lt (by omega)
    have d3 : a / 4294967296 / 65536 % 18446744073709551616 = a / 4294967296 / 65536 := Nat.mod_eq_of_lt (by omega)
    have d4 : a / 4294967296 / 256 % 18446744073709551616 = a / 4294967296 / 256 := Nat.mod_eq_of_lt (by omega)
    have d5 : a / 65536 / 256 % 18446744073709551616 = a / 65536 / 256 := Nat.mod_eq_of_lt (by omega)
    have d6 : a / 4294967296 / 65536 / 256 % 18446744073709551616 = a / 4294967296 / 65536 / 256 := Nat.mod_eq_of_lt (by omega)
    repeat' (first
      | (with_reducible first | apply seqC_normal | apply seqC_ret)
      | ((with_reducible apply wC_seq e51_0; apply wC_region e51_1); refine vOps_open (l := _ :: _) rfl ?_)
      | ((with_reducible apply wC_seq e51_2; apply wC_seq e51_3; apply wC_region e51_4); refine vOps_open (l := _ :: _) rfl ?_)
      | ((with_reducible apply kC_cond e51_5); (exact rfl); all_goals (intro hb; first | (cases hb; done) | cases hb | ((try simp only [decide_eq_true_eq, decide_eq_false_iff_not, Bool.not_eq_true', Bool.not_eq_false'] at hb); try (exfalso; first | omega | exact hb trivial))))
      | ((with_reducible apply wC_seq e51_6; apply wC_region e51_7); refine vOps_open (l := _ :: _) rfl ?_)
      | ((with_reducible apply wC_region e51_8); refine vOps_open (l := _ :: _) rfl ?_)
      | ((with_reducible apply wC_skip e51_9))
      | ((with_reducible apply wC_seq e51_10; apply wC_seq e51_11; apply wC_region e51_12); refine vOps_open (l := _ :: _) rfl ?_)
      | ((with_reducible apply kC_cond e51_13); (exact rfl); all_goals (intro hb; first | (cases hb; done) | cases hb | ((try simp only [decide_eq_true_eq, decide_eq_false_iff_not, Bool.not_eq_true', Bool.not_eq_false'] at hb); try (exfalso; first | omega | exact hb trivial))))
      | ((with_reducible apply wC_seq e51_14; apply wC_region e51_15); refine vOps_open (l := _ :: _) rfl ?_)
      | ((with_reducible apply wC_region e51_16); refine vOps_open (l := _ :: _) rfl ?_)
      | ((with_reducible apply wC_skip e51_17))
      | ((with_reducible apply wC_seq e51_18; apply wC_seq e51_19; apply wC_region e51_20); refine vOps_open (l := _ :: _) rfl ?_)
      | ((with_reducible apply kC_cond e51_21); (exact rfl); all_goals (intro hb; first | (cases hb; done) | cases hb | ((try simp only [decide_eq_true_eq, decide_eq_false_iff_not, Bool.not_eq_true', Bool.not_eq_false'] at hb); try (exfalso; first | omega | exact hb trivial))))
      | ((with_reducible apply wC_seq e51_22; apply wC_region e51_23); refine vOps_open (l := _ :: _) rfl ?_)
      | ((with_reducible apply wC_region e51_24); refine vOps_open (l := _ :: _) rfl ?_)
      | ((with_reducible apply wC_skip e51_25))
      | ((with_reducible apply wC_seq e51_26; apply wC_region e51_27); refine vOps_open (l := _ :: _) rfl ?_)
      | ((with_reducible apply wC_ret e51_28))
      | ((with_reducible apply vOps_nil); try (with_reducible refine And.intro (by kernel_rfl) ?_))
      | (refine kOps_gon (g := ?_) (p := ?_) rfl rfl ?_ ?_ ?_ ?_; rotate_left 2; fail; (exact rfl); (with_reducible rfl))
      | (refine kOps_gofft (g := ?_) (p := ?_) rfl rfl ?_ ?_ ?_ ?_; rotate_left 2; fail; (exact rfl); (with_reducible rfl))
      | (refine kOps_gofff (g := ?_) (p := ?_) rfl rfl ?_ ?_ ?_ ?_; rotate_left 2; fail; (exact rfl); (with_reducible rfl))
      | (refine kOps_pickt rfl rfl rfl rfl ?_ rfl ?_; (with_reducible rfl))
      | (refine kOps_pickf rfl rfl rfl rfl ?_ rfl ?_; (with_reducible rfl))
      | (refine kOps_as rfl rfl rfl rfl ?_)
      | (refine kOps_mv rfl rfl rfl rfl ?_)
      | (refine kOps_bin (b := .geq) (pre := ?_) (val := ?_) rfl rfl rfl rfl rfl ?_ ?_ ?_; rotate_left 2; (intro L; simp only [Nat.reducePow, Nat.reduceMod, Nat.reduceDiv, Nat.mod_eq_of_lt la, d0, d1, d2, d3, d4, d5, d6, UInt8.toNat_ofNat', lit_ul0, lit_ul1, lc_8, lc_16, lc_32, lc_256, lc_65536, lc_4294967296, geq_ul, binF_geq, Int.reduceAdd, Int.reduceSub, Int.reduceMul, Int.reduceNeg, Int.sub_zero, Int.cast_ofNat_Int, ne_eq, Int.reduceLT, Int.reduceLE, Int.reduceEq, Nat.reduceLT, decide_true, decide_false, ty22]; (first | (rw [wrap_i64] <;> first | omega | rfl) | (rw [wrap_u8] <;> first | omega | rfl) | (rw [wrap_u16] <;> first | omega | rfl) | (rw [wrap_u32] <;> first | omega | rfl) | rfl)); exact trivial)
      | (refine kOps_bin (b := .shr) (pre := ?_) (val := ?_) rfl rfl rfl rfl rfl ?_ ?_ ?_; rotate_left 2; (intro L; simp only [Nat.reducePow, Nat.reduceMod, Nat.reduceDiv, Nat.mod_eq_of_lt la, d0, d1, d2, d3, d4, d5, d6, UInt8.toNat_ofNat', lit_ul0, lit_ul1, lc_8, lc_16, lc_32, lc_256, lc_65536, lc_4294967296, shr_z, shr_ul, binF_shr, Int.reduceAdd, Int.reduceSub, Int.reduceMul, Int.reduceNeg, Int.sub_zero, Int.cast_ofNat_Int, ne_eq, Int.reduceLT, Int.reduceLE, Int.reduceEq, Nat.reduceLT, decide_true, decide_false, ty22]; (first | (rw [wrap_i64] <;> first | omega | rfl) | (rw [wrap_u8] <;> first | omega | rfl) | (rw [wrap_u16] <;> first | omega | rfl) | (rw [wrap_u32] <;> first | omega | rfl) | rfl)); (focus ((repeat' apply And.intro) <;> first | exact True.intro | omega | (with_reducible rfl) | assumption | exact ⟨_, rfl⟩ | (simp only [one_cl, one_ul, cells_u4, cells_ul, len_cl, List.all_cons, List.all_nil, Bool.and_self, List.length_cons, List.length_nil]; done) | (simp only [len_cl]; omega) | (simp [Value.cells, Value.oneCell']; done))))
      | (refine kOps_bin (b := .add) (pre := ?_) (val := ?_) rfl rfl rfl rfl rfl ?_ ?_ ?_; rotate_left 2; (intro L; simp only [Nat.reducePow, Nat.reduceMod, Nat.reduceDiv, Nat.mod_eq_of_lt la, d0, d1, d2, d3, d4, d5, d6, UInt8.toNat_ofNat', lit_ul0, lit_ul1, lc_8, lc_16, lc_32, lc_256, lc_65536, lc_4294967296, add_ul, binF_add, Int.reduceAdd, Int.reduceSub, Int.reduceMul, Int.reduceNeg, Int.sub_zero, Int.cast_ofNat_Int, ne_eq, Int.reduceLT, Int.reduceLE, Int.reduceEq, Nat.reduceLT, decide_true, decide_false, ty3]; (first | (rw [wrap_i64] <;> first | omega | rfl) | (rw [wrap_u8] <;> first | omega | rfl) | (rw [wrap_u16] <;> first | omega | rfl) | (rw [wrap_u32] <;> first | omega | rfl) | rfl)); exact trivial)
      | (refine kOps_conv (s := 22) (t := 5) (pre := ?_) (val := ?_) rfl rfl rfl rfl ?_ ?_ ?_; rotate_left 2; (intro L; simp only [Nat.reducePow, Nat.reduceMod, Nat.reduceDiv, Nat.mod_eq_of_lt la, d0, d1, d2, d3, d4, d5, d6, UInt8.toNat_ofNat', cv_22_5, cw_22_5]; (first | (rw [wrap_i64] <;> first | omega | rfl) | (rw [wrap_u8] <;> first | omega | rfl) | (rw [wrap_u16] <;> first | omega | rfl) | (rw [wrap_u32] <;> first | omega | rfl) | rfl)); exact trivial)
      | (refine kOps_ix (pre := ?_) (val := ?_) rfl rfl rfl rfl rfl ?_ ?_ ?_; rotate_left 2; (intro L; refine idx_tab ty9 ?_ ?_ _; (decide +kernel); (decide +kernel)); exact trivial)
      | (refine kOps_conv (s := 5) (t := 3) (pre := ?_) (val := ?_) rfl rfl rfl rfl ?_ ?_ ?_; rotate_left 2; (intro L; simp only [Nat.reducePow, Nat.reduceMod, Nat.reduceDiv, Nat.mod_eq_of_lt la, d0, d1, d2, d3, d4, d5, d6, UInt8.toNat_ofNat', cv_5_3, cw_5_3]; (first | (rw [wrap_i64] <;> first | omega | rfl) | (rw [wrap_u8] <;> first | omega | rfl) | (rw [wrap_u16] <;> first | omega | rfl) | (rw [wrap_u32] <;> first | omega | rfl) | rfl)); exact trivial)
      | (refine vOps_gundef rfl rfl ?_ ?_; (focus (simp only [lookup_cons, Nat.reduceBEq, cond_true, cond_false]; done)); simp only [putIn])
      | (refine vOps_gpick (t := ?_) (val := ?_) rfl rfl ?_ rfl rfl ?_ ?_ ?_; rotate_left 2; (focus (simp only [lookup_cons, Nat.reduceBEq, cond_true, cond_false]; done)); (simp only [evalIn_tmp, evalIn_const, lookup_cons, Nat.reduceBEq, cond_true, cond_false]; rfl); (simp only [evalIn_tmp, evalIn_const, lookup_cons, Nat.reduceBEq, cond_true, cond_false]; rfl))
      | (refine vOps_pick (t := ?_) (val := ?_) rfl rfl rfl ?_ ?_ ?_; rotate_left 2; (simp only [evalIn_tmp, evalIn_const, lookup_cons, Nat.reduceBEq, cond_true, cond_false]; rfl); (simp only [evalIn_tmp, evalIn_const, lookup_cons, Nat.reduceBEq, cond_true, cond_false]; rfl))
      | (refine vOps_fork (b := ?_) rfl rfl ?_ ?_ ?_; rotate_left 1; (simp only [lookup_cons, Nat.reduceBEq, cond_true, cond_false]; rfl); all_goals (intro hb; simp only [hb]; (try simp only [decide_eq_true_eq, decide_eq_false_iff_not] at hb); try (exfalso; first | omega | exact hb trivial)))
      | (refine vOps_forkp (b := ?_) rfl ?_ ?_ ?_; rotate_left 1; (simp only [evalIn_tmp, lookup_cons, Nat.reduceBEq, cond_true, cond_false]; rfl); all_goals (intro hb; simp only [hb]; (try simp only [decide_eq_true_eq, decide_eq_false_iff_not] at hb); try (exfalso; first | omega | exact hb trivial))))
    all_goals (
      refine fin_c (p := ?_) (xs := [.tmp 2]) (by simp) rfl ?_ ?_ ?_ ?_
      rotate_left 2
      · simp only [resAll_cons, resAll_nil, resPVl_0, resPVl_1, resPVl_2, resOne_tmp, resOne_cell, List.map_cons, List.map_nil, Nat.reducePow, Nat.reduceMod, Nat.reduceDiv, Nat.mod_eq_of_lt la, d0, d1, d2, d3, d4, d5, d6, UInt8.toNat_ofNat', evalIn_tmp, evalIn_const, evalIn_func, lookup_cons, Nat.reduceBEq, cond_true, cond_false, lit_ul0, lit_ul1, lc_8, lc_16, lc_32, lc_256, lc_65536, lc_4294967296, loadF, partF, Int.cast_ofNat_Int, Nat.min_self, List.drop_succ_cons, Int.reduceSub, List.getElem?_cons_zero, List.getElem?_cons_succ, List.getD_cons_zero, List.getD_cons_succ, List.getD_nil, List.drop_zero, List.take_succ_cons, List.take_zero, List.take_nil, List.length_cons, List.length_nil, List.set_cons_zero, List.set_cons_succ, Nat.zero_add, n_add_zero, Nat.mul_one, Nat.one_mul, Nat.reduceAdd, Nat.reduceMul, Nat.reduceSub, Nat.reduceLeDiff, Nat.reduceEqDiff, Int.toNat_natCast, Int.reduceToNat, Int.toNat_zero, reduceIte, if_true, if_false, Bool.false_eq_true, isAggD, len_cl, take_cl, agg_cl, getD_bv, take_bytes, List.length_map, List.cons_append, List.nil_append, true_and, and_true, and_self, ty3, ty5, ty9, ty22]; try rfl
      · first | rfl | (simp only [closed, closedL, closed_u4, closed_ul, closedL_cl, closedL_bv, Bool.and_self, Bool.and_true]; done) | (simp only [closed, closedL, closed_u4, closed_ul, closedL_cl, closedL_bv, Bool.and_self, Bool.and_true]; rfl)
      · refine int_eq ?_
        first
          | (rw [blen_0 (a := a / 4294967296 / 65536 / 256) (by omega), blen_32 (a := a) (by omega), blen_16 (a := a / 4294967296) (by omega), blen_8 (a := a / 4294967296 / 65536) (by omega)]; omega)
          | (rw [blen_0 (a := a / 4294967296 / 65536) (by omega), blen_32 (a := a) (by omega), blen_16 (a := a / 4294967296) (by omega)]; omega)
          | (rw [blen_0 (a := a / 4294967296 / 256) (by omega), blen_32 (a := a) (by omega), blen_8 (a := a / 4294967296) (by omega)]; omega)
          | (rw [blen_0 (a := a / 4294967296) (by omega), blen_32 (a := a) (by omega)]; omega)
          | (rw [blen_0 (a := a / 65536 / 256) (by omega), blen_16 (a := a) (by omega), blen_8 (a := a / 65536) (by omega)]; omega)
          | (rw [blen_0 (a := a / 65536) (by omega), blen_16 (a := a) (by omega)]; omega)
          | (rw [blen_0 (a := a / 256) (by omega), blen_8 (a := a) (by omega)]; omega)
          | (rw [blen_0 (a := a) (by omega)]; omega)
      · simp only [resAll_cons, resAll_nil, resPVl_0, resPVl_1, resPVl_2, resOne_tmp, resOne_cell, List.map_cons, List.map_nil, Nat.reducePow, Nat.reduceMod, Nat.reduceDiv, Nat.mod_eq_of_lt la, d0, d1, d2, d3, d4, d5, d6, UInt8.toNat_ofNat', evalIn_tmp, evalIn_const, evalIn_func, lookup_cons, Nat.reduceBEq, cond_true, cond_false, lit_ul0, lit_ul1, lc_8, lc_16, lc_32, lc_256, lc_65536, lc_4294967296, loadF, partF, Int.cast_ofNat_Int, Nat.min_self, List.drop_succ_cons, Int.reduceSub, List.getElem?_cons_zero, List.getElem?_cons_succ, List.getD_cons_zero, List.getD_cons_succ, List.getD_nil, List.drop_zero, List.take_succ_cons, List.take_zero, List.take_nil, List.length_cons, List.length_nil, List.set_cons_zero, List.set_cons_succ, Nat.zero_add, n_add_zero, Nat.mul_one, Nat.one_mul, Nat.reduceAdd, Nat.reduceMul, Nat.reduceSub, Nat.reduceLeDiff, Nat.reduceEqDiff, Int.toNat_natCast, Int.reduceToNat, Int.toNat_zero, reduceIte, if_true, if_false, Bool.false_eq_true, isAggD, len_cl, take_cl, agg_cl, getD_bv, take_bytes, List.length_map, List.cons_append, List.nil_append, true_and, and_true, and_self, ty3, ty5, ty9, ty22]; try trivial)
  · exact hS.elim
end Go.Ab
