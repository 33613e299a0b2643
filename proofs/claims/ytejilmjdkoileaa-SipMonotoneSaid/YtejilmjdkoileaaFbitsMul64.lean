import Derived.Test.YtejilmjdkoileaaMP
import Derived.Test.YtejilmjdkoileaaTY
namespace Go.Ab
open Go Go.Proofs
set_option linter.unusedVariables false
set_option linter.unusedSimpArgs false
set_option maxRecDepth 8000
set_option maxHeartbeats 4000000

noncomputable def B21 : Code := bodyOf Try.f21
theorem B21_eq : Try.f21.body = some B21 := by kernel_rfl
noncomputable def n21_0 : Code := B21
noncomputable def n21_1 : Code := codeAt B21 [0]
noncomputable def n21_2 : Code := codeAt B21 [1]
noncomputable def n21_3 : Code := codeAt B21 [1,0]
noncomputable def n21_4 : Code := codeAt B21 [1,1]
noncomputable def n21_5 : Code := codeAt B21 [1,1,0]
noncomputable def n21_6 : Code := codeAt B21 [1,1,1]
noncomputable def n21_7 : Code := codeAt B21 [1,1,1,0]
noncomputable def n21_8 : Code := codeAt B21 [1,1,1,1]
noncomputable def n21_9 : Code := codeAt B21 [1,1,1,1,0]
noncomputable def n21_10 : Code := codeAt B21 [1,1,1,1,1]
noncomputable def n21_11 : Code := codeAt B21 [1,1,1,1,1,0]
noncomputable def n21_12 : Code := codeAt B21 [1,1,1,1,1,1]
noncomputable def n21_13 : Code := codeAt B21 [1,1,1,1,1,1,0]
noncomputable def n21_14 : Code := codeAt B21 [1,1,1,1,1,1,1]
noncomputable def n21_15 : Code := codeAt B21 [1,1,1,1,1,1,1,0]
noncomputable def n21_16 : Code := codeAt B21 [1,1,1,1,1,1,1,1]
noncomputable def n21_17 : Code := codeAt B21 [1,1,1,1,1,1,1,1,0]
noncomputable def n21_18 : Code := codeAt B21 [1,1,1,1,1,1,1,1,1]
noncomputable def n21_19 : Code := codeAt B21 [1,1,1,1,1,1,1,1,1,0]
noncomputable def n21_20 : Code := codeAt B21 [1,1,1,1,1,1,1,1,1,1]
noncomputable def n21_21 : Code := codeAt B21 [1,1,1,1,1,1,1,1,1,1,0]
noncomputable def n21_22 : Code := codeAt B21 [1,1,1,1,1,1,1,1,1,1,1]
noncomputable def n21_23 : Code := codeAt B21 [1,1,1,1,1,1,1,1,1,1,1,0]
noncomputable def n21_24 : Code := codeAt B21 [1,1,1,1,1,1,1,1,1,1,1,1]
theorem e21_0 : n21_0 = .seq n21_1 n21_2 := rfl
noncomputable def r21_1 := opsAt n21_1
theorem e21_1 : n21_1 = .region 0 (r21_1).toArray false := rfl
theorem e21_2 : n21_2 = .seq n21_3 n21_4 := rfl
noncomputable def r21_3 := opsAt n21_3
theorem e21_3 : n21_3 = .region 1 (r21_3).toArray false := rfl
theorem e21_4 : n21_4 = .seq n21_5 n21_6 := rfl
noncomputable def r21_5 := opsAt n21_5
theorem e21_5 : n21_5 = .region 2 (r21_5).toArray false := rfl
theorem e21_6 : n21_6 = .seq n21_7 n21_8 := rfl
noncomputable def r21_7 := opsAt n21_7
theorem e21_7 : n21_7 = .region 3 (r21_7).toArray false := rfl
theorem e21_8 : n21_8 = .seq n21_9 n21_10 := rfl
noncomputable def r21_9 := opsAt n21_9
theorem e21_9 : n21_9 = .region 4 (r21_9).toArray false := rfl
theorem e21_10 : n21_10 = .seq n21_11 n21_12 := rfl
noncomputable def r21_11 := opsAt n21_11
theorem e21_11 : n21_11 = .region 5 (r21_11).toArray false := rfl
theorem e21_12 : n21_12 = .seq n21_13 n21_14 := rfl
noncomputable def r21_13 := opsAt n21_13
theorem e21_13 : n21_13 = .region 6 (r21_13).toArray false := rfl
theorem e21_14 : n21_14 = .seq n21_15 n21_16 := rfl
noncomputable def r21_15 := opsAt n21_15
theorem e21_15 : n21_15 = .region 7 (r21_15).toArray false := rfl
theorem e21_16 : n21_16 = .seq n21_17 n21_18 := rfl
noncomputable def r21_17 := opsAt n21_17
theorem e21_17 : n21_17 = .region 8 (r21_17).toArray false := rfl
theorem e21_18 : n21_18 = .seq n21_19 n21_20 := rfl
noncomputable def r21_19 := opsAt n21_19
theorem e21_19 : n21_19 = .region 9 (r21_19).toArray false := rfl
theorem e21_20 : n21_20 = .seq n21_21 n21_22 := rfl
noncomputable def r21_21 := opsAt n21_21
theorem e21_21 : n21_21 = .region 10 (r21_21).toArray false := rfl
theorem e21_22 : n21_22 = .seq n21_23 n21_24 := rfl
noncomputable def r21_23 := opsAt n21_23
theorem e21_23 : n21_23 = .region 11 (r21_23).toArray false := rfl
theorem e21_24 : n21_24 = .ret := rfl
theorem f_bits_Mul64 : PureOk Try.prog 21 sMul64 := by
  refine pureOk_of (c := n21_0) (Γ := conOf []) (conOf_ok (conOf_end)) mixed Try.func21 B21_eq (by decide +kernel) Try.call21 ?_
  intro args hS
  unfold sMul64 at hS ⊢
  split at hS
  · refine ⟨by rw [Try.ntmps21]; simp, vC_sound ?_⟩
    rename_i xa xb
    obtain ⟨ha, hb⟩ := hS
    obtain ⟨a, la, rfl⟩ := isul_out ha
    obtain ⟨b, lb, rfl⟩ := isul_out hb
    simp only [ulv_ul, Nat.mod_eq_of_lt la, Nat.mod_eq_of_lt lb]
    clear ha hb
    simp only [entry_cons, entry_nil, Nat.reduceAdd]
    repeat' (first
      | (with_reducible first | apply seqC_normal | apply seqC_ret)
      | ((with_reducible apply wC_seq e21_0; apply wC_region e21_1); refine vOps_open (l := _ :: _) rfl ?_)
      | ((with_reducible apply wC_seq e21_2; apply wC_region e21_3); refine vOps_open (l := _ :: _) rfl ?_)
      | ((with_reducible apply wC_seq e21_4; apply wC_region e21_5); refine vOps_open (l := _ :: _) rfl ?_)
      | ((with_reducible apply wC_seq e21_6; apply wC_region e21_7); refine vOps_open (l := _ :: _) rfl ?_)
      | ((with_reducible apply wC_seq e21_8; apply wC_region e21_9); refine vOps_open (l := _ :: _) rfl ?_)
      | ((with_reducible apply wC_seq e21_10; apply wC_region e21_11); refine vOps_open (l := _ :: _) rfl ?_)
      | ((with_reducible apply wC_seq e21_12; apply wC_region e21_13); refine vOps_open (l := _ :: _) rfl ?_)
      | ((with_reducible apply wC_seq e21_14; apply wC_region e21_15); refine vOps_open (l := _ :: _) rfl ?_)
      | ((with_reducible apply wC_seq e21_16; apply wC_region e21_17); refine vOps_open (l := _ :: _) rfl ?_)
      | ((with_reducible apply wC_seq e21_18; apply wC_region e21_19); refine vOps_open (l := _ :: _) rfl ?_)
      | ((with_reducible apply wC_seq e21_20; apply wC_region e21_21); refine vOps_open (l := _ :: _) rfl ?_)
      | ((with_reducible apply wC_seq e21_22; apply wC_region e21_23); refine vOps_open (l := _ :: _) rfl ?_)
      | ((with_reducible apply wC_ret e21_24))
      | ((with_reducible apply vOps_nil); try (with_reducible refine And.intro (by kernel_rfl) ?_))
      | (refine kOps_gon (g := ?_) (p := ?_) rfl rfl ?_ ?_ ?_ ?_; rotate_left 2; fail; (exact rfl); (with_reducible rfl))
      | (refine kOps_gofft (g := ?_) (p := ?_) rfl rfl ?_ ?_ ?_ ?_; rotate_left 2; fail; (exact rfl); (with_reducible rfl))
      | (refine kOps_gofff (g := ?_) (p := ?_) rfl rfl ?_ ?_ ?_ ?_; rotate_left 2; fail; (exact rfl); (with_reducible rfl))
      | (refine kOps_pickt rfl rfl rfl rfl ?_ rfl ?_; (with_reducible rfl))
      | (refine kOps_pickf rfl rfl rfl rfl ?_ rfl ?_; (with_reducible rfl))
      | (refine kOps_asc rfl rfl rfl lit_ul0 ?_)
      | (refine kOps_mv rfl rfl rfl rfl ?_)
      | (refine kOps_bin (b := .and) (pre := ?_) (val := ?_) rfl rfl rfl rfl rfl ?_ ?_ ?_; rotate_left 2; (intro L; simp only [and_mask32, Nat.reducePow, Nat.reduceMod, Nat.reduceDiv, lit_ul0, lit_ul1, lc_32, lc_4294967295, and_ul, binF_and, Int.reduceAdd, Int.reduceSub, Int.reduceMul, Int.reduceNeg, Int.sub_zero, Int.cast_ofNat_Int, ne_eq, Int.reduceLT, Int.reduceLE, Int.reduceEq, Nat.reduceLT, decide_true, decide_false, ty22]; (first | (rw [wrap_i64] <;> first | omega | rfl) | (rw [wrap_u8] <;> first | omega | rfl) | (rw [wrap_u16] <;> first | omega | rfl) | (rw [wrap_u32] <;> first | omega | rfl) | rfl)); exact trivial)
      | (refine kOps_as rfl rfl rfl rfl ?_)
      | (refine kOps_bin (b := .shr) (pre := ?_) (val := ?_) rfl rfl rfl rfl rfl ?_ ?_ ?_; rotate_left 2; (intro L; simp only [and_mask32, Nat.reducePow, Nat.reduceMod, Nat.reduceDiv, lit_ul0, lit_ul1, lc_32, lc_4294967295, shr_z, shr_ul, binF_shr, Int.reduceAdd, Int.reduceSub, Int.reduceMul, Int.reduceNeg, Int.sub_zero, Int.cast_ofNat_Int, ne_eq, Int.reduceLT, Int.reduceLE, Int.reduceEq, Nat.reduceLT, decide_true, decide_false, ty22]; (first | (rw [wrap_i64] <;> first | omega | rfl) | (rw [wrap_u8] <;> first | omega | rfl) | (rw [wrap_u16] <;> first | omega | rfl) | (rw [wrap_u32] <;> first | omega | rfl) | rfl)); (focus ((repeat' apply And.intro) <;> first | exact True.intro | omega | (with_reducible rfl) | assumption | exact ⟨_, rfl⟩ | (simp only [one_cl, one_ul, cells_u4, cells_ul, len_cl, List.all_cons, List.all_nil, Bool.and_self, List.length_cons, List.length_nil]; done) | (simp only [len_cl]; omega) | (simp [Value.cells, Value.oneCell']; done))))
      | (refine kOps_bin (b := .mul) (pre := ?_) (val := ?_) rfl rfl rfl rfl rfl ?_ ?_ ?_; rotate_left 2; (intro L; simp only [and_mask32, Nat.reducePow, Nat.reduceMod, Nat.reduceDiv, lit_ul0, lit_ul1, lc_32, lc_4294967295, mul_ul, binF_mul, Int.reduceAdd, Int.reduceSub, Int.reduceMul, Int.reduceNeg, Int.sub_zero, Int.cast_ofNat_Int, ne_eq, Int.reduceLT, Int.reduceLE, Int.reduceEq, Nat.reduceLT, decide_true, decide_false, ty22]; (first | (rw [wrap_i64] <;> first | omega | rfl) | (rw [wrap_u8] <;> first | omega | rfl) | (rw [wrap_u16] <;> first | omega | rfl) | (rw [wrap_u32] <;> first | omega | rfl) | rfl)); exact trivial)
      | (refine kOps_bin (b := .add) (pre := ?_) (val := ?_) rfl rfl rfl rfl rfl ?_ ?_ ?_; rotate_left 2; (intro L; simp only [and_mask32, Nat.reducePow, Nat.reduceMod, Nat.reduceDiv, lit_ul0, lit_ul1, lc_32, lc_4294967295, add_ul, binF_add, Int.reduceAdd, Int.reduceSub, Int.reduceMul, Int.reduceNeg, Int.sub_zero, Int.cast_ofNat_Int, ne_eq, Int.reduceLT, Int.reduceLE, Int.reduceEq, Nat.reduceLT, decide_true, decide_false, ty22]; (first | (rw [wrap_i64] <;> first | omega | rfl) | (rw [wrap_u8] <;> first | omega | rfl) | (rw [wrap_u16] <;> first | omega | rfl) | (rw [wrap_u32] <;> first | omega | rfl) | rfl)); exact trivial)
      | (refine vOps_gundef rfl rfl ?_ ?_; (focus (simp only [lookup_cons, Nat.reduceBEq, cond_true, cond_false]; done)); simp only [putIn])
      | (refine vOps_gpick (t := ?_) (val := ?_) rfl rfl ?_ rfl rfl ?_ ?_ ?_; rotate_left 2; (focus (simp only [lookup_cons, Nat.reduceBEq, cond_true, cond_false]; done)); (simp only [evalIn_tmp, evalIn_const, lookup_cons, Nat.reduceBEq, cond_true, cond_false]; rfl); (simp only [evalIn_tmp, evalIn_const, lookup_cons, Nat.reduceBEq, cond_true, cond_false]; rfl))
      | (refine vOps_pick (t := ?_) (val := ?_) rfl rfl rfl ?_ ?_ ?_; rotate_left 2; (simp only [evalIn_tmp, evalIn_const, lookup_cons, Nat.reduceBEq, cond_true, cond_false]; rfl); (simp only [evalIn_tmp, evalIn_const, lookup_cons, Nat.reduceBEq, cond_true, cond_false]; rfl))
      | (refine vOps_fork (b := ?_) rfl rfl ?_ ?_ ?_; rotate_left 1; (simp only [lookup_cons, Nat.reduceBEq, cond_true, cond_false]; rfl); all_goals (intro hb; simp only [hb]; (try simp only [decide_eq_true_eq, decide_eq_false_iff_not] at hb); try (exfalso; first | omega | exact hb trivial)))
      | (refine vOps_forkp (b := ?_) rfl ?_ ?_ ?_; rotate_left 1; (simp only [evalIn_tmp, lookup_cons, Nat.reduceBEq, cond_true, cond_false]; rfl); all_goals (intro hb; simp only [hb]; (try simp only [decide_eq_true_eq, decide_eq_false_iff_not] at hb); try (exfalso; first | omega | exact hb trivial))))
    refine fin_c (p := ?_) (xs := [.tmp 4, .tmp 5]) (by simp) rfl ?_ ?_ ?_ ?_
    rotate_left 2
    · simp only [resAll_cons, resAll_nil, resPVl_0, resPVl_1, resPVl_2, resOne_tmp, resOne_cell, List.map_cons, List.map_nil, and_mask32, Nat.reducePow, Nat.reduceMod, Nat.reduceDiv, evalIn_tmp, evalIn_const, evalIn_func, lookup_cons, Nat.reduceBEq, cond_true, cond_false, lit_ul0, lit_ul1, lc_32, lc_4294967295, loadF, partF, Int.cast_ofNat_Int, Nat.min_self, List.drop_succ_cons, Int.reduceSub, List.getElem?_cons_zero, List.getElem?_cons_succ, List.getD_cons_zero, List.getD_cons_succ, List.getD_nil, List.drop_zero, List.take_succ_cons, List.take_zero, List.take_nil, List.length_cons, List.length_nil, List.set_cons_zero, List.set_cons_succ, Nat.zero_add, n_add_zero, Nat.mul_one, Nat.one_mul, Nat.reduceAdd, Nat.reduceMul, Nat.reduceSub, Nat.reduceLeDiff, Nat.reduceEqDiff, Int.toNat_natCast, Int.reduceToNat, Int.toNat_zero, reduceIte, if_true, if_false, Bool.false_eq_true, isAggD, len_cl, take_cl, agg_cl, getD_bv, take_bytes, List.length_map, List.cons_append, List.nil_append, true_and, and_true, and_self, ty22]; try rfl
    · first | (with_reducible rfl) | (simp only [closed, closedL, closed_u4, closed_ul, closed_s4, closed_k2, closedL_bv, Bool.and_self, Bool.and_true]; done) | (simp only [closed, closedL, closed_u4, closed_ul, closed_s4, closed_k2, closedL_bv, Bool.and_self, Bool.and_true]; rfl)
    · exact tup2 (ul_congr (mul64_hi2 la lb)) rfl
    · simp only [resAll_cons, resAll_nil, resPVl_0, resPVl_1, resPVl_2, resOne_tmp, resOne_cell, List.map_cons, List.map_nil, and_mask32, Nat.reducePow, Nat.reduceMod, Nat.reduceDiv, evalIn_tmp, evalIn_const, evalIn_func, lookup_cons, Nat.reduceBEq, cond_true, cond_false, lit_ul0, lit_ul1, lc_32, lc_4294967295, loadF, partF, Int.cast_ofNat_Int, Nat.min_self, List.drop_succ_cons, Int.reduceSub, List.getElem?_cons_zero, List.getElem?_cons_succ, List.getD_cons_zero, List.getD_cons_succ, List.getD_nil, List.drop_zero, List.take_succ_cons, List.take_zero, List.take_nil, List.length_cons, List.length_nil, List.set_cons_zero, List.set_cons_succ, Nat.zero_add, n_add_zero, Nat.mul_one, Nat.one_mul, Nat.reduceAdd, Nat.reduceMul, Nat.reduceSub, Nat.reduceLeDiff, Nat.reduceEqDiff, Int.toNat_natCast, Int.reduceToNat, Int.toNat_zero, reduceIte, if_true, if_false, Bool.false_eq_true, isAggD, len_cl, take_cl, agg_cl, getD_bv, take_bytes, List.length_map, List.cons_append, List.nil_append, true_and, and_true, and_self, ty22]; try trivial
  · exact hS.elim
end Go.Ab
