import Derived.Test.YtgknomjgpkpjdaaME
import Derived.Test.YtgknomjgpkpjdaaTY
import Derived.Test.YtgknomjgpkpjdaaFbitsLen64
import Derived.Test.YtgknomjgpkpjdaaMI
namespace Go.Ab
open Go Go.Proofs
set_option linter.unusedVariables false
set_option linter.unusedSimpArgs false
set_option maxRecDepth 8000
set_option maxHeartbeats 4000000

noncomputable def B23 : Code := bodyOf Try.f23
theorem B23_eq : Try.f23.body = some B23 := by kernel_rfl
noncomputable def n23_0 : Code := B23
noncomputable def n23_1 : Code := codeAt B23 [0]
noncomputable def n23_2 : Code := codeAt B23 [1]
noncomputable def n23_3 : Code := codeAt B23 [1,0]
noncomputable def n23_4 : Code := codeAt B23 [1,0,0]
noncomputable def n23_5 : Code := codeAt B23 [1,0,1]
noncomputable def n23_6 : Code := codeAt B23 [1,0,1,0]
noncomputable def n23_7 : Code := codeAt B23 [1,0,1,0,0]
noncomputable def n23_8 : Code := codeAt B23 [1,0,1,0,0,0]
noncomputable def n23_9 : Code := codeAt B23 [1,0,1,0,0,0,0]
noncomputable def n23_10 : Code := codeAt B23 [1,0,1,0,0,0,1]
noncomputable def n23_11 : Code := codeAt B23 [1,0,1,0,0,0,1,0]
noncomputable def n23_12 : Code := codeAt B23 [1,0,1,0,0,0,1,1]
noncomputable def n23_13 : Code := codeAt B23 [1,0,1,0,0,1]
noncomputable def n23_14 : Code := codeAt B23 [1,0,1,0,0,1,0]
noncomputable def n23_15 : Code := codeAt B23 [1,0,1,0,0,1,0,0]
noncomputable def n23_16 : Code := codeAt B23 [1,0,1,0,0,1,0,0,0]
noncomputable def n23_17 : Code := codeAt B23 [1,0,1,0,0,1,0,0,1]
noncomputable def n23_18 : Code := codeAt B23 [1,0,1,0,0,1,0,0,1,0]
noncomputable def n23_19 : Code := codeAt B23 [1,0,1,0,0,1,0,0,1,0,0]
noncomputable def n23_20 : Code := codeAt B23 [1,0,1,0,0,1,0,0,1,0,1]
noncomputable def n23_21 : Code := codeAt B23 [1,0,1,0,0,1,0,0,1,1]
noncomputable def n23_22 : Code := codeAt B23 [1,0,1,0,0,1,1]
noncomputable def n23_23 : Code := codeAt B23 [1,1]
noncomputable def n23_24 : Code := codeAt B23 [1,1,0]
noncomputable def n23_25 : Code := codeAt B23 [1,1,1]
theorem e23_0 : n23_0 = .seq n23_1 n23_2 := rfl
noncomputable def r23_1 := opsAt n23_1
theorem e23_1 : n23_1 = .region 0 (r23_1).toArray false := rfl
theorem e23_2 : n23_2 = .seq n23_3 n23_23 := rfl
theorem e23_3 : n23_3 = .seq n23_4 n23_5 := rfl
noncomputable def r23_4 := opsAt n23_4
theorem e23_4 : n23_4 = .region 1 (r23_4).toArray false := rfl
theorem e23_5 : n23_5 = .block 0 n23_6 := rfl
theorem e23_6 : n23_6 = .loop n23_7 := rfl
theorem e23_7 : n23_7 = .seq n23_8 n23_13 := rfl
theorem e23_8 : n23_8 = .seq n23_9 n23_10 := rfl
noncomputable def r23_9 := opsAt n23_9
theorem e23_9 : n23_9 = .region 2 (r23_9).toArray false := rfl
theorem e23_10 : n23_10 = .cond (.tmp 5) n23_11 n23_12 := rfl
theorem e23_11 : n23_11 = .skip := rfl
theorem e23_12 : n23_12 = .exit 0 := rfl
theorem e23_13 : n23_13 = .seq n23_14 n23_22 := rfl
theorem e23_14 : n23_14 = .block 1 n23_15 := rfl
theorem e23_15 : n23_15 = .seq n23_16 n23_17 := rfl
noncomputable def r23_16 := opsAt n23_16
theorem e23_16 : n23_16 = .region 4 (r23_16).toArray false := rfl
theorem e23_17 : n23_17 = .cond (.tmp 11) n23_18 n23_21 := rfl
theorem e23_18 : n23_18 = .seq n23_19 n23_20 := rfl
noncomputable def r23_19 := opsAt n23_19
theorem e23_19 : n23_19 = .region 5 (r23_19).toArray false := rfl
theorem e23_20 : n23_20 = .ret := rfl
theorem e23_21 : n23_21 = .skip := rfl
noncomputable def r23_22 := opsAt n23_22
theorem e23_22 : n23_22 = .region 3 (r23_22).toArray false := rfl
theorem e23_23 : n23_23 = .seq n23_24 n23_25 := rfl
noncomputable def r23_24 := opsAt n23_24
theorem e23_24 : n23_24 = .region 6 (r23_24).toArray false := rfl
theorem e23_25 : n23_25 = .ret := rfl
theorem f_wide_Len : PureOk Try.prog 23 sLen := by
  refine pureOk_of (c := n23_0) (Γ := conOf [(51, .pure sLen64)]) (conOf_ok (conOf_one (S := .pure sLen64) f_bits_Len64 (conOf_end))) mixed Try.func23 B23_eq (by decide +kernel) Try.call23 ?_
  intro args hS
  unfold sLen at hS ⊢
  split at hS
  · refine ⟨by rw [Try.ntmps23]; simp, vC_sound ?_⟩
    rename_i xa
    have ha := hS
    obtain ⟨a, la, rfl⟩ := isU_out ha
    simp only [uv_u4, Nat.mod_eq_of_lt la]
    clear ha
    simp only [entry_cons, entry_nil, Nat.reduceAdd]
    have b0 := blen_64 (a := a % 18446744073709551616) (Nat.mod_lt _ (by decide))
    have b1 := blen_64 (a := a / 18446744073709551616 % 18446744073709551616) (Nat.mod_lt _ (by decide))
    have b2 := blen_64 (a := a / 340282366920938463463374607431768211456 % 18446744073709551616) (Nat.mod_lt _ (by decide))
    have b3 := blen_64 (a := a / 6277101735386680763835789423207666416102355444464034512896 % 18446744073709551616) (Nat.mod_lt _ (by decide))
    repeat' (first
      | (with_reducible first | apply seqC_normal | apply wunrC_normal | apply blockC_normal | apply seqC_exit | apply blockC_hit | apply wunrC_exit | apply seqC_ret | apply blockC_ret | apply wunrC_ret | apply loopC_ret | apply loopC_exit)
      | ((with_reducible apply blockC_miss); (exact rfl))
      | ((with_reducible apply wC_seq e23_0; apply wC_region e23_1); refine vOps_open (l := _ :: _) rfl ?_)
      | ((with_reducible apply wC_seq e23_2; apply wC_seq e23_3; apply wC_region e23_4); refine vOps_open (l := _ :: _) rfl ?_)
      | ((with_reducible apply wC_block e23_5; apply kC_unroll [1, 3] e23_6); (exact rfl); (exact rfl); (with_reducible apply wC_seq e23_7; apply wC_seq e23_8; apply wC_region e23_9); refine vOps_open (l := _ :: _) rfl ?_)
      | ((with_reducible apply kC_unroll [1, 3] e23_6); (exact rfl); (exact rfl); (with_reducible apply wC_seq e23_7; apply wC_seq e23_8; apply wC_region e23_9); refine vOps_open (l := _ :: _) rfl ?_)
      | ((with_reducible apply kC_cond e23_10); (exact rfl); all_goals (intro hb; first | (cases hb; done) | cases hb | ((try simp only [decide_eq_true_eq, decide_eq_false_iff_not, Bool.not_eq_true', Bool.not_eq_false'] at hb); try (exfalso; first | omega | exact hb trivial))))
      | ((with_reducible apply wC_skip e23_11))
      | ((with_reducible apply kC_less [] (c := n23_12)); (exact rfl); (exact rfl); (with_reducible apply wC_exit e23_12))
      | ((with_reducible apply wC_seq e23_13; apply wC_block e23_14; apply wC_seq e23_15; apply wC_region e23_16); refine vOps_open (l := _ :: _) rfl ?_)
      | ((with_reducible apply kC_cond e23_17); (exact rfl); all_goals (intro hb; first | (cases hb; done) | cases hb | ((try simp only [decide_eq_true_eq, decide_eq_false_iff_not, Bool.not_eq_true', Bool.not_eq_false'] at hb); try (exfalso; first | omega | exact hb trivial))))
      | ((with_reducible apply wC_seq e23_18; apply wC_region e23_19); refine vOps_open (l := _ :: _) rfl ?_)
      | ((with_reducible apply wC_ret e23_20))
      | ((with_reducible apply wC_skip e23_21))
      | ((with_reducible apply wC_region e23_22); refine vOps_open (l := _ :: _) rfl ?_)
      | ((with_reducible apply wC_seq e23_23; apply wC_region e23_24); refine vOps_open (l := _ :: _) rfl ?_)
      | ((with_reducible apply wC_ret e23_25))
      | ((with_reducible apply vOps_nil); try (with_reducible refine And.intro (by kernel_rfl) ?_))
      | (refine kOps_gon (g := ?_) (p := ?_) rfl rfl ?_ ?_ ?_ ?_; rotate_left 2; fail; (exact rfl); (with_reducible rfl))
      | (refine kOps_gofft (g := ?_) (p := ?_) rfl rfl ?_ ?_ ?_ ?_; rotate_left 2; fail; (exact rfl); (with_reducible rfl))
      | (refine kOps_gofff (g := ?_) (p := ?_) rfl rfl ?_ ?_ ?_ ?_; rotate_left 2; fail; (exact rfl); (with_reducible rfl))
      | (refine kOps_pickt rfl rfl rfl rfl ?_ rfl ?_; (with_reducible rfl))
      | (refine kOps_pickf rfl rfl rfl rfl ?_ rfl ?_; (with_reducible rfl))
      | (refine kOps_box (row := ?_) (n := ?_) rfl rfl rfl rfl rfl ?_ ?_ ?_ ?_; rotate_left 2; (simp only [↓List.length_append, ↓List.length_set, ↓List.length_cons, List.length_nil, Nat.reduceAdd, Nat.zero_add]; rfl); (simp only [clg0, clg1, clg2, clg3, splice_cl, splice_one, len_cl, Nat.mod_eq_of_lt la, cells_ul, cells_u4]; rfl); (focus (first | rfl | exact one_cl _ _ | exact one_bv _ | (simp only [one_cl, one_ul, List.all_cons, List.all_nil, Bool.and_self, PV.one]; done) | (simp [PV.one, one_ul, one_cl, one_bv, Value.oneCell']; done))))
      | (refine kOps_as rfl rfl rfl rfl ?_)
      | (refine kOps_mv rfl rfl rfl rfl ?_)
      | (refine kOps_bin (b := .geq) (pre := ?_) (val := ?_) rfl rfl rfl rfl rfl ?_ ?_ ?_; rotate_left 2; (intro L; simp only [clg0, clg1, clg2, clg3, splice_cl, splice_one, len_cl, Nat.mod_eq_of_lt la, eql_u4 ty26 ty22, neq_u4 ty26 ty22, lit_ul0, lit_ul1, geq_ul, binF_geq, Int.reduceAdd, Int.reduceSub, Int.reduceMul, Int.reduceNeg, Int.sub_zero, Int.cast_ofNat_Int, ne_eq, Int.reduceLT, Int.reduceLE, Int.reduceEq, Nat.reduceMod, Nat.reduceLT, decide_true, decide_false, ty3]; (first | (rw [wrap_i64] <;> first | omega | rfl) | (rw [wrap_u8] <;> first | omega | rfl) | (rw [wrap_u16] <;> first | omega | rfl) | (rw [wrap_u32] <;> first | omega | rfl) | rfl)); exact trivial)
      | ((first | (refine kOps_ixap (off' := ?_) rfl rfl rfl rfl rfl rfl ty26 ty22 ?_ ?_ ?_; rotate_left 1; (simp only [clg0, clg1, clg2, clg3, splice_cl, splice_one, len_cl, Nat.mod_eq_of_lt la, Nat.zero_add, n_add_zero, Nat.mul_one, Nat.one_mul, Int.toNat_natCast, Int.reduceToNat, Int.toNat_zero, Nat.reduceMul, Nat.reduceAdd]; rfl)) | (refine kOps_ixaq (cs' := ?_) rfl rfl rfl rfl rfl ty26 ty22 ?_ ?_ ?_; rotate_left 1; (simp only [clg0, clg1, clg2, clg3, splice_cl, splice_one, len_cl, Nat.mod_eq_of_lt la, elemAt, isAggD, Bool.false_eq_true, if_false, if_true, reduceIte, take_cl, agg_cl, List.drop_zero, Int.toNat_natCast, Int.reduceToNat, Int.toNat_zero, n_add_zero, Nat.mul_one, Nat.zero_add, Nat.reduceAdd, Nat.reduceMul, getD_bv, take_bytes, List.length_map, List.getD_cons_zero]; rfl))); (focus ((repeat' apply And.intro) <;> first | exact True.intro | omega | (with_reducible rfl) | assumption | exact ⟨_, rfl⟩ | (simp only [one_cl, one_ul, cells_u4, cells_ul, len_cl, List.all_cons, List.all_nil, Bool.and_self, List.length_cons, List.length_nil]; done) | (simp only [len_cl]; omega) | (simp [Value.cells, Value.oneCell']; done))))
      | ((first | refine kOps_loadp (pre := ?_) (val := ?_) rfl rfl rfl rfl rfl ty22 ?_ ?_ ?_ | refine kOps_loadr (pre := ?_) (val := ?_) rfl rfl rfl rfl ty22 ?_ ?_ ?_); rotate_left 2; (simp only [clg0, clg1, clg2, clg3, splice_cl, splice_one, len_cl, Nat.mod_eq_of_lt la, partF, isAggD, Bool.false_eq_true, if_false, if_true, reduceIte, take_cl, agg_cl, List.drop_zero, Int.toNat_natCast, Int.reduceToNat, Int.toNat_zero, n_add_zero, Nat.mul_one, Nat.zero_add, Nat.reduceAdd, Nat.reduceMul, getD_bv, take_bytes, List.length_map, List.getD_cons_zero]; rfl); (focus ((repeat' apply And.intro) <;> first | exact True.intro | omega | (with_reducible rfl) | assumption | exact ⟨_, rfl⟩ | (simp only [one_cl, one_ul, cells_u4, cells_ul, len_cl, List.all_cons, List.all_nil, Bool.and_self, List.length_cons, List.length_nil]; done) | (simp only [len_cl]; omega) | (simp [Value.cells, Value.oneCell']; done))))
      | (refine kOps_bin (b := .neq) (pre := ?_) (val := ?_) rfl rfl rfl rfl rfl ?_ ?_ ?_; rotate_left 2; (intro L; simp only [clg0, clg1, clg2, clg3, splice_cl, splice_one, len_cl, Nat.mod_eq_of_lt la, eql_u4 ty26 ty22, neq_u4 ty26 ty22, lit_ul0, lit_ul1, neq_ul, binF_neq, binF_sneq, Int.reduceAdd, Int.reduceSub, Int.reduceMul, Int.reduceNeg, Int.sub_zero, Int.cast_ofNat_Int, ne_eq, Int.reduceLT, Int.reduceLE, Int.reduceEq, Nat.reduceMod, Nat.reduceLT, decide_true, decide_false, ty22]; (first | (rw [wrap_i64] <;> first | omega | rfl) | (rw [wrap_u8] <;> first | omega | rfl) | (rw [wrap_u16] <;> first | omega | rfl) | (rw [wrap_u32] <;> first | omega | rfl) | rfl)); (focus ((repeat' apply And.intro) <;> first | exact True.intro | omega | (with_reducible rfl) | assumption | exact ⟨_, rfl⟩ | (simp only [one_cl, one_ul, cells_u4, cells_ul, len_cl, List.all_cons, List.all_nil, Bool.and_self, List.length_cons, List.length_nil]; done) | (simp only [len_cl]; omega) | (simp [Value.cells, Value.oneCell']; done))))
      | (refine kOps_bin (b := .mul) (pre := ?_) (val := ?_) rfl rfl rfl rfl rfl ?_ ?_ ?_; rotate_left 2; (intro L; simp only [clg0, clg1, clg2, clg3, splice_cl, splice_one, len_cl, Nat.mod_eq_of_lt la, eql_u4 ty26 ty22, neq_u4 ty26 ty22, lit_ul0, lit_ul1, mul_ul, binF_mul, Int.reduceAdd, Int.reduceSub, Int.reduceMul, Int.reduceNeg, Int.sub_zero, Int.cast_ofNat_Int, ne_eq, Int.reduceLT, Int.reduceLE, Int.reduceEq, Nat.reduceMod, Nat.reduceLT, decide_true, decide_false, ty3]; (first | (rw [wrap_i64] <;> first | omega | rfl) | (rw [wrap_u8] <;> first | omega | rfl) | (rw [wrap_u16] <;> first | omega | rfl) | (rw [wrap_u32] <;> first | omega | rfl) | rfl)); exact trivial)
      | (refine kOps_callc (pre := ?_) (val := ?_) rfl rfl rfl rfl rfl ?_ ?_ ?_ ?_ ?_; rotate_left 2; (simp only [clg0, clg1, clg2, clg3, splice_cl, splice_one, len_cl, Nat.mod_eq_of_lt la, sLen64, lit_ul0, lit_ul1, nrmC, List.map_cons, List.map_nil, nrm_ul, nrm_u4, nrm_nil, nrm_int, nrm_bool, nrm_string, nrm_ro, nrm_agg, nrm_rptr, isul_ul, ulv_ul, isU_u4, uv_u4, bytesOf_bv, isB_bv, true_and, and_true, and_self, n_add_zero, Nat.zero_add, Nat.zero_mod, n_sub_zero]; rfl); (focus (first | rfl | (simp only [closed, closedL, closed_ul, closed_u4, closedL_bv, closedL_cl, Bool.and_self, Bool.and_true]; done))); (focus (first | rfl | (simp only [closed, closedL, closed_ul, closed_u4, closedL_bv, closedL_cl, Bool.and_self, Bool.and_true]; done))); (focus ((repeat' apply And.intro) <;> first | exact True.intro | omega | (with_reducible rfl) | assumption | exact ⟨_, rfl⟩ | (simp only [one_cl, one_ul, cells_u4, cells_ul, len_cl, List.all_cons, List.all_nil, Bool.and_self, List.length_cons, List.length_nil]; done) | (simp only [len_cl]; omega) | (simp [Value.cells, Value.oneCell']; done))))
      | (refine kOps_bin (b := .add) (pre := ?_) (val := ?_) rfl rfl rfl rfl rfl ?_ ?_ ?_; rotate_left 2; (intro L; simp only [clg0, clg1, clg2, clg3, splice_cl, splice_one, len_cl, Nat.mod_eq_of_lt la, eql_u4 ty26 ty22, neq_u4 ty26 ty22, lit_ul0, lit_ul1, add_ul, binF_add, Int.reduceAdd, Int.reduceSub, Int.reduceMul, Int.reduceNeg, Int.sub_zero, Int.cast_ofNat_Int, ne_eq, Int.reduceLT, Int.reduceLE, Int.reduceEq, Nat.reduceMod, Nat.reduceLT, decide_true, decide_false, ty3]; (first | (rw [wrap_i64] <;> first | omega | rfl) | (rw [wrap_u8] <;> first | omega | rfl) | (rw [wrap_u16] <;> first | omega | rfl) | (rw [wrap_u32] <;> first | omega | rfl) | rfl)); exact trivial)
      | (refine kOps_bin (b := .sub) (pre := ?_) (val := ?_) rfl rfl rfl rfl rfl ?_ ?_ ?_; rotate_left 2; (intro L; simp only [clg0, clg1, clg2, clg3, splice_cl, splice_one, len_cl, Nat.mod_eq_of_lt la, eql_u4 ty26 ty22, neq_u4 ty26 ty22, lit_ul0, lit_ul1, sub_ul, binF_sub, Int.reduceAdd, Int.reduceSub, Int.reduceMul, Int.reduceNeg, Int.sub_zero, Int.cast_ofNat_Int, ne_eq, Int.reduceLT, Int.reduceLE, Int.reduceEq, Nat.reduceMod, Nat.reduceLT, decide_true, decide_false, ty3]; (first | (rw [wrap_i64] <;> first | omega | rfl) | (rw [wrap_u8] <;> first | omega | rfl) | (rw [wrap_u16] <;> first | omega | rfl) | (rw [wrap_u32] <;> first | omega | rfl) | rfl)); exact trivial)
      | (refine vOps_gundef rfl rfl ?_ ?_; (focus (simp only [lookup_cons, Nat.reduceBEq, cond_true, cond_false]; done)); simp only [putIn])
      | (refine vOps_gpick (t := ?_) (val := ?_) rfl rfl ?_ rfl rfl ?_ ?_ ?_; rotate_left 2; (focus (simp only [lookup_cons, Nat.reduceBEq, cond_true, cond_false]; done)); (simp only [evalIn_tmp, evalIn_const, lookup_cons, Nat.reduceBEq, cond_true, cond_false]; rfl); (simp only [evalIn_tmp, evalIn_const, lookup_cons, Nat.reduceBEq, cond_true, cond_false]; rfl))
      | (refine vOps_pick (t := ?_) (val := ?_) rfl rfl rfl ?_ ?_ ?_; rotate_left 2; (simp only [evalIn_tmp, evalIn_const, lookup_cons, Nat.reduceBEq, cond_true, cond_false]; rfl); (simp only [evalIn_tmp, evalIn_const, lookup_cons, Nat.reduceBEq, cond_true, cond_false]; rfl))
      | (refine vOps_fork (b := ?_) rfl rfl ?_ ?_ ?_; rotate_left 1; (simp only [lookup_cons, Nat.reduceBEq, cond_true, cond_false]; rfl); all_goals (intro hb; simp only [hb]; (try simp only [decide_eq_true_eq, decide_eq_false_iff_not] at hb); try (exfalso; first | omega | exact hb trivial)))
      | (refine vOps_forkp (b := ?_) rfl ?_ ?_ ?_; rotate_left 1; (simp only [evalIn_tmp, lookup_cons, Nat.reduceBEq, cond_true, cond_false]; rfl); all_goals (intro hb; simp only [hb]; (try simp only [decide_eq_true_eq, decide_eq_false_iff_not] at hb); try (exfalso; first | omega | exact hb trivial))))
    all_goals (
      refine fin_c (p := ?_) (xs := [.tmp 2]) (by simp) rfl ?_ ?_ ?_ ?_
      rotate_left 2
      · simp only [resAll_cons, resAll_nil, resPVl_0, resPVl_1, resPVl_2, resOne_tmp, resOne_cell, List.map_cons, List.map_nil, clg0, clg1, clg2, clg3, splice_cl, splice_one, len_cl, Nat.mod_eq_of_lt la, evalIn_tmp, evalIn_const, evalIn_func, lookup_cons, Nat.reduceBEq, cond_true, cond_false, lit_ul0, lit_ul1, loadF, partF, List.getElem?_cons_zero, List.getElem?_cons_succ, List.set_cons_zero, List.set_cons_succ, List.cons_append, List.nil_append, true_and, and_true, and_self, Nat.le_refl, Nat.reduceLeDiff, isAggD, Bool.false_eq_true, if_false, if_true, reduceIte, take_cl, agg_cl, List.drop_zero, Int.toNat_natCast, Int.reduceToNat, Int.toNat_zero, n_add_zero, Nat.mul_one, Nat.zero_add, Nat.reduceAdd, Nat.reduceMul, getD_bv, take_bytes, List.length_map, List.getD_cons_zero, ty3, ty22, ty26]; try rfl
      · first | rfl | (simp only [closed, closedL, closed_u4, closed_ul, closedL_cl, closedL_bv, Bool.and_self, Bool.and_true]; done) | (simp only [closed, closedL, closed_u4, closed_ul, closedL_cl, closedL_bv, Bool.and_self, Bool.and_true]; rfl)
      · refine int_eq ?_
        first
          | (rw [blen_w3 (a := a) (by omega), Nat.mod_eq_of_lt (show a / 6277101735386680763835789423207666416102355444464034512896 < 18446744073709551616 by omega)]; omega)
          | (rw [blen_w2 (a := a) (by omega), Nat.mod_eq_of_lt (show a / 340282366920938463463374607431768211456 < 18446744073709551616 by omega)]; omega)
          | (rw [blen_w1 (a := a) (by omega), Nat.mod_eq_of_lt (show a / 18446744073709551616 < 18446744073709551616 by omega)]; omega)
          | (rw [Nat.mod_eq_of_lt (show a < 18446744073709551616 by omega)]; omega)
          | (have ha0 : a = 0 := by omega
             subst ha0; rfl)
      · simp only [resAll_cons, resAll_nil, resPVl_0, resPVl_1, resPVl_2, resOne_tmp, resOne_cell, List.map_cons, List.map_nil, clg0, clg1, clg2, clg3, splice_cl, splice_one, len_cl, Nat.mod_eq_of_lt la, evalIn_tmp, evalIn_const, evalIn_func, lookup_cons, Nat.reduceBEq, cond_true, cond_false, lit_ul0, lit_ul1, loadF, partF, List.getElem?_cons_zero, List.getElem?_cons_succ, List.set_cons_zero, List.set_cons_succ, List.cons_append, List.nil_append, true_and, and_true, and_self, Nat.le_refl, Nat.reduceLeDiff, isAggD, Bool.false_eq_true, if_false, if_true, reduceIte, take_cl, agg_cl, List.drop_zero, Int.toNat_natCast, Int.reduceToNat, Int.toNat_zero, n_add_zero, Nat.mul_one, Nat.zero_add, Nat.reduceAdd, Nat.reduceMul, getD_bv, take_bytes, List.length_map, List.getD_cons_zero, ty3, ty22, ty26]; try trivial)
  · exact hS.elim
end Go.Ab
