import Derived.Test.YtejilmjdkoileaaMP
import Derived.Test.YtejilmjdkoileaaTY
import Derived.Test.YtejilmjdkoileaaFbitsRotateLeft64
namespace Go.Ab
open Go Go.Proofs
set_option linter.unusedVariables false
set_option linter.unusedSimpArgs false
set_option maxRecDepth 8000
set_option maxHeartbeats 4000000

noncomputable def B20 : Code := bodyOf Try.f20
theorem B20_eq : Try.f20.body = some B20 := by kernel_rfl
noncomputable def n20_0 : Code := B20
noncomputable def n20_1 : Code := codeAt B20 [0]
noncomputable def n20_2 : Code := codeAt B20 [1]
noncomputable def n20_3 : Code := codeAt B20 [1,0]
noncomputable def n20_4 : Code := codeAt B20 [1,1]
noncomputable def n20_5 : Code := codeAt B20 [1,1,0]
noncomputable def n20_6 : Code := codeAt B20 [1,1,1]
noncomputable def n20_7 : Code := codeAt B20 [1,1,1,0]
noncomputable def n20_8 : Code := codeAt B20 [1,1,1,1]
noncomputable def n20_9 : Code := codeAt B20 [1,1,1,1,0]
noncomputable def n20_10 : Code := codeAt B20 [1,1,1,1,1]
noncomputable def n20_11 : Code := codeAt B20 [1,1,1,1,1,0]
noncomputable def n20_12 : Code := codeAt B20 [1,1,1,1,1,1]
noncomputable def n20_13 : Code := codeAt B20 [1,1,1,1,1,1,0]
noncomputable def n20_14 : Code := codeAt B20 [1,1,1,1,1,1,1]
noncomputable def n20_15 : Code := codeAt B20 [1,1,1,1,1,1,1,0]
noncomputable def n20_16 : Code := codeAt B20 [1,1,1,1,1,1,1,1]
noncomputable def n20_17 : Code := codeAt B20 [1,1,1,1,1,1,1,1,0]
noncomputable def n20_18 : Code := codeAt B20 [1,1,1,1,1,1,1,1,1]
noncomputable def n20_19 : Code := codeAt B20 [1,1,1,1,1,1,1,1,1,0]
noncomputable def n20_20 : Code := codeAt B20 [1,1,1,1,1,1,1,1,1,1]
noncomputable def n20_21 : Code := codeAt B20 [1,1,1,1,1,1,1,1,1,1,0]
noncomputable def n20_22 : Code := codeAt B20 [1,1,1,1,1,1,1,1,1,1,1]
noncomputable def n20_23 : Code := codeAt B20 [1,1,1,1,1,1,1,1,1,1,1,0]
noncomputable def n20_24 : Code := codeAt B20 [1,1,1,1,1,1,1,1,1,1,1,1]
theorem e20_0 : n20_0 = .seq n20_1 n20_2 := rfl
noncomputable def r20_1 := opsAt n20_1
theorem e20_1 : n20_1 = .region 0 (r20_1).toArray false := rfl
theorem e20_2 : n20_2 = .seq n20_3 n20_4 := rfl
noncomputable def r20_3 := opsAt n20_3
theorem e20_3 : n20_3 = .region 1 (r20_3).toArray false := rfl
theorem e20_4 : n20_4 = .seq n20_5 n20_6 := rfl
noncomputable def r20_5 := opsAt n20_5
theorem e20_5 : n20_5 = .region 2 (r20_5).toArray true := rfl
theorem a20_5 : anyOk r20_5 = true := by decide +kernel
theorem e20_6 : n20_6 = .seq n20_7 n20_8 := rfl
noncomputable def r20_7 := opsAt n20_7
theorem e20_7 : n20_7 = .region 3 (r20_7).toArray false := rfl
theorem e20_8 : n20_8 = .seq n20_9 n20_10 := rfl
noncomputable def r20_9 := opsAt n20_9
theorem e20_9 : n20_9 = .region 4 (r20_9).toArray false := rfl
theorem e20_10 : n20_10 = .seq n20_11 n20_12 := rfl
noncomputable def r20_11 := opsAt n20_11
theorem e20_11 : n20_11 = .region 5 (r20_11).toArray true := rfl
theorem a20_11 : anyOk r20_11 = true := by decide +kernel
theorem e20_12 : n20_12 = .seq n20_13 n20_14 := rfl
noncomputable def r20_13 := opsAt n20_13
theorem e20_13 : n20_13 = .region 6 (r20_13).toArray false := rfl
theorem e20_14 : n20_14 = .seq n20_15 n20_16 := rfl
noncomputable def r20_15 := opsAt n20_15
theorem e20_15 : n20_15 = .region 7 (r20_15).toArray true := rfl
theorem a20_15 : anyOk r20_15 = true := by decide +kernel
theorem e20_16 : n20_16 = .seq n20_17 n20_18 := rfl
noncomputable def r20_17 := opsAt n20_17
theorem e20_17 : n20_17 = .region 8 (r20_17).toArray false := rfl
theorem e20_18 : n20_18 = .seq n20_19 n20_20 := rfl
noncomputable def r20_19 := opsAt n20_19
theorem e20_19 : n20_19 = .region 9 (r20_19).toArray true := rfl
theorem a20_19 : anyOk r20_19 = true := by decide +kernel
theorem e20_20 : n20_20 = .seq n20_21 n20_22 := rfl
noncomputable def r20_21 := opsAt n20_21
theorem e20_21 : n20_21 = .region 10 (r20_21).toArray false := rfl
theorem e20_22 : n20_22 = .seq n20_23 n20_24 := rfl
noncomputable def r20_23 := opsAt n20_23
theorem e20_23 : n20_23 = .region 11 (r20_23).toArray false := rfl
theorem e20_24 : n20_24 = .ret := rfl
theorem f_ref04_round : PureOk Try.prog 20 sRound := by
  refine pureOk_of (c := n20_0) (Γ := conOf [(22, .pure sRotL64)]) (conOf_ok (conOf_one (S := .pure sRotL64) f_bits_RotateLeft64 (conOf_end))) mixed Try.func20 B20_eq (by decide +kernel) Try.call20 ?_
  intro args hS
  unfold sRound at hS ⊢
  split at hS
  · refine ⟨by rw [Try.ntmps20]; simp, vC_sound ?_⟩
    rename_i s
    obtain ⟨s, rfl⟩ := s4_out hS
    simp only [s4Of_s4]
    clear hS
    simp only [entry_cons, entry_nil, Nat.reduceAdd]
    repeat' (first
      | (with_reducible first | apply seqC_normal | apply seqC_ret)
      | ((with_reducible apply wC_seq e20_0; apply wC_region e20_1); refine vOps_open (l := _ :: _) rfl ?_)
      | ((with_reducible apply wC_seq e20_2; apply wC_region e20_3); refine vOps_open (l := _ :: _) rfl ?_)
      | ((with_reducible apply wC_seq e20_4; apply wC_any e20_5 a20_5); refine vOps_open (l := _ :: _) rfl ?_)
      | ((with_reducible apply wC_seq e20_6; apply wC_region e20_7); refine vOps_open (l := _ :: _) rfl ?_)
      | ((with_reducible apply wC_seq e20_8; apply wC_region e20_9); refine vOps_open (l := _ :: _) rfl ?_)
      | ((with_reducible apply wC_seq e20_10; apply wC_any e20_11 a20_11); refine vOps_open (l := _ :: _) rfl ?_)
      | ((with_reducible apply wC_seq e20_12; apply wC_region e20_13); refine vOps_open (l := _ :: _) rfl ?_)
      | ((with_reducible apply wC_seq e20_14; apply wC_any e20_15 a20_15); refine vOps_open (l := _ :: _) rfl ?_)
      | ((with_reducible apply wC_seq e20_16; apply wC_region e20_17); refine vOps_open (l := _ :: _) rfl ?_)
      | ((with_reducible apply wC_seq e20_18; apply wC_any e20_19 a20_19); refine vOps_open (l := _ :: _) rfl ?_)
      | ((with_reducible apply wC_seq e20_20; apply wC_region e20_21); refine vOps_open (l := _ :: _) rfl ?_)
      | ((with_reducible apply wC_seq e20_22; apply wC_region e20_23); refine vOps_open (l := _ :: _) rfl ?_)
      | ((with_reducible apply wC_ret e20_24))
      | ((with_reducible apply vOps_nil); try (with_reducible refine And.intro (by kernel_rfl) ?_))
      | (refine kOps_gon (g := ?_) (p := ?_) rfl rfl ?_ ?_ ?_ ?_; rotate_left 2; fail; (exact rfl); (with_reducible rfl))
      | (refine kOps_gofft (g := ?_) (p := ?_) rfl rfl ?_ ?_ ?_ ?_; rotate_left 2; fail; (exact rfl); (with_reducible rfl))
      | (refine kOps_gofff (g := ?_) (p := ?_) rfl rfl ?_ ?_ ?_ ?_; rotate_left 2; fail; (exact rfl); (with_reducible rfl))
      | (refine kOps_pickt rfl rfl rfl rfl ?_ rfl ?_; (with_reducible rfl))
      | (refine kOps_pickf rfl rfl rfl rfl ?_ rfl ?_; (with_reducible rfl))
      | (refine kOps_box (row := ?_) (n := ?_) rfl rfl rfl rfl rfl ?_ ?_ ?_ ?_; rotate_left 2; (simp only [↓List.length_append, ↓List.length_set, ↓List.length_cons, List.length_nil, Nat.reduceAdd, Nat.zero_add]; rfl); (simp only [cells_s4, cells_k2, List.nil_append, List.append_nil, List.cons_append, if_true, getD_bv, cells_ul, cells_u4, cells_agg, cells_int, cells_bool, cells_string, cells_slice, cells_ro, cells_rptr]; rfl); (focus (first | rfl | exact one_cl _ _ | exact one_bv _ | (simp only [one_cl, one_ul, List.all_cons, List.all_nil, Bool.and_self, PV.one]; done) | (simp [PV.one, one_ul, one_cl, one_bv, Value.oneCell']; done))))
      | (refine kOps_alloc (row := ?_) (n := ?_) rfl rfl rfl rfl ty43 ?_ ?_ ?_ ?_; rotate_left 2; (simp only [↓List.length_append, ↓List.length_set, ↓List.length_cons, List.length_nil, Nat.reduceAdd, Nat.zero_add]; rfl); (simp only [cells_s4, cells_k2, List.nil_append, List.append_nil, List.cons_append, if_true, getD_bv, Value.cells, List.map_cons, List.map_nil, List.toList_toArray, lit_ul0]; rfl); (focus (first | (simp only [Value.cells, List.toList_toArray, List.forall_mem_cons, List.forall_mem_nil, Value.oneCell', and_self]; done) | (simp [Value.cells, Value.oneCell']; done))))
      | ((first | (refine kOps_ixap (off' := ?_) rfl rfl rfl rfl rfl rfl ty43 ty22 ?_ ?_ ?_; rotate_left 1; (simp only [cells_s4, cells_k2, List.nil_append, List.append_nil, List.cons_append, if_true, getD_bv, Nat.zero_add, n_add_zero, Nat.mul_one, Nat.one_mul, Int.toNat_natCast, Int.reduceToNat, Int.toNat_zero, Nat.reduceMul, Nat.reduceAdd]; rfl)) | (refine kOps_ixaq (cs' := ?_) rfl rfl rfl rfl rfl ty43 ty22 ?_ ?_ ?_; rotate_left 1; (simp only [cells_s4, cells_k2, List.nil_append, List.append_nil, List.cons_append, if_true, getD_bv, elemAt, isAggD, Bool.false_eq_true, if_false, List.getElem?_cons_zero, List.getElem?_cons_succ, List.getD_cons_zero, List.getD_cons_succ, List.drop_zero, List.drop_succ_cons, List.take_succ_cons, List.take_zero, List.length_cons, List.length_nil, List.set_cons_zero, List.set_cons_succ, Nat.zero_add, n_add_zero, Nat.mul_one, Nat.reduceAdd, Nat.reduceMul, Int.toNat_natCast, Int.reduceToNat, Int.toNat_zero, take_cl, agg_cl, len_cl]; rfl))); (focus ((repeat' apply And.intro) <;> first | exact True.intro | omega | (with_reducible rfl) | assumption | (simp only [List.length_map, List.length_set, List.length_replicate, List.length_cons, List.length_nil, List.length_append, List.length_take, List.length_drop, len_cnt]; omega) | (simp only [cells_s4, cells_k2, cells_agg, one_ul, List.length_cons, List.length_nil, List.all_cons, List.all_nil, Bool.and_self, Nat.reduceAdd, Nat.zero_add, Nat.le_refl, Nat.reduceLeDiff, and_self, true_and, and_true]; done) | (simp only [cells_agg, one_bv, List.length_map, List.length_set, List.length_replicate, List.length_cons, List.length_nil, List.length_append, List.length_take, List.length_drop, len_cnt, and_self, true_and, Nat.le_refl, Nat.reduceAdd, Nat.zero_add]; done) | exact ⟨_, rfl⟩ | (simp only [one_cl, one_ul, cells_u4, cells_ul, len_cl, List.all_cons, List.all_nil, Bool.and_self, List.length_cons, List.length_nil]; done) | (simp only [len_cl]; omega) | (simp [Value.cells, Value.oneCell']; done))))
      | ((first | refine kOps_loadp (pre := ?_) (val := ?_) rfl rfl rfl rfl rfl ty22 ?_ ?_ ?_ | refine kOps_loadr (pre := ?_) (val := ?_) rfl rfl rfl rfl ty22 ?_ ?_ ?_); rotate_left 2; (simp only [cells_s4, cells_k2, List.nil_append, List.append_nil, List.cons_append, if_true, getD_bv, partF, isAggD, Bool.false_eq_true, if_false, List.getElem?_cons_zero, List.getElem?_cons_succ, List.getD_cons_zero, List.getD_cons_succ, List.drop_zero, List.drop_succ_cons, List.take_succ_cons, List.take_zero, List.length_cons, List.length_nil, List.set_cons_zero, List.set_cons_succ, Nat.zero_add, n_add_zero, Nat.mul_one, Nat.reduceAdd, Nat.reduceMul, Int.toNat_natCast, Int.reduceToNat, Int.toNat_zero, take_cl, agg_cl, len_cl]; rfl); (focus ((repeat' apply And.intro) <;> first | exact True.intro | omega | (with_reducible rfl) | assumption | (simp only [List.length_map, List.length_set, List.length_replicate, List.length_cons, List.length_nil, List.length_append, List.length_take, List.length_drop, len_cnt]; omega) | (simp only [cells_s4, cells_k2, cells_agg, one_ul, List.length_cons, List.length_nil, List.all_cons, List.all_nil, Bool.and_self, Nat.reduceAdd, Nat.zero_add, Nat.le_refl, Nat.reduceLeDiff, and_self, true_and, and_true]; done) | (simp only [cells_agg, one_bv, List.length_map, List.length_set, List.length_replicate, List.length_cons, List.length_nil, List.length_append, List.length_take, List.length_drop, len_cnt, and_self, true_and, Nat.le_refl, Nat.reduceAdd, Nat.zero_add]; done) | exact ⟨_, rfl⟩ | (simp only [one_cl, one_ul, cells_u4, cells_ul, len_cl, List.all_cons, List.all_nil, Bool.and_self, List.length_cons, List.length_nil]; done) | (simp only [len_cl]; omega) | (simp [Value.cells, Value.oneCell']; done))))
      | (refine kOps_bin (b := .add) (pre := ?_) (val := ?_) rfl rfl rfl rfl rfl ?_ ?_ ?_; rotate_left 2; (intro L; simp only [cells_s4, cells_k2, List.nil_append, List.append_nil, List.cons_append, if_true, getD_bv, d_add, d_xor, d_or, lit_ul0, lit_ul1, add_ul, binF_add, Int.reduceAdd, Int.reduceSub, Int.reduceMul, Int.reduceNeg, Int.sub_zero, Int.cast_ofNat_Int, ne_eq, Int.reduceLT, Int.reduceLE, Int.reduceEq, Nat.reduceMod, Nat.reduceLT, decide_true, decide_false, ty22]; (first | (rw [wrap_i64] <;> first | omega | rfl) | (rw [wrap_u8] <;> first | omega | rfl) | (rw [wrap_u16] <;> first | omega | rfl) | (rw [wrap_u32] <;> first | omega | rfl) | rfl)); exact trivial)
      | (refine kOps_store (cs' := ?_) rfl rfl rfl rfl rfl rfl rfl ty22 ?_ ?_ ?_; rotate_left 1; (simp only [cells_s4, cells_k2, List.nil_append, List.append_nil, List.cons_append, if_true, getD_bv, lit_ul0, lit_ul1, splice, cells_ul, cells_u4, cells_agg, cells_int, cells_bool, cells_string, cells_slice, cells_ro, cells_rptr, isAggD, Bool.false_eq_true, if_false, List.getElem?_cons_zero, List.getElem?_cons_succ, List.getD_cons_zero, List.getD_cons_succ, List.drop_zero, List.drop_succ_cons, List.take_succ_cons, List.take_zero, List.length_cons, List.length_nil, List.set_cons_zero, List.set_cons_succ, Nat.zero_add, n_add_zero, Nat.mul_one, Nat.reduceAdd, Nat.reduceMul, Int.toNat_natCast, Int.reduceToNat, Int.toNat_zero, take_cl, agg_cl, len_cl]; rfl); (focus (first | (simp only [lit_ul0, lit_ul1, cells_ul, cells_u4, cells_agg, cells_int, cells_bool, cells_string, cells_slice, cells_ro, cells_rptr, List.length_cons, List.length_nil, len_cl, List.length_set, List.length_map, Nat.reduceAdd, Nat.zero_add, List.all_cons, List.all_nil, one_ul, one_cl, one_bv, PV.one, Value.oneCell', Bool.and_self, Nat.reduceLeDiff, Nat.le_refl, and_self, true_and, and_true]; done) | ((try simp only [lit_ul0, lit_ul1, cells_ul, cells_u4, cells_agg, cells_int, cells_bool, cells_string, cells_slice, cells_ro, cells_rptr]); (focus ((repeat' apply And.intro) <;> first | exact True.intro | omega | (with_reducible rfl) | assumption | (simp only [List.length_map, List.length_set, List.length_replicate, List.length_cons, List.length_nil, List.length_append, List.length_take, List.length_drop, len_cnt]; omega) | (simp only [cells_s4, cells_k2, cells_agg, one_ul, List.length_cons, List.length_nil, List.all_cons, List.all_nil, Bool.and_self, Nat.reduceAdd, Nat.zero_add, Nat.le_refl, Nat.reduceLeDiff, and_self, true_and, and_true]; done) | (simp only [cells_agg, one_bv, List.length_map, List.length_set, List.length_replicate, List.length_cons, List.length_nil, List.length_append, List.length_take, List.length_drop, len_cnt, and_self, true_and, Nat.le_refl, Nat.reduceAdd, Nat.zero_add]; done) | exact ⟨_, rfl⟩ | (simp only [one_cl, one_ul, cells_u4, cells_ul, len_cl, List.all_cons, List.all_nil, Bool.and_self, List.length_cons, List.length_nil]; done) | (simp only [len_cl]; omega) | (simp [Value.cells, Value.oneCell']; done)))))))
      | (refine kOps_callc (pre := ?_) (val := ?_) rfl rfl rfl rfl rfl ?_ ?_ ?_ ?_ ?_; rotate_left 2; (simp only [cells_s4, cells_k2, List.nil_append, List.append_nil, List.cons_append, if_true, getD_bv, dOf_ul, isS4_s4, isS4_l, s4Of_l, s4Of_s4, s4_eta, isK2_k2, k2a_k2, k2b_k2, isK2_l, k2a_l, k2b_l, d_back, isB_bv, bytesOf_bv, isul_ul, Int.reduceToNat, sRotL64, lit_ul0, lit_ul1, nrmC, List.map_cons, List.map_nil, nrm_ul, nrm_u4, nrm_nil, nrm_int, nrm_bool, nrm_string, nrm_ro, nrm_agg, nrm_rptr, ulv_ul, isU_u4, uv_u4, true_and, and_true, and_self, n_add_zero, Nat.zero_add, Nat.zero_mod, n_sub_zero]; rfl); (focus (first | (with_reducible rfl) | (simp only [closed, closedL, closed_ul, closed_u4, closedL_bv, closedL_cl, Bool.and_self, Bool.and_true, closedL_wr, closed_uw, closed_sv, closed_s4, closed_k2]; done))); (focus (first | (with_reducible rfl) | (simp only [closed, closedL, closed_ul, closed_u4, closedL_bv, closedL_cl, Bool.and_self, Bool.and_true, closedL_wr, closed_uw, closed_sv, closed_s4, closed_k2]; done))); (focus ((repeat' apply And.intro) <;> first | exact True.intro | omega | (with_reducible rfl) | assumption | (simp only [List.length_map, List.length_set, List.length_replicate, List.length_cons, List.length_nil, List.length_append, List.length_take, List.length_drop, len_cnt]; omega) | (simp only [cells_s4, cells_k2, cells_agg, one_ul, List.length_cons, List.length_nil, List.all_cons, List.all_nil, Bool.and_self, Nat.reduceAdd, Nat.zero_add, Nat.le_refl, Nat.reduceLeDiff, and_self, true_and, and_true]; done) | (simp only [cells_agg, one_bv, List.length_map, List.length_set, List.length_replicate, List.length_cons, List.length_nil, List.length_append, List.length_take, List.length_drop, len_cnt, and_self, true_and, Nat.le_refl, Nat.reduceAdd, Nat.zero_add]; done) | exact ⟨_, rfl⟩ | (simp only [one_cl, one_ul, cells_u4, cells_ul, len_cl, List.all_cons, List.all_nil, Bool.and_self, List.length_cons, List.length_nil]; done) | (simp only [len_cl]; omega) | (simp [Value.cells, Value.oneCell']; done))))
      | (refine kOps_bin (b := .xor) (pre := ?_) (val := ?_) rfl rfl rfl rfl rfl ?_ ?_ ?_; rotate_left 2; (intro L; simp only [cells_s4, cells_k2, List.nil_append, List.append_nil, List.cons_append, if_true, getD_bv, d_add, d_xor, d_or, lit_ul0, lit_ul1, xor_ul, binF_xor, Int.reduceAdd, Int.reduceSub, Int.reduceMul, Int.reduceNeg, Int.sub_zero, Int.cast_ofNat_Int, ne_eq, Int.reduceLT, Int.reduceLE, Int.reduceEq, Nat.reduceMod, Nat.reduceLT, decide_true, decide_false, ty22]; (first | (rw [wrap_i64] <;> first | omega | rfl) | (rw [wrap_u8] <;> first | omega | rfl) | (rw [wrap_u16] <;> first | omega | rfl) | (rw [wrap_u32] <;> first | omega | rfl) | rfl)); exact trivial)
      | ((first | refine kOps_loadp (pre := ?_) (val := ?_) rfl rfl rfl rfl rfl ty43 ?_ ?_ ?_ | refine kOps_loadr (pre := ?_) (val := ?_) rfl rfl rfl rfl ty43 ?_ ?_ ?_); rotate_left 2; (simp only [cells_s4, cells_k2, List.nil_append, List.append_nil, List.cons_append, if_true, getD_bv, partF, isAggD, Bool.false_eq_true, if_false, List.getElem?_cons_zero, List.getElem?_cons_succ, List.getD_cons_zero, List.getD_cons_succ, List.drop_zero, List.drop_succ_cons, List.take_succ_cons, List.take_zero, List.length_cons, List.length_nil, List.set_cons_zero, List.set_cons_succ, Nat.zero_add, n_add_zero, Nat.mul_one, Nat.reduceAdd, Nat.reduceMul, Int.toNat_natCast, Int.reduceToNat, Int.toNat_zero, take_cl, agg_cl, len_cl]; rfl); (focus ((repeat' apply And.intro) <;> first | exact True.intro | omega | (with_reducible rfl) | assumption | (simp only [List.length_map, List.length_set, List.length_replicate, List.length_cons, List.length_nil, List.length_append, List.length_take, List.length_drop, len_cnt]; omega) | (simp only [cells_s4, cells_k2, cells_agg, one_ul, List.length_cons, List.length_nil, List.all_cons, List.all_nil, Bool.and_self, Nat.reduceAdd, Nat.zero_add, Nat.le_refl, Nat.reduceLeDiff, and_self, true_and, and_true]; done) | (simp only [cells_agg, one_bv, List.length_map, List.length_set, List.length_replicate, List.length_cons, List.length_nil, List.length_append, List.length_take, List.length_drop, len_cnt, and_self, true_and, Nat.le_refl, Nat.reduceAdd, Nat.zero_add]; done) | exact ⟨_, rfl⟩ | (simp only [one_cl, one_ul, cells_u4, cells_ul, len_cl, List.all_cons, List.all_nil, Bool.and_self, List.length_cons, List.length_nil]; done) | (simp only [len_cl]; omega) | (simp [Value.cells, Value.oneCell']; done))))
      | (refine kOps_store (cs' := ?_) rfl rfl rfl rfl rfl rfl rfl ty43 ?_ ?_ ?_; rotate_left 1; (simp only [cells_s4, cells_k2, List.nil_append, List.append_nil, List.cons_append, if_true, getD_bv, lit_ul0, lit_ul1, splice, cells_ul, cells_u4, cells_agg, cells_int, cells_bool, cells_string, cells_slice, cells_ro, cells_rptr, isAggD, Bool.false_eq_true, if_false, List.getElem?_cons_zero, List.getElem?_cons_succ, List.getD_cons_zero, List.getD_cons_succ, List.drop_zero, List.drop_succ_cons, List.take_succ_cons, List.take_zero, List.length_cons, List.length_nil, List.set_cons_zero, List.set_cons_succ, Nat.zero_add, n_add_zero, Nat.mul_one, Nat.reduceAdd, Nat.reduceMul, Int.toNat_natCast, Int.reduceToNat, Int.toNat_zero, take_cl, agg_cl, len_cl]; rfl); (focus (first | (simp only [lit_ul0, lit_ul1, cells_ul, cells_u4, cells_agg, cells_int, cells_bool, cells_string, cells_slice, cells_ro, cells_rptr, List.length_cons, List.length_nil, len_cl, List.length_set, List.length_map, Nat.reduceAdd, Nat.zero_add, List.all_cons, List.all_nil, one_ul, one_cl, one_bv, PV.one, Value.oneCell', Bool.and_self, Nat.reduceLeDiff, Nat.le_refl, and_self, true_and, and_true]; done) | ((try simp only [lit_ul0, lit_ul1, cells_ul, cells_u4, cells_agg, cells_int, cells_bool, cells_string, cells_slice, cells_ro, cells_rptr]); (focus ((repeat' apply And.intro) <;> first | exact True.intro | omega | (with_reducible rfl) | assumption | (simp only [List.length_map, List.length_set, List.length_replicate, List.length_cons, List.length_nil, List.length_append, List.length_take, List.length_drop, len_cnt]; omega) | (simp only [cells_s4, cells_k2, cells_agg, one_ul, List.length_cons, List.length_nil, List.all_cons, List.all_nil, Bool.and_self, Nat.reduceAdd, Nat.zero_add, Nat.le_refl, Nat.reduceLeDiff, and_self, true_and, and_true]; done) | (simp only [cells_agg, one_bv, List.length_map, List.length_set, List.length_replicate, List.length_cons, List.length_nil, List.length_append, List.length_take, List.length_drop, len_cnt, and_self, true_and, Nat.le_refl, Nat.reduceAdd, Nat.zero_add]; done) | exact ⟨_, rfl⟩ | (simp only [one_cl, one_ul, cells_u4, cells_ul, len_cl, List.all_cons, List.all_nil, Bool.and_self, List.length_cons, List.length_nil]; done) | (simp only [len_cl]; omega) | (simp [Value.cells, Value.oneCell']; done)))))))
      | (refine vOps_gundef rfl rfl ?_ ?_; (focus (simp only [lookup_cons, Nat.reduceBEq, cond_true, cond_false]; done)); simp only [putIn])
      | (refine vOps_gpick (t := ?_) (val := ?_) rfl rfl ?_ rfl rfl ?_ ?_ ?_; rotate_left 2; (focus (simp only [lookup_cons, Nat.reduceBEq, cond_true, cond_false]; done)); (simp only [evalIn_tmp, evalIn_const, lookup_cons, Nat.reduceBEq, cond_true, cond_false]; rfl); (simp only [evalIn_tmp, evalIn_const, lookup_cons, Nat.reduceBEq, cond_true, cond_false]; rfl))
      | (refine vOps_pick (t := ?_) (val := ?_) rfl rfl rfl ?_ ?_ ?_; rotate_left 2; (simp only [evalIn_tmp, evalIn_const, lookup_cons, Nat.reduceBEq, cond_true, cond_false]; rfl); (simp only [evalIn_tmp, evalIn_const, lookup_cons, Nat.reduceBEq, cond_true, cond_false]; rfl))
      | (refine vOps_fork (b := ?_) rfl rfl ?_ ?_ ?_; rotate_left 1; (simp only [lookup_cons, Nat.reduceBEq, cond_true, cond_false]; rfl); all_goals (intro hb; simp only [hb]; (try simp only [decide_eq_true_eq, decide_eq_false_iff_not] at hb); try (exfalso; first | omega | exact hb trivial)))
      | (refine vOps_forkp (b := ?_) rfl ?_ ?_ ?_; rotate_left 1; (simp only [evalIn_tmp, lookup_cons, Nat.reduceBEq, cond_true, cond_false]; rfl); all_goals (intro hb; simp only [hb]; (try simp only [decide_eq_true_eq, decide_eq_false_iff_not] at hb); try (exfalso; first | omega | exact hb trivial))))
    refine fin_c (p := ?_) (xs := [.cell 2 43]) (by simp) rfl ?_ ?_ ?_ ?_
    rotate_left 2
    · simp only [resAll_cons, resAll_nil, resPVl_0, resPVl_1, resPVl_2, resOne_tmp, resOne_cell, List.map_cons, List.map_nil, cells_s4, cells_k2, List.nil_append, List.append_nil, List.cons_append, if_true, getD_bv, evalIn_tmp, evalIn_const, evalIn_func, lookup_cons, Nat.reduceBEq, cond_true, cond_false, lit_ul0, lit_ul1, loadF, partF, Int.cast_ofNat_Int, Nat.min_self, List.drop_succ_cons, Int.reduceSub, List.getElem?_cons_zero, List.getElem?_cons_succ, List.getD_cons_zero, List.getD_cons_succ, List.getD_nil, List.drop_zero, List.take_succ_cons, List.take_zero, List.take_nil, List.length_cons, List.length_nil, List.set_cons_zero, List.set_cons_succ, Nat.zero_add, n_add_zero, Nat.mul_one, Nat.one_mul, Nat.reduceAdd, Nat.reduceMul, Nat.reduceSub, Nat.reduceLeDiff, Nat.reduceEqDiff, Int.toNat_natCast, Int.reduceToNat, Int.toNat_zero, reduceIte, if_false, Bool.false_eq_true, isAggD, len_cl, take_cl, agg_cl, take_bytes, List.length_map, true_and, and_true, and_self, ty3, ty22, ty43]; try rfl
    · first | (with_reducible rfl) | (simp only [closed, closedL, closed_u4, closed_ul, closed_s4, closed_k2, closedL_bv, Bool.and_self, Bool.and_true]; done) | (simp only [closed, closedL, closed_u4, closed_ul, closed_s4, closed_k2, closedL_bv, Bool.and_self, Bool.and_true]; rfl)
    · rfl
    · simp only [resAll_cons, resAll_nil, resPVl_0, resPVl_1, resPVl_2, resOne_tmp, resOne_cell, List.map_cons, List.map_nil, cells_s4, cells_k2, List.nil_append, List.append_nil, List.cons_append, if_true, getD_bv, evalIn_tmp, evalIn_const, evalIn_func, lookup_cons, Nat.reduceBEq, cond_true, cond_false, lit_ul0, lit_ul1, loadF, partF, Int.cast_ofNat_Int, Nat.min_self, List.drop_succ_cons, Int.reduceSub, List.getElem?_cons_zero, List.getElem?_cons_succ, List.getD_cons_zero, List.getD_cons_succ, List.getD_nil, List.drop_zero, List.take_succ_cons, List.take_zero, List.take_nil, List.length_cons, List.length_nil, List.set_cons_zero, List.set_cons_succ, Nat.zero_add, n_add_zero, Nat.mul_one, Nat.one_mul, Nat.reduceAdd, Nat.reduceMul, Nat.reduceSub, Nat.reduceLeDiff, Nat.reduceEqDiff, Int.toNat_natCast, Int.reduceToNat, Int.toNat_zero, reduceIte, if_false, Bool.false_eq_true, isAggD, len_cl, take_cl, agg_cl, take_bytes, List.length_map, true_and, and_true, and_self, ty3, ty22, ty43]; try trivial
  · exact hS.elim
end Go.Ab
