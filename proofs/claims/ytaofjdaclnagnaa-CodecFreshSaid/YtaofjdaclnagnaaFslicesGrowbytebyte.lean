import Derived.Test.YtaofjdaclnagnaaMG
import Derived.Test.YtaofjdaclnagnaaTY
namespace Go.Ab
open Go Go.Proofs
set_option linter.unusedVariables false
set_option linter.unusedSimpArgs false
set_option maxRecDepth 8000
set_option maxHeartbeats 4000000

noncomputable def B61 : Code := bodyOf Try.f61
theorem B61_eq : Try.f61.body = some B61 := by kernel_rfl
noncomputable def n61_0 : Code := B61
noncomputable def n61_1 : Code := codeAt B61 [0]
noncomputable def n61_2 : Code := codeAt B61 [1]
noncomputable def n61_3 : Code := codeAt B61 [1,0]
noncomputable def n61_4 : Code := codeAt B61 [1,0,0]
noncomputable def n61_5 : Code := codeAt B61 [1,0,1]
noncomputable def n61_6 : Code := codeAt B61 [1,0,1,0]
noncomputable def n61_7 : Code := codeAt B61 [1,0,1,1]
noncomputable def n61_8 : Code := codeAt B61 [1,1]
noncomputable def n61_9 : Code := codeAt B61 [1,1,0]
noncomputable def n61_10 : Code := codeAt B61 [1,1,0,0]
noncomputable def n61_11 : Code := codeAt B61 [1,1,0,1]
noncomputable def n61_12 : Code := codeAt B61 [1,1,0,1,0]
noncomputable def n61_13 : Code := codeAt B61 [1,1,0,1,1]
noncomputable def n61_14 : Code := codeAt B61 [1,1,0,1,1,0]
noncomputable def n61_15 : Code := codeAt B61 [1,1,0,1,1,1]
noncomputable def n61_16 : Code := codeAt B61 [1,1,1]
noncomputable def n61_17 : Code := codeAt B61 [1,1,1,0]
noncomputable def n61_18 : Code := codeAt B61 [1,1,1,1]
theorem e61_0 : n61_0 = .seq n61_1 n61_2 := rfl
noncomputable def r61_1 := opsAt n61_1
theorem e61_1 : n61_1 = .region 0 (r61_1).toArray false := rfl
theorem e61_2 : n61_2 = .seq n61_3 n61_8 := rfl
theorem e61_3 : n61_3 = .seq n61_4 n61_5 := rfl
noncomputable def r61_4 := opsAt n61_4
theorem e61_4 : n61_4 = .region 1 (r61_4).toArray false := rfl
theorem e61_5 : n61_5 = .cond (.tmp 6) n61_6 n61_7 := rfl
noncomputable def r61_6 := opsAt n61_6
theorem e61_6 : n61_6 = .region 2 (r61_6).toArray false := rfl
theorem e61_7 : n61_7 = .skip := rfl
theorem e61_8 : n61_8 = .seq n61_9 n61_16 := rfl
theorem e61_9 : n61_9 = .seq n61_10 n61_11 := rfl
noncomputable def r61_10 := opsAt n61_10
theorem e61_10 : n61_10 = .region 3 (r61_10).toArray false := rfl
theorem e61_11 : n61_11 = .seq n61_12 n61_13 := rfl
noncomputable def r61_12 := opsAt n61_12
theorem e61_12 : n61_12 = .region 4 (r61_12).toArray false := rfl
theorem e61_13 : n61_13 = .cond (.tmp 16) n61_14 n61_15 := rfl
noncomputable def r61_14 := opsAt n61_14
theorem e61_14 : n61_14 = .region 5 (r61_14).toArray false := rfl
theorem e61_15 : n61_15 = .skip := rfl
theorem e61_16 : n61_16 = .seq n61_17 n61_18 := rfl
noncomputable def r61_17 := opsAt n61_17
theorem e61_17 : n61_17 = .region 6 (r61_17).toArray false := rfl
theorem e61_18 : n61_18 = .ret := rfl
theorem f_slices_Grow_byte_byte : PureOk Try.prog 61 sGrow := by
  refine pureOk_of (c := n61_0) (Γ := conOf []) (conOf_ok (conOf_end)) mixed Try.func61 B61_eq (by decide +kernel) Try.call61 ?_
  intro args hS
  unfold sGrow at hS ⊢
  split at hS
  · refine ⟨by rw [Try.ntmps61]; simp, vC_sound ?_⟩
    rename_i n
    obtain ⟨h0, h1⟩ := hS
    obtain ⟨m, rfl⟩ := Int.eq_ofNat_of_zero_le h0
    have hm : m ≤ 140737488355328 := by omega
    clear h0 h1
    simp only [entry_cons, entry_nil, Nat.reduceAdd]
    repeat' (first
      | (with_reducible first | apply seqC_normal | apply seqC_ret)
      | ((with_reducible apply wC_seq e61_0; apply wC_region e61_1); refine vOps_open (l := _ :: _) rfl ?_)
      | ((with_reducible apply wC_seq e61_2; apply wC_seq e61_3; apply wC_region e61_4); refine vOps_open (l := _ :: _) rfl ?_)
      | ((with_reducible apply kC_cond e61_5); (exact rfl); all_goals (intro hb; first | (cases hb; done) | cases hb | ((try simp only [decide_eq_true_eq, decide_eq_false_iff_not, Bool.not_eq_true', Bool.not_eq_false'] at hb); try (exfalso; first | omega | exact hb trivial))))
      | ((with_reducible apply wC_region e61_6); refine vOps_open (l := _ :: _) rfl ?_)
      | ((with_reducible apply wC_skip e61_7))
      | ((with_reducible apply wC_seq e61_8; apply wC_seq e61_9; apply wC_region e61_10); refine vOps_open (l := _ :: _) rfl ?_)
      | ((with_reducible apply wC_seq e61_11; apply wC_region e61_12); refine vOps_open (l := _ :: _) rfl ?_)
      | ((with_reducible apply kC_cond e61_13); (exact rfl); all_goals (intro hb; first | (cases hb; done) | cases hb | ((try simp only [decide_eq_true_eq, decide_eq_false_iff_not, Bool.not_eq_true', Bool.not_eq_false'] at hb); try (exfalso; first | omega | exact hb trivial))))
      | ((with_reducible apply wC_region e61_14); refine vOps_open (l := _ :: _) rfl ?_)
      | ((with_reducible apply wC_skip e61_15))
      | ((with_reducible apply wC_seq e61_16; apply wC_region e61_17); refine vOps_open (l := _ :: _) rfl ?_)
      | ((with_reducible apply wC_ret e61_18))
      | ((with_reducible apply vOps_nil); try (with_reducible refine And.intro (by kernel_rfl) ?_))
      | (refine kOps_gon (g := ?_) (p := ?_) rfl rfl ?_ ?_ ?_ ?_; rotate_left 2; fail; (exact rfl); (with_reducible rfl))
      | (refine kOps_gofft (g := ?_) (p := ?_) rfl rfl ?_ ?_ ?_ ?_; rotate_left 2; fail; (exact rfl); (with_reducible rfl))
      | (refine kOps_gofff (g := ?_) (p := ?_) rfl rfl ?_ ?_ ?_ ?_; rotate_left 2; fail; (exact rfl); (with_reducible rfl))
      | (refine kOps_pickt rfl rfl rfl rfl ?_ rfl ?_; (with_reducible rfl))
      | (refine kOps_pickf rfl rfl rfl rfl ?_ rfl ?_; (with_reducible rfl))
      | (refine kOps_as rfl rfl rfl rfl ?_)
      | (refine kOps_mv rfl rfl rfl rfl ?_)
      | (refine kOps_bin (b := .lss) (pre := ?_) (val := ?_) rfl rfl rfl rfl rfl ?_ ?_ ?_; rotate_left 2; (intro L; simp only [splice_one, cells_bv, getD_bv, set_bv, cells_agg, Int.sub_zero, Int.natCast_zero, Int.reduceSub, lit_ul0, lit_ul1, lss_ul, binF_lss, Int.reduceAdd, Int.reduceMul, Int.reduceNeg, Int.cast_ofNat_Int, ne_eq, Int.reduceLT, Int.reduceLE, Int.reduceEq, Nat.reduceMod, Nat.reduceLT, decide_true, decide_false, ty3]; (first | (rw [wrap_i64] <;> first | omega | rfl) | (rw [wrap_u8] <;> first | omega | rfl) | (rw [wrap_u16] <;> first | omega | rfl) | (rw [wrap_u32] <;> first | omega | rfl) | rfl)); exact trivial)
      | (refine kOps_len (d := 12) rfl rfl rfl rfl ty22 (by first | exact byt_nil | ((first | refine byt_ro ?_ | refine byt_own rfl ?_); (first | rfl | assumption | omega | (simp only [lns]; first | done | omega))) | (refine byt_part rfl ?_ rfl; (first | rfl | assumption | omega | (simp only [lns]; first | done | omega)))) ?_)
      | (refine kOps_bin (b := .sub) (pre := ?_) (val := ?_) rfl rfl rfl rfl rfl ?_ ?_ ?_; rotate_left 2; (intro L; simp only [splice_one, cells_bv, getD_bv, set_bv, cells_agg, Int.sub_zero, Int.natCast_zero, Int.reduceSub, lit_ul0, lit_ul1, sub_ul, binF_sub, Int.reduceAdd, Int.reduceMul, Int.reduceNeg, Int.cast_ofNat_Int, ne_eq, Int.reduceLT, Int.reduceLE, Int.reduceEq, Nat.reduceMod, Nat.reduceLT, decide_true, decide_false, ty3]; (first | (rw [wrap_i64] <;> first | omega | rfl) | (rw [wrap_u8] <;> first | omega | rfl) | (rw [wrap_u16] <;> first | omega | rfl) | (rw [wrap_u32] <;> first | omega | rfl) | rfl)); exact trivial)
      | (refine kOps_bin (b := .gtr) (pre := ?_) (val := ?_) rfl rfl rfl rfl rfl ?_ ?_ ?_; rotate_left 2; (intro L; simp only [splice_one, cells_bv, getD_bv, set_bv, cells_agg, Int.sub_zero, Int.natCast_zero, Int.reduceSub, lit_ul0, lit_ul1, gtr_ul, binF_gtr, Int.reduceAdd, Int.reduceMul, Int.reduceNeg, Int.cast_ofNat_Int, ne_eq, Int.reduceLT, Int.reduceLE, Int.reduceEq, Nat.reduceMod, Nat.reduceLT, decide_true, decide_false, ty3]; (first | (rw [wrap_i64] <;> first | omega | rfl) | (rw [wrap_u8] <;> first | omega | rfl) | (rw [wrap_u16] <;> first | omega | rfl) | (rw [wrap_u32] <;> first | omega | rfl) | rfl)); exact trivial)
      | (refine kOps_sln (d := 20) rfl rfl rfl rfl ty22 ty5 (by first | exact bnd_none | exact bnd_some rfl) (by first | exact bnd_none | exact bnd_some rfl) ?_)
      | (refine kOps_appm (d := 22) (m := m) rfl rfl rfl rfl rfl rfl ty22 ty3 ty5 (by simp only [↓List.length_append, ↓List.length_set, ↓List.length_cons, List.length_nil, Nat.reduceAdd, Nat.zero_add]; rfl) (by first | rfl | assumption | omega | (simp only [lns]; first | done | omega)) (by first | rfl | assumption | omega | (simp only [lns]; first | done | omega)) ?_)
      | (refine kOps_len (d := 24) rfl rfl rfl rfl ty22 (by first | exact byt_nil | ((first | refine byt_ro ?_ | refine byt_own rfl ?_); (first | rfl | assumption | omega | (simp only [lns]; first | done | omega))) | (refine byt_part rfl ?_ rfl; (first | rfl | assumption | omega | (simp only [lns]; first | done | omega)))) ?_)
      | (refine kOps_slo (d := 25) (l := 0) (w := 0) rfl rfl rfl rfl rfl ty22 ty5 rfl (by first | exact bnd_none | exact bnd_some rfl) (by first | exact bnd_none | exact bnd_some rfl) (by refine ⟨?_, ?_, ?_, ?_⟩ <;> (first | rfl | assumption | omega | (simp only [lns]; first | done | omega))) ?_)
      | (refine vOps_op (pre := ?_) (val := ?_) (L' := ?_) rfl rfl rfl ?_ ?_ ?_; rotate_left 3; (simp only [splice_one, cells_bv, getD_bv, set_bv, cells_agg, Int.sub_zero, Int.natCast_zero, Int.reduceSub, Int.cast_ofNat_Int, Nat.min_self, List.drop_succ_cons, opF, dm, md, cls, isW, Bool.not_true, Bool.not_false, evalIn_tmp, evalIn_const, evalIn_func, lookup_cons, Nat.reduceBEq, cond_true, cond_false, dro_bv, droOk_bv, bytesOf_u8, ByteArray.toList_mk, binF_add, binF_sub, binF_mul, binF_quo, binF_rem, binF_lss, binF_leq, binF_gtr, binF_geq, binF_eql, binF_neq, binF_and, binF_or, binF_xor, binF_shl, binF_shr, binF_seql, binF_sneq, unF_not, unF_neg, lenF, capF, makeF, appF, news, kill, take_bytes, List.drop_zero, List.take_succ_cons, List.take_zero, List.take_nil, List.length_map, Nat.mul_one, Nat.zero_add, Nat.one_mul, List.reduceReplicate, sliceF, ints?, indexAddrF, elemAt, loadF, partF, isAggD, storeF, boxF, allocF, buildSliceF, buildF, fillA, fillB, zeroCells, fieldF, fieldAddrF, indexF, extractF, copyF, fresh_own, fresh_ro, Int.reduceAdd, Int.reduceMul, Int.reduceNeg, rep_zero, rep_u8, rep_slice, Nat.reduceLeDiff, Value.cells, bv, List.getD_cons_zero, List.getD_cons_succ, List.getD_nil, List.getElem?_cons_zero, List.getElem?_cons_succ, List.length_cons, List.length_nil, Nat.reduceAdd, Nat.reduceSub, Nat.reduceMul, List.set_cons_zero, List.set_cons_succ, List.cons_append, List.nil_append, Option.map_some, Option.map_none, Int.toNat_zero, Int.toNat_natCast, if_true, if_false, Nat.reduceEqDiff, reduceIte, Bool.false_eq_true, IntKind.bits, List.map_cons, List.map_nil, List.toList_toArray, Int.reduceToNat, callF, pureF, conOf, tabOf_cons, nrmC, adopt_closed, adopt_new, adopt_tnew, borrow, borrowOk, closed, closedL, closedL_bv, closedL_rows, dro, droOk, flat, flatL, flatL_bv, List.forall_mem_cons, List.forall_mem_nil, newB, bytesOf_bv, bytesOf_one, isB_bv, isB_one, isRows, rowsOf, List.flatten_cons, List.flatten_nil, List.append_nil, List.all_nil, Bool.and_true, Bool.true_and, Bool.and_self, true_or, or_true, or_false, false_or, true_and, and_true, and_self, clr, n_add_zero, and_false, false_and, cells_int, cells_bool, cells_string, cells_slice, cells_ro, cells_rptr, nrm_nil, nrm_int, nrm_bool, nrm_string, nrm_ro, nrm_agg, nrm_rptr, slc_ro, slc_nil', slc_own', lit_ul0, lit_ul1, add_ul, sub_ul, mul_ul, lss_ul, leq_ul, gtr_ul, geq_ul, eql_ul, neq_ul, and_ul, or_ul, xor_ul, shl_z, shl_ul, shr_z, shr_ul, not_ul, cells_ul, one_ul, closed_ul, flat_ul, nrm_ul, borrow_ul, isul_ul, ulv_ul, len_cl, closedL_cl, flatL_cl, one_cl, take_cl, agg_cl, cells_u4, closed_u4, flat_u4, nrm_u4, borrow_u4, isU_u4, uv_u4, zero_cl4, ty3, ty5, ty22]; (first | (rw [wrap_i64] <;> first | omega | rfl) | (rw [wrap_u8] <;> first | omega | rfl) | (rw [wrap_u16] <;> first | omega | rfl) | (rw [wrap_u32] <;> first | omega | rfl) | rfl)); (focus ((repeat' apply And.intro) <;> first | exact True.intro | omega | (with_reducible rfl) | assumption | (simp only [lns]; first | done | omega) | (simp only [one_bv, cells_bv, one_bv1, List.length_cons, List.length_nil, List.all_cons, List.all_nil, Bool.and_self]; done) | (simp only [cells_agg, one_bv, lns, and_self, true_and, Nat.le_refl, Nat.reduceAdd, Nat.zero_add]; done) | exact one_bv _ | exact ⟨_, rfl⟩ | (simp [PV.one, one_bv, PV.cells, Value.cells, Value.oneCell']; done))))
      | (refine vOps_st (pre := ?_) (val := ?_) (L' := ?_) rfl rfl rfl ?_ ?_ ?_; rotate_left 3; (simp only [splice_one, cells_bv, getD_bv, set_bv, cells_agg, Int.sub_zero, Int.natCast_zero, Int.reduceSub, Int.cast_ofNat_Int, Nat.min_self, List.drop_succ_cons, opF, dm, md, cls, isW, Bool.not_true, Bool.not_false, evalIn_tmp, evalIn_const, evalIn_func, lookup_cons, Nat.reduceBEq, cond_true, cond_false, dro_bv, droOk_bv, bytesOf_u8, ByteArray.toList_mk, binF_add, binF_sub, binF_mul, binF_quo, binF_rem, binF_lss, binF_leq, binF_gtr, binF_geq, binF_eql, binF_neq, binF_and, binF_or, binF_xor, binF_shl, binF_shr, binF_seql, binF_sneq, unF_not, unF_neg, lenF, capF, makeF, appF, news, kill, take_bytes, List.drop_zero, List.take_succ_cons, List.take_zero, List.take_nil, List.length_map, Nat.mul_one, Nat.zero_add, Nat.one_mul, List.reduceReplicate, sliceF, ints?, indexAddrF, elemAt, loadF, partF, isAggD, storeF, boxF, allocF, buildSliceF, buildF, fillA, fillB, zeroCells, fieldF, fieldAddrF, indexF, extractF, copyF, fresh_own, fresh_ro, Int.reduceAdd, Int.reduceMul, Int.reduceNeg, rep_zero, rep_u8, rep_slice, Nat.reduceLeDiff, Value.cells, bv, List.getD_cons_zero, List.getD_cons_succ, List.getD_nil, List.getElem?_cons_zero, List.getElem?_cons_succ, List.length_cons, List.length_nil, Nat.reduceAdd, Nat.reduceSub, Nat.reduceMul, List.set_cons_zero, List.set_cons_succ, List.cons_append, List.nil_append, Option.map_some, Option.map_none, Int.toNat_zero, Int.toNat_natCast, if_true, if_false, Nat.reduceEqDiff, reduceIte, Bool.false_eq_true, IntKind.bits, List.map_cons, List.map_nil, List.toList_toArray, Int.reduceToNat, callF, pureF, conOf, tabOf_cons, nrmC, adopt_closed, adopt_new, adopt_tnew, borrow, borrowOk, closed, closedL, closedL_bv, closedL_rows, dro, droOk, flat, flatL, flatL_bv, List.forall_mem_cons, List.forall_mem_nil, newB, bytesOf_bv, bytesOf_one, isB_bv, isB_one, isRows, rowsOf, List.flatten_cons, List.flatten_nil, List.append_nil, List.all_nil, Bool.and_true, Bool.true_and, Bool.and_self, true_or, or_true, or_false, false_or, true_and, and_true, and_self, clr, n_add_zero, and_false, false_and, cells_int, cells_bool, cells_string, cells_slice, cells_ro, cells_rptr, nrm_nil, nrm_int, nrm_bool, nrm_string, nrm_ro, nrm_agg, nrm_rptr, slc_ro, slc_nil', slc_own', lit_ul0, lit_ul1, add_ul, sub_ul, mul_ul, lss_ul, leq_ul, gtr_ul, geq_ul, eql_ul, neq_ul, and_ul, or_ul, xor_ul, shl_z, shl_ul, shr_z, shr_ul, not_ul, cells_ul, one_ul, closed_ul, flat_ul, nrm_ul, borrow_ul, isul_ul, ulv_ul, len_cl, closedL_cl, flatL_cl, one_cl, take_cl, agg_cl, cells_u4, closed_u4, flat_u4, nrm_u4, borrow_u4, isU_u4, uv_u4, zero_cl4, ty3, ty5, ty22]; (first | (rw [wrap_i64] <;> first | omega | rfl) | (rw [wrap_u8] <;> first | omega | rfl) | (rw [wrap_u16] <;> first | omega | rfl) | (rw [wrap_u32] <;> first | omega | rfl) | rfl)); (focus ((repeat' apply And.intro) <;> first | exact True.intro | omega | (with_reducible rfl) | assumption | (simp only [lns]; first | done | omega) | (simp only [one_bv, cells_bv, one_bv1, List.length_cons, List.length_nil, List.all_cons, List.all_nil, Bool.and_self]; done) | (simp only [cells_agg, one_bv, lns, and_self, true_and, Nat.le_refl, Nat.reduceAdd, Nat.zero_add]; done) | exact one_bv _ | exact ⟨_, rfl⟩ | (simp [PV.one, one_bv, PV.cells, Value.cells, Value.oneCell']; done))))
      | (refine vOps_gundef rfl rfl ?_ ?_; (focus (simp only [lookup_cons, Nat.reduceBEq, cond_true, cond_false]; done)); simp only [putIn])
      | (refine vOps_gpick (t := ?_) (val := ?_) rfl rfl ?_ rfl rfl ?_ ?_ ?_; rotate_left 2; (focus (simp only [lookup_cons, Nat.reduceBEq, cond_true, cond_false]; done)); (simp only [evalIn_tmp, evalIn_const, lookup_cons, Nat.reduceBEq, cond_true, cond_false]; rfl); (simp only [evalIn_tmp, evalIn_const, lookup_cons, Nat.reduceBEq, cond_true, cond_false]; rfl))
      | (refine vOps_pick (t := ?_) (val := ?_) rfl rfl rfl ?_ ?_ ?_; rotate_left 2; (simp only [evalIn_tmp, evalIn_const, lookup_cons, Nat.reduceBEq, cond_true, cond_false]; rfl); (simp only [evalIn_tmp, evalIn_const, lookup_cons, Nat.reduceBEq, cond_true, cond_false]; rfl))
      | (refine vOps_fork (b := ?_) rfl rfl ?_ ?_ ?_; rotate_left 1; (simp only [lookup_cons, Nat.reduceBEq, cond_true, cond_false]; rfl); all_goals (intro hb; simp only [hb]; (try simp only [decide_eq_true_eq, decide_eq_false_iff_not] at hb); try (exfalso; first | omega | exact hb trivial)))
      | (refine vOps_forkp (b := ?_) rfl ?_ ?_ ?_; rotate_left 1; (simp only [evalIn_tmp, lookup_cons, Nat.reduceBEq, cond_true, cond_false]; rfl); all_goals (intro hb; simp only [hb]; (try simp only [decide_eq_true_eq, decide_eq_false_iff_not] at hb); try (exfalso; first | omega | exact hb trivial))))
    · exact fin_none (by simp) rfl rfl rfl
    · exact fin_nil (pre := True) (by simp) rfl (by rw [resOne_tmp]; rfl) trivial
  · exact hS.elim
end Go.Ab
