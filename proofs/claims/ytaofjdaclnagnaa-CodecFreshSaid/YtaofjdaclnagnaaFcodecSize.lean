import Derived.Test.YtaofjdaclnagnaaMG
import Derived.Test.YtaofjdaclnagnaaTY
import Derived.Test.YtaofjdaclnagnaaFcodecanySize
namespace Go.Ab
open Go Go.Proofs
set_option linter.unusedVariables false
set_option linter.unusedSimpArgs false
set_option maxRecDepth 8000
set_option maxHeartbeats 4000000

noncomputable def B38 : Code := bodyOf Try.f38
theorem B38_eq : Try.f38.body = some B38 := by kernel_rfl
noncomputable def n38_0 : Code := B38
noncomputable def n38_1 : Code := codeAt B38 [0]
noncomputable def n38_2 : Code := codeAt B38 [1]
noncomputable def n38_3 : Code := codeAt B38 [1,0]
noncomputable def n38_4 : Code := codeAt B38 [1,1]
noncomputable def n38_5 : Code := codeAt B38 [1,1,0]
noncomputable def n38_6 : Code := codeAt B38 [1,1,0,0]
noncomputable def n38_7 : Code := codeAt B38 [1,1,0,1]
noncomputable def n38_8 : Code := codeAt B38 [1,1,0,1,0]
noncomputable def n38_9 : Code := codeAt B38 [1,1,0,1,0,0]
noncomputable def n38_10 : Code := codeAt B38 [1,1,0,1,0,1]
noncomputable def n38_11 : Code := codeAt B38 [1,1,0,1,1]
noncomputable def n38_12 : Code := codeAt B38 [1,1,1]
noncomputable def n38_13 : Code := codeAt B38 [1,1,1,0]
noncomputable def n38_14 : Code := codeAt B38 [1,1,1,0,0]
noncomputable def n38_15 : Code := codeAt B38 [1,1,1,0,1]
noncomputable def n38_16 : Code := codeAt B38 [1,1,1,0,1,0]
noncomputable def n38_17 : Code := codeAt B38 [1,1,1,0,1,0,0]
noncomputable def n38_18 : Code := codeAt B38 [1,1,1,0,1,0,1]
noncomputable def n38_19 : Code := codeAt B38 [1,1,1,0,1,1]
noncomputable def n38_20 : Code := codeAt B38 [1,1,1,1]
noncomputable def n38_21 : Code := codeAt B38 [1,1,1,1,0]
noncomputable def n38_22 : Code := codeAt B38 [1,1,1,1,1]
theorem e38_0 : n38_0 = .seq n38_1 n38_2 := rfl
noncomputable def r38_1 := opsAt n38_1
theorem e38_1 : n38_1 = .region 0 (r38_1).toArray false := rfl
theorem e38_2 : n38_2 = .seq n38_3 n38_4 := rfl
noncomputable def r38_3 := opsAt n38_3
theorem e38_3 : n38_3 = .region 1 (r38_3).toArray false := rfl
theorem e38_4 : n38_4 = .seq n38_5 n38_12 := rfl
theorem e38_5 : n38_5 = .seq n38_6 n38_7 := rfl
noncomputable def r38_6 := opsAt n38_6
theorem e38_6 : n38_6 = .region 2 (r38_6).toArray false := rfl
theorem e38_7 : n38_7 = .cond (.tmp 20) n38_8 n38_11 := rfl
theorem e38_8 : n38_8 = .seq n38_9 n38_10 := rfl
noncomputable def r38_9 := opsAt n38_9
theorem e38_9 : n38_9 = .region 3 (r38_9).toArray false := rfl
theorem e38_10 : n38_10 = .ret := rfl
theorem e38_11 : n38_11 = .skip := rfl
theorem e38_12 : n38_12 = .seq n38_13 n38_20 := rfl
theorem e38_13 : n38_13 = .seq n38_14 n38_15 := rfl
noncomputable def r38_14 := opsAt n38_14
theorem e38_14 : n38_14 = .region 4 (r38_14).toArray false := rfl
theorem e38_15 : n38_15 = .cond (.tmp 24) n38_16 n38_19 := rfl
theorem e38_16 : n38_16 = .seq n38_17 n38_18 := rfl
noncomputable def r38_17 := opsAt n38_17
theorem e38_17 : n38_17 = .region 5 (r38_17).toArray false := rfl
theorem e38_18 : n38_18 = .ret := rfl
theorem e38_19 : n38_19 = .skip := rfl
theorem e38_20 : n38_20 = .seq n38_21 n38_22 := rfl
noncomputable def r38_21 := opsAt n38_21
theorem e38_21 : n38_21 = .region 6 (r38_21).toArray false := rfl
theorem e38_22 : n38_22 = .ret := rfl
theorem f_codec_Size : PureOk Try.prog 38 sSizeR := by
  refine pureOk_of (c := n38_0) (Γ := conOf [(57, .pure sAny)]) (conOf_ok (conOf_one (S := .pure sAny) f_codec_anySize (conOf_end))) mixed Try.func38 B38_eq (by decide +kernel) Try.call38 ?_
  intro args hS
  unfold sSizeR at hS ⊢
  split at hS
  · refine ⟨by rw [Try.ntmps38]; simp, vC_sound ?_⟩
    rename_i n cs a x
    obtain ⟨hB, hn, ha0, ha1, hx⟩ := hS
    obtain ⟨b, rfl, rfl⟩ := isB_out hB
    obtain ⟨most, hm0, rfl⟩ := isul_out hx
    simp only [bytesOf_bv, ulv_ul, Nat.mod_eq_of_lt hm0]
    clear hB hx
    simp only [entry_cons, entry_nil, Nat.reduceAdd]
    have hv := anyR_lt b a
    repeat' (first
      | (with_reducible first | apply seqC_normal | apply seqC_ret)
      | ((with_reducible apply wC_seq e38_0; apply wC_region e38_1); refine vOps_open (l := _ :: _) rfl ?_; refine kOps_asc rfl rfl rfl lit_ul0 ?_; refine kOps_as rfl rfl rfl rfl ?_; refine kOps_as rfl rfl rfl rfl ?_; refine vOps_nil ?_; (with_reducible apply seqC_normal; apply wC_seq e38_2; apply wC_region e38_3); refine vOps_open (l := _ :: _) rfl ?_; refine kOps_mv rfl rfl rfl rfl ?_; refine kOps_mv rfl rfl rfl rfl ?_; refine kOps_callc (pre := ?_) (val := ?_) rfl rfl rfl rfl rfl ?_ ?_ ?_ ?_ ?_; rotate_left 2; (simp only [splice_one, cells_bv, getD_bv, set_bv, cells_agg, decide_true, decide_false, Int.reduceNe, ne_eq, not_true_eq_false, not_false_eq_true, Nat.mod_eq_of_lt hm0, Nat.mod_eq_of_lt hv, isB_bv, bytesOf_bv, sAny, nrmC, List.map_cons, List.map_nil, nrm_ul, nrm_u4, nrm_nil, nrm_int, nrm_bool, nrm_string, nrm_ro, nrm_agg, nrm_rptr, isul_ul, ulv_ul, isU_u4, uv_u4, true_and, and_true, and_self, n_add_zero, Nat.zero_add, Nat.zero_mod, n_sub_zero]; rfl); (focus (first | (with_reducible rfl) | (simp only [closed, closedL, closed_ul, closed_u4, closedL_bv, closedL_cl, Bool.and_self, Bool.and_true, closedL_wr, closed_uw, closed_sv, closed_tp]; done))); (focus (first | (with_reducible rfl) | (simp only [closed, closedL, closed_ul, closed_u4, closedL_bv, closedL_cl, Bool.and_self, Bool.and_true, closedL_wr, closed_uw, closed_sv, closed_tp]; done))); (focus ((repeat' apply And.intro) <;> first | exact True.intro | omega | (with_reducible rfl) | assumption | (simp only [lns]; first | done | omega) | (simp only [one_bv, cells_bv, one_bv1, List.length_cons, List.length_nil, List.all_cons, List.all_nil, Bool.and_self]; done) | (simp only [cells_agg, one_bv, lns, and_self, true_and, Nat.le_refl, Nat.reduceAdd, Nat.zero_add]; done) | exact one_bv _ | exact ⟨_, rfl⟩ | (simp [PV.one, one_bv, PV.cells, Value.cells, Value.oneCell']; done))); refine kOps_mv rfl rfl rfl rfl ?_; refine kOps_ext rfl rfl rfl rfl rfl ?_; refine kOps_ext rfl rfl rfl rfl rfl ?_; refine kOps_ext rfl rfl rfl rfl rfl ?_; refine kOps_as rfl rfl rfl rfl ?_; refine kOps_as rfl rfl rfl rfl ?_; refine kOps_as rfl rfl rfl rfl ?_; refine vOps_nil ?_; (with_reducible apply seqC_normal; apply wC_seq e38_4; apply wC_seq e38_5; apply wC_region e38_6); refine vOps_open (l := _ :: _) rfl ?_; refine kOps_mv rfl rfl rfl rfl ?_; refine kOps_bin (b := .neq) (pre := ?_) (val := ?_) rfl rfl rfl rfl rfl ?_ ?_ ?_; rotate_left 2; (intro L; simp only [splice_one, cells_bv, getD_bv, set_bv, cells_agg, decide_true, decide_false, Int.reduceNe, ne_eq, not_true_eq_false, not_false_eq_true, Nat.mod_eq_of_lt hm0, Nat.mod_eq_of_lt hv, neq_ul, binF_neq, binF_sneq, Int.reduceAdd, Int.reduceSub, Int.reduceMul, Int.reduceNeg, Int.sub_zero, Int.cast_ofNat_Int, Int.reduceLT, Int.reduceLE, Int.reduceEq, Nat.reduceMod, Nat.reduceLT, ty36]; (first | (rw [wrap_i64] <;> first | omega | rfl) | (rw [wrap_u8] <;> first | omega | rfl) | (rw [wrap_u16] <;> first | omega | rfl) | (rw [wrap_u32] <;> first | omega | rfl) | rfl)); (focus ((repeat' apply And.intro) <;> first | exact True.intro | omega | (with_reducible rfl) | assumption | (simp only [lns]; first | done | omega) | (simp only [one_bv, cells_bv, one_bv1, List.length_cons, List.length_nil, List.all_cons, List.all_nil, Bool.and_self]; done) | (simp only [cells_agg, one_bv, lns, and_self, true_and, Nat.le_refl, Nat.reduceAdd, Nat.zero_add]; done) | exact one_bv _ | exact ⟨_, rfl⟩ | (simp [PV.one, one_bv, PV.cells, Value.cells, Value.oneCell']; done))); refine vOps_nil ?_; (with_reducible apply seqC_normal; apply kC_cond e38_7); (exact rfl); all_goals (intro hb; first | (cases hb; done) | cases hb | ((try simp only [decide_eq_true_eq, decide_eq_false_iff_not, Bool.not_eq_true', Bool.not_eq_false'] at hb); try (exfalso; first | omega | exact hb trivial))))
      | ((with_reducible apply wC_seq e38_8; apply wC_region e38_9); refine vOps_open (l := _ :: _) rfl ?_; refine kOps_mv rfl rfl rfl rfl ?_; refine kOps_asc rfl rfl rfl lit_ul0 ?_; refine kOps_as rfl rfl rfl rfl ?_; refine kOps_as rfl rfl rfl rfl ?_; refine vOps_nil ?_; (with_reducible apply seqC_normal; apply wC_ret e38_10))
      | ((with_reducible apply wC_skip e38_11))
      | ((with_reducible apply wC_seq e38_12; apply wC_seq e38_13; apply wC_region e38_14); refine vOps_open (l := _ :: _) rfl ?_; refine kOps_mv rfl rfl rfl rfl ?_; refine kOps_mv rfl rfl rfl rfl ?_; refine kOps_bin (b := .gtr) (pre := ?_) (val := ?_) rfl rfl rfl rfl rfl ?_ ?_ ?_; rotate_left 2; (intro L; simp only [splice_one, cells_bv, getD_bv, set_bv, cells_agg, decide_true, decide_false, Int.reduceNe, ne_eq, not_true_eq_false, not_false_eq_true, Nat.mod_eq_of_lt hm0, Nat.mod_eq_of_lt hv, gtr_ul, binF_gtr, Int.reduceAdd, Int.reduceSub, Int.reduceMul, Int.reduceNeg, Int.sub_zero, Int.cast_ofNat_Int, Int.reduceLT, Int.reduceLE, Int.reduceEq, Nat.reduceMod, Nat.reduceLT, ty23]; (first | (rw [wrap_i64] <;> first | omega | rfl) | (rw [wrap_u8] <;> first | omega | rfl) | (rw [wrap_u16] <;> first | omega | rfl) | (rw [wrap_u32] <;> first | omega | rfl) | rfl)); exact trivial; refine vOps_nil ?_; (with_reducible apply seqC_normal; apply kC_cond e38_15); (exact rfl); all_goals (intro hb; first | (cases hb; done) | cases hb | ((try simp only [decide_eq_true_eq, decide_eq_false_iff_not, Bool.not_eq_true', Bool.not_eq_false'] at hb); try (exfalso; first | omega | exact hb trivial))))
      | ((with_reducible apply wC_seq e38_16; apply wC_region e38_17); refine vOps_open (l := _ :: _) rfl ?_; refine kOps_asc rfl rfl rfl lit_ul0 ?_; refine kOps_as rfl rfl rfl rfl ?_; refine kOps_as rfl rfl rfl rfl ?_; refine vOps_nil ?_; (with_reducible apply seqC_normal; apply wC_ret e38_18))
      | ((with_reducible apply wC_skip e38_19))
      | ((with_reducible apply wC_seq e38_20; apply wC_region e38_21); refine vOps_open (l := _ :: _) rfl ?_; refine kOps_mv rfl rfl rfl rfl ?_; refine kOps_mv rfl rfl rfl rfl ?_; refine kOps_as rfl rfl rfl rfl ?_; refine kOps_as rfl rfl rfl rfl ?_; refine kOps_as rfl rfl rfl rfl ?_; refine vOps_nil ?_; (with_reducible apply seqC_normal; apply wC_ret e38_22)))
    all_goals (
      refine fin_c (p := ?_) (xs := [.tmp 6, .tmp 7, .tmp 8]) (by simp) rfl ?_ ?_ ?_ ?_
      rotate_left 2
      · simp only [resAll_cons, resAll_nil, resPVl_0, resPVl_1, resPVl_2, resOne_tmp, resOne_cell, List.map_cons, List.map_nil, splice_one, cells_bv, getD_bv, set_bv, cells_agg, decide_true, decide_false, Int.reduceNe, ne_eq, not_true_eq_false, not_false_eq_true, Nat.mod_eq_of_lt hm0, Nat.mod_eq_of_lt hv, evalIn_tmp, evalIn_const, evalIn_func, lookup_cons, Nat.reduceBEq, cond_true, cond_false, lit_ul0, lit_ul1, loadF, partF, List.getElem?_cons_zero, List.getElem?_cons_succ, List.set_cons_zero, List.set_cons_succ, List.cons_append, List.nil_append, true_and, and_true, and_self, Nat.le_refl, Nat.reduceLeDiff, isAggD, Bool.false_eq_true, if_false, if_true, reduceIte, take_cl, agg_cl, len_cl, List.drop_zero, Int.toNat_natCast, Int.reduceToNat, Int.toNat_zero, n_add_zero, Nat.mul_one, Nat.zero_add, Nat.reduceAdd, Nat.reduceMul, take_bytes, List.length_map, List.getD_cons_zero, ty3, ty5, ty22, ty23, ty36]; try rfl
      · first | (with_reducible rfl) | (simp only [closed, closedL, closed_u4, closed_ul, closed_uw, closed_sv, closedL_bv, closedL_wr, Bool.and_self, Bool.and_true]; done) | (simp only [closed, closedL, closed_u4, closed_ul, closed_uw, closed_sv, closedL_bv, closedL_wr, Bool.and_self, Bool.and_true]; rfl)
      · first | (rw [sizeR_e2 (by omega)]; rfl) | (rw [sizeR_m2 (by omega) (by omega)]; rfl) | (rw [sizeR_k2 (by omega) (by omega)]; exact tp_ok (by omega))
      · simp only [resAll_cons, resAll_nil, resPVl_0, resPVl_1, resPVl_2, resOne_tmp, resOne_cell, List.map_cons, List.map_nil, splice_one, cells_bv, getD_bv, set_bv, cells_agg, decide_true, decide_false, Int.reduceNe, ne_eq, not_true_eq_false, not_false_eq_true, Nat.mod_eq_of_lt hm0, Nat.mod_eq_of_lt hv, evalIn_tmp, evalIn_const, evalIn_func, lookup_cons, Nat.reduceBEq, cond_true, cond_false, lit_ul0, lit_ul1, loadF, partF, List.getElem?_cons_zero, List.getElem?_cons_succ, List.set_cons_zero, List.set_cons_succ, List.cons_append, List.nil_append, true_and, and_true, and_self, Nat.le_refl, Nat.reduceLeDiff, isAggD, Bool.false_eq_true, if_false, if_true, reduceIte, take_cl, agg_cl, len_cl, List.drop_zero, Int.toNat_natCast, Int.reduceToNat, Int.toNat_zero, n_add_zero, Nat.mul_one, Nat.zero_add, Nat.reduceAdd, Nat.reduceMul, take_bytes, List.length_map, List.getD_cons_zero, ty3, ty5, ty22, ty23, ty36]; try trivial)
  · exact hS.elim
end Go.Ab
