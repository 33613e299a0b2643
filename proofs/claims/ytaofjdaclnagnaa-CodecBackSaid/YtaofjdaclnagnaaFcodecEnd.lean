import Derived.Test.YtaofjdaclnagnaaMG
import Derived.Test.YtaofjdaclnagnaaTY
import Derived.Test.YtaofjdaclnagnaaFcodecneed
namespace Go.Ab
open Go Go.Proofs
set_option linter.unusedVariables false
set_option linter.unusedSimpArgs false
set_option maxRecDepth 8000
set_option maxHeartbeats 4000000

noncomputable def B36 : Code := bodyOf Try.f36
theorem B36_eq : Try.f36.body = some B36 := by kernel_rfl
noncomputable def n36_0 : Code := B36
noncomputable def n36_1 : Code := codeAt B36 [0]
noncomputable def n36_2 : Code := codeAt B36 [1]
noncomputable def n36_3 : Code := codeAt B36 [1,0]
noncomputable def n36_4 : Code := codeAt B36 [1,0,0]
noncomputable def n36_5 : Code := codeAt B36 [1,0,1]
noncomputable def n36_6 : Code := codeAt B36 [1,0,1,0]
noncomputable def n36_7 : Code := codeAt B36 [1,0,1,1]
noncomputable def n36_8 : Code := codeAt B36 [1,0,1,1,0]
noncomputable def n36_9 : Code := codeAt B36 [1,0,1,1,0,0]
noncomputable def n36_10 : Code := codeAt B36 [1,0,1,1,0,1]
noncomputable def n36_11 : Code := codeAt B36 [1,0,1,1,1]
noncomputable def n36_12 : Code := codeAt B36 [1,1]
noncomputable def n36_13 : Code := codeAt B36 [1,1,0]
noncomputable def n36_14 : Code := codeAt B36 [1,1,0,0]
noncomputable def n36_15 : Code := codeAt B36 [1,1,0,1]
noncomputable def n36_16 : Code := codeAt B36 [1,1,0,1,0]
noncomputable def n36_17 : Code := codeAt B36 [1,1,0,1,0,0]
noncomputable def n36_18 : Code := codeAt B36 [1,1,0,1,0,1]
noncomputable def n36_19 : Code := codeAt B36 [1,1,0,1,1]
noncomputable def n36_20 : Code := codeAt B36 [1,1,1]
noncomputable def n36_21 : Code := codeAt B36 [1,1,1,0]
noncomputable def n36_22 : Code := codeAt B36 [1,1,1,1]
theorem e36_0 : n36_0 = .seq n36_1 n36_2 := rfl
noncomputable def r36_1 := opsAt n36_1
theorem e36_1 : n36_1 = .region 0 (r36_1).toArray false := rfl
theorem e36_2 : n36_2 = .seq n36_3 n36_12 := rfl
theorem e36_3 : n36_3 = .seq n36_4 n36_5 := rfl
noncomputable def r36_4 := opsAt n36_4
theorem e36_4 : n36_4 = .region 1 (r36_4).toArray false := rfl
theorem e36_5 : n36_5 = .seq n36_6 n36_7 := rfl
noncomputable def r36_6 := opsAt n36_6
theorem e36_6 : n36_6 = .region 2 (r36_6).toArray false := rfl
theorem e36_7 : n36_7 = .cond (.tmp 10) n36_8 n36_11 := rfl
theorem e36_8 : n36_8 = .seq n36_9 n36_10 := rfl
noncomputable def r36_9 := opsAt n36_9
theorem e36_9 : n36_9 = .region 3 (r36_9).toArray false := rfl
theorem e36_10 : n36_10 = .ret := rfl
theorem e36_11 : n36_11 = .skip := rfl
theorem e36_12 : n36_12 = .seq n36_13 n36_20 := rfl
theorem e36_13 : n36_13 = .seq n36_14 n36_15 := rfl
noncomputable def r36_14 := opsAt n36_14
theorem e36_14 : n36_14 = .region 4 (r36_14).toArray false := rfl
theorem e36_15 : n36_15 = .cond (.tmp 15) n36_16 n36_19 := rfl
theorem e36_16 : n36_16 = .seq n36_17 n36_18 := rfl
noncomputable def r36_17 := opsAt n36_17
theorem e36_17 : n36_17 = .region 5 (r36_17).toArray false := rfl
theorem e36_18 : n36_18 = .ret := rfl
theorem e36_19 : n36_19 = .skip := rfl
theorem e36_20 : n36_20 = .seq n36_21 n36_22 := rfl
noncomputable def r36_21 := opsAt n36_21
theorem e36_21 : n36_21 = .region 6 (r36_21).toArray false := rfl
theorem e36_22 : n36_22 = .ret := rfl
theorem f_codec_End : PureOk Try.prog 36 sEnd := by
  refine pureOk_of (c := n36_0) (Γ := conOf [(56, .pure sNeed)]) (conOf_ok (conOf_one (S := .pure sNeed) f_codec_need (conOf_end))) mixed Try.func36 B36_eq (by decide +kernel) Try.call36 ?_
  intro args hS
  unfold sEnd at hS ⊢
  split at hS
  · refine ⟨by rw [Try.ntmps36]; simp, vC_sound ?_⟩
    rename_i n cs a
    obtain ⟨hB, hn, ha0, ha1⟩ := hS
    obtain ⟨b, rfl, rfl⟩ := isB_out hB
    clear hB
    simp only [entry_cons, entry_nil, Nat.reduceAdd]
    repeat' (first
      | (with_reducible first | apply seqC_normal | apply seqC_ret)
      | ((with_reducible apply wC_seq e36_0; apply wC_region e36_1); refine vOps_open (l := _ :: _) rfl ?_; refine kOps_as rfl rfl rfl rfl ?_; refine vOps_nil ?_; (with_reducible apply seqC_normal; apply wC_seq e36_2; apply wC_seq e36_3; apply wC_region e36_4); refine vOps_open (l := _ :: _) rfl ?_; refine kOps_mv rfl rfl rfl rfl ?_; refine kOps_mv rfl rfl rfl rfl ?_; refine kOps_callc (pre := ?_) (val := ?_) rfl rfl rfl rfl rfl ?_ ?_ ?_ ?_ ?_; rotate_left 2; (simp only [splice_one, cells_bv, getD_bv, set_bv, cells_agg, decide_true, decide_false, Int.reduceNe, ne_eq, not_true_eq_false, not_false_eq_true, sNeed, nrmC, List.map_cons, List.map_nil, nrm_ul, nrm_u4, nrm_nil, nrm_int, nrm_bool, nrm_string, nrm_ro, nrm_agg, nrm_rptr, isul_ul, ulv_ul, isU_u4, uv_u4, bytesOf_bv, isB_bv, true_and, and_true, and_self, n_add_zero, Nat.zero_add, Nat.zero_mod, n_sub_zero]; rfl); (focus (first | (with_reducible rfl) | (simp only [closed, closedL, closed_ul, closed_u4, closedL_bv, closedL_cl, Bool.and_self, Bool.and_true, closedL_wr, closed_uw, closed_sv, closed_tp]; done))); (focus (first | (with_reducible rfl) | (simp only [closed, closedL, closed_ul, closed_u4, closedL_bv, closedL_cl, Bool.and_self, Bool.and_true, closedL_wr, closed_uw, closed_sv, closed_tp]; done))); (focus ((repeat' apply And.intro) <;> first | exact True.intro | omega | (with_reducible rfl) | assumption | (simp only [lns]; first | done | omega) | (simp only [one_bv, cells_bv, one_bv1, List.length_cons, List.length_nil, List.all_cons, List.all_nil, Bool.and_self]; done) | (simp only [cells_agg, one_bv, lns, and_self, true_and, Nat.le_refl, Nat.reduceAdd, Nat.zero_add]; done) | exact one_bv _ | exact ⟨_, rfl⟩ | (simp [PV.one, one_bv, PV.cells, Value.cells, Value.oneCell']; done))); refine kOps_as rfl rfl rfl rfl ?_; refine vOps_nil ?_; (with_reducible apply seqC_normal; apply wC_seq e36_5; apply wC_region e36_6); refine vOps_open (l := _ :: _) rfl ?_; refine kOps_mv rfl rfl rfl rfl ?_; refine kOps_bin (b := .neq) (pre := ?_) (val := ?_) rfl rfl rfl rfl rfl ?_ ?_ ?_; rotate_left 2; (intro L; simp only [splice_one, cells_bv, getD_bv, set_bv, cells_agg, decide_true, decide_false, Int.reduceNe, ne_eq, not_true_eq_false, not_false_eq_true, neq_ul, binF_neq, binF_sneq, Int.reduceAdd, Int.reduceSub, Int.reduceMul, Int.reduceNeg, Int.sub_zero, Int.cast_ofNat_Int, Int.reduceLT, Int.reduceLE, Int.reduceEq, Nat.reduceMod, Nat.reduceLT, ty36]; (first | (rw [wrap_i64] <;> first | omega | rfl) | (rw [wrap_u8] <;> first | omega | rfl) | (rw [wrap_u16] <;> first | omega | rfl) | (rw [wrap_u32] <;> first | omega | rfl) | rfl)); (focus ((repeat' apply And.intro) <;> first | exact True.intro | omega | (with_reducible rfl) | assumption | (simp only [lns]; first | done | omega) | (simp only [one_bv, cells_bv, one_bv1, List.length_cons, List.length_nil, List.all_cons, List.all_nil, Bool.and_self]; done) | (simp only [cells_agg, one_bv, lns, and_self, true_and, Nat.le_refl, Nat.reduceAdd, Nat.zero_add]; done) | exact one_bv _ | exact ⟨_, rfl⟩ | (simp [PV.one, one_bv, PV.cells, Value.cells, Value.oneCell']; done))); refine vOps_nil ?_; (with_reducible apply seqC_normal; apply kC_cond e36_7); (exact rfl); all_goals (intro hb; first | (cases hb; done) | cases hb | ((try simp only [decide_eq_true_eq, decide_eq_false_iff_not, Bool.not_eq_true', Bool.not_eq_false'] at hb); try (exfalso; first | omega | exact hb trivial))))
      | ((with_reducible apply wC_seq e36_8; apply wC_region e36_9); refine vOps_open (l := _ :: _) rfl ?_; refine kOps_mv rfl rfl rfl rfl ?_; refine kOps_as rfl rfl rfl rfl ?_; refine vOps_nil ?_; (with_reducible apply seqC_normal; apply wC_ret e36_10))
      | ((with_reducible apply wC_skip e36_11))
      | ((with_reducible apply wC_seq e36_12; apply wC_seq e36_13; apply wC_region e36_14); refine vOps_open (l := _ :: _) rfl ?_; refine kOps_mv rfl rfl rfl rfl ?_; refine kOps_mv rfl rfl rfl rfl ?_; refine kOps_len (d := 14) rfl rfl rfl rfl ty22 (by first | exact byt_nil | ((first | refine byt_ro ?_ | refine byt_own rfl ?_); (first | rfl | assumption | omega | (simp only [lns]; first | done | omega))) | (refine byt_part rfl ?_ rfl; (first | rfl | assumption | omega | (simp only [lns]; first | done | omega)))) ?_; refine kOps_bin (b := .lss) (pre := ?_) (val := ?_) rfl rfl rfl rfl rfl ?_ ?_ ?_; rotate_left 2; (intro L; simp only [splice_one, cells_bv, getD_bv, set_bv, cells_agg, decide_true, decide_false, Int.reduceNe, ne_eq, not_true_eq_false, not_false_eq_true, lss_ul, binF_lss, Int.reduceAdd, Int.reduceSub, Int.reduceMul, Int.reduceNeg, Int.sub_zero, Int.cast_ofNat_Int, Int.reduceLT, Int.reduceLE, Int.reduceEq, Nat.reduceMod, Nat.reduceLT, ty3]; (first | (rw [wrap_i64] <;> first | omega | rfl) | (rw [wrap_u8] <;> first | omega | rfl) | (rw [wrap_u16] <;> first | omega | rfl) | (rw [wrap_u32] <;> first | omega | rfl) | rfl)); exact trivial; refine vOps_nil ?_; (with_reducible apply seqC_normal; apply kC_cond e36_15); (exact rfl); all_goals (intro hb; first | (cases hb; done) | cases hb | ((try simp only [decide_eq_true_eq, decide_eq_false_iff_not, Bool.not_eq_true', Bool.not_eq_false'] at hb); try (exfalso; first | omega | exact hb trivial))))
      | ((with_reducible apply wC_seq e36_16; apply wC_region e36_17); refine vOps_open (l := _ :: _) rfl ?_; refine kOps_as rfl rfl rfl rfl ?_; refine vOps_nil ?_; (with_reducible apply seqC_normal; apply wC_ret e36_18))
      | ((with_reducible apply wC_skip e36_19))
      | ((with_reducible apply wC_seq e36_20; apply wC_region e36_21); refine vOps_open (l := _ :: _) rfl ?_; refine kOps_as rfl rfl rfl rfl ?_; refine vOps_nil ?_; (with_reducible apply seqC_normal; apply wC_ret e36_22)))
    all_goals (
      refine fin_c (p := ?_) (xs := [.tmp 4]) (by simp) rfl ?_ ?_ ?_ ?_
      rotate_left 2
      · simp only [resAll_cons, resAll_nil, resPVl_0, resPVl_1, resPVl_2, resOne_tmp, resOne_cell, List.map_cons, List.map_nil, splice_one, cells_bv, getD_bv, set_bv, cells_agg, decide_true, decide_false, Int.reduceNe, ne_eq, not_true_eq_false, not_false_eq_true, evalIn_tmp, evalIn_const, evalIn_func, lookup_cons, Nat.reduceBEq, cond_true, cond_false, lit_ul0, lit_ul1, loadF, partF, List.getElem?_cons_zero, List.getElem?_cons_succ, List.set_cons_zero, List.set_cons_succ, List.cons_append, List.nil_append, true_and, and_true, and_self, Nat.le_refl, Nat.reduceLeDiff, isAggD, Bool.false_eq_true, if_false, if_true, reduceIte, take_cl, agg_cl, len_cl, List.drop_zero, Int.toNat_natCast, Int.reduceToNat, Int.toNat_zero, n_add_zero, Nat.mul_one, Nat.zero_add, Nat.reduceAdd, Nat.reduceMul, take_bytes, List.length_map, List.getD_cons_zero, ty3, ty5, ty22, ty36]; try rfl
      · first | (with_reducible rfl) | (simp only [closed, closedL, closed_u4, closed_ul, closed_uw, closed_sv, closedL_bv, closedL_wr, Bool.and_self, Bool.and_true]; done) | (simp only [closed, closedL, closed_u4, closed_ul, closed_uw, closed_sv, closedL_bv, closedL_wr, Bool.and_self, Bool.and_true]; rfl)
      · first | (refine endl_e ?_; first | assumption | omega) | (refine endl_2 (need_in ?_) (by omega); first | assumption | omega) | (refine endl_0 (need_in ?_) (by omega); first | assumption | omega)
      · simp only [resAll_cons, resAll_nil, resPVl_0, resPVl_1, resPVl_2, resOne_tmp, resOne_cell, List.map_cons, List.map_nil, splice_one, cells_bv, getD_bv, set_bv, cells_agg, decide_true, decide_false, Int.reduceNe, ne_eq, not_true_eq_false, not_false_eq_true, evalIn_tmp, evalIn_const, evalIn_func, lookup_cons, Nat.reduceBEq, cond_true, cond_false, lit_ul0, lit_ul1, loadF, partF, List.getElem?_cons_zero, List.getElem?_cons_succ, List.set_cons_zero, List.set_cons_succ, List.cons_append, List.nil_append, true_and, and_true, and_self, Nat.le_refl, Nat.reduceLeDiff, isAggD, Bool.false_eq_true, if_false, if_true, reduceIte, take_cl, agg_cl, len_cl, List.drop_zero, Int.toNat_natCast, Int.reduceToNat, Int.toNat_zero, n_add_zero, Nat.mul_one, Nat.zero_add, Nat.reduceAdd, Nat.reduceMul, take_bytes, List.length_map, List.getD_cons_zero, ty3, ty5, ty22, ty36]; try trivial)
  · exact hS.elim
end Go.Ab
