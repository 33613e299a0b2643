import Derived.Test.YtaofjdaclnagnaaMG
import Derived.Test.YtaofjdaclnagnaaTY
import Derived.Test.YtaofjdaclnagnaaFcodecintegeruint16
namespace Go.Ab
open Go Go.Proofs
set_option linter.unusedVariables false
set_option linter.unusedSimpArgs false
set_option maxRecDepth 8000
set_option maxHeartbeats 4000000

noncomputable def B63 : Code := bodyOf Try.f63
theorem B63_eq : Try.f63.body = some B63 := by kernel_rfl
noncomputable def n63_0 : Code := B63
noncomputable def n63_1 : Code := codeAt B63 [0]
noncomputable def n63_2 : Code := codeAt B63 [1]
noncomputable def n63_3 : Code := codeAt B63 [1,0]
noncomputable def n63_4 : Code := codeAt B63 [1,1]
noncomputable def n63_5 : Code := codeAt B63 [1,1,0]
noncomputable def n63_6 : Code := codeAt B63 [1,1,0,0]
noncomputable def n63_7 : Code := codeAt B63 [1,1,0,1]
noncomputable def n63_8 : Code := codeAt B63 [1,1,0,1,0]
noncomputable def n63_9 : Code := codeAt B63 [1,1,0,1,0,0]
noncomputable def n63_10 : Code := codeAt B63 [1,1,0,1,0,1]
noncomputable def n63_11 : Code := codeAt B63 [1,1,0,1,1]
noncomputable def n63_12 : Code := codeAt B63 [1,1,1]
noncomputable def n63_13 : Code := codeAt B63 [1,1,1,0]
noncomputable def n63_14 : Code := codeAt B63 [1,1,1,0,0]
noncomputable def n63_15 : Code := codeAt B63 [1,1,1,0,1]
noncomputable def n63_16 : Code := codeAt B63 [1,1,1,0,1,0]
noncomputable def n63_17 : Code := codeAt B63 [1,1,1,0,1,0,0]
noncomputable def n63_18 : Code := codeAt B63 [1,1,1,0,1,0,1]
noncomputable def n63_19 : Code := codeAt B63 [1,1,1,0,1,1]
noncomputable def n63_20 : Code := codeAt B63 [1,1,1,1]
noncomputable def n63_21 : Code := codeAt B63 [1,1,1,1,0]
noncomputable def n63_22 : Code := codeAt B63 [1,1,1,1,1]
theorem e63_0 : n63_0 = .seq n63_1 n63_2 := rfl
noncomputable def r63_1 := opsAt n63_1
theorem e63_1 : n63_1 = .region 0 (r63_1).toArray false := rfl
theorem e63_2 : n63_2 = .seq n63_3 n63_4 := rfl
noncomputable def r63_3 := opsAt n63_3
theorem e63_3 : n63_3 = .region 1 (r63_3).toArray false := rfl
theorem e63_4 : n63_4 = .seq n63_5 n63_12 := rfl
theorem e63_5 : n63_5 = .seq n63_6 n63_7 := rfl
noncomputable def r63_6 := opsAt n63_6
theorem e63_6 : n63_6 = .region 2 (r63_6).toArray false := rfl
theorem e63_7 : n63_7 = .cond (.tmp 20) n63_8 n63_11 := rfl
theorem e63_8 : n63_8 = .seq n63_9 n63_10 := rfl
noncomputable def r63_9 := opsAt n63_9
theorem e63_9 : n63_9 = .region 3 (r63_9).toArray false := rfl
theorem e63_10 : n63_10 = .ret := rfl
theorem e63_11 : n63_11 = .skip := rfl
theorem e63_12 : n63_12 = .seq n63_13 n63_20 := rfl
theorem e63_13 : n63_13 = .seq n63_14 n63_15 := rfl
noncomputable def r63_14 := opsAt n63_14
theorem e63_14 : n63_14 = .region 4 (r63_14).toArray false := rfl
theorem e63_15 : n63_15 = .cond (.tmp 24) n63_16 n63_19 := rfl
theorem e63_16 : n63_16 = .seq n63_17 n63_18 := rfl
noncomputable def r63_17 := opsAt n63_17
theorem e63_17 : n63_17 = .region 5 (r63_17).toArray false := rfl
theorem e63_18 : n63_18 = .ret := rfl
theorem e63_19 : n63_19 = .skip := rfl
theorem e63_20 : n63_20 = .seq n63_21 n63_22 := rfl
noncomputable def r63_21 := opsAt n63_21
theorem e63_21 : n63_21 = .region 6 (r63_21).toArray false := rfl
theorem e63_22 : n63_22 = .ret := rfl
theorem f_codec_wideSize_uint16 : PureOk Try.prog 63 sWide16 := by
  refine pureOk_of (c := n63_0) (Γ := conOf [(53, .pure sInt16)]) (conOf_ok (conOf_one (S := .pure sInt16) f_codec_integer_uint16 (conOf_end))) mixed Try.func63 B63_eq (by decide +kernel) Try.call63 ?_
  intro args hS
  unfold sWide16 at hS ⊢
  split at hS
  · refine ⟨by rw [Try.ntmps63]; simp, vC_sound ?_⟩
    rename_i n cs a l
    obtain ⟨hB, hn, ha0, ha1, hl0⟩ := hS
    obtain ⟨b, rfl, rfl⟩ := isB_out hB
    obtain ⟨l, rfl⟩ := Int.eq_ofNat_of_zero_le hl0
    simp only [bytesOf_bv, Int.toNat_natCast]
    clear hB hl0
    simp only [entry_cons, entry_nil, Nat.reduceAdd]
    have hw : nR b.length b a 2 2 < 18446744073709551616 := nR_lt (by decide)
    repeat' (first
      | (with_reducible first | apply seqC_normal | apply seqC_ret)
      | ((with_reducible apply wC_seq e63_0; apply wC_region e63_1); refine vOps_open (l := _ :: _) rfl ?_; refine kOps_asc rfl rfl rfl lit_ul0 ?_; refine kOps_as rfl rfl rfl rfl ?_; refine kOps_as rfl rfl rfl rfl ?_; refine vOps_nil ?_; (with_reducible apply seqC_normal; apply wC_seq e63_2; apply wC_region e63_3); refine vOps_open (l := _ :: _) rfl ?_; refine kOps_mv rfl rfl rfl rfl ?_; refine kOps_mv rfl rfl rfl rfl ?_; refine kOps_callc (pre := ?_) (val := ?_) rfl rfl rfl rfl rfl ?_ ?_ ?_ ?_ ?_; rotate_left 2; (simp only [splice_one, cells_bv, getD_bv, set_bv, cells_agg, decide_true, decide_false, Int.reduceNe, ne_eq, not_true_eq_false, not_false_eq_true, isB_bv, bytesOf_bv, ite_q, ite_u, sInt16, nrmC, List.map_cons, List.map_nil, nrm_ul, nrm_u4, nrm_nil, nrm_int, nrm_bool, nrm_string, nrm_ro, nrm_agg, nrm_rptr, isul_ul, ulv_ul, isU_u4, uv_u4, true_and, and_true, and_self, n_add_zero, Nat.zero_add, Nat.zero_mod, n_sub_zero]; rfl); (focus (first | (with_reducible rfl) | (simp only [closed, closedL, closed_ul, closed_u4, closedL_bv, closedL_cl, Bool.and_self, Bool.and_true, closedL_wr, closed_uw, closed_sv, closed_tp]; done))); (focus (first | (with_reducible rfl) | (simp only [closed, closedL, closed_ul, closed_u4, closedL_bv, closedL_cl, Bool.and_self, Bool.and_true, closedL_wr, closed_uw, closed_sv, closed_tp]; done))); (focus ((repeat' apply And.intro) <;> first | exact True.intro | omega | (with_reducible rfl) | assumption | (simp only [lns]; first | done | omega) | (simp only [one_bv, cells_bv, one_bv1, List.length_cons, List.length_nil, List.all_cons, List.all_nil, Bool.and_self]; done) | (simp only [cells_agg, one_bv, lns, and_self, true_and, Nat.le_refl, Nat.reduceAdd, Nat.zero_add]; done) | exact one_bv _ | exact ⟨_, rfl⟩ | (simp [PV.one, one_bv, PV.cells, Value.cells, Value.oneCell']; done))); refine kOps_mv rfl rfl rfl rfl ?_; refine kOps_ext rfl rfl rfl rfl rfl ?_; refine kOps_ext rfl rfl rfl rfl rfl ?_; refine kOps_ext rfl rfl rfl rfl rfl ?_; refine kOps_as rfl rfl rfl rfl ?_; refine kOps_as rfl rfl rfl rfl ?_; refine kOps_as rfl rfl rfl rfl ?_; refine vOps_nil ?_; (with_reducible apply seqC_normal; apply wC_seq e63_4; apply wC_seq e63_5; apply wC_region e63_6); refine vOps_open (l := _ :: _) rfl ?_; refine kOps_mv rfl rfl rfl rfl ?_; refine kOps_bin (b := .neq) (pre := ?_) (val := ?_) rfl rfl rfl rfl rfl ?_ ?_ ?_; rotate_left 2; (intro L; simp only [splice_one, cells_bv, getD_bv, set_bv, cells_agg, decide_true, decide_false, Int.reduceNe, ne_eq, not_true_eq_false, not_false_eq_true, neq_ul, binF_neq, binF_sneq, Int.reduceAdd, Int.reduceSub, Int.reduceMul, Int.reduceNeg, Int.sub_zero, Int.cast_ofNat_Int, Int.reduceLT, Int.reduceLE, Int.reduceEq, Nat.reduceMod, Nat.reduceLT, ty36]; (first | (rw [wrap_i64] <;> first | omega | rfl) | (rw [wrap_u8] <;> first | omega | rfl) | (rw [wrap_u16] <;> first | omega | rfl) | (rw [wrap_u32] <;> first | omega | rfl) | rfl)); (focus ((repeat' apply And.intro) <;> first | exact True.intro | omega | (with_reducible rfl) | assumption | (simp only [lns]; first | done | omega) | (simp only [one_bv, cells_bv, one_bv1, List.length_cons, List.length_nil, List.all_cons, List.all_nil, Bool.and_self]; done) | (simp only [cells_agg, one_bv, lns, and_self, true_and, Nat.le_refl, Nat.reduceAdd, Nat.zero_add]; done) | exact one_bv _ | exact ⟨_, rfl⟩ | (simp [PV.one, one_bv, PV.cells, Value.cells, Value.oneCell']; done))); refine vOps_nil ?_; (with_reducible apply seqC_normal; apply kC_cond e63_7); (exact rfl); all_goals (intro hb; first | (cases hb; done) | cases hb | ((try simp only [decide_eq_true_eq, decide_eq_false_iff_not, Bool.not_eq_true', Bool.not_eq_false'] at hb); try (exfalso; first | omega | exact hb trivial))))
      | ((with_reducible apply wC_seq e63_8; apply wC_region e63_9); refine vOps_open (l := _ :: _) rfl ?_; refine kOps_mv rfl rfl rfl rfl ?_; refine kOps_asc rfl rfl rfl lit_ul0 ?_; refine kOps_as rfl rfl rfl rfl ?_; refine kOps_as rfl rfl rfl rfl ?_; refine vOps_nil ?_; (with_reducible apply seqC_normal; apply wC_ret e63_10))
      | ((with_reducible apply wC_skip e63_11))
      | ((with_reducible apply wC_seq e63_12; apply wC_seq e63_13; apply wC_region e63_14); refine vOps_open (l := _ :: _) rfl ?_; refine kOps_mv rfl rfl rfl rfl ?_; refine kOps_mv rfl rfl rfl rfl ?_; refine kOps_bin (b := .lss) (pre := ?_) (val := ?_) rfl rfl rfl rfl rfl ?_ ?_ ?_; rotate_left 2; (intro L; simp only [splice_one, cells_bv, getD_bv, set_bv, cells_agg, decide_true, decide_false, Int.reduceNe, ne_eq, not_true_eq_false, not_false_eq_true, lss_ul, binF_lss, Int.reduceAdd, Int.reduceSub, Int.reduceMul, Int.reduceNeg, Int.sub_zero, Int.cast_ofNat_Int, Int.reduceLT, Int.reduceLE, Int.reduceEq, Nat.reduceMod, Nat.reduceLT, ty29]; (first | (rw [wrap_i64] <;> first | omega | rfl) | (rw [wrap_u8] <;> first | omega | rfl) | (rw [wrap_u16] <;> first | omega | rfl) | (rw [wrap_u32] <;> first | omega | rfl) | rfl)); exact trivial; refine vOps_nil ?_; (with_reducible apply seqC_normal; apply kC_cond e63_15); (exact rfl); all_goals (intro hb; first | (cases hb; done) | cases hb | ((try simp only [decide_eq_true_eq, decide_eq_false_iff_not, Bool.not_eq_true', Bool.not_eq_false'] at hb); try (exfalso; first | omega | exact hb trivial))))
      | ((with_reducible apply wC_seq e63_16; apply wC_region e63_17); refine vOps_open (l := _ :: _) rfl ?_; refine kOps_asc rfl rfl rfl lit_ul0 ?_; refine kOps_as rfl rfl rfl rfl ?_; refine kOps_as rfl rfl rfl rfl ?_; refine vOps_nil ?_; (with_reducible apply seqC_normal; apply wC_ret e63_18))
      | ((with_reducible apply wC_skip e63_19))
      | ((with_reducible apply wC_seq e63_20; apply wC_region e63_21); refine vOps_open (l := _ :: _) rfl ?_; refine kOps_mv rfl rfl rfl rfl ?_; refine kOps_conv (s := 29) (t := 23) (pre := ?_) (val := ?_) rfl rfl rfl rfl ?_ ?_ ?_; rotate_left 2; (intro L; simp only [splice_one, cells_bv, getD_bv, set_bv, cells_agg, decide_true, decide_false, Int.reduceNe, ne_eq, not_true_eq_false, not_false_eq_true, wrap_ul, cv_29_23]; first | rfl | (first | (rw [wrap_i64] <;> first | omega | rfl) | (rw [wrap_u8] <;> first | omega | rfl) | (rw [wrap_u16] <;> first | omega | rfl) | (rw [wrap_u32] <;> first | omega | rfl) | rfl)); exact trivial; refine kOps_mv rfl rfl rfl rfl ?_; refine kOps_as rfl rfl rfl rfl ?_; refine kOps_as rfl rfl rfl rfl ?_; refine kOps_as rfl rfl rfl rfl ?_; refine vOps_nil ?_; (with_reducible apply seqC_normal; apply wC_ret e63_22)))
    all_goals (
      refine fin_c (p := ?_) (xs := [.tmp 6, .tmp 7, .tmp 8]) (by simp) rfl ?_ ?_ ?_ ?_
      rotate_left 2
      · simp only [resAll_cons, resAll_nil, resPVl_0, resPVl_1, resPVl_2, resOne_tmp, resOne_cell, List.map_cons, List.map_nil, splice_one, cells_bv, getD_bv, set_bv, cells_agg, decide_true, decide_false, Int.reduceNe, ne_eq, not_true_eq_false, not_false_eq_true, evalIn_tmp, evalIn_const, evalIn_func, lookup_cons, Nat.reduceBEq, cond_true, cond_false, lit_ul0, lit_ul1, loadF, partF, List.getElem?_cons_zero, List.getElem?_cons_succ, List.set_cons_zero, List.set_cons_succ, List.cons_append, List.nil_append, true_and, and_true, and_self, Nat.le_refl, Nat.reduceLeDiff, isAggD, Bool.false_eq_true, if_false, if_true, reduceIte, take_cl, agg_cl, len_cl, List.drop_zero, Int.toNat_natCast, Int.reduceToNat, Int.toNat_zero, n_add_zero, Nat.mul_one, Nat.zero_add, Nat.reduceAdd, Nat.reduceMul, take_bytes, List.length_map, List.getD_cons_zero, ty3, ty5, ty22, ty23, ty29, ty36]; try rfl
      · first | (with_reducible rfl) | (simp only [closed, closedL, closed_u4, closed_ul, closed_uw, closed_sv, closedL_bv, closedL_wr, Bool.and_self, Bool.and_true]; done) | (simp only [closed, closedL, closed_u4, closed_ul, closed_uw, closed_sv, closedL_bv, closedL_wr, Bool.and_self, Bool.and_true]; rfl)
      · first | exact wl_n (z := 2) rfl (by omega) | exact wl_s (z := 2) rfl (by omega) (by omega) | exact wl_o (z := 2) rfl (by omega) (by omega)
      · simp only [resAll_cons, resAll_nil, resPVl_0, resPVl_1, resPVl_2, resOne_tmp, resOne_cell, List.map_cons, List.map_nil, splice_one, cells_bv, getD_bv, set_bv, cells_agg, decide_true, decide_false, Int.reduceNe, ne_eq, not_true_eq_false, not_false_eq_true, evalIn_tmp, evalIn_const, evalIn_func, lookup_cons, Nat.reduceBEq, cond_true, cond_false, lit_ul0, lit_ul1, loadF, partF, List.getElem?_cons_zero, List.getElem?_cons_succ, List.set_cons_zero, List.set_cons_succ, List.cons_append, List.nil_append, true_and, and_true, and_self, Nat.le_refl, Nat.reduceLeDiff, isAggD, Bool.false_eq_true, if_false, if_true, reduceIte, take_cl, agg_cl, len_cl, List.drop_zero, Int.toNat_natCast, Int.reduceToNat, Int.toNat_zero, n_add_zero, Nat.mul_one, Nat.zero_add, Nat.reduceAdd, Nat.reduceMul, take_bytes, List.length_map, List.getD_cons_zero, ty3, ty5, ty22, ty23, ty29, ty36]; try trivial)
  · exact hS.elim
end Go.Ab
