import Derived.Test.YtaofjdaclnagnaaMG
import Derived.Test.YtaofjdaclnagnaaTY
import Derived.Test.YtaofjdaclnagnaaFcodecintegeruint32
namespace Go.Ab
open Go Go.Proofs
set_option linter.unusedVariables false
set_option linter.unusedSimpArgs false
set_option maxRecDepth 8000
set_option maxHeartbeats 4000000

noncomputable def B64 : Code := bodyOf Try.f64
theorem B64_eq : Try.f64.body = some B64 := by kernel_rfl
noncomputable def n64_0 : Code := B64
noncomputable def n64_1 : Code := codeAt B64 [0]
noncomputable def n64_2 : Code := codeAt B64 [1]
noncomputable def n64_3 : Code := codeAt B64 [1,0]
noncomputable def n64_4 : Code := codeAt B64 [1,1]
noncomputable def n64_5 : Code := codeAt B64 [1,1,0]
noncomputable def n64_6 : Code := codeAt B64 [1,1,0,0]
noncomputable def n64_7 : Code := codeAt B64 [1,1,0,1]
noncomputable def n64_8 : Code := codeAt B64 [1,1,0,1,0]
noncomputable def n64_9 : Code := codeAt B64 [1,1,0,1,0,0]
noncomputable def n64_10 : Code := codeAt B64 [1,1,0,1,0,1]
noncomputable def n64_11 : Code := codeAt B64 [1,1,0,1,1]
noncomputable def n64_12 : Code := codeAt B64 [1,1,1]
noncomputable def n64_13 : Code := codeAt B64 [1,1,1,0]
noncomputable def n64_14 : Code := codeAt B64 [1,1,1,0,0]
noncomputable def n64_15 : Code := codeAt B64 [1,1,1,0,1]
noncomputable def n64_16 : Code := codeAt B64 [1,1,1,0,1,0]
noncomputable def n64_17 : Code := codeAt B64 [1,1,1,0,1,0,0]
noncomputable def n64_18 : Code := codeAt B64 [1,1,1,0,1,0,1]
noncomputable def n64_19 : Code := codeAt B64 [1,1,1,0,1,1]
noncomputable def n64_20 : Code := codeAt B64 [1,1,1,1]
noncomputable def n64_21 : Code := codeAt B64 [1,1,1,1,0]
noncomputable def n64_22 : Code := codeAt B64 [1,1,1,1,1]
theorem e64_0 : n64_0 = .seq n64_1 n64_2 := rfl
noncomputable def r64_1 := opsAt n64_1
theorem e64_1 : n64_1 = .region 0 (r64_1).toArray false := rfl
theorem e64_2 : n64_2 = .seq n64_3 n64_4 := rfl
noncomputable def r64_3 := opsAt n64_3
theorem e64_3 : n64_3 = .region 1 (r64_3).toArray false := rfl
theorem e64_4 : n64_4 = .seq n64_5 n64_12 := rfl
theorem e64_5 : n64_5 = .seq n64_6 n64_7 := rfl
noncomputable def r64_6 := opsAt n64_6
theorem e64_6 : n64_6 = .region 2 (r64_6).toArray false := rfl
theorem e64_7 : n64_7 = .cond (.tmp 20) n64_8 n64_11 := rfl
theorem e64_8 : n64_8 = .seq n64_9 n64_10 := rfl
noncomputable def r64_9 := opsAt n64_9
theorem e64_9 : n64_9 = .region 3 (r64_9).toArray false := rfl
theorem e64_10 : n64_10 = .ret := rfl
theorem e64_11 : n64_11 = .skip := rfl
theorem e64_12 : n64_12 = .seq n64_13 n64_20 := rfl
theorem e64_13 : n64_13 = .seq n64_14 n64_15 := rfl
noncomputable def r64_14 := opsAt n64_14
theorem e64_14 : n64_14 = .region 4 (r64_14).toArray false := rfl
theorem e64_15 : n64_15 = .cond (.tmp 24) n64_16 n64_19 := rfl
theorem e64_16 : n64_16 = .seq n64_17 n64_18 := rfl
noncomputable def r64_17 := opsAt n64_17
theorem e64_17 : n64_17 = .region 5 (r64_17).toArray false := rfl
theorem e64_18 : n64_18 = .ret := rfl
theorem e64_19 : n64_19 = .skip := rfl
theorem e64_20 : n64_20 = .seq n64_21 n64_22 := rfl
noncomputable def r64_21 := opsAt n64_21
theorem e64_21 : n64_21 = .region 6 (r64_21).toArray false := rfl
theorem e64_22 : n64_22 = .ret := rfl
theorem f_codec_wideSize_uint32 : PureOk Try.prog 64 sWide32 := by
  refine pureOk_of (c := n64_0) (Γ := conOf [(54, .pure sInt32)]) (conOf_ok (conOf_one (S := .pure sInt32) f_codec_integer_uint32 (conOf_end))) mixed Try.func64 B64_eq (by decide +kernel) Try.call64 ?_
  intro args hS
  unfold sWide32 at hS ⊢
  split at hS
  · refine ⟨by rw [Try.ntmps64]; simp, vC_sound ?_⟩
    rename_i n cs a l
    obtain ⟨hB, hn, ha0, ha1, hl0⟩ := hS
    obtain ⟨b, rfl, rfl⟩ := isB_out hB
    obtain ⟨l, rfl⟩ := Int.eq_ofNat_of_zero_le hl0
    simp only [bytesOf_bv, Int.toNat_natCast]
    clear hB hl0
    simp only [entry_cons, entry_nil, Nat.reduceAdd]
    have hw : nR b.length b a 4 4 < 18446744073709551616 := nR_lt (by decide)
    repeat' (first
      | (with_reducible first | apply seqC_normal | apply seqC_ret)
      | ((with_reducible apply wC_seq e64_0; apply wC_region e64_1); refine vOps_open (l := _ :: _) rfl ?_; refine kOps_asc rfl rfl rfl lit_ul0 ?_; refine kOps_as rfl rfl rfl rfl ?_; refine kOps_as rfl rfl rfl rfl ?_; refine vOps_nil ?_; (with_reducible apply seqC_normal; apply wC_seq e64_2; apply wC_region e64_3); refine vOps_open (l := _ :: _) rfl ?_; refine kOps_mv rfl rfl rfl rfl ?_; refine kOps_mv rfl rfl rfl rfl ?_; refine kOps_callc (pre := ?_) (val := ?_) rfl rfl rfl rfl rfl ?_ ?_ ?_ ?_ ?_; rotate_left 2; (simp only [splice_one, cells_bv, getD_bv, set_bv, cells_agg, decide_true, decide_false, Int.reduceNe, ne_eq, not_true_eq_false, not_false_eq_true, isB_bv, bytesOf_bv, ite_q, ite_u, sInt32, nrmC, List.map_cons, List.map_nil, nrm_ul, nrm_u4, nrm_nil, nrm_int, nrm_bool, nrm_string, nrm_ro, nrm_agg, nrm_rptr, isul_ul, ulv_ul, isU_u4, uv_u4, true_and, and_true, and_self, n_add_zero, Nat.zero_add, Nat.zero_mod, n_sub_zero]; rfl); (focus (first | (with_reducible rfl) | (simp only [closed, closedL, closed_ul, closed_u4, closedL_bv, closedL_cl, Bool.and_self, Bool.and_true, closedL_wr, closed_uw, closed_sv, closed_tp]; done))); (focus (first | (with_reducible rfl) | (simp only [closed, closedL, closed_ul, closed_u4, closedL_bv, closedL_cl, Bool.and_self, Bool.and_true, closedL_wr, closed_uw, closed_sv, closed_tp]; done))); (focus ((repeat' apply And.intro) <;> first | exact True.intro | omega | (with_reducible rfl) | assumption | (simp only [lns]; first | done | omega) | (simp only [one_bv, cells_bv, one_bv1, List.length_cons, List.length_nil, List.all_cons, List.all_nil, Bool.and_self]; done) | (simp only [cells_agg, one_bv, lns, and_self, true_and, Nat.le_refl, Nat.reduceAdd, Nat.zero_add]; done) | exact one_bv _ | exact ⟨_, rfl⟩ | (simp [PV.one, one_bv, PV.cells, Value.cells, Value.oneCell']; done))); refine kOps_mv rfl rfl rfl rfl ?_; refine kOps_ext rfl rfl rfl rfl rfl ?_; refine kOps_ext rfl rfl rfl rfl rfl ?_; refine kOps_ext rfl rfl rfl rfl rfl ?_; refine kOps_as rfl rfl rfl rfl ?_; refine kOps_as rfl rfl rfl rfl ?_; refine kOps_as rfl rfl rfl rfl ?_; refine vOps_nil ?_; (with_reducible apply seqC_normal; apply wC_seq e64_4; apply wC_seq e64_5; apply wC_region e64_6); refine vOps_open (l := _ :: _) rfl ?_; refine kOps_mv rfl rfl rfl rfl ?_; refine kOps_bin (b := .neq) (pre := ?_) (val := ?_) rfl rfl rfl rfl rfl ?_ ?_ ?_; rotate_left 2; (intro L; simp only [splice_one, cells_bv, getD_bv, set_bv, cells_agg, decide_true, decide_false, Int.reduceNe, ne_eq, not_true_eq_false, not_false_eq_true, neq_ul, binF_neq, binF_sneq, Int.reduceAdd, Int.reduceSub, Int.reduceMul, Int.reduceNeg, Int.sub_zero, Int.cast_ofNat_Int, Int.reduceLT, Int.reduceLE, Int.reduceEq, Nat.reduceMod, Nat.reduceLT, ty36]; (first | (rw [wrap_i64] <;> first | omega | rfl) | (rw [wrap_u8] <;> first | omega | rfl) | (rw [wrap_u16] <;> first | omega | rfl) | (rw [wrap_u32] <;> first | omega | rfl) | rfl)); (focus ((repeat' apply And.intro) <;> first | exact True.intro | omega | (with_reducible rfl) | assumption | (simp only [lns]; first | done | omega) | (simp only [one_bv, cells_bv, one_bv1, List.length_cons, List.length_nil, List.all_cons, List.all_nil, Bool.and_self]; done) | (simp only [cells_agg, one_bv, lns, and_self, true_and, Nat.le_refl, Nat.reduceAdd, Nat.zero_add]; done) | exact one_bv _ | exact ⟨_, rfl⟩ | (simp [PV.one, one_bv, PV.cells, Value.cells, Value.oneCell']; done))); refine vOps_nil ?_; (with_reducible apply seqC_normal; apply kC_cond e64_7); (exact rfl); all_goals (intro hb; first | (cases hb; done) | cases hb | ((try simp only [decide_eq_true_eq, decide_eq_false_iff_not, Bool.not_eq_true', Bool.not_eq_false'] at hb); try (exfalso; first | omega | exact hb trivial))))
      | ((with_reducible apply wC_seq e64_8; apply wC_region e64_9); refine vOps_open (l := _ :: _) rfl ?_; refine kOps_mv rfl rfl rfl rfl ?_; refine kOps_asc rfl rfl rfl lit_ul0 ?_; refine kOps_as rfl rfl rfl rfl ?_; refine kOps_as rfl rfl rfl rfl ?_; refine vOps_nil ?_; (with_reducible apply seqC_normal; apply wC_ret e64_10))
      | ((with_reducible apply wC_skip e64_11))
      | ((with_reducible apply wC_seq e64_12; apply wC_seq e64_13; apply wC_region e64_14); refine vOps_open (l := _ :: _) rfl ?_; refine kOps_mv rfl rfl rfl rfl ?_; refine kOps_mv rfl rfl rfl rfl ?_; refine kOps_bin (b := .lss) (pre := ?_) (val := ?_) rfl rfl rfl rfl rfl ?_ ?_ ?_; rotate_left 2; (intro L; simp only [splice_one, cells_bv, getD_bv, set_bv, cells_agg, decide_true, decide_false, Int.reduceNe, ne_eq, not_true_eq_false, not_false_eq_true, lss_uw, binF_lss, Int.reduceAdd, Int.reduceSub, Int.reduceMul, Int.reduceNeg, Int.sub_zero, Int.cast_ofNat_Int, Int.reduceLT, Int.reduceLE, Int.reduceEq, Nat.reduceMod, Nat.reduceLT, ty31]; (first | (rw [wrap_i64] <;> first | omega | rfl) | (rw [wrap_u8] <;> first | omega | rfl) | (rw [wrap_u16] <;> first | omega | rfl) | (rw [wrap_u32] <;> first | omega | rfl) | rfl)); exact trivial; refine vOps_nil ?_; (with_reducible apply seqC_normal; apply kC_cond e64_15); (exact rfl); all_goals (intro hb; first | (cases hb; done) | cases hb | ((try simp only [decide_eq_true_eq, decide_eq_false_iff_not, Bool.not_eq_true', Bool.not_eq_false'] at hb); try (exfalso; first | omega | exact hb trivial))))
      | ((with_reducible apply wC_seq e64_16; apply wC_region e64_17); refine vOps_open (l := _ :: _) rfl ?_; refine kOps_asc rfl rfl rfl lit_ul0 ?_; refine kOps_as rfl rfl rfl rfl ?_; refine kOps_as rfl rfl rfl rfl ?_; refine vOps_nil ?_; (with_reducible apply seqC_normal; apply wC_ret e64_18))
      | ((with_reducible apply wC_skip e64_19))
      | ((with_reducible apply wC_seq e64_20; apply wC_region e64_21); refine vOps_open (l := _ :: _) rfl ?_; refine kOps_mv rfl rfl rfl rfl ?_; refine kOps_conv (s := 31) (t := 23) (pre := ?_) (val := ?_) rfl rfl rfl rfl ?_ ?_ ?_; rotate_left 2; (intro L; simp only [splice_one, cells_bv, getD_bv, set_bv, cells_agg, decide_true, decide_false, Int.reduceNe, ne_eq, not_true_eq_false, not_false_eq_true, wrap_ul, cv_31_23]; first | rfl | (first | (rw [wrap_i64] <;> first | omega | rfl) | (rw [wrap_u8] <;> first | omega | rfl) | (rw [wrap_u16] <;> first | omega | rfl) | (rw [wrap_u32] <;> first | omega | rfl) | rfl)); exact trivial; refine kOps_mv rfl rfl rfl rfl ?_; refine kOps_as rfl rfl rfl rfl ?_; refine kOps_as rfl rfl rfl rfl ?_; refine kOps_as rfl rfl rfl rfl ?_; refine vOps_nil ?_; (with_reducible apply seqC_normal; apply wC_ret e64_22)))
    all_goals (
      refine fin_c (p := ?_) (xs := [.tmp 6, .tmp 7, .tmp 8]) (by simp) rfl ?_ ?_ ?_ ?_
      rotate_left 2
      · simp only [resAll_cons, resAll_nil, resPVl_0, resPVl_1, resPVl_2, resOne_tmp, resOne_cell, List.map_cons, List.map_nil, splice_one, cells_bv, getD_bv, set_bv, cells_agg, decide_true, decide_false, Int.reduceNe, ne_eq, not_true_eq_false, not_false_eq_true, evalIn_tmp, evalIn_const, evalIn_func, lookup_cons, Nat.reduceBEq, cond_true, cond_false, lit_ul0, lit_ul1, loadF, partF, List.getElem?_cons_zero, List.getElem?_cons_succ, List.set_cons_zero, List.set_cons_succ, List.cons_append, List.nil_append, true_and, and_true, and_self, Nat.le_refl, Nat.reduceLeDiff, isAggD, Bool.false_eq_true, if_false, if_true, reduceIte, take_cl, agg_cl, len_cl, List.drop_zero, Int.toNat_natCast, Int.reduceToNat, Int.toNat_zero, n_add_zero, Nat.mul_one, Nat.zero_add, Nat.reduceAdd, Nat.reduceMul, take_bytes, List.length_map, List.getD_cons_zero, ty3, ty5, ty22, ty23, ty31, ty36]; try rfl
      · first | (with_reducible rfl) | (simp only [closed, closedL, closed_u4, closed_ul, closed_uw, closed_sv, closedL_bv, closedL_wr, Bool.and_self, Bool.and_true]; done) | (simp only [closed, closedL, closed_u4, closed_ul, closed_uw, closed_sv, closedL_bv, closedL_wr, Bool.and_self, Bool.and_true]; rfl)
      · first | exact wl_n (z := 4) rfl (by omega) | exact wl_s (z := 4) rfl (by omega) (by omega) | exact wl_o (z := 4) rfl (by omega) (by omega)
      · simp only [resAll_cons, resAll_nil, resPVl_0, resPVl_1, resPVl_2, resOne_tmp, resOne_cell, List.map_cons, List.map_nil, splice_one, cells_bv, getD_bv, set_bv, cells_agg, decide_true, decide_false, Int.reduceNe, ne_eq, not_true_eq_false, not_false_eq_true, evalIn_tmp, evalIn_const, evalIn_func, lookup_cons, Nat.reduceBEq, cond_true, cond_false, lit_ul0, lit_ul1, loadF, partF, List.getElem?_cons_zero, List.getElem?_cons_succ, List.set_cons_zero, List.set_cons_succ, List.cons_append, List.nil_append, true_and, and_true, and_self, Nat.le_refl, Nat.reduceLeDiff, isAggD, Bool.false_eq_true, if_false, if_true, reduceIte, take_cl, agg_cl, len_cl, List.drop_zero, Int.toNat_natCast, Int.reduceToNat, Int.toNat_zero, n_add_zero, Nat.mul_one, Nat.zero_add, Nat.reduceAdd, Nat.reduceMul, take_bytes, List.length_map, List.getD_cons_zero, ty3, ty5, ty22, ty23, ty31, ty36]; try trivial)
  · exact hS.elim
end Go.Ab
