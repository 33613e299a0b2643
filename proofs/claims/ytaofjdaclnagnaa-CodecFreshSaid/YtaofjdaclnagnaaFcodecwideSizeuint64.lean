import Derived.Test.YtaofjdaclnagnaaMG
import Derived.Test.YtaofjdaclnagnaaTY
import Derived.Test.YtaofjdaclnagnaaFcodecintegeruint64
namespace Go.Ab
open Go Go.Proofs
set_option linter.unusedVariables false
set_option linter.unusedSimpArgs false
set_option maxRecDepth 8000
set_option maxHeartbeats 4000000

noncomputable def B65 : Code := bodyOf Try.f65
theorem B65_eq : Try.f65.body = some B65 := by kernel_rfl
noncomputable def n65_0 : Code := B65
noncomputable def n65_1 : Code := codeAt B65 [0]
noncomputable def n65_2 : Code := codeAt B65 [1]
noncomputable def n65_3 : Code := codeAt B65 [1,0]
noncomputable def n65_4 : Code := codeAt B65 [1,1]
noncomputable def n65_5 : Code := codeAt B65 [1,1,0]
noncomputable def n65_6 : Code := codeAt B65 [1,1,0,0]
noncomputable def n65_7 : Code := codeAt B65 [1,1,0,1]
noncomputable def n65_8 : Code := codeAt B65 [1,1,0,1,0]
noncomputable def n65_9 : Code := codeAt B65 [1,1,0,1,0,0]
noncomputable def n65_10 : Code := codeAt B65 [1,1,0,1,0,1]
noncomputable def n65_11 : Code := codeAt B65 [1,1,0,1,1]
noncomputable def n65_12 : Code := codeAt B65 [1,1,1]
noncomputable def n65_13 : Code := codeAt B65 [1,1,1,0]
noncomputable def n65_14 : Code := codeAt B65 [1,1,1,0,0]
noncomputable def n65_15 : Code := codeAt B65 [1,1,1,0,1]
noncomputable def n65_16 : Code := codeAt B65 [1,1,1,0,1,0]
noncomputable def n65_17 : Code := codeAt B65 [1,1,1,0,1,0,0]
noncomputable def n65_18 : Code := codeAt B65 [1,1,1,0,1,0,1]
noncomputable def n65_19 : Code := codeAt B65 [1,1,1,0,1,1]
noncomputable def n65_20 : Code := codeAt B65 [1,1,1,1]
noncomputable def n65_21 : Code := codeAt B65 [1,1,1,1,0]
noncomputable def n65_22 : Code := codeAt B65 [1,1,1,1,1]
theorem e65_0 : n65_0 = .seq n65_1 n65_2 := rfl
noncomputable def r65_1 := opsAt n65_1
theorem e65_1 : n65_1 = .region 0 (r65_1).toArray false := rfl
theorem e65_2 : n65_2 = .seq n65_3 n65_4 := rfl
noncomputable def r65_3 := opsAt n65_3
theorem e65_3 : n65_3 = .region 1 (r65_3).toArray false := rfl
theorem e65_4 : n65_4 = .seq n65_5 n65_12 := rfl
theorem e65_5 : n65_5 = .seq n65_6 n65_7 := rfl
noncomputable def r65_6 := opsAt n65_6
theorem e65_6 : n65_6 = .region 2 (r65_6).toArray false := rfl
theorem e65_7 : n65_7 = .cond (.tmp 20) n65_8 n65_11 := rfl
theorem e65_8 : n65_8 = .seq n65_9 n65_10 := rfl
noncomputable def r65_9 := opsAt n65_9
theorem e65_9 : n65_9 = .region 3 (r65_9).toArray false := rfl
theorem e65_10 : n65_10 = .ret := rfl
theorem e65_11 : n65_11 = .skip := rfl
theorem e65_12 : n65_12 = .seq n65_13 n65_20 := rfl
theorem e65_13 : n65_13 = .seq n65_14 n65_15 := rfl
noncomputable def r65_14 := opsAt n65_14
theorem e65_14 : n65_14 = .region 4 (r65_14).toArray false := rfl
theorem e65_15 : n65_15 = .cond (.tmp 24) n65_16 n65_19 := rfl
theorem e65_16 : n65_16 = .seq n65_17 n65_18 := rfl
noncomputable def r65_17 := opsAt n65_17
theorem e65_17 : n65_17 = .region 5 (r65_17).toArray false := rfl
theorem e65_18 : n65_18 = .ret := rfl
theorem e65_19 : n65_19 = .skip := rfl
theorem e65_20 : n65_20 = .seq n65_21 n65_22 := rfl
noncomputable def r65_21 := opsAt n65_21
theorem e65_21 : n65_21 = .region 6 (r65_21).toArray false := rfl
theorem e65_22 : n65_22 = .ret := rfl
theorem f_codec_wideSize_uint64 : PureOk Try.prog 65 sWide64 := by
  refine pureOk_of (c := n65_0) (Γ := conOf [(55, .pure sInt64)]) (conOf_ok (conOf_one (S := .pure sInt64) f_codec_integer_uint64 (conOf_end))) mixed Try.func65 B65_eq (by decide +kernel) Try.call65 ?_
  intro args hS
  unfold sWide64 at hS ⊢
  split at hS
  · refine ⟨by rw [Try.ntmps65]; simp, vC_sound ?_⟩
    rename_i n cs a x
    obtain ⟨hB, hn, ha0, ha1, hx⟩ := hS
    obtain ⟨b, rfl, rfl⟩ := isB_out hB
    obtain ⟨l, hl2, rfl⟩ := isul_out hx
    simp only [bytesOf_bv, ulv_ul, Nat.mod_eq_of_lt hl2]
    clear hB hx
    simp only [entry_cons, entry_nil, Nat.reduceAdd]
    have hw : nR b.length b a 8 8 < 18446744073709551616 := nR_lt (by decide)
    repeat' (first
      | (with_reducible first | apply seqC_normal | apply seqC_ret)
      | ((with_reducible apply wC_seq e65_0; apply wC_region e65_1); refine vOps_open (l := _ :: _) rfl ?_; refine kOps_asc rfl rfl rfl lit_ul0 ?_; refine kOps_as rfl rfl rfl rfl ?_; refine kOps_as rfl rfl rfl rfl ?_; refine vOps_nil ?_; (with_reducible apply seqC_normal; apply wC_seq e65_2; apply wC_region e65_3); refine vOps_open (l := _ :: _) rfl ?_; refine kOps_mv rfl rfl rfl rfl ?_; refine kOps_mv rfl rfl rfl rfl ?_; refine kOps_callc (pre := ?_) (val := ?_) rfl rfl rfl rfl rfl ?_ ?_ ?_ ?_ ?_; rotate_left 2; (simp only [splice_one, cells_bv, getD_bv, set_bv, cells_agg, decide_true, decide_false, Int.reduceNe, ne_eq, not_true_eq_false, not_false_eq_true, Nat.mod_eq_of_lt hw, Nat.mod_eq_of_lt hl2, isB_bv, bytesOf_bv, ite_q, ite_u, sInt64, nrmC, List.map_cons, List.map_nil, nrm_ul, nrm_u4, nrm_nil, nrm_int, nrm_bool, nrm_string, nrm_ro, nrm_agg, nrm_rptr, isul_ul, ulv_ul, isU_u4, uv_u4, true_and, and_true, and_self, n_add_zero, Nat.zero_add, Nat.zero_mod, n_sub_zero]; rfl); (focus (first | (with_reducible rfl) | (simp only [closed, closedL, closed_ul, closed_u4, closedL_bv, closedL_cl, Bool.and_self, Bool.and_true, closedL_wr, closed_uw, closed_sv, closed_tp]; done))); (focus (first | (with_reducible rfl) | (simp only [closed, closedL, closed_ul, closed_u4, closedL_bv, closedL_cl, Bool.and_self, Bool.and_true, closedL_wr, closed_uw, closed_sv, closed_tp]; done))); (focus ((repeat' apply And.intro) <;> first | exact True.intro | omega | (with_reducible rfl) | assumption | (simp only [lns]; first | done | omega) | (simp only [one_bv, cells_bv, one_bv1, List.length_cons, List.length_nil, List.all_cons, List.all_nil, Bool.and_self]; done) | (simp only [cells_agg, one_bv, lns, and_self, true_and, Nat.le_refl, Nat.reduceAdd, Nat.zero_add]; done) | exact one_bv _ | exact ⟨_, rfl⟩ | (simp [PV.one, one_bv, PV.cells, Value.cells, Value.oneCell']; done))); refine kOps_mv rfl rfl rfl rfl ?_; refine kOps_ext rfl rfl rfl rfl rfl ?_; refine kOps_ext rfl rfl rfl rfl rfl ?_; refine kOps_ext rfl rfl rfl rfl rfl ?_; refine kOps_as rfl rfl rfl rfl ?_; refine kOps_as rfl rfl rfl rfl ?_; refine kOps_as rfl rfl rfl rfl ?_; refine vOps_nil ?_; (with_reducible apply seqC_normal; apply wC_seq e65_4; apply wC_seq e65_5; apply wC_region e65_6); refine vOps_open (l := _ :: _) rfl ?_; refine kOps_mv rfl rfl rfl rfl ?_; refine kOps_bin (b := .neq) (pre := ?_) (val := ?_) rfl rfl rfl rfl rfl ?_ ?_ ?_; rotate_left 2; (intro L; simp only [splice_one, cells_bv, getD_bv, set_bv, cells_agg, decide_true, decide_false, Int.reduceNe, ne_eq, not_true_eq_false, not_false_eq_true, Nat.mod_eq_of_lt hw, Nat.mod_eq_of_lt hl2, neq_ul, binF_neq, binF_sneq, Int.reduceAdd, Int.reduceSub, Int.reduceMul, Int.reduceNeg, Int.sub_zero, Int.cast_ofNat_Int, Int.reduceLT, Int.reduceLE, Int.reduceEq, Nat.reduceMod, Nat.reduceLT, ty36]; (first | (rw [wrap_i64] <;> first | omega | rfl) | (rw [wrap_u8] <;> first | omega | rfl) | (rw [wrap_u16] <;> first | omega | rfl) | (rw [wrap_u32] <;> first | omega | rfl) | rfl)); (focus ((repeat' apply And.intro) <;> first | exact True.intro | omega | (with_reducible rfl) | assumption | (simp only [lns]; first | done | omega) | (simp only [one_bv, cells_bv, one_bv1, List.length_cons, List.length_nil, List.all_cons, List.all_nil, Bool.and_self]; done) | (simp only [cells_agg, one_bv, lns, and_self, true_and, Nat.le_refl, Nat.reduceAdd, Nat.zero_add]; done) | exact one_bv _ | exact ⟨_, rfl⟩ | (simp [PV.one, one_bv, PV.cells, Value.cells, Value.oneCell']; done))); refine vOps_nil ?_; (with_reducible apply seqC_normal; apply kC_cond e65_7); (exact rfl); all_goals (intro hb; first | (cases hb; done) | cases hb | ((try simp only [decide_eq_true_eq, decide_eq_false_iff_not, Bool.not_eq_true', Bool.not_eq_false'] at hb); try (exfalso; first | omega | exact hb trivial))))
      | ((with_reducible apply wC_seq e65_8; apply wC_region e65_9); refine vOps_open (l := _ :: _) rfl ?_; refine kOps_mv rfl rfl rfl rfl ?_; refine kOps_asc rfl rfl rfl lit_ul0 ?_; refine kOps_as rfl rfl rfl rfl ?_; refine kOps_as rfl rfl rfl rfl ?_; refine vOps_nil ?_; (with_reducible apply seqC_normal; apply wC_ret e65_10))
      | ((with_reducible apply wC_skip e65_11))
      | ((with_reducible apply wC_seq e65_12; apply wC_seq e65_13; apply wC_region e65_14); refine vOps_open (l := _ :: _) rfl ?_; refine kOps_mv rfl rfl rfl rfl ?_; refine kOps_mv rfl rfl rfl rfl ?_; refine kOps_bin (b := .lss) (pre := ?_) (val := ?_) rfl rfl rfl rfl rfl ?_ ?_ ?_; rotate_left 2; (intro L; simp only [splice_one, cells_bv, getD_bv, set_bv, cells_agg, decide_true, decide_false, Int.reduceNe, ne_eq, not_true_eq_false, not_false_eq_true, Nat.mod_eq_of_lt hw, Nat.mod_eq_of_lt hl2, lss_ul, binF_lss, Int.reduceAdd, Int.reduceSub, Int.reduceMul, Int.reduceNeg, Int.sub_zero, Int.cast_ofNat_Int, Int.reduceLT, Int.reduceLE, Int.reduceEq, Nat.reduceMod, Nat.reduceLT, ty23]; (first | (rw [wrap_i64] <;> first | omega | rfl) | (rw [wrap_u8] <;> first | omega | rfl) | (rw [wrap_u16] <;> first | omega | rfl) | (rw [wrap_u32] <;> first | omega | rfl) | rfl)); exact trivial; refine vOps_nil ?_; (with_reducible apply seqC_normal; apply kC_cond e65_15); (exact rfl); all_goals (intro hb; first | (cases hb; done) | cases hb | ((try simp only [decide_eq_true_eq, decide_eq_false_iff_not, Bool.not_eq_true', Bool.not_eq_false'] at hb); try (exfalso; first | omega | exact hb trivial))))
      | ((with_reducible apply wC_seq e65_16; apply wC_region e65_17); refine vOps_open (l := _ :: _) rfl ?_; refine kOps_asc rfl rfl rfl lit_ul0 ?_; refine kOps_as rfl rfl rfl rfl ?_; refine kOps_as rfl rfl rfl rfl ?_; refine vOps_nil ?_; (with_reducible apply seqC_normal; apply wC_ret e65_18))
      | ((with_reducible apply wC_skip e65_19))
      | ((with_reducible apply wC_seq e65_20; apply wC_region e65_21); refine vOps_open (l := _ :: _) rfl ?_; refine kOps_mv rfl rfl rfl rfl ?_; refine kOps_mv rfl rfl rfl rfl ?_; refine kOps_as rfl rfl rfl rfl ?_; refine kOps_as rfl rfl rfl rfl ?_; refine kOps_as rfl rfl rfl rfl ?_; refine vOps_nil ?_; (with_reducible apply seqC_normal; apply wC_ret e65_22)))
    all_goals (
      refine fin_c (p := ?_) (xs := [.tmp 6, .tmp 7, .tmp 8]) (by simp) rfl ?_ ?_ ?_ ?_
      rotate_left 2
      · simp only [resAll_cons, resAll_nil, resPVl_0, resPVl_1, resPVl_2, resOne_tmp, resOne_cell, List.map_cons, List.map_nil, splice_one, cells_bv, getD_bv, set_bv, cells_agg, decide_true, decide_false, Int.reduceNe, ne_eq, not_true_eq_false, not_false_eq_true, Nat.mod_eq_of_lt hw, Nat.mod_eq_of_lt hl2, evalIn_tmp, evalIn_const, evalIn_func, lookup_cons, Nat.reduceBEq, cond_true, cond_false, lit_ul0, lit_ul1, loadF, partF, List.getElem?_cons_zero, List.getElem?_cons_succ, List.set_cons_zero, List.set_cons_succ, List.cons_append, List.nil_append, true_and, and_true, and_self, Nat.le_refl, Nat.reduceLeDiff, isAggD, Bool.false_eq_true, if_false, if_true, reduceIte, take_cl, agg_cl, len_cl, List.drop_zero, Int.toNat_natCast, Int.reduceToNat, Int.toNat_zero, n_add_zero, Nat.mul_one, Nat.zero_add, Nat.reduceAdd, Nat.reduceMul, take_bytes, List.length_map, List.getD_cons_zero, ty3, ty5, ty22, ty23, ty36]; try rfl
      · first | (with_reducible rfl) | (simp only [closed, closedL, closed_u4, closed_ul, closed_uw, closed_sv, closedL_bv, closedL_wr, Bool.and_self, Bool.and_true]; done) | (simp only [closed, closedL, closed_u4, closed_ul, closed_uw, closed_sv, closedL_bv, closedL_wr, Bool.and_self, Bool.and_true]; rfl)
      · first | exact wl_n (z := 8) rfl (by omega) | exact wl_s (z := 8) rfl (by omega) (by omega) | exact wl_o (z := 8) rfl (by omega) (by omega)
      · simp only [resAll_cons, resAll_nil, resPVl_0, resPVl_1, resPVl_2, resOne_tmp, resOne_cell, List.map_cons, List.map_nil, splice_one, cells_bv, getD_bv, set_bv, cells_agg, decide_true, decide_false, Int.reduceNe, ne_eq, not_true_eq_false, not_false_eq_true, Nat.mod_eq_of_lt hw, Nat.mod_eq_of_lt hl2, evalIn_tmp, evalIn_const, evalIn_func, lookup_cons, Nat.reduceBEq, cond_true, cond_false, lit_ul0, lit_ul1, loadF, partF, List.getElem?_cons_zero, List.getElem?_cons_succ, List.set_cons_zero, List.set_cons_succ, List.cons_append, List.nil_append, true_and, and_true, and_self, Nat.le_refl, Nat.reduceLeDiff, isAggD, Bool.false_eq_true, if_false, if_true, reduceIte, take_cl, agg_cl, len_cl, List.drop_zero, Int.toNat_natCast, Int.reduceToNat, Int.toNat_zero, n_add_zero, Nat.mul_one, Nat.zero_add, Nat.reduceAdd, Nat.reduceMul, take_bytes, List.length_map, List.getD_cons_zero, ty3, ty5, ty22, ty23, ty36]; try trivial)
  · exact hS.elim
end Go.Ab
