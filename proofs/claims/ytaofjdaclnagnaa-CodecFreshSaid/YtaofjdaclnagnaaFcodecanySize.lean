import Derived.Test.YtaofjdaclnagnaaMG
import Derived.Test.YtaofjdaclnagnaaTY
import Derived.Test.YtaofjdaclnagnaaFcodecU8
import Derived.Test.YtaofjdaclnagnaaFcodecwideSizeuint16
import Derived.Test.YtaofjdaclnagnaaFcodecwideSizeuint32
import Derived.Test.YtaofjdaclnagnaaFcodecwideSizeuint64
namespace Go.Ab
open Go Go.Proofs
set_option linter.unusedVariables false
set_option linter.unusedSimpArgs false
set_option maxRecDepth 8000
set_option maxHeartbeats 4000000

noncomputable def B57 : Code := bodyOf Try.f57
theorem B57_eq : Try.f57.body = some B57 := by kernel_rfl
noncomputable def n57_0 : Code := B57
noncomputable def n57_1 : Code := codeAt B57 [0]
noncomputable def n57_2 : Code := codeAt B57 [1]
noncomputable def n57_3 : Code := codeAt B57 [1,0]
noncomputable def n57_4 : Code := codeAt B57 [1,1]
noncomputable def n57_5 : Code := codeAt B57 [1,1,0]
noncomputable def n57_6 : Code := codeAt B57 [1,1,0,0]
noncomputable def n57_7 : Code := codeAt B57 [1,1,0,1]
noncomputable def n57_8 : Code := codeAt B57 [1,1,0,1,0]
noncomputable def n57_9 : Code := codeAt B57 [1,1,0,1,0,0]
noncomputable def n57_10 : Code := codeAt B57 [1,1,0,1,0,1]
noncomputable def n57_11 : Code := codeAt B57 [1,1,0,1,1]
noncomputable def n57_12 : Code := codeAt B57 [1,1,1]
noncomputable def n57_13 : Code := codeAt B57 [1,1,1,0]
noncomputable def n57_14 : Code := codeAt B57 [1,1,1,0,0]
noncomputable def n57_15 : Code := codeAt B57 [1,1,1,0,1]
noncomputable def n57_16 : Code := codeAt B57 [1,1,1,0,1,0]
noncomputable def n57_17 : Code := codeAt B57 [1,1,1,0,1,0,0]
noncomputable def n57_18 : Code := codeAt B57 [1,1,1,0,1,0,1]
noncomputable def n57_19 : Code := codeAt B57 [1,1,1,0,1,0,1,0]
noncomputable def n57_20 : Code := codeAt B57 [1,1,1,0,1,0,1,0,0]
noncomputable def n57_21 : Code := codeAt B57 [1,1,1,0,1,0,1,0,1]
noncomputable def n57_22 : Code := codeAt B57 [1,1,1,0,1,0,1,1]
noncomputable def n57_23 : Code := codeAt B57 [1,1,1,0,1,0,1,1,0]
noncomputable def n57_24 : Code := codeAt B57 [1,1,1,0,1,0,1,1,1]
noncomputable def n57_25 : Code := codeAt B57 [1,1,1,0,1,0,1,1,1,0]
noncomputable def n57_26 : Code := codeAt B57 [1,1,1,0,1,0,1,1,1,0,0]
noncomputable def n57_27 : Code := codeAt B57 [1,1,1,0,1,0,1,1,1,0,1]
noncomputable def n57_28 : Code := codeAt B57 [1,1,1,0,1,0,1,1,1,1]
noncomputable def n57_29 : Code := codeAt B57 [1,1,1,0,1,0,1,1,1,1,0]
noncomputable def n57_30 : Code := codeAt B57 [1,1,1,0,1,0,1,1,1,1,1]
noncomputable def n57_31 : Code := codeAt B57 [1,1,1,0,1,0,1,1,1,1,1,0]
noncomputable def n57_32 : Code := codeAt B57 [1,1,1,0,1,0,1,1,1,1,1,0,0]
noncomputable def n57_33 : Code := codeAt B57 [1,1,1,0,1,0,1,1,1,1,1,0,1]
noncomputable def n57_34 : Code := codeAt B57 [1,1,1,0,1,0,1,1,1,1,1,1]
noncomputable def n57_35 : Code := codeAt B57 [1,1,1,1]
noncomputable def n57_36 : Code := codeAt B57 [1,1,1,1,0]
noncomputable def n57_37 : Code := codeAt B57 [1,1,1,1,1]
theorem e57_0 : n57_0 = .seq n57_1 n57_2 := rfl
noncomputable def r57_1 := opsAt n57_1
theorem e57_1 : n57_1 = .region 0 (r57_1).toArray false := rfl
theorem e57_2 : n57_2 = .seq n57_3 n57_4 := rfl
noncomputable def r57_3 := opsAt n57_3
theorem e57_3 : n57_3 = .region 1 (r57_3).toArray false := rfl
theorem e57_4 : n57_4 = .seq n57_5 n57_12 := rfl
theorem e57_5 : n57_5 = .seq n57_6 n57_7 := rfl
noncomputable def r57_6 := opsAt n57_6
theorem e57_6 : n57_6 = .region 2 (r57_6).toArray false := rfl
theorem e57_7 : n57_7 = .cond (.tmp 18) n57_8 n57_11 := rfl
theorem e57_8 : n57_8 = .seq n57_9 n57_10 := rfl
noncomputable def r57_9 := opsAt n57_9
theorem e57_9 : n57_9 = .region 3 (r57_9).toArray false := rfl
theorem e57_10 : n57_10 = .ret := rfl
theorem e57_11 : n57_11 = .skip := rfl
theorem e57_12 : n57_12 = .seq n57_13 n57_35 := rfl
theorem e57_13 : n57_13 = .seq n57_14 n57_15 := rfl
noncomputable def r57_14 := opsAt n57_14
theorem e57_14 : n57_14 = .region 4 (r57_14).toArray false := rfl
theorem e57_15 : n57_15 = .block 0 n57_16 := rfl
theorem e57_16 : n57_16 = .seq n57_17 n57_18 := rfl
noncomputable def r57_17 := opsAt n57_17
theorem e57_17 : n57_17 = .region 5 (r57_17).toArray false := rfl
theorem e57_18 : n57_18 = .cond (.tmp 21) n57_19 n57_22 := rfl
theorem e57_19 : n57_19 = .seq n57_20 n57_21 := rfl
noncomputable def r57_20 := opsAt n57_20
theorem e57_20 : n57_20 = .region 6 (r57_20).toArray false := rfl
theorem e57_21 : n57_21 = .ret := rfl
theorem e57_22 : n57_22 = .seq n57_23 n57_24 := rfl
noncomputable def r57_23 := opsAt n57_23
theorem e57_23 : n57_23 = .region 7 (r57_23).toArray false := rfl
theorem e57_24 : n57_24 = .cond (.tmp 29) n57_25 n57_28 := rfl
theorem e57_25 : n57_25 = .seq n57_26 n57_27 := rfl
noncomputable def r57_26 := opsAt n57_26
theorem e57_26 : n57_26 = .region 8 (r57_26).toArray false := rfl
theorem e57_27 : n57_27 = .ret := rfl
theorem e57_28 : n57_28 = .seq n57_29 n57_30 := rfl
noncomputable def r57_29 := opsAt n57_29
theorem e57_29 : n57_29 = .region 9 (r57_29).toArray false := rfl
theorem e57_30 : n57_30 = .cond (.tmp 37) n57_31 n57_34 := rfl
theorem e57_31 : n57_31 = .seq n57_32 n57_33 := rfl
noncomputable def r57_32 := opsAt n57_32
theorem e57_32 : n57_32 = .region 10 (r57_32).toArray false := rfl
theorem e57_33 : n57_33 = .ret := rfl
theorem e57_34 : n57_34 = .skip := rfl
theorem e57_35 : n57_35 = .seq n57_36 n57_37 := rfl
noncomputable def r57_36 := opsAt n57_36
theorem e57_36 : n57_36 = .region 11 (r57_36).toArray false := rfl
theorem e57_37 : n57_37 = .ret := rfl
theorem f_codec_anySize : PureOk Try.prog 57 sAny := by
  refine pureOk_of (c := n57_0) (Γ := conOf [(26, .pure sInt8), (63, .pure sWide16), (64, .pure sWide32), (65, .pure sWide64)]) (conOf_ok (conOf_one (S := .pure sInt8) f_codec_U8 (conOf_one (S := .pure sWide16) f_codec_wideSize_uint16 (conOf_one (S := .pure sWide32) f_codec_wideSize_uint32 (conOf_one (S := .pure sWide64) f_codec_wideSize_uint64 (conOf_end)))))) mixed Try.func57 B57_eq (by decide +kernel) Try.call57 ?_
  intro args hS
  unfold sAny at hS ⊢
  split at hS
  · refine ⟨by rw [Try.ntmps57]; simp, vC_sound ?_⟩
    rename_i n cs a
    obtain ⟨hB, hn, ha0, ha1⟩ := hS
    obtain ⟨b, rfl, rfl⟩ := isB_out hB
    simp only [bytesOf_bv]
    clear hB
    simp only [entry_cons, entry_nil, Nat.reduceAdd]
    have hp := pR_in (n := b.length) (a := a) (w := 1) (by decide)
    repeat' (first
      | (with_reducible first | apply seqC_normal | apply blockC_normal | apply seqC_ret | apply blockC_ret)
      | ((with_reducible apply wC_seq e57_0; apply wC_region e57_1); refine vOps_open (l := _ :: _) rfl ?_)
      | ((with_reducible apply wC_seq e57_2; apply wC_region e57_3); refine vOps_open (l := _ :: _) rfl ?_)
      | ((with_reducible apply wC_seq e57_4; apply wC_seq e57_5; apply wC_region e57_6); refine vOps_open (l := _ :: _) rfl ?_)
      | ((with_reducible apply kC_cond e57_7); (exact rfl); all_goals (intro hb; first | (cases hb; done) | cases hb | ((try simp only [decide_eq_true_eq, decide_eq_false_iff_not, Bool.not_eq_true', Bool.not_eq_false'] at hb); try (exfalso; first | omega | exact hb trivial))))
      | ((with_reducible apply wC_seq e57_8; apply wC_region e57_9); refine vOps_open (l := _ :: _) rfl ?_)
      | ((with_reducible apply wC_ret e57_10))
      | ((with_reducible apply wC_skip e57_11))
      | ((with_reducible apply wC_seq e57_12; apply wC_seq e57_13; apply wC_region e57_14); refine vOps_open (l := _ :: _) rfl ?_)
      | ((with_reducible apply wC_block e57_15; apply wC_seq e57_16; apply wC_region e57_17); refine vOps_open (l := _ :: _) rfl ?_)
      | ((with_reducible apply kC_cond e57_18); (exact rfl); all_goals (intro hb; first | (cases hb; done) | cases hb | ((try simp only [decide_eq_true_eq, decide_eq_false_iff_not, Bool.not_eq_true', Bool.not_eq_false'] at hb); try (exfalso; first | omega | exact hb trivial))))
      | ((with_reducible apply wC_seq e57_19; apply wC_region e57_20); refine vOps_open (l := _ :: _) rfl ?_)
      | ((with_reducible apply wC_ret e57_21))
      | ((with_reducible apply wC_seq e57_22; apply wC_region e57_23); refine vOps_open (l := _ :: _) rfl ?_)
      | ((with_reducible apply kC_cond e57_24); (exact rfl); all_goals (intro hb; first | (cases hb; done) | cases hb | ((try simp only [decide_eq_true_eq, decide_eq_false_iff_not, Bool.not_eq_true', Bool.not_eq_false'] at hb); try (exfalso; first | omega | exact hb trivial))))
      | ((with_reducible apply wC_seq e57_25; apply wC_region e57_26); refine vOps_open (l := _ :: _) rfl ?_)
      | ((with_reducible apply wC_ret e57_27))
      | ((with_reducible apply wC_seq e57_28; apply wC_region e57_29); refine vOps_open (l := _ :: _) rfl ?_)
      | ((with_reducible apply kC_cond e57_30); (exact rfl); all_goals (intro hb; first | (cases hb; done) | cases hb | ((try simp only [decide_eq_true_eq, decide_eq_false_iff_not, Bool.not_eq_true', Bool.not_eq_false'] at hb); try (exfalso; first | omega | exact hb trivial))))
      | ((with_reducible apply wC_seq e57_31; apply wC_region e57_32); refine vOps_open (l := _ :: _) rfl ?_)
      | ((with_reducible apply wC_ret e57_33))
      | ((with_reducible apply wC_skip e57_34))
      | ((with_reducible apply wC_seq e57_35; apply wC_region e57_36); refine vOps_open (l := _ :: _) rfl ?_)
      | ((with_reducible apply wC_ret e57_37))
      | ((with_reducible apply vOps_nil); try (with_reducible refine And.intro (by kernel_rfl) ?_))
      | (refine kOps_gon (g := ?_) (p := ?_) rfl rfl ?_ ?_ ?_ ?_; rotate_left 2; fail; (exact rfl); (with_reducible rfl))
      | (refine kOps_gofft (g := ?_) (p := ?_) rfl rfl ?_ ?_ ?_ ?_; rotate_left 2; fail; (exact rfl); (with_reducible rfl))
      | (refine kOps_gofff (g := ?_) (p := ?_) rfl rfl ?_ ?_ ?_ ?_; rotate_left 2; fail; (exact rfl); (with_reducible rfl))
      | (refine kOps_pickt rfl rfl rfl rfl ?_ rfl ?_; (with_reducible rfl))
      | (refine kOps_pickf rfl rfl rfl rfl ?_ rfl ?_; (with_reducible rfl))
      | (refine kOps_asc rfl rfl rfl lit_ul0 ?_)
      | (refine kOps_as rfl rfl rfl rfl ?_)
      | (refine kOps_mv rfl rfl rfl rfl ?_)
      | (refine kOps_callc (pre := ?_) (val := ?_) rfl rfl rfl rfl rfl ?_ ?_ ?_ ?_ ?_; rotate_left 2; (simp only [splice_one, cells_bv, getD_bv, set_bv, cells_agg, decide_true, decide_false, Int.reduceNe, ne_eq, not_true_eq_false, not_false_eq_true, isB_bv, bytesOf_bv, Int.reduceToNat, isul_ul, ulv_ul, Nat.reduceMod, ite_q, sInt8, sWide16, sWide32, sWide64, lit_ul0, lit_ul1, lc_4294967296, nrmC, List.map_cons, List.map_nil, nrm_ul, nrm_u4, nrm_nil, nrm_int, nrm_bool, nrm_string, nrm_ro, nrm_agg, nrm_rptr, isU_u4, uv_u4, true_and, and_true, and_self, n_add_zero, Nat.zero_add, Nat.zero_mod, n_sub_zero]; rfl); (focus (first | (with_reducible rfl) | (simp only [closed, closedL, closed_ul, closed_u4, closedL_bv, closedL_cl, Bool.and_self, Bool.and_true, closedL_wr, closed_uw, closed_sv, closed_tp]; done))); (focus (first | (with_reducible rfl) | (simp only [closed, closedL, closed_ul, closed_u4, closedL_bv, closedL_cl, Bool.and_self, Bool.and_true, closedL_wr, closed_uw, closed_sv, closed_tp]; done))); (focus ((repeat' apply And.intro) <;> first | exact True.intro | omega | (with_reducible rfl) | assumption | (simp only [lns]; first | done | omega) | (simp only [one_bv, cells_bv, one_bv1, List.length_cons, List.length_nil, List.all_cons, List.all_nil, Bool.and_self]; done) | (simp only [cells_agg, one_bv, lns, and_self, true_and, Nat.le_refl, Nat.reduceAdd, Nat.zero_add]; done) | exact one_bv _ | exact ⟨_, rfl⟩ | (simp [PV.one, one_bv, PV.cells, Value.cells, Value.oneCell']; done))))
      | (refine kOps_ext rfl rfl rfl rfl rfl ?_)
      | (refine kOps_bin (b := .neq) (pre := ?_) (val := ?_) rfl rfl rfl rfl rfl ?_ ?_ ?_; rotate_left 2; (intro L; simp only [splice_one, cells_bv, getD_bv, set_bv, cells_agg, decide_true, decide_false, Int.reduceNe, ne_eq, not_true_eq_false, not_false_eq_true, lit_ul0, lit_ul1, lc_4294967296, neq_ul, binF_neq, binF_sneq, Int.reduceAdd, Int.reduceSub, Int.reduceMul, Int.reduceNeg, Int.sub_zero, Int.cast_ofNat_Int, Int.reduceLT, Int.reduceLE, Int.reduceEq, Nat.reduceMod, Nat.reduceLT, ty36]; (first | (rw [wrap_i64] <;> first | omega | rfl) | (rw [wrap_u8] <;> first | omega | rfl) | (rw [wrap_u16] <;> first | omega | rfl) | (rw [wrap_u32] <;> first | omega | rfl) | rfl)); (focus ((repeat' apply And.intro) <;> first | exact True.intro | omega | (with_reducible rfl) | assumption | (simp only [lns]; first | done | omega) | (simp only [one_bv, cells_bv, one_bv1, List.length_cons, List.length_nil, List.all_cons, List.all_nil, Bool.and_self]; done) | (simp only [cells_agg, one_bv, lns, and_self, true_and, Nat.le_refl, Nat.reduceAdd, Nat.zero_add]; done) | exact one_bv _ | exact ⟨_, rfl⟩ | (simp [PV.one, one_bv, PV.cells, Value.cells, Value.oneCell']; done))))
      | (refine kOps_bin (b := .eql) (pre := ?_) (val := ?_) rfl rfl rfl rfl rfl ?_ ?_ ?_; rotate_left 2; (intro L; simp only [splice_one, cells_bv, getD_bv, set_bv, cells_agg, decide_true, decide_false, Int.reduceNe, ne_eq, not_true_eq_false, not_false_eq_true, lit_ul0, lit_ul1, lc_4294967296, eql_bv, binF_eql, binF_seql, Int.reduceAdd, Int.reduceSub, Int.reduceMul, Int.reduceNeg, Int.sub_zero, Int.cast_ofNat_Int, Int.reduceLT, Int.reduceLE, Int.reduceEq, Nat.reduceMod, Nat.reduceLT, ty5]; (first | (rw [wrap_i64] <;> first | omega | rfl) | (rw [wrap_u8] <;> first | omega | rfl) | (rw [wrap_u16] <;> first | omega | rfl) | (rw [wrap_u32] <;> first | omega | rfl) | rfl)); (focus ((repeat' apply And.intro) <;> first | exact True.intro | omega | (with_reducible rfl) | assumption | (simp only [lns]; first | done | omega) | (simp only [one_bv, cells_bv, one_bv1, List.length_cons, List.length_nil, List.all_cons, List.all_nil, Bool.and_self]; done) | (simp only [cells_agg, one_bv, lns, and_self, true_and, Nat.le_refl, Nat.reduceAdd, Nat.zero_add]; done) | exact one_bv _ | exact ⟨_, rfl⟩ | (simp [PV.one, one_bv, PV.cells, Value.cells, Value.oneCell']; done))))
      | (refine kOps_conv (s := 5) (t := 23) (pre := ?_) (val := ?_) rfl rfl rfl rfl ?_ ?_ ?_; rotate_left 2; (intro L; simp only [splice_one, cells_bv, getD_bv, set_bv, cells_agg, decide_true, decide_false, Int.reduceNe, ne_eq, not_true_eq_false, not_false_eq_true, wrap_ul, cv_5_23, cw_5_23]; first | rfl | (first | (rw [wrap_i64] <;> first | omega | rfl) | (rw [wrap_u8] <;> first | omega | rfl) | (rw [wrap_u16] <;> first | omega | rfl) | (rw [wrap_u32] <;> first | omega | rfl) | rfl)); exact trivial)
      | (refine vOps_gundef rfl rfl ?_ ?_; (focus (simp only [lookup_cons, Nat.reduceBEq, cond_true, cond_false]; done)); simp only [putIn])
      | (refine vOps_gpick (t := ?_) (val := ?_) rfl rfl ?_ rfl rfl ?_ ?_ ?_; rotate_left 2; (focus (simp only [lookup_cons, Nat.reduceBEq, cond_true, cond_false]; done)); (simp only [evalIn_tmp, evalIn_const, lookup_cons, Nat.reduceBEq, cond_true, cond_false]; rfl); (simp only [evalIn_tmp, evalIn_const, lookup_cons, Nat.reduceBEq, cond_true, cond_false]; rfl))
      | (refine vOps_pick (t := ?_) (val := ?_) rfl rfl rfl ?_ ?_ ?_; rotate_left 2; (simp only [evalIn_tmp, evalIn_const, lookup_cons, Nat.reduceBEq, cond_true, cond_false]; rfl); (simp only [evalIn_tmp, evalIn_const, lookup_cons, Nat.reduceBEq, cond_true, cond_false]; rfl))
      | (refine vOps_fork (b := ?_) rfl rfl ?_ ?_ ?_; rotate_left 1; (simp only [lookup_cons, Nat.reduceBEq, cond_true, cond_false]; rfl); all_goals (intro hb; simp only [hb]; (try simp only [decide_eq_true_eq, decide_eq_false_iff_not] at hb); try (exfalso; first | omega | exact hb trivial)))
      | (refine vOps_forkp (b := ?_) rfl ?_ ?_ ?_; rotate_left 1; (simp only [evalIn_tmp, lookup_cons, Nat.reduceBEq, cond_true, cond_false]; rfl); all_goals (intro hb; simp only [hb]; (try simp only [decide_eq_true_eq, decide_eq_false_iff_not] at hb); try (exfalso; first | omega | exact hb trivial))))
    all_goals (
      refine fin_c (p := ?_) (xs := [.tmp 4, .tmp 5, .tmp 6]) (by simp) rfl ?_ ?_ ?_ ?_
      rotate_left 2
      · simp only [resAll_cons, resAll_nil, resPVl_0, resPVl_1, resPVl_2, resOne_tmp, resOne_cell, List.map_cons, List.map_nil, splice_one, cells_bv, getD_bv, set_bv, cells_agg, decide_true, decide_false, Int.reduceNe, ne_eq, not_true_eq_false, not_false_eq_true, evalIn_tmp, evalIn_const, evalIn_func, lookup_cons, Nat.reduceBEq, cond_true, cond_false, lit_ul0, lit_ul1, loadF, partF, List.getElem?_cons_zero, List.getElem?_cons_succ, List.set_cons_zero, List.set_cons_succ, List.cons_append, List.nil_append, true_and, and_true, and_self, Nat.le_refl, Nat.reduceLeDiff, isAggD, Bool.false_eq_true, if_false, if_true, reduceIte, take_cl, agg_cl, len_cl, List.drop_zero, Int.toNat_natCast, Int.reduceToNat, Int.toNat_zero, n_add_zero, Nat.mul_one, Nat.zero_add, Nat.reduceAdd, Nat.reduceMul, take_bytes, List.length_map, List.getD_cons_zero, ty3, ty5, ty22, ty23, ty29, ty31, ty36]; try rfl
      · first | (with_reducible rfl) | (simp only [closed, closedL, closed_u4, closed_ul, closed_uw, closed_sv, closedL_bv, closedL_wr, Bool.and_self, Bool.and_true]; done) | (simp only [closed, closedL, closed_u4, closed_ul, closed_uw, closed_sv, closedL_bv, closedL_wr, Bool.and_self, Bool.and_true]; rfl)
      · first | exact al_n (by omega) | exact al_16 (by omega) (by omega) | exact al_32 (by omega) (by omega) | exact al_64 (by omega) (by omega) | exact al_8 (by omega) (by omega) (by omega) (by omega)
      · simp only [resAll_cons, resAll_nil, resPVl_0, resPVl_1, resPVl_2, resOne_tmp, resOne_cell, List.map_cons, List.map_nil, splice_one, cells_bv, getD_bv, set_bv, cells_agg, decide_true, decide_false, Int.reduceNe, ne_eq, not_true_eq_false, not_false_eq_true, evalIn_tmp, evalIn_const, evalIn_func, lookup_cons, Nat.reduceBEq, cond_true, cond_false, lit_ul0, lit_ul1, loadF, partF, List.getElem?_cons_zero, List.getElem?_cons_succ, List.set_cons_zero, List.set_cons_succ, List.cons_append, List.nil_append, true_and, and_true, and_self, Nat.le_refl, Nat.reduceLeDiff, isAggD, Bool.false_eq_true, if_false, if_true, reduceIte, take_cl, agg_cl, len_cl, List.drop_zero, Int.toNat_natCast, Int.reduceToNat, Int.toNat_zero, n_add_zero, Nat.mul_one, Nat.zero_add, Nat.reduceAdd, Nat.reduceMul, take_bytes, List.length_map, List.getD_cons_zero, ty3, ty5, ty22, ty23, ty29, ty31, ty36]; try trivial)
  · exact hS.elim
end Go.Ab
