import Derived.Test.YtaofjdaclnagnaaMG
import Derived.Test.YtaofjdaclnagnaaTY
import Derived.Test.YtaofjdaclnagnaaFlawsane
import Derived.Test.YtaofjdaclnagnaaFcodecU8
import Derived.Test.YtaofjdaclnagnaaFref01U8
import Derived.Test.YtaofjdaclnagnaaFcodecU16
import Derived.Test.YtaofjdaclnagnaaFref01U16
import Derived.Test.YtaofjdaclnagnaaFcodecU32
import Derived.Test.YtaofjdaclnagnaaFref01U32
import Derived.Test.YtaofjdaclnagnaaFcodecU64
import Derived.Test.YtaofjdaclnagnaaFref01U64
import Derived.Test.YtaofjdaclnagnaaFcodecHash
import Derived.Test.YtaofjdaclnagnaaFref01Hash
import Derived.Test.YtaofjdaclnagnaaFcodecEnd
import Derived.Test.YtaofjdaclnagnaaFref01End
namespace Go.Ab
open Go Go.Proofs
set_option linter.unusedVariables false
set_option linter.unusedSimpArgs false
set_option maxRecDepth 8000
set_option maxHeartbeats 4000000

noncomputable def B4 : Code := bodyOf Try.f4
theorem B4_eq : Try.f4.body = some B4 := by kernel_rfl
noncomputable def n4_0 : Code := B4
noncomputable def n4_1 : Code := codeAt B4 [0]
noncomputable def n4_2 : Code := codeAt B4 [1]
noncomputable def n4_3 : Code := codeAt B4 [1,0]
noncomputable def n4_4 : Code := codeAt B4 [1,0,0]
noncomputable def n4_5 : Code := codeAt B4 [1,0,1]
noncomputable def n4_6 : Code := codeAt B4 [1,0,1,0]
noncomputable def n4_7 : Code := codeAt B4 [1,0,1,0,0]
noncomputable def n4_8 : Code := codeAt B4 [1,0,1,0,1]
noncomputable def n4_9 : Code := codeAt B4 [1,0,1,1]
noncomputable def n4_10 : Code := codeAt B4 [1,1]
noncomputable def n4_11 : Code := codeAt B4 [1,1,0]
noncomputable def n4_12 : Code := codeAt B4 [1,1,1]
noncomputable def n4_13 : Code := codeAt B4 [1,1,1,0]
noncomputable def n4_14 : Code := codeAt B4 [1,1,1,1]
noncomputable def n4_15 : Code := codeAt B4 [1,1,1,1,0]
noncomputable def n4_16 : Code := codeAt B4 [1,1,1,1,1]
noncomputable def n4_17 : Code := codeAt B4 [1,1,1,1,1,0]
noncomputable def n4_18 : Code := codeAt B4 [1,1,1,1,1,1]
noncomputable def n4_19 : Code := codeAt B4 [1,1,1,1,1,1,0]
noncomputable def n4_20 : Code := codeAt B4 [1,1,1,1,1,1,1]
noncomputable def n4_21 : Code := codeAt B4 [1,1,1,1,1,1,1,0]
noncomputable def n4_22 : Code := codeAt B4 [1,1,1,1,1,1,1,1]
noncomputable def n4_23 : Code := codeAt B4 [1,1,1,1,1,1,1,1,0]
noncomputable def n4_24 : Code := codeAt B4 [1,1,1,1,1,1,1,1,1]
noncomputable def n4_25 : Code := codeAt B4 [1,1,1,1,1,1,1,1,1,0]
noncomputable def n4_26 : Code := codeAt B4 [1,1,1,1,1,1,1,1,1,1]
noncomputable def n4_27 : Code := codeAt B4 [1,1,1,1,1,1,1,1,1,1,0]
noncomputable def n4_28 : Code := codeAt B4 [1,1,1,1,1,1,1,1,1,1,1]
noncomputable def n4_29 : Code := codeAt B4 [1,1,1,1,1,1,1,1,1,1,1,0]
noncomputable def n4_30 : Code := codeAt B4 [1,1,1,1,1,1,1,1,1,1,1,1]
noncomputable def n4_31 : Code := codeAt B4 [1,1,1,1,1,1,1,1,1,1,1,1,0]
noncomputable def n4_32 : Code := codeAt B4 [1,1,1,1,1,1,1,1,1,1,1,1,0,0]
noncomputable def n4_33 : Code := codeAt B4 [1,1,1,1,1,1,1,1,1,1,1,1,0,1]
noncomputable def n4_34 : Code := codeAt B4 [1,1,1,1,1,1,1,1,1,1,1,1,0,1,0]
noncomputable def n4_35 : Code := codeAt B4 [1,1,1,1,1,1,1,1,1,1,1,1,0,1,0,0]
noncomputable def n4_36 : Code := codeAt B4 [1,1,1,1,1,1,1,1,1,1,1,1,0,1,0,1]
noncomputable def n4_37 : Code := codeAt B4 [1,1,1,1,1,1,1,1,1,1,1,1,0,1,1]
noncomputable def n4_38 : Code := codeAt B4 [1,1,1,1,1,1,1,1,1,1,1,1,1]
noncomputable def n4_39 : Code := codeAt B4 [1,1,1,1,1,1,1,1,1,1,1,1,1,0]
noncomputable def n4_40 : Code := codeAt B4 [1,1,1,1,1,1,1,1,1,1,1,1,1,1]
theorem e4_0 : n4_0 = .seq n4_1 n4_2 := rfl
noncomputable def r4_1 := opsAt n4_1
theorem e4_1 : n4_1 = .region 0 (r4_1).toArray false := rfl
theorem e4_2 : n4_2 = .seq n4_3 n4_10 := rfl
theorem e4_3 : n4_3 = .seq n4_4 n4_5 := rfl
noncomputable def r4_4 := opsAt n4_4
theorem e4_4 : n4_4 = .region 1 (r4_4).toArray false := rfl
theorem e4_5 : n4_5 = .cond (.tmp 36) n4_6 n4_9 := rfl
theorem e4_6 : n4_6 = .seq n4_7 n4_8 := rfl
noncomputable def r4_7 := opsAt n4_7
theorem e4_7 : n4_7 = .region 2 (r4_7).toArray false := rfl
theorem e4_8 : n4_8 = .ret := rfl
theorem e4_9 : n4_9 = .skip := rfl
theorem e4_10 : n4_10 = .seq n4_11 n4_12 := rfl
noncomputable def r4_11 := opsAt n4_11
theorem e4_11 : n4_11 = .region 3 (r4_11).toArray false := rfl
theorem e4_12 : n4_12 = .seq n4_13 n4_14 := rfl
noncomputable def r4_13 := opsAt n4_13
theorem e4_13 : n4_13 = .region 4 (r4_13).toArray false := rfl
theorem e4_14 : n4_14 = .seq n4_15 n4_16 := rfl
noncomputable def r4_15 := opsAt n4_15
theorem e4_15 : n4_15 = .region 5 (r4_15).toArray false := rfl
theorem e4_16 : n4_16 = .seq n4_17 n4_18 := rfl
noncomputable def r4_17 := opsAt n4_17
theorem e4_17 : n4_17 = .region 6 (r4_17).toArray false := rfl
theorem e4_18 : n4_18 = .seq n4_19 n4_20 := rfl
noncomputable def r4_19 := opsAt n4_19
theorem e4_19 : n4_19 = .region 7 (r4_19).toArray false := rfl
theorem e4_20 : n4_20 = .seq n4_21 n4_22 := rfl
noncomputable def r4_21 := opsAt n4_21
theorem e4_21 : n4_21 = .region 8 (r4_21).toArray false := rfl
theorem e4_22 : n4_22 = .seq n4_23 n4_24 := rfl
noncomputable def r4_23 := opsAt n4_23
theorem e4_23 : n4_23 = .region 9 (r4_23).toArray false := rfl
theorem e4_24 : n4_24 = .seq n4_25 n4_26 := rfl
noncomputable def r4_25 := opsAt n4_25
theorem e4_25 : n4_25 = .region 10 (r4_25).toArray false := rfl
theorem e4_26 : n4_26 = .seq n4_27 n4_28 := rfl
noncomputable def r4_27 := opsAt n4_27
theorem e4_27 : n4_27 = .region 11 (r4_27).toArray false := rfl
theorem e4_28 : n4_28 = .seq n4_29 n4_30 := rfl
noncomputable def r4_29 := opsAt n4_29
theorem e4_29 : n4_29 = .region 12 (r4_29).toArray false := rfl
theorem e4_30 : n4_30 = .seq n4_31 n4_38 := rfl
theorem e4_31 : n4_31 = .seq n4_32 n4_33 := rfl
noncomputable def r4_32 := opsAt n4_32
theorem e4_32 : n4_32 = .region 13 (r4_32).toArray false := rfl
theorem g4_32_3 : (r4_32[3]?).bind (·.dst) = some 110 := by decide +kernel
theorem g4_32_8 : (r4_32[8]?).bind (·.dst) = some 115 := by decide +kernel
theorem g4_32_13 : (r4_32[13]?).bind (·.dst) = some 120 := by decide +kernel
theorem g4_32_18 : (r4_32[18]?).bind (·.dst) = some 125 := by decide +kernel
theorem g4_32_23 : (r4_32[23]?).bind (·.dst) = some 130 := by decide +kernel
theorem g4_32_28 : (r4_32[28]?).bind (·.dst) = some 135 := by decide +kernel
theorem g4_32_33 : (r4_32[33]?).bind (·.dst) = some 140 := by decide +kernel
theorem g4_32_38 : (r4_32[38]?).bind (·.dst) = some 145 := by decide +kernel
theorem e4_33 : n4_33 = .cond (.tmp 149) n4_34 n4_37 := rfl
theorem e4_34 : n4_34 = .seq n4_35 n4_36 := rfl
noncomputable def r4_35 := opsAt n4_35
theorem e4_35 : n4_35 = .region 14 (r4_35).toArray false := rfl
theorem e4_36 : n4_36 = .ret := rfl
theorem e4_37 : n4_37 = .skip := rfl
theorem e4_38 : n4_38 = .seq n4_39 n4_40 := rfl
noncomputable def r4_39 := opsAt n4_39
theorem e4_39 : n4_39 = .region 15 (r4_39).toArray false := rfl
theorem g4_39_3 : (r4_39[3]?).bind (·.dst) = some 153 := by decide +kernel
theorem g4_39_8 : (r4_39[8]?).bind (·.dst) = some 158 := by decide +kernel
theorem g4_39_13 : (r4_39[13]?).bind (·.dst) = some 163 := by decide +kernel
theorem g4_39_18 : (r4_39[18]?).bind (·.dst) = some 168 := by decide +kernel
theorem g4_39_23 : (r4_39[23]?).bind (·.dst) = some 173 := by decide +kernel
theorem g4_39_28 : (r4_39[28]?).bind (·.dst) = some 178 := by decide +kernel
theorem e4_40 : n4_40 = .ret := rfl
theorem f_law_CodecReads : PureOk Try.prog 4 sLCR := by
  refine pureOk_of (c := n4_0) (Γ := conOf [(12, .pure sSaneS), (26, .pure sInt8), (27, .pure sInt8), (28, .pure sInt16), (29, .pure sInt16), (30, .pure sInt32), (31, .pure sInt32), (32, .pure sInt64), (33, .pure sInt64), (34, .pure sHashT), (35, .pure sHashT), (36, .pure sEnd), (37, .pure sEnd)]) (conOf_ok (conOf_one (S := .pure sSaneS) f_law_sane (conOf_one (S := .pure sInt8) f_codec_U8 (conOf_one (S := .pure sInt8) f_ref01_U8 (conOf_one (S := .pure sInt16) f_codec_U16 (conOf_one (S := .pure sInt16) f_ref01_U16 (conOf_one (S := .pure sInt32) f_codec_U32 (conOf_one (S := .pure sInt32) f_ref01_U32 (conOf_one (S := .pure sInt64) f_codec_U64 (conOf_one (S := .pure sInt64) f_ref01_U64 (conOf_one (S := .pure sHashT) f_codec_Hash (conOf_one (S := .pure sHashT) f_ref01_Hash (conOf_one (S := .pure sEnd) f_codec_End (conOf_one (S := .pure sEnd) f_ref01_End (conOf_end))))))))))))))) mixed Try.func4 B4_eq (by decide +kernel) Try.call4 ?_
  intro args hS
  unfold sLCR at hS ⊢
  split at hS
  · refine ⟨by rw [Try.ntmps4]; simp, vC_sound ?_⟩
    rename_i n cs a
    obtain ⟨hB, hn, ha0, ha1⟩ := hS
    obtain ⟨b, rfl, rfl⟩ := isB_out hB
    simp only [bytesOf_bv]
    clear hB
    simp only [entry_cons, entry_nil, Nat.reduceAdd]
    repeat' (first
      | (with_reducible first | apply seqC_normal | apply seqC_ret)
      | ((with_reducible apply wC_seq e4_0; apply wC_region e4_1); refine vOps_open (l := _ :: _) rfl ?_)
      | ((with_reducible apply wC_seq e4_2; apply wC_seq e4_3; apply wC_region e4_4); refine vOps_open (l := _ :: _) rfl ?_)
      | ((with_reducible apply kC_cond e4_5); (exact rfl); all_goals (intro hb; first | (cases hb; done) | cases hb | ((try simp only [decide_eq_true_eq, decide_eq_false_iff_not, Bool.not_eq_true', Bool.not_eq_false'] at hb); try (exfalso; first | omega | exact hb trivial))))
      | ((with_reducible apply wC_seq e4_6; apply wC_region e4_7); refine vOps_open (l := _ :: _) rfl ?_)
      | ((with_reducible apply wC_ret e4_8))
      | ((with_reducible apply wC_skip e4_9))
      | ((with_reducible apply wC_seq e4_10; apply wC_region e4_11); refine vOps_open (l := _ :: _) rfl ?_)
      | ((with_reducible apply wC_seq e4_12; apply wC_region e4_13); refine vOps_open (l := _ :: _) rfl ?_)
      | ((with_reducible apply wC_seq e4_14; apply wC_region e4_15); refine vOps_open (l := _ :: _) rfl ?_)
      | ((with_reducible apply wC_seq e4_16; apply wC_region e4_17); refine vOps_open (l := _ :: _) rfl ?_)
      | ((with_reducible apply wC_seq e4_18; apply wC_region e4_19); refine vOps_open (l := _ :: _) rfl ?_)
      | ((with_reducible apply wC_seq e4_20; apply wC_region e4_21); refine vOps_open (l := _ :: _) rfl ?_)
      | ((with_reducible apply wC_seq e4_22; apply wC_region e4_23); refine vOps_open (l := _ :: _) rfl ?_)
      | ((with_reducible apply wC_seq e4_24; apply wC_region e4_25); refine vOps_open (l := _ :: _) rfl ?_)
      | ((with_reducible apply wC_seq e4_26; apply wC_region e4_27); refine vOps_open (l := _ :: _) rfl ?_)
      | ((with_reducible apply wC_seq e4_28; apply wC_region e4_29); refine vOps_open (l := _ :: _) rfl ?_)
      | ((with_reducible apply wC_seq e4_30; apply wC_seq e4_31; apply wC_region e4_32); refine vOps_open (l := _ :: _) rfl ?_)
      | ((with_reducible apply kC_cond e4_33); (exact rfl); all_goals (intro hb; first | (cases hb; done) | cases hb | ((try simp only [decide_eq_true_eq, decide_eq_false_iff_not, Bool.not_eq_true', Bool.not_eq_false'] at hb); try (exfalso; first | omega | exact hb trivial))))
      | ((with_reducible apply wC_seq e4_34; apply wC_region e4_35); refine vOps_open (l := _ :: _) rfl ?_)
      | ((with_reducible apply wC_ret e4_36))
      | ((with_reducible apply wC_skip e4_37))
      | ((with_reducible apply wC_seq e4_38; apply wC_region e4_39); refine vOps_open (l := _ :: _) rfl ?_)
      | ((with_reducible apply wC_ret e4_40))
      | ((with_reducible apply vOps_nil); try (with_reducible refine And.intro (by kernel_rfl) ?_))
      | (refine kOps_gon (g := ?_) (p := ?_) rfl rfl ?_ ?_ ?_ ?_; rotate_left 2; (with_reducible first | exact g4_32_3 | exact g4_32_8 | exact g4_32_13 | exact g4_32_18 | exact g4_32_23 | exact g4_32_28 | exact g4_32_33 | exact g4_32_38 | exact g4_39_3 | exact g4_39_8 | exact g4_39_13 | exact g4_39_18 | exact g4_39_23 | exact g4_39_28); (exact rfl); (with_reducible rfl))
      | (refine kOps_gofft (g := ?_) (p := ?_) rfl rfl ?_ ?_ ?_ ?_; rotate_left 2; (with_reducible first | exact g4_32_3 | exact g4_32_8 | exact g4_32_13 | exact g4_32_18 | exact g4_32_23 | exact g4_32_28 | exact g4_32_33 | exact g4_32_38 | exact g4_39_3 | exact g4_39_8 | exact g4_39_13 | exact g4_39_18 | exact g4_39_23 | exact g4_39_28); (exact rfl); (with_reducible rfl))
      | (refine kOps_gofff (g := ?_) (p := ?_) rfl rfl ?_ ?_ ?_ ?_; rotate_left 2; (with_reducible first | exact g4_32_3 | exact g4_32_8 | exact g4_32_13 | exact g4_32_18 | exact g4_32_23 | exact g4_32_28 | exact g4_32_33 | exact g4_32_38 | exact g4_39_3 | exact g4_39_8 | exact g4_39_13 | exact g4_39_18 | exact g4_39_23 | exact g4_39_28); (exact rfl); (with_reducible rfl))
      | (refine kOps_pickt rfl rfl rfl rfl ?_ rfl ?_; (with_reducible rfl))
      | (refine kOps_pickf rfl rfl rfl rfl ?_ rfl ?_; (with_reducible rfl))
      | (refine kOps_as rfl rfl rfl rfl ?_)
      | (refine kOps_callc (pre := ?_) (val := ?_) rfl rfl rfl rfl rfl ?_ ?_ ?_ ?_ ?_; rotate_left 2; (simp only [splice_one, cells_bv, getD_bv, set_bv, cells_agg, decide_true, decide_false, Int.reduceNe, ne_eq, not_true_eq_false, not_false_eq_true, eq_self, take_bs, splice_b, len_hR, List.length_replicate, Nat.le_refl, isB_bv, bytesOf_bv, ite_q, ite_u, sSaneS, sInt8, sInt16, sInt32, sInt64, sHashT, sEnd, nrmC, List.map_cons, List.map_nil, nrm_ul, nrm_u4, nrm_nil, nrm_int, nrm_bool, nrm_string, nrm_ro, nrm_agg, nrm_rptr, isul_ul, ulv_ul, isU_u4, uv_u4, true_and, and_true, and_self, n_add_zero, Nat.zero_add, Nat.zero_mod, n_sub_zero]; rfl); (focus (first | (with_reducible rfl) | (simp only [closed, closedL, closed_ul, closed_u4, closedL_bv, closedL_cl, Bool.and_self, Bool.and_true, closedL_wr, closed_uw, closed_sv, closed_tp]; done))); (focus (first | (with_reducible rfl) | (simp only [closed, closedL, closed_ul, closed_u4, closedL_bv, closedL_cl, Bool.and_self, Bool.and_true, closedL_wr, closed_uw, closed_sv, closed_tp]; done))); (focus ((repeat' apply And.intro) <;> first | exact True.intro | omega | (with_reducible rfl) | assumption | (simp only [lns, len_hR]; first | done | omega) | (simp only [one_bv, cells_bv, one_bv1, List.length_cons, List.length_nil, List.all_cons, List.all_nil, Bool.and_self]; done) | (simp only [cells_agg, one_bv, lns, len_hR, and_self, true_and, Nat.le_refl, Nat.reduceAdd, Nat.zero_add]; done) | exact one_bv _ | exact ⟨_, rfl⟩ | (simp [PV.one, one_bv, PV.cells, Value.cells, Value.oneCell']; done))))
      | (refine kOps_un (b := .not) (pre := ?_) (val := ?_) rfl rfl rfl rfl ?_ ?_ ?_; rotate_left 2; (intro L; simp only [splice_one, cells_bv, getD_bv, set_bv, cells_agg, decide_true, decide_false, Int.reduceNe, ne_eq, not_true_eq_false, not_false_eq_true, eq_self, take_bs, splice_b, len_hR, List.length_replicate, Nat.le_refl, not_ul, not_uw, unF_not, unF_neg]; (first | (rw [wrap_i64] <;> first | omega | rfl) | (rw [wrap_u8] <;> first | omega | rfl) | (rw [wrap_u16] <;> first | omega | rfl) | (rw [wrap_u32] <;> first | omega | rfl) | rfl)); exact trivial)
      | (refine kOps_mv rfl rfl rfl rfl ?_)
      | (refine kOps_callc (pre := ?_) (val := ?_) rfl rfl rfl rfl rfl ?_ ?_ ?_ ?_ ?_; rotate_left 2; (simp only [splice_one, cells_bv, getD_bv, set_bv, cells_agg, decide_true, decide_false, Int.reduceNe, ne_eq, not_true_eq_false, not_false_eq_true, eq_self, take_bs, splice_b, len_hR, List.length_replicate, Nat.le_refl, isB_bv, bytesOf_bv, ite_q, ite_u, sSaneS, sInt8, sInt16, sInt32, sInt64, sHashT, sEnd, lit_ul0, lit_ul1, nrmC, List.map_cons, List.map_nil, nrm_ul, nrm_u4, nrm_nil, nrm_int, nrm_bool, nrm_string, nrm_ro, nrm_agg, nrm_rptr, isul_ul, ulv_ul, isU_u4, uv_u4, true_and, and_true, and_self, n_add_zero, Nat.zero_add, Nat.zero_mod, n_sub_zero]; rfl); (focus (first | (with_reducible rfl) | (simp only [closed, closedL, closed_ul, closed_u4, closedL_bv, closedL_cl, Bool.and_self, Bool.and_true, closedL_wr, closed_uw, closed_sv, closed_tp]; done))); (focus (first | (with_reducible rfl) | (simp only [closed, closedL, closed_ul, closed_u4, closedL_bv, closedL_cl, Bool.and_self, Bool.and_true, closedL_wr, closed_uw, closed_sv, closed_tp]; done))); (focus ((repeat' apply And.intro) <;> first | exact True.intro | omega | (with_reducible rfl) | assumption | (simp only [lns, len_hR]; first | done | omega) | (simp only [one_bv, cells_bv, one_bv1, List.length_cons, List.length_nil, List.all_cons, List.all_nil, Bool.and_self]; done) | (simp only [cells_agg, one_bv, lns, len_hR, and_self, true_and, Nat.le_refl, Nat.reduceAdd, Nat.zero_add]; done) | exact one_bv _ | exact ⟨_, rfl⟩ | (simp [PV.one, one_bv, PV.cells, Value.cells, Value.oneCell']; done))))
      | (refine kOps_ext rfl rfl rfl rfl rfl ?_)
      | (refine kOps_alloc (row := _) (n := ?_) rfl rfl rfl rfl ty25 ?_ zr25 zo25 ?_; rotate_left 1; (simp only [↓List.length_append, ↓List.length_set, ↓List.length_cons, List.length_nil, Nat.reduceAdd, Nat.zero_add]; rfl))
      | (refine kOps_store (cs' := ?_) rfl rfl rfl rfl rfl rfl rfl ty25 ?_ ?_ ?_; rotate_left 1; (simp only [splice_one, cells_bv, getD_bv, set_bv, cells_agg, decide_true, decide_false, Int.reduceNe, ne_eq, not_true_eq_false, not_false_eq_true, eq_self, take_bs, splice_b, len_hR, List.length_replicate, Nat.le_refl, lit_ul0, lit_ul1, cells_ul, cells_u4, isAggD, Bool.false_eq_true, if_false, if_true, reduceIte, take_cl, agg_cl, len_cl, List.drop_zero, Int.toNat_natCast, Int.reduceToNat, Int.toNat_zero, n_add_zero, Nat.mul_one, Nat.zero_add, Nat.reduceAdd, Nat.reduceMul, take_bytes, List.length_map, List.getD_cons_zero]; rfl); (focus (first | (simp only [lit_ul0, lit_ul1, cells_ul, cells_u4, cells_bv, List.length_cons, List.length_nil, len_cl, List.length_set, List.length_map, Nat.reduceAdd, Nat.zero_add, List.all_cons, List.all_nil, one_ul, one_cl, one_bv, PV.one, Value.oneCell', Bool.and_self, Nat.reduceLeDiff, Nat.le_refl, and_self, true_and, and_true]; done) | ((try simp only [lit_ul0, lit_ul1, cells_ul, cells_u4, cells_bv]); (focus ((repeat' apply And.intro) <;> first | exact True.intro | omega | (with_reducible rfl) | assumption | (simp only [lns, len_hR]; first | done | omega) | (simp only [one_bv, cells_bv, one_bv1, List.length_cons, List.length_nil, List.all_cons, List.all_nil, Bool.and_self]; done) | (simp only [cells_agg, one_bv, lns, len_hR, and_self, true_and, Nat.le_refl, Nat.reduceAdd, Nat.zero_add]; done) | exact one_bv _ | exact ⟨_, rfl⟩ | (simp [PV.one, one_bv, PV.cells, Value.cells, Value.oneCell']; done)))))))
      | (refine kOps_bin (b := .neq) (pre := ?_) (val := ?_) rfl rfl rfl rfl rfl ?_ ?_ ?_; rotate_left 2; (intro L; simp only [splice_one, cells_bv, getD_bv, set_bv, cells_agg, decide_true, decide_false, Int.reduceNe, ne_eq, not_true_eq_false, not_false_eq_true, eq_self, take_bs, splice_b, len_hR, List.length_replicate, Nat.le_refl, eql_hR _ _ ty25 ty5, lit_ul0, lit_ul1, neq_bv, binF_neq, binF_sneq, Int.reduceAdd, Int.reduceSub, Int.reduceMul, Int.reduceNeg, Int.sub_zero, Int.cast_ofNat_Int, Int.reduceLT, Int.reduceLE, Int.reduceEq, Nat.reduceMod, Nat.reduceLT, ty5]; (first | (rw [wrap_i64] <;> first | omega | rfl) | (rw [wrap_u8] <;> first | omega | rfl) | (rw [wrap_u16] <;> first | omega | rfl) | (rw [wrap_u32] <;> first | omega | rfl) | rfl)); (focus ((repeat' apply And.intro) <;> first | exact True.intro | omega | (with_reducible rfl) | assumption | (simp only [lns, len_hR]; first | done | omega) | (simp only [one_bv, cells_bv, one_bv1, List.length_cons, List.length_nil, List.all_cons, List.all_nil, Bool.and_self]; done) | (simp only [cells_agg, one_bv, lns, len_hR, and_self, true_and, Nat.le_refl, Nat.reduceAdd, Nat.zero_add]; done) | exact one_bv _ | exact ⟨_, rfl⟩ | (simp [PV.one, one_bv, PV.cells, Value.cells, Value.oneCell']; done))))
      | (refine kOps_bin (b := .neq) (pre := ?_) (val := ?_) rfl rfl rfl rfl rfl ?_ ?_ ?_; rotate_left 2; (intro L; simp only [splice_one, cells_bv, getD_bv, set_bv, cells_agg, decide_true, decide_false, Int.reduceNe, ne_eq, not_true_eq_false, not_false_eq_true, eq_self, take_bs, splice_b, len_hR, List.length_replicate, Nat.le_refl, eql_hR _ _ ty25 ty5, lit_ul0, lit_ul1, neq_ul, binF_neq, binF_sneq, Int.reduceAdd, Int.reduceSub, Int.reduceMul, Int.reduceNeg, Int.sub_zero, Int.cast_ofNat_Int, Int.reduceLT, Int.reduceLE, Int.reduceEq, Nat.reduceMod, Nat.reduceLT, ty3]; (first | (rw [wrap_i64] <;> first | omega | rfl) | (rw [wrap_u8] <;> first | omega | rfl) | (rw [wrap_u16] <;> first | omega | rfl) | (rw [wrap_u32] <;> first | omega | rfl) | rfl)); (focus ((repeat' apply And.intro) <;> first | exact True.intro | omega | (with_reducible rfl) | assumption | (simp only [lns, len_hR]; first | done | omega) | (simp only [one_bv, cells_bv, one_bv1, List.length_cons, List.length_nil, List.all_cons, List.all_nil, Bool.and_self]; done) | (simp only [cells_agg, one_bv, lns, len_hR, and_self, true_and, Nat.le_refl, Nat.reduceAdd, Nat.zero_add]; done) | exact one_bv _ | exact ⟨_, rfl⟩ | (simp [PV.one, one_bv, PV.cells, Value.cells, Value.oneCell']; done))))
      | (refine kOps_bin (b := .neq) (pre := ?_) (val := ?_) rfl rfl rfl rfl rfl ?_ ?_ ?_; rotate_left 2; (intro L; simp only [splice_one, cells_bv, getD_bv, set_bv, cells_agg, decide_true, decide_false, Int.reduceNe, ne_eq, not_true_eq_false, not_false_eq_true, eq_self, take_bs, splice_b, len_hR, List.length_replicate, Nat.le_refl, eql_hR _ _ ty25 ty5, lit_ul0, lit_ul1, neq_ul, binF_neq, binF_sneq, Int.reduceAdd, Int.reduceSub, Int.reduceMul, Int.reduceNeg, Int.sub_zero, Int.cast_ofNat_Int, Int.reduceLT, Int.reduceLE, Int.reduceEq, Nat.reduceMod, Nat.reduceLT, ty36]; (first | (rw [wrap_i64] <;> first | omega | rfl) | (rw [wrap_u8] <;> first | omega | rfl) | (rw [wrap_u16] <;> first | omega | rfl) | (rw [wrap_u32] <;> first | omega | rfl) | rfl)); (focus ((repeat' apply And.intro) <;> first | exact True.intro | omega | (with_reducible rfl) | assumption | (simp only [lns, len_hR]; first | done | omega) | (simp only [one_bv, cells_bv, one_bv1, List.length_cons, List.length_nil, List.all_cons, List.all_nil, Bool.and_self]; done) | (simp only [cells_agg, one_bv, lns, len_hR, and_self, true_and, Nat.le_refl, Nat.reduceAdd, Nat.zero_add]; done) | exact one_bv _ | exact ⟨_, rfl⟩ | (simp [PV.one, one_bv, PV.cells, Value.cells, Value.oneCell']; done))))
      | (refine kOps_bin (b := .neq) (pre := ?_) (val := ?_) rfl rfl rfl rfl rfl ?_ ?_ ?_; rotate_left 2; (intro L; simp only [splice_one, cells_bv, getD_bv, set_bv, cells_agg, decide_true, decide_false, Int.reduceNe, ne_eq, not_true_eq_false, not_false_eq_true, eq_self, take_bs, splice_b, len_hR, List.length_replicate, Nat.le_refl, eql_hR _ _ ty25 ty5, lit_ul0, lit_ul1, neq_ul, binF_neq, binF_sneq, Int.reduceAdd, Int.reduceSub, Int.reduceMul, Int.reduceNeg, Int.sub_zero, Int.cast_ofNat_Int, Int.reduceLT, Int.reduceLE, Int.reduceEq, Nat.reduceMod, Nat.reduceLT, ty29]; (first | (rw [wrap_i64] <;> first | omega | rfl) | (rw [wrap_u8] <;> first | omega | rfl) | (rw [wrap_u16] <;> first | omega | rfl) | (rw [wrap_u32] <;> first | omega | rfl) | rfl)); (focus ((repeat' apply And.intro) <;> first | exact True.intro | omega | (with_reducible rfl) | assumption | (simp only [lns, len_hR]; first | done | omega) | (simp only [one_bv, cells_bv, one_bv1, List.length_cons, List.length_nil, List.all_cons, List.all_nil, Bool.and_self]; done) | (simp only [cells_agg, one_bv, lns, len_hR, and_self, true_and, Nat.le_refl, Nat.reduceAdd, Nat.zero_add]; done) | exact one_bv _ | exact ⟨_, rfl⟩ | (simp [PV.one, one_bv, PV.cells, Value.cells, Value.oneCell']; done))))
      | (refine kOps_bin (b := .neq) (pre := ?_) (val := ?_) rfl rfl rfl rfl rfl ?_ ?_ ?_; rotate_left 2; (intro L; simp only [splice_one, cells_bv, getD_bv, set_bv, cells_agg, decide_true, decide_false, Int.reduceNe, ne_eq, not_true_eq_false, not_false_eq_true, eq_self, take_bs, splice_b, len_hR, List.length_replicate, Nat.le_refl, eql_hR _ _ ty25 ty5, lit_ul0, lit_ul1, neq_uw, binF_neq, binF_sneq, Int.reduceAdd, Int.reduceSub, Int.reduceMul, Int.reduceNeg, Int.sub_zero, Int.cast_ofNat_Int, Int.reduceLT, Int.reduceLE, Int.reduceEq, Nat.reduceMod, Nat.reduceLT, ty31]; (first | (rw [wrap_i64] <;> first | omega | rfl) | (rw [wrap_u8] <;> first | omega | rfl) | (rw [wrap_u16] <;> first | omega | rfl) | (rw [wrap_u32] <;> first | omega | rfl) | rfl)); (focus ((repeat' apply And.intro) <;> first | exact True.intro | omega | (with_reducible rfl) | assumption | (simp only [lns, len_hR]; first | done | omega) | (simp only [one_bv, cells_bv, one_bv1, List.length_cons, List.length_nil, List.all_cons, List.all_nil, Bool.and_self]; done) | (simp only [cells_agg, one_bv, lns, len_hR, and_self, true_and, Nat.le_refl, Nat.reduceAdd, Nat.zero_add]; done) | exact one_bv _ | exact ⟨_, rfl⟩ | (simp [PV.one, one_bv, PV.cells, Value.cells, Value.oneCell']; done))))
      | (refine kOps_bin (b := .eql) (pre := ?_) (val := ?_) rfl rfl rfl rfl rfl ?_ ?_ ?_; rotate_left 2; (intro L; simp only [splice_one, cells_bv, getD_bv, set_bv, cells_agg, decide_true, decide_false, Int.reduceNe, ne_eq, not_true_eq_false, not_false_eq_true, eq_self, take_bs, splice_b, len_hR, List.length_replicate, Nat.le_refl, eql_hR _ _ ty25 ty5, lit_ul0, lit_ul1, eql_ul, binF_eql, binF_seql, Int.reduceAdd, Int.reduceSub, Int.reduceMul, Int.reduceNeg, Int.sub_zero, Int.cast_ofNat_Int, Int.reduceLT, Int.reduceLE, Int.reduceEq, Nat.reduceMod, Nat.reduceLT, ty23]; (first | (rw [wrap_i64] <;> first | omega | rfl) | (rw [wrap_u8] <;> first | omega | rfl) | (rw [wrap_u16] <;> first | omega | rfl) | (rw [wrap_u32] <;> first | omega | rfl) | rfl)); (focus ((repeat' apply And.intro) <;> first | exact True.intro | omega | (with_reducible rfl) | assumption | (simp only [lns, len_hR]; first | done | omega) | (simp only [one_bv, cells_bv, one_bv1, List.length_cons, List.length_nil, List.all_cons, List.all_nil, Bool.and_self]; done) | (simp only [cells_agg, one_bv, lns, len_hR, and_self, true_and, Nat.le_refl, Nat.reduceAdd, Nat.zero_add]; done) | exact one_bv _ | exact ⟨_, rfl⟩ | (simp [PV.one, one_bv, PV.cells, Value.cells, Value.oneCell']; done))))
      | (refine kOps_bin (b := .eql) (pre := ?_) (val := ?_) rfl rfl rfl rfl rfl ?_ ?_ ?_; rotate_left 2; (intro L; simp only [splice_one, cells_bv, getD_bv, set_bv, cells_agg, decide_true, decide_false, Int.reduceNe, ne_eq, not_true_eq_false, not_false_eq_true, eq_self, take_bs, splice_b, len_hR, List.length_replicate, Nat.le_refl, eql_hR _ _ ty25 ty5, lit_ul0, lit_ul1, eql_ul, binF_eql, binF_seql, Int.reduceAdd, Int.reduceSub, Int.reduceMul, Int.reduceNeg, Int.sub_zero, Int.cast_ofNat_Int, Int.reduceLT, Int.reduceLE, Int.reduceEq, Nat.reduceMod, Nat.reduceLT, ty3]; (first | (rw [wrap_i64] <;> first | omega | rfl) | (rw [wrap_u8] <;> first | omega | rfl) | (rw [wrap_u16] <;> first | omega | rfl) | (rw [wrap_u32] <;> first | omega | rfl) | rfl)); (focus ((repeat' apply And.intro) <;> first | exact True.intro | omega | (with_reducible rfl) | assumption | (simp only [lns, len_hR]; first | done | omega) | (simp only [one_bv, cells_bv, one_bv1, List.length_cons, List.length_nil, List.all_cons, List.all_nil, Bool.and_self]; done) | (simp only [cells_agg, one_bv, lns, len_hR, and_self, true_and, Nat.le_refl, Nat.reduceAdd, Nat.zero_add]; done) | exact one_bv _ | exact ⟨_, rfl⟩ | (simp [PV.one, one_bv, PV.cells, Value.cells, Value.oneCell']; done))))
      | (refine kOps_bin (b := .eql) (pre := ?_) (val := ?_) rfl rfl rfl rfl rfl ?_ ?_ ?_; rotate_left 2; (intro L; simp only [splice_one, cells_bv, getD_bv, set_bv, cells_agg, decide_true, decide_false, Int.reduceNe, ne_eq, not_true_eq_false, not_false_eq_true, eq_self, take_bs, splice_b, len_hR, List.length_replicate, Nat.le_refl, eql_hR _ _ ty25 ty5, lit_ul0, lit_ul1, eql_ul, binF_eql, binF_seql, Int.reduceAdd, Int.reduceSub, Int.reduceMul, Int.reduceNeg, Int.sub_zero, Int.cast_ofNat_Int, Int.reduceLT, Int.reduceLE, Int.reduceEq, Nat.reduceMod, Nat.reduceLT, ty36]; (first | (rw [wrap_i64] <;> first | omega | rfl) | (rw [wrap_u8] <;> first | omega | rfl) | (rw [wrap_u16] <;> first | omega | rfl) | (rw [wrap_u32] <;> first | omega | rfl) | rfl)); (focus ((repeat' apply And.intro) <;> first | exact True.intro | omega | (with_reducible rfl) | assumption | (simp only [lns, len_hR]; first | done | omega) | (simp only [one_bv, cells_bv, one_bv1, List.length_cons, List.length_nil, List.all_cons, List.all_nil, Bool.and_self]; done) | (simp only [cells_agg, one_bv, lns, len_hR, and_self, true_and, Nat.le_refl, Nat.reduceAdd, Nat.zero_add]; done) | exact one_bv _ | exact ⟨_, rfl⟩ | (simp [PV.one, one_bv, PV.cells, Value.cells, Value.oneCell']; done))))
      | ((first | refine kOps_loadp (pre := ?_) (val := ?_) rfl rfl rfl rfl rfl ty25 ?_ ?_ ?_ | refine kOps_loadr (pre := ?_) (val := ?_) rfl rfl rfl rfl ty25 ?_ ?_ ?_); rotate_left 2; (simp only [splice_one, cells_bv, getD_bv, set_bv, cells_agg, decide_true, decide_false, Int.reduceNe, ne_eq, not_true_eq_false, not_false_eq_true, eq_self, take_bs, splice_b, len_hR, List.length_replicate, Nat.le_refl, partF, isAggD, Bool.false_eq_true, if_false, if_true, reduceIte, take_cl, agg_cl, len_cl, List.drop_zero, Int.toNat_natCast, Int.reduceToNat, Int.toNat_zero, n_add_zero, Nat.mul_one, Nat.zero_add, Nat.reduceAdd, Nat.reduceMul, take_bytes, List.length_map, List.getD_cons_zero]; rfl); (focus ((repeat' apply And.intro) <;> first | exact True.intro | omega | (with_reducible rfl) | assumption | (simp only [lns, len_hR]; first | done | omega) | (simp only [one_bv, cells_bv, one_bv1, List.length_cons, List.length_nil, List.all_cons, List.all_nil, Bool.and_self]; done) | (simp only [cells_agg, one_bv, lns, len_hR, and_self, true_and, Nat.le_refl, Nat.reduceAdd, Nat.zero_add]; done) | exact one_bv _ | exact ⟨_, rfl⟩ | (simp [PV.one, one_bv, PV.cells, Value.cells, Value.oneCell']; done))))
      | (refine kOps_bin (b := .eql) (pre := ?_) (val := ?_) rfl rfl rfl rfl rfl ?_ ?_ ?_; rotate_left 2; (intro L; simp only [splice_one, cells_bv, getD_bv, set_bv, cells_agg, decide_true, decide_false, Int.reduceNe, ne_eq, not_true_eq_false, not_false_eq_true, eq_self, take_bs, splice_b, len_hR, List.length_replicate, Nat.le_refl, eql_hR _ _ ty25 ty5, lit_ul0, lit_ul1, eql_ul, binF_eql, binF_seql, Int.reduceAdd, Int.reduceSub, Int.reduceMul, Int.reduceNeg, Int.sub_zero, Int.cast_ofNat_Int, Int.reduceLT, Int.reduceLE, Int.reduceEq, Nat.reduceMod, Nat.reduceLT, ty25, ty5]; (first | (rw [wrap_i64] <;> first | omega | rfl) | (rw [wrap_u8] <;> first | omega | rfl) | (rw [wrap_u16] <;> first | omega | rfl) | (rw [wrap_u32] <;> first | omega | rfl) | rfl)); (focus ((repeat' apply And.intro) <;> first | exact True.intro | omega | (with_reducible rfl) | assumption | (simp only [lns, len_hR]; first | done | omega) | (simp only [one_bv, cells_bv, one_bv1, List.length_cons, List.length_nil, List.all_cons, List.all_nil, Bool.and_self]; done) | (simp only [cells_agg, one_bv, lns, len_hR, and_self, true_and, Nat.le_refl, Nat.reduceAdd, Nat.zero_add]; done) | exact one_bv _ | exact ⟨_, rfl⟩ | (simp [PV.one, one_bv, PV.cells, Value.cells, Value.oneCell']; done))))
      | (refine vOps_gundef rfl rfl ?_ ?_; (focus (simp only [lookup_cons, Nat.reduceBEq, cond_true, cond_false]; done)); simp only [putIn])
      | (refine vOps_gpick (t := ?_) (val := ?_) rfl rfl ?_ rfl rfl ?_ ?_ ?_; rotate_left 2; (focus (simp only [lookup_cons, Nat.reduceBEq, cond_true, cond_false]; done)); (simp only [evalIn_tmp, evalIn_const, lookup_cons, Nat.reduceBEq, cond_true, cond_false]; rfl); (simp only [evalIn_tmp, evalIn_const, lookup_cons, Nat.reduceBEq, cond_true, cond_false]; rfl))
      | (refine vOps_pick (t := ?_) (val := ?_) rfl rfl rfl ?_ ?_ ?_; rotate_left 2; (simp only [evalIn_tmp, evalIn_const, lookup_cons, Nat.reduceBEq, cond_true, cond_false]; rfl); (simp only [evalIn_tmp, evalIn_const, lookup_cons, Nat.reduceBEq, cond_true, cond_false]; rfl))
      | (refine vOps_fork (b := ?_) rfl rfl ?_ ?_ ?_; rotate_left 1; (simp only [lookup_cons, Nat.reduceBEq, cond_true, cond_false]; rfl); all_goals (intro hb; simp only [hb]; (try simp only [decide_eq_true_eq, decide_eq_false_iff_not] at hb); try (exfalso; first | omega | exact hb trivial)))
      | (refine vOps_forkp (b := ?_) rfl ?_ ?_ ?_; rotate_left 1; (simp only [evalIn_tmp, lookup_cons, Nat.reduceBEq, cond_true, cond_false]; rfl); all_goals (intro hb; simp only [hb]; (try simp only [decide_eq_true_eq, decide_eq_false_iff_not] at hb); try (exfalso; first | omega | exact hb trivial))))
    refine fin_c (p := ?_) (xs := [.tmp 4]) (by simp) rfl ?_ ?_ ?_ ?_
    rotate_left 2
    · simp only [resAll_cons, resAll_nil, resPVl_0, resPVl_1, resPVl_2, resOne_tmp, resOne_cell, List.map_cons, List.map_nil, splice_one, cells_bv, getD_bv, set_bv, cells_agg, decide_true, decide_false, Int.reduceNe, ne_eq, not_true_eq_false, not_false_eq_true, eq_self, take_bs, splice_b, len_hR, List.length_replicate, Nat.le_refl, evalIn_tmp, evalIn_const, evalIn_func, lookup_cons, Nat.reduceBEq, cond_true, cond_false, lit_ul0, lit_ul1, loadF, partF, List.getElem?_cons_zero, List.getElem?_cons_succ, List.set_cons_zero, List.set_cons_succ, List.cons_append, List.nil_append, true_and, and_true, and_self, Nat.reduceLeDiff, isAggD, Bool.false_eq_true, if_false, if_true, reduceIte, take_cl, agg_cl, len_cl, List.drop_zero, Int.toNat_natCast, Int.reduceToNat, Int.toNat_zero, n_add_zero, Nat.mul_one, Nat.zero_add, Nat.reduceAdd, Nat.reduceMul, take_bytes, List.length_map, List.getD_cons_zero, ty3, ty4, ty5, ty22, ty23, ty25, ty29, ty31, ty36]; try rfl
    · first | (with_reducible rfl) | (simp only [closed, closedL, closed_u4, closed_ul, closed_uw, closed_sv, closedL_bv, closedL_wr, Bool.and_self, Bool.and_true]; done) | (simp only [closed, closedL, closed_u4, closed_ul, closed_uw, closed_sv, closedL_bv, closedL_wr, Bool.and_self, Bool.and_true]; rfl)
    · rfl
    · simp only [resAll_cons, resAll_nil, resPVl_0, resPVl_1, resPVl_2, resOne_tmp, resOne_cell, List.map_cons, List.map_nil, splice_one, cells_bv, getD_bv, set_bv, cells_agg, decide_true, decide_false, Int.reduceNe, ne_eq, not_true_eq_false, not_false_eq_true, eq_self, take_bs, splice_b, len_hR, List.length_replicate, Nat.le_refl, evalIn_tmp, evalIn_const, evalIn_func, lookup_cons, Nat.reduceBEq, cond_true, cond_false, lit_ul0, lit_ul1, loadF, partF, List.getElem?_cons_zero, List.getElem?_cons_succ, List.set_cons_zero, List.set_cons_succ, List.cons_append, List.nil_append, true_and, and_true, and_self, Nat.reduceLeDiff, isAggD, Bool.false_eq_true, if_false, if_true, reduceIte, take_cl, agg_cl, len_cl, List.drop_zero, Int.toNat_natCast, Int.reduceToNat, Int.toNat_zero, n_add_zero, Nat.mul_one, Nat.zero_add, Nat.reduceAdd, Nat.reduceMul, take_bytes, List.length_map, List.getD_cons_zero, ty3, ty4, ty5, ty22, ty23, ty25, ty29, ty31, ty36]; try trivial
  · exact hS.elim
end Go.Ab
