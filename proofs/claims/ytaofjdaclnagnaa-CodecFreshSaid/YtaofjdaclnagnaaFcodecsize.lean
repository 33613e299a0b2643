import Derived.Test.YtaofjdaclnagnaaMG
import Derived.Test.YtaofjdaclnagnaaTY
import Derived.Test.YtaofjdaclnagnaaFcodecAppendU16
import Derived.Test.YtaofjdaclnagnaaFcodecAppendU32
import Derived.Test.YtaofjdaclnagnaaFcodecAppendU64
import Derived.Test.YtaofjdaclnagnaaFcodeclittle
namespace Go.Ab
open Go Go.Proofs
set_option linter.unusedVariables false
set_option linter.unusedSimpArgs false
set_option maxRecDepth 8000
set_option maxHeartbeats 4000000

noncomputable def B50 : Code := bodyOf Try.f50
theorem B50_eq : Try.f50.body = some B50 := by kernel_rfl
noncomputable def n50_0 : Code := B50
noncomputable def n50_1 : Code := codeAt B50 [0]
noncomputable def n50_2 : Code := codeAt B50 [1]
noncomputable def n50_3 : Code := codeAt B50 [1,0]
noncomputable def n50_4 : Code := codeAt B50 [1,0,0]
noncomputable def n50_5 : Code := codeAt B50 [1,0,0,0]
noncomputable def n50_6 : Code := codeAt B50 [1,0,0,1]
noncomputable def n50_7 : Code := codeAt B50 [1,0,0,1,0]
noncomputable def n50_8 : Code := codeAt B50 [1,0,0,1,0,0]
noncomputable def n50_9 : Code := codeAt B50 [1,0,0,1,0,1]
noncomputable def n50_10 : Code := codeAt B50 [1,0,0,1,1]
noncomputable def n50_11 : Code := codeAt B50 [1,0,0,1,1,0]
noncomputable def n50_12 : Code := codeAt B50 [1,0,0,1,1,1]
noncomputable def n50_13 : Code := codeAt B50 [1,0,0,1,1,1,0]
noncomputable def n50_14 : Code := codeAt B50 [1,0,0,1,1,1,0,0]
noncomputable def n50_15 : Code := codeAt B50 [1,0,0,1,1,1,0,1]
noncomputable def n50_16 : Code := codeAt B50 [1,0,0,1,1,1,1]
noncomputable def n50_17 : Code := codeAt B50 [1,0,0,1,1,1,1,0]
noncomputable def n50_18 : Code := codeAt B50 [1,0,0,1,1,1,1,1]
noncomputable def n50_19 : Code := codeAt B50 [1,0,0,1,1,1,1,1,0]
noncomputable def n50_20 : Code := codeAt B50 [1,0,0,1,1,1,1,1,0,0]
noncomputable def n50_21 : Code := codeAt B50 [1,0,0,1,1,1,1,1,0,1]
noncomputable def n50_22 : Code := codeAt B50 [1,0,0,1,1,1,1,1,1]
noncomputable def n50_23 : Code := codeAt B50 [1,1]
noncomputable def n50_24 : Code := codeAt B50 [1,1,0]
noncomputable def n50_25 : Code := codeAt B50 [1,1,1]
theorem e50_0 : n50_0 = .seq n50_1 n50_2 := rfl
noncomputable def r50_1 := opsAt n50_1
theorem e50_1 : n50_1 = .region 0 (r50_1).toArray false := rfl
theorem e50_2 : n50_2 = .seq n50_3 n50_23 := rfl
theorem e50_3 : n50_3 = .block 0 n50_4 := rfl
theorem e50_4 : n50_4 = .seq n50_5 n50_6 := rfl
noncomputable def r50_5 := opsAt n50_5
theorem e50_5 : n50_5 = .region 1 (r50_5).toArray false := rfl
theorem e50_6 : n50_6 = .cond (.tmp 3) n50_7 n50_10 := rfl
theorem e50_7 : n50_7 = .seq n50_8 n50_9 := rfl
noncomputable def r50_8 := opsAt n50_8
theorem e50_8 : n50_8 = .region 2 (r50_8).toArray false := rfl
theorem e50_9 : n50_9 = .ret := rfl
theorem e50_10 : n50_10 = .seq n50_11 n50_12 := rfl
noncomputable def r50_11 := opsAt n50_11
theorem e50_11 : n50_11 = .region 3 (r50_11).toArray false := rfl
theorem e50_12 : n50_12 = .cond (.tmp 8) n50_13 n50_16 := rfl
theorem e50_13 : n50_13 = .seq n50_14 n50_15 := rfl
noncomputable def r50_14 := opsAt n50_14
theorem e50_14 : n50_14 = .region 4 (r50_14).toArray false := rfl
theorem e50_15 : n50_15 = .ret := rfl
theorem e50_16 : n50_16 = .seq n50_17 n50_18 := rfl
noncomputable def r50_17 := opsAt n50_17
theorem e50_17 : n50_17 = .region 5 (r50_17).toArray false := rfl
theorem e50_18 : n50_18 = .cond (.tmp 15) n50_19 n50_22 := rfl
theorem e50_19 : n50_19 = .seq n50_20 n50_21 := rfl
noncomputable def r50_20 := opsAt n50_20
theorem e50_20 : n50_20 = .region 6 (r50_20).toArray false := rfl
theorem e50_21 : n50_21 = .ret := rfl
theorem e50_22 : n50_22 = .skip := rfl
theorem e50_23 : n50_23 = .seq n50_24 n50_25 := rfl
noncomputable def r50_24 := opsAt n50_24
theorem e50_24 : n50_24 = .region 7 (r50_24).toArray false := rfl
theorem e50_25 : n50_25 = .ret := rfl
theorem f_codec_size : PureOk Try.prog 50 sSize := by
  refine pureOk_of (c := n50_0) (Γ := conOf [(14, .pure sApp16), (16, .pure sApp32), (18, .pure sApp64), (47, .pure sLittle)]) (conOf_ok (conOf_one (S := .pure sApp16) f_codec_AppendU16 (conOf_one (S := .pure sApp32) f_codec_AppendU32 (conOf_one (S := .pure sApp64) f_codec_AppendU64 (conOf_one (S := .pure sLittle) f_codec_little (conOf_end)))))) mixed Try.func50 B50_eq (by decide +kernel) Try.call50 ?_
  intro args hS
  unfold sSize at hS ⊢
  split at hS
  · refine ⟨by rw [Try.ntmps50]; simp, vC_sound ?_⟩
    rename_i x
    obtain ⟨n, hv, rfl⟩ := isul_out hS
    simp only [ulv_ul, Nat.mod_eq_of_lt hv]
    clear hS
    simp only [entry_cons, entry_nil, Nat.reduceAdd]
    repeat' (first
      | (with_reducible first | apply seqC_normal | apply blockC_normal | apply seqC_ret | apply blockC_ret)
      | ((with_reducible apply wC_seq e50_0; apply wC_region e50_1); refine vOps_open (l := _ :: _) rfl ?_)
      | ((with_reducible apply wC_seq e50_2; apply wC_block e50_3; apply wC_seq e50_4; apply wC_region e50_5); refine vOps_open (l := _ :: _) rfl ?_)
      | ((with_reducible apply kC_cond e50_6); (exact rfl); all_goals (intro hb; first | (cases hb; done) | cases hb | ((try simp only [decide_eq_true_eq, decide_eq_false_iff_not, Bool.not_eq_true', Bool.not_eq_false'] at hb); try (exfalso; first | omega | exact hb trivial))))
      | ((with_reducible apply wC_seq e50_7; apply wC_region e50_8); refine vOps_open (l := _ :: _) rfl ?_)
      | ((with_reducible apply wC_ret e50_9))
      | ((with_reducible apply wC_seq e50_10; apply wC_region e50_11); refine vOps_open (l := _ :: _) rfl ?_)
      | ((with_reducible apply kC_cond e50_12); (exact rfl); all_goals (intro hb; first | (cases hb; done) | cases hb | ((try simp only [decide_eq_true_eq, decide_eq_false_iff_not, Bool.not_eq_true', Bool.not_eq_false'] at hb); try (exfalso; first | omega | exact hb trivial))))
      | ((with_reducible apply wC_seq e50_13; apply wC_region e50_14); refine vOps_open (l := _ :: _) rfl ?_)
      | ((with_reducible apply wC_ret e50_15))
      | ((with_reducible apply wC_seq e50_16; apply wC_region e50_17); refine vOps_open (l := _ :: _) rfl ?_)
      | ((with_reducible apply kC_cond e50_18); (exact rfl); all_goals (intro hb; first | (cases hb; done) | cases hb | ((try simp only [decide_eq_true_eq, decide_eq_false_iff_not, Bool.not_eq_true', Bool.not_eq_false'] at hb); try (exfalso; first | omega | exact hb trivial))))
      | ((with_reducible apply wC_seq e50_19; apply wC_region e50_20); refine vOps_open (l := _ :: _) rfl ?_)
      | ((with_reducible apply wC_ret e50_21))
      | ((with_reducible apply wC_skip e50_22))
      | ((with_reducible apply wC_seq e50_23; apply wC_region e50_24); refine vOps_open (l := _ :: _) rfl ?_)
      | ((with_reducible apply wC_ret e50_25))
      | ((with_reducible apply vOps_nil); try (with_reducible refine And.intro (by kernel_rfl) ?_))
      | (refine kOps_gon (g := ?_) (p := ?_) rfl rfl ?_ ?_ ?_ ?_; rotate_left 2; fail; (exact rfl); (with_reducible rfl))
      | (refine kOps_gofft (g := ?_) (p := ?_) rfl rfl ?_ ?_ ?_ ?_; rotate_left 2; fail; (exact rfl); (with_reducible rfl))
      | (refine kOps_gofff (g := ?_) (p := ?_) rfl rfl ?_ ?_ ?_ ?_; rotate_left 2; fail; (exact rfl); (with_reducible rfl))
      | (refine kOps_pickt rfl rfl rfl rfl ?_ rfl ?_; (with_reducible rfl))
      | (refine kOps_pickf rfl rfl rfl rfl ?_ rfl ?_; (with_reducible rfl))
      | (refine kOps_as rfl rfl rfl rfl ?_)
      | (refine kOps_mv rfl rfl rfl rfl ?_)
      | (refine kOps_bin (b := .lss) (pre := ?_) (val := ?_) rfl rfl rfl rfl rfl ?_ ?_ ?_; rotate_left 2; (intro L; simp only [splice_one, cells_bv, getD_bv, set_bv, cells_agg, Nat.mod_eq_of_lt hv, Nat.reduceMod, decide_true, decide_false, lit_ul0, lit_ul1, lc_253, lc_65536, lc_4294967296, lss_ul, binF_lss, Int.reduceAdd, Int.reduceSub, Int.reduceMul, Int.reduceNeg, Int.sub_zero, Int.cast_ofNat_Int, ne_eq, Int.reduceLT, Int.reduceLE, Int.reduceEq, Nat.reduceLT, ty23]; (first | (rw [wrap_i64] <;> first | omega | rfl) | (rw [wrap_u8] <;> first | omega | rfl) | (rw [wrap_u16] <;> first | omega | rfl) | (rw [wrap_u32] <;> first | omega | rfl) | rfl)); exact trivial)
      | (refine kOps_calln (d := 7) (qs := [_, _]) rfl rfl rfl rfl rfl rfl (by repeat (first | exact bor_nil | refine bor_bytes (by first | exact byt_nil | ((first | refine byt_ro ?_ | refine byt_own rfl ?_); (first | rfl | assumption | omega | (simp only [lns]; first | done | omega))) | (refine byt_part rfl ?_ rfl; (first | rfl | assumption | omega | (simp only [lns]; first | done | omega)))) ?_ | refine bor_rows rfl (by first | rfl | assumption | omega | (simp only [lns]; first | done | omega)) ?_ | refine bor_closed (by first | (with_reducible rfl) | (simp only [closed, closedL, closedL_bv, closedL_wr, closed_sv, closed_uw, closedL_rows, closed_ul, closed_tp, Bool.and_self, Bool.and_true]; done)) ?_)) (by simp only [splice_one, cells_bv, getD_bv, set_bv, cells_agg, Nat.mod_eq_of_lt hv, Nat.reduceMod, decide_true, decide_false, isB_bv, bytesOf_bv, isul_ul, ulv_ul, isRows_c, isRows_n, rowsOf_c, rowsOf_n, List.length_cons, List.length_nil, Nat.reduceAdd, List.flatten_cons, List.flatten_nil, List.append_nil, Int.reduceToNat, Int.toNat_natCast, by_one, isB_bv1, sApp16, sApp32, sApp64, sLittle, nrmC, nrm_nil, nrm_ro, newB, List.map_cons, List.map_nil, isS_sv, sOf_sv, true_and, and_true, and_self]; rfl) (by simp only [↓List.length_append, ↓List.length_set, ↓List.length_cons, List.length_nil, Nat.reduceAdd, Nat.zero_add]; rfl) (by first | (refine .inl ?_; first | (with_reducible rfl) | (simp only [closed, closedL, closedL_bv, closedL_wr, closed_sv, closed_uw, closedL_rows, closed_ul, closed_tp, Bool.and_self, Bool.and_true]; done)) | (refine .inr ?_; simp only [flat, flatL_bv, flatL_wr, flat_uw, flat_ul, flat_tp]; done)) (by (focus ((repeat' apply And.intro) <;> first | exact True.intro | omega | (with_reducible rfl) | assumption | (simp only [lns]; first | done | omega) | (simp only [one_bv, cells_bv, one_bv1, List.length_cons, List.length_nil, List.all_cons, List.all_nil, Bool.and_self]; done) | (simp only [cells_agg, one_bv, lns, and_self, true_and, Nat.le_refl, Nat.reduceAdd, Nat.zero_add]; done) | exact one_bv _ | exact ⟨_, rfl⟩ | (simp [PV.one, one_bv, PV.cells, Value.cells, Value.oneCell']; done)))) ?_)
      | ((first | refine kOps_bsl (d := 11) (ps := ([253] : List UInt8).map bv) rfl rfl rfl rfl rfl (rfl) ty22 ty5 rfl rfl (by decide) (by simp only [↓List.length_append, ↓List.length_set, ↓List.length_cons, List.length_nil, Nat.reduceAdd, Nat.zero_add]; rfl) (by simp only [List.length_map, List.length_cons, List.length_nil, Nat.reduceAdd, Nat.zero_add]) (by decide) (by decide) (by exact one_cells_bv) ?_ | refine kOps_bsd (d := 11) (ps := ([253] : List UInt8).map bv) rfl rfl rfl rfl rfl (rfl) ty22 ty5 rfl rfl (by decide) (by simp only [List.length_map, List.length_cons, List.length_nil, Nat.reduceAdd, Nat.zero_add]) (by decide) (by decide) (by exact one_cells_bv) ?_))
      | (refine kOps_conv (s := 23) (t := 29) (pre := ?_) (val := ?_) rfl rfl rfl rfl ?_ ?_ ?_; rotate_left 2; (intro L; simp only [splice_one, cells_bv, getD_bv, set_bv, cells_agg, Nat.mod_eq_of_lt hv, Nat.reduceMod, decide_true, decide_false, conv_m16 ty23 ty29, conv_m32 ty23 ty31]; first | rfl | (first | (rw [wrap_i64] <;> first | omega | rfl) | (rw [wrap_u8] <;> first | omega | rfl) | (rw [wrap_u16] <;> first | omega | rfl) | (rw [wrap_u32] <;> first | omega | rfl) | rfl)); exact trivial)
      | (refine kOps_calln (d := 14) (qs := [_, _]) rfl rfl rfl rfl rfl rfl (by repeat (first | exact bor_nil | refine bor_bytes (by first | exact byt_nil | ((first | refine byt_ro ?_ | refine byt_own rfl ?_); (first | rfl | assumption | omega | (simp only [lns]; first | done | omega))) | (refine byt_part rfl ?_ rfl; (first | rfl | assumption | omega | (simp only [lns]; first | done | omega)))) ?_ | refine bor_rows rfl (by first | rfl | assumption | omega | (simp only [lns]; first | done | omega)) ?_ | refine bor_closed (by first | (with_reducible rfl) | (simp only [closed, closedL, closedL_bv, closedL_wr, closed_sv, closed_uw, closedL_rows, closed_ul, closed_tp, Bool.and_self, Bool.and_true]; done)) ?_)) (by simp only [splice_one, cells_bv, getD_bv, set_bv, cells_agg, Nat.mod_eq_of_lt hv, Nat.reduceMod, decide_true, decide_false, isB_bv, bytesOf_bv, isul_ul, ulv_ul, isRows_c, isRows_n, rowsOf_c, rowsOf_n, List.length_cons, List.length_nil, Nat.reduceAdd, List.flatten_cons, List.flatten_nil, List.append_nil, Int.reduceToNat, Int.toNat_natCast, by_one, isB_bv1, sApp16, sApp32, sApp64, sLittle, nrmC, nrm_nil, nrm_ro, newB, List.map_cons, List.map_nil, isS_sv, sOf_sv, true_and, and_true, and_self]; rfl) (by simp only [↓List.length_append, ↓List.length_set, ↓List.length_cons, List.length_nil, Nat.reduceAdd, Nat.zero_add]; rfl) (by first | (refine .inl ?_; first | (with_reducible rfl) | (simp only [closed, closedL, closedL_bv, closedL_wr, closed_sv, closed_uw, closedL_rows, closed_ul, closed_tp, Bool.and_self, Bool.and_true]; done)) | (refine .inr ?_; simp only [flat, flatL_bv, flatL_wr, flat_uw, flat_ul, flat_tp]; done)) (by (focus ((repeat' apply And.intro) <;> first | exact True.intro | omega | (with_reducible rfl) | assumption | (simp only [lns]; first | done | omega) | (simp only [one_bv, cells_bv, one_bv1, List.length_cons, List.length_nil, List.all_cons, List.all_nil, Bool.and_self]; done) | (simp only [cells_agg, one_bv, lns, and_self, true_and, Nat.le_refl, Nat.reduceAdd, Nat.zero_add]; done) | exact one_bv _ | exact ⟨_, rfl⟩ | (simp [PV.one, one_bv, PV.cells, Value.cells, Value.oneCell']; done)))) ?_)
      | ((first | refine kOps_bsl (d := 18) (ps := ([254] : List UInt8).map bv) rfl rfl rfl rfl rfl (rfl) ty22 ty5 rfl rfl (by decide) (by simp only [↓List.length_append, ↓List.length_set, ↓List.length_cons, List.length_nil, Nat.reduceAdd, Nat.zero_add]; rfl) (by simp only [List.length_map, List.length_cons, List.length_nil, Nat.reduceAdd, Nat.zero_add]) (by decide) (by decide) (by exact one_cells_bv) ?_ | refine kOps_bsd (d := 18) (ps := ([254] : List UInt8).map bv) rfl rfl rfl rfl rfl (rfl) ty22 ty5 rfl rfl (by decide) (by simp only [List.length_map, List.length_cons, List.length_nil, Nat.reduceAdd, Nat.zero_add]) (by decide) (by decide) (by exact one_cells_bv) ?_))
      | (refine kOps_conv (s := 23) (t := 31) (pre := ?_) (val := ?_) rfl rfl rfl rfl ?_ ?_ ?_; rotate_left 2; (intro L; simp only [splice_one, cells_bv, getD_bv, set_bv, cells_agg, Nat.mod_eq_of_lt hv, Nat.reduceMod, decide_true, decide_false, conv_m16 ty23 ty29, conv_m32 ty23 ty31]; first | rfl | (first | (rw [wrap_i64] <;> first | omega | rfl) | (rw [wrap_u8] <;> first | omega | rfl) | (rw [wrap_u16] <;> first | omega | rfl) | (rw [wrap_u32] <;> first | omega | rfl) | rfl)); exact trivial)
      | (refine kOps_calln (d := 21) (qs := [_, _]) rfl rfl rfl rfl rfl rfl (by repeat (first | exact bor_nil | refine bor_bytes (by first | exact byt_nil | ((first | refine byt_ro ?_ | refine byt_own rfl ?_); (first | rfl | assumption | omega | (simp only [lns]; first | done | omega))) | (refine byt_part rfl ?_ rfl; (first | rfl | assumption | omega | (simp only [lns]; first | done | omega)))) ?_ | refine bor_rows rfl (by first | rfl | assumption | omega | (simp only [lns]; first | done | omega)) ?_ | refine bor_closed (by first | (with_reducible rfl) | (simp only [closed, closedL, closedL_bv, closedL_wr, closed_sv, closed_uw, closedL_rows, closed_ul, closed_tp, Bool.and_self, Bool.and_true]; done)) ?_)) (by simp only [splice_one, cells_bv, getD_bv, set_bv, cells_agg, Nat.mod_eq_of_lt hv, Nat.reduceMod, decide_true, decide_false, isB_bv, bytesOf_bv, isul_ul, ulv_ul, isRows_c, isRows_n, rowsOf_c, rowsOf_n, List.length_cons, List.length_nil, Nat.reduceAdd, List.flatten_cons, List.flatten_nil, List.append_nil, Int.reduceToNat, Int.toNat_natCast, by_one, isB_bv1, sApp16, sApp32, sApp64, sLittle, nrmC, nrm_nil, nrm_ro, newB, List.map_cons, List.map_nil, isS_sv, sOf_sv, true_and, and_true, and_self]; rfl) (by simp only [↓List.length_append, ↓List.length_set, ↓List.length_cons, List.length_nil, Nat.reduceAdd, Nat.zero_add]; rfl) (by first | (refine .inl ?_; first | (with_reducible rfl) | (simp only [closed, closedL, closedL_bv, closedL_wr, closed_sv, closed_uw, closedL_rows, closed_ul, closed_tp, Bool.and_self, Bool.and_true]; done)) | (refine .inr ?_; simp only [flat, flatL_bv, flatL_wr, flat_uw, flat_ul, flat_tp]; done)) (by (focus ((repeat' apply And.intro) <;> first | exact True.intro | omega | (with_reducible rfl) | assumption | (simp only [lns]; first | done | omega) | (simp only [one_bv, cells_bv, one_bv1, List.length_cons, List.length_nil, List.all_cons, List.all_nil, Bool.and_self]; done) | (simp only [cells_agg, one_bv, lns, and_self, true_and, Nat.le_refl, Nat.reduceAdd, Nat.zero_add]; done) | exact one_bv _ | exact ⟨_, rfl⟩ | (simp [PV.one, one_bv, PV.cells, Value.cells, Value.oneCell']; done)))) ?_)
      | ((first | refine kOps_bsl (d := 22) (ps := ([255] : List UInt8).map bv) rfl rfl rfl rfl rfl (rfl) ty22 ty5 rfl rfl (by decide) (by simp only [↓List.length_append, ↓List.length_set, ↓List.length_cons, List.length_nil, Nat.reduceAdd, Nat.zero_add]; rfl) (by simp only [List.length_map, List.length_cons, List.length_nil, Nat.reduceAdd, Nat.zero_add]) (by decide) (by decide) (by exact one_cells_bv) ?_ | refine kOps_bsd (d := 22) (ps := ([255] : List UInt8).map bv) rfl rfl rfl rfl rfl (rfl) ty22 ty5 rfl rfl (by decide) (by simp only [List.length_map, List.length_cons, List.length_nil, Nat.reduceAdd, Nat.zero_add]) (by decide) (by decide) (by exact one_cells_bv) ?_))
      | (refine kOps_calln (d := 24) (qs := [_, _]) rfl rfl rfl rfl rfl rfl (by repeat (first | exact bor_nil | refine bor_bytes (by first | exact byt_nil | ((first | refine byt_ro ?_ | refine byt_own rfl ?_); (first | rfl | assumption | omega | (simp only [lns]; first | done | omega))) | (refine byt_part rfl ?_ rfl; (first | rfl | assumption | omega | (simp only [lns]; first | done | omega)))) ?_ | refine bor_rows rfl (by first | rfl | assumption | omega | (simp only [lns]; first | done | omega)) ?_ | refine bor_closed (by first | (with_reducible rfl) | (simp only [closed, closedL, closedL_bv, closedL_wr, closed_sv, closed_uw, closedL_rows, closed_ul, closed_tp, Bool.and_self, Bool.and_true]; done)) ?_)) (by simp only [splice_one, cells_bv, getD_bv, set_bv, cells_agg, Nat.mod_eq_of_lt hv, Nat.reduceMod, decide_true, decide_false, isB_bv, bytesOf_bv, isul_ul, ulv_ul, isRows_c, isRows_n, rowsOf_c, rowsOf_n, List.length_cons, List.length_nil, Nat.reduceAdd, List.flatten_cons, List.flatten_nil, List.append_nil, Int.reduceToNat, Int.toNat_natCast, by_one, isB_bv1, sApp16, sApp32, sApp64, sLittle, nrmC, nrm_nil, nrm_ro, newB, List.map_cons, List.map_nil, isS_sv, sOf_sv, true_and, and_true, and_self]; rfl) (by simp only [↓List.length_append, ↓List.length_set, ↓List.length_cons, List.length_nil, Nat.reduceAdd, Nat.zero_add]; rfl) (by first | (refine .inl ?_; first | (with_reducible rfl) | (simp only [closed, closedL, closedL_bv, closedL_wr, closed_sv, closed_uw, closedL_rows, closed_ul, closed_tp, Bool.and_self, Bool.and_true]; done)) | (refine .inr ?_; simp only [flat, flatL_bv, flatL_wr, flat_uw, flat_ul, flat_tp]; done)) (by (focus ((repeat' apply And.intro) <;> first | exact True.intro | omega | (with_reducible rfl) | assumption | (simp only [lns]; first | done | omega) | (simp only [one_bv, cells_bv, one_bv1, List.length_cons, List.length_nil, List.all_cons, List.all_nil, Bool.and_self]; done) | (simp only [cells_agg, one_bv, lns, and_self, true_and, Nat.le_refl, Nat.reduceAdd, Nat.zero_add]; done) | exact one_bv _ | exact ⟨_, rfl⟩ | (simp [PV.one, one_bv, PV.cells, Value.cells, Value.oneCell']; done)))) ?_)
      | (refine vOps_gundef rfl rfl ?_ ?_; (focus (simp only [lookup_cons, Nat.reduceBEq, cond_true, cond_false]; done)); simp only [putIn])
      | (refine vOps_gpick (t := ?_) (val := ?_) rfl rfl ?_ rfl rfl ?_ ?_ ?_; rotate_left 2; (focus (simp only [lookup_cons, Nat.reduceBEq, cond_true, cond_false]; done)); (simp only [evalIn_tmp, evalIn_const, lookup_cons, Nat.reduceBEq, cond_true, cond_false]; rfl); (simp only [evalIn_tmp, evalIn_const, lookup_cons, Nat.reduceBEq, cond_true, cond_false]; rfl))
      | (refine vOps_pick (t := ?_) (val := ?_) rfl rfl rfl ?_ ?_ ?_; rotate_left 2; (simp only [evalIn_tmp, evalIn_const, lookup_cons, Nat.reduceBEq, cond_true, cond_false]; rfl); (simp only [evalIn_tmp, evalIn_const, lookup_cons, Nat.reduceBEq, cond_true, cond_false]; rfl))
      | (refine vOps_fork (b := ?_) rfl rfl ?_ ?_ ?_; rotate_left 1; (simp only [lookup_cons, Nat.reduceBEq, cond_true, cond_false]; rfl); all_goals (intro hb; simp only [hb]; (try simp only [decide_eq_true_eq, decide_eq_false_iff_not] at hb); try (exfalso; first | omega | exact hb trivial)))
      | (refine vOps_forkp (b := ?_) rfl ?_ ?_ ?_; rotate_left 1; (simp only [evalIn_tmp, lookup_cons, Nat.reduceBEq, cond_true, cond_false]; rfl); all_goals (intro hb; simp only [hb]; (try simp only [decide_eq_true_eq, decide_eq_false_iff_not] at hb); try (exfalso; first | omega | exact hb trivial))))
    all_goals (refine fin_new_eq (by simp) rfl rfl rfl (by simp [len_leB]) ?_; first | exact (szB_1 (by omega)).symm | exact szB_2m (by omega) (by omega) | exact szB_3m (by omega) (by omega) (by omega) | exact szB_4m (by omega) (by omega) (by omega))
  · exact hS.elim
end Go.Ab
