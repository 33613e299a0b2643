import Derived.Test.YtaofjdaclnagnaaMG
import Derived.Test.YtaofjdaclnagnaaTY
namespace Go.Ab
open Go Go.Proofs
set_option linter.unusedVariables false
set_option linter.unusedSimpArgs false
set_option maxRecDepth 8000
set_option maxHeartbeats 4000000

noncomputable def B44 : Code := bodyOf Try.f44
theorem B44_eq : Try.f44.body = some B44 := by kernel_rfl
noncomputable def n44_0 : Code := B44
noncomputable def n44_1 : Code := codeAt B44 [0]
noncomputable def n44_2 : Code := codeAt B44 [1]
noncomputable def n44_3 : Code := codeAt B44 [1,0]
noncomputable def n44_4 : Code := codeAt B44 [1,1]
noncomputable def n44_5 : Code := codeAt B44 [1,1,0]
noncomputable def n44_6 : Code := codeAt B44 [1,1,0,0]
noncomputable def n44_7 : Code := codeAt B44 [1,1,0,1]
noncomputable def n44_8 : Code := codeAt B44 [1,1,0,1,0]
noncomputable def n44_9 : Code := codeAt B44 [1,1,0,1,0,0]
noncomputable def n44_10 : Code := codeAt B44 [1,1,0,1,0,0,0]
noncomputable def n44_11 : Code := codeAt B44 [1,1,0,1,0,0,1]
noncomputable def n44_12 : Code := codeAt B44 [1,1,0,1,0,0,1,0]
noncomputable def n44_13 : Code := codeAt B44 [1,1,0,1,0,0,1,0,0]
noncomputable def n44_14 : Code := codeAt B44 [1,1,0,1,0,0,1,0,1]
noncomputable def n44_15 : Code := codeAt B44 [1,1,0,1,0,0,1,1]
noncomputable def n44_16 : Code := codeAt B44 [1,1,0,1,0,0,1,1,0]
noncomputable def n44_17 : Code := codeAt B44 [1,1,0,1,0,0,1,1,0,0]
noncomputable def n44_18 : Code := codeAt B44 [1,1,0,1,0,0,1,1,0,0,0]
noncomputable def n44_19 : Code := codeAt B44 [1,1,0,1,0,0,1,1,0,0,1]
noncomputable def n44_20 : Code := codeAt B44 [1,1,0,1,0,0,1,1,1]
noncomputable def n44_21 : Code := codeAt B44 [1,1,1]
noncomputable def n44_22 : Code := codeAt B44 [1,1,1,0]
noncomputable def n44_23 : Code := codeAt B44 [1,1,1,1]
theorem e44_0 : n44_0 = .seq n44_1 n44_2 := rfl
noncomputable def r44_1 := opsAt n44_1
theorem e44_1 : n44_1 = .region 0 (r44_1).toArray false := rfl
theorem e44_2 : n44_2 = .seq n44_3 n44_4 := rfl
noncomputable def r44_3 := opsAt n44_3
theorem e44_3 : n44_3 = .region 1 (r44_3).toArray false := rfl
theorem e44_4 : n44_4 = .seq n44_5 n44_21 := rfl
theorem e44_5 : n44_5 = .seq n44_6 n44_7 := rfl
noncomputable def r44_6 := opsAt n44_6
theorem e44_6 : n44_6 = .region 2 (r44_6).toArray false := rfl
theorem e44_7 : n44_7 = .block 0 n44_8 := rfl
theorem e44_8 : n44_8 = .loop n44_9 := rfl
theorem e44_9 : n44_9 = .seq n44_10 n44_11 := rfl
noncomputable def r44_10 := opsAt n44_10
theorem e44_10 : n44_10 = .region 3 (r44_10).toArray false := rfl
theorem e44_11 : n44_11 = .seq n44_12 n44_15 := rfl
theorem e44_12 : n44_12 = .cond (.tmp 13) n44_13 n44_14 := rfl
theorem e44_13 : n44_13 = .skip := rfl
theorem e44_14 : n44_14 = .exit 0 := rfl
theorem e44_15 : n44_15 = .seq n44_16 n44_20 := rfl
theorem e44_16 : n44_16 = .block 1 n44_17 := rfl
theorem e44_17 : n44_17 = .seq n44_18 n44_19 := rfl
noncomputable def r44_18 := opsAt n44_18
theorem e44_18 : n44_18 = .region 4 (r44_18).toArray false := rfl
noncomputable def r44_19 := opsAt n44_19
theorem e44_19 : n44_19 = .region 5 (r44_19).toArray true := rfl
theorem a44_19 : anyOk r44_19 = true := by decide +kernel
noncomputable def r44_20 := opsAt n44_20
theorem e44_20 : n44_20 = .region 6 (r44_20).toArray false := rfl
theorem e44_21 : n44_21 = .seq n44_22 n44_23 := rfl
noncomputable def r44_22 := opsAt n44_22
theorem e44_22 : n44_22 = .region 7 (r44_22).toArray false := rfl
theorem e44_23 : n44_23 = .ret := rfl
theorem f_codec_Hex : PureOk Try.prog 44 sHexS := by
  refine pureOk_of (c := n44_0) (Γ := conOf []) (conOf_ok (conOf_end)) mixed Try.func44 B44_eq (by decide +kernel) Try.call44 ?_
  intro args hS
  unfold sHexS at hS ⊢
  split at hS
  · refine ⟨by rw [Try.ntmps44]; simp, vC_sound ?_⟩
    rename_i n cs
    obtain ⟨rfl, rfl⟩ := hS
    simp only [entry_cons, entry_nil, Nat.reduceAdd]
    repeat' (first
      | (with_reducible first | apply seqC_normal | apply wunrC_normal | apply blockC_normal | apply seqC_exit | apply blockC_hit | apply wunrC_exit | apply seqC_ret | apply blockC_ret | apply wunrC_ret | apply loopC_ret | apply loopC_exit)
      | ((with_reducible apply blockC_miss); (exact rfl))
      | ((with_reducible apply wC_seq e44_0; apply wC_region e44_1); refine vOps_open (l := _ :: _) rfl ?_)
      | ((with_reducible apply wC_seq e44_2; apply wC_region e44_3); refine vOps_open (l := _ :: _) rfl ?_)
      | ((with_reducible apply wC_seq e44_4; apply wC_seq e44_5; apply wC_region e44_6); refine vOps_open (l := _ :: _) rfl ?_)
      | ((with_reducible apply wC_block e44_7; apply kC_unroll [3, 10, 11, 12] e44_8); (exact rfl); (exact rfl); (with_reducible apply wC_seq e44_9; apply wC_region e44_10); refine vOps_open (l := _ :: _) rfl ?_)
      | ((with_reducible apply kC_unroll [3, 10, 11, 12] e44_8); (exact rfl); (exact rfl); (with_reducible apply wC_seq e44_9; apply wC_region e44_10); refine vOps_open (l := _ :: _) rfl ?_)
      | ((with_reducible apply wC_seq e44_11; apply kC_cond e44_12); (exact rfl); all_goals (intro hb; first | (cases hb; done) | cases hb | ((try simp only [decide_eq_true_eq, decide_eq_false_iff_not, Bool.not_eq_true', Bool.not_eq_false'] at hb); try (exfalso; first | omega | exact hb trivial))))
      | ((with_reducible apply wC_skip e44_13))
      | ((with_reducible apply wC_exit e44_14))
      | ((with_reducible apply wC_seq e44_15; apply wC_block e44_16; apply wC_seq e44_17; apply wC_region e44_18); refine vOps_open (l := _ :: _) rfl ?_)
      | ((with_reducible apply wC_any e44_19 a44_19); refine vOps_open (l := _ :: _) rfl ?_)
      | ((with_reducible apply wC_region e44_20); refine vOps_open (l := _ :: _) rfl ?_)
      | ((with_reducible apply wC_seq e44_21; apply wC_region e44_22); refine vOps_open (l := _ :: _) rfl ?_)
      | ((with_reducible apply wC_ret e44_23))
      | ((with_reducible apply vOps_nil); try (with_reducible refine And.intro (by kernel_rfl) ?_))
      | (refine kOps_gon (g := ?_) (p := ?_) rfl rfl ?_ ?_ ?_ ?_; rotate_left 2; fail; (exact rfl); (with_reducible rfl))
      | (refine kOps_gofft (g := ?_) (p := ?_) rfl rfl ?_ ?_ ?_ ?_; rotate_left 2; fail; (exact rfl); (with_reducible rfl))
      | (refine kOps_gofff (g := ?_) (p := ?_) rfl rfl ?_ ?_ ?_ ?_; rotate_left 2; fail; (exact rfl); (with_reducible rfl))
      | (refine kOps_pickt rfl rfl rfl rfl ?_ rfl ?_; (with_reducible rfl))
      | (refine kOps_pickf rfl rfl rfl rfl ?_ rfl ?_; (with_reducible rfl))
      | (refine kOps_as rfl rfl rfl rfl ?_)
      | (refine kOps_mv rfl rfl rfl rfl ?_)
      | (refine kOps_len (d := 7) rfl rfl rfl rfl ty22 (by first | exact byt_nil | ((first | refine byt_ro ?_ | refine byt_own rfl ?_); (first | rfl | assumption | omega | (simp only [lns]; first | done | omega))) | (refine byt_part rfl ?_ rfl; (first | rfl | assumption | omega | (simp only [lns]; first | done | omega)))) ?_)
      | (refine kOps_bin (b := .mul) (pre := ?_) (val := ?_) rfl rfl rfl rfl rfl ?_ ?_ ?_; rotate_left 2; (intro L; simp only [splice_one, cells_bv, getD_bv, set_bv, cells_agg, Int.cast_ofNat_Int, Int.reduceMul, Int.reduceAdd, Int.reduceLT, decide_true, decide_false, List.getD_cons_zero, List.getD_cons_succ, Int.reduceToNat, elemAt, hx0, hx1, hx2, hx3, shr_bv, and_bv, lit_ul0, lit_ul1, lc_4, mul_ul, binF_mul, Int.reduceSub, Int.reduceNeg, Int.sub_zero, ne_eq, Int.reduceLE, Int.reduceEq, Nat.reduceMod, Nat.reduceLT, ty3]; (first | (rw [wrap_i64] <;> first | omega | rfl) | (rw [wrap_u8] <;> first | omega | rfl) | (rw [wrap_u16] <;> first | omega | rfl) | (rw [wrap_u32] <;> first | omega | rfl) | rfl)); exact trivial)
      | (refine kOps_mk (d := 9) (l := 0) (c := 4) rfl rfl rfl rfl rfl rfl ty22 ty5 (by simp only [↓List.length_append, ↓List.length_set, ↓List.length_cons, List.length_nil, Nat.reduceAdd, Nat.zero_add]; rfl) (by rfl) (by rfl) (by first | rfl | assumption | omega | (simp only [lns]; first | done | omega)) ?_)
      | (refine kOps_len (d := 11) rfl rfl rfl rfl ty22 (by first | exact byt_nil | ((first | refine byt_ro ?_ | refine byt_own rfl ?_); (first | rfl | assumption | omega | (simp only [lns]; first | done | omega))) | (refine byt_part rfl ?_ rfl; (first | rfl | assumption | omega | (simp only [lns]; first | done | omega)))) ?_)
      | (refine kOps_bin (b := .lss) (pre := ?_) (val := ?_) rfl rfl rfl rfl rfl ?_ ?_ ?_; rotate_left 2; (intro L; simp only [splice_one, cells_bv, getD_bv, set_bv, cells_agg, Int.cast_ofNat_Int, Int.reduceMul, Int.reduceAdd, Int.reduceLT, decide_true, decide_false, List.getD_cons_zero, List.getD_cons_succ, Int.reduceToNat, elemAt, hx0, hx1, hx2, hx3, shr_bv, and_bv, lit_ul0, lit_ul1, lc_4, lss_ul, binF_lss, Int.reduceSub, Int.reduceNeg, Int.sub_zero, ne_eq, Int.reduceLE, Int.reduceEq, Nat.reduceMod, Nat.reduceLT, ty3]; (first | (rw [wrap_i64] <;> first | omega | rfl) | (rw [wrap_u8] <;> first | omega | rfl) | (rw [wrap_u16] <;> first | omega | rfl) | (rw [wrap_u32] <;> first | omega | rfl) | rfl)); exact trivial)
      | ((first | (refine kOps_ixas (off' := ?_) rfl rfl rfl rfl rfl rfl ty22 ty5 ?_ ?_ ?_; rotate_left 1; (simp only [splice_one, cells_bv, getD_bv, set_bv, cells_agg, Int.cast_ofNat_Int, Int.reduceMul, Int.reduceAdd, Int.reduceLT, decide_true, decide_false, List.getD_cons_zero, List.getD_cons_succ, Int.reduceToNat, elemAt, hx0, hx1, hx2, hx3, Nat.zero_add, n_add_zero, Nat.mul_one, Nat.one_mul, Int.toNat_natCast, Int.toNat_zero, Nat.reduceMul, Nat.reduceAdd]; rfl)) | (refine kOps_ixar (cs' := ?_) rfl rfl rfl rfl rfl ty22 ty5 ?_ ?_ ?_; rotate_left 1; (simp only [splice_one, cells_bv, getD_bv, set_bv, cells_agg, Int.cast_ofNat_Int, Int.reduceMul, Int.reduceAdd, Int.reduceLT, decide_true, decide_false, List.getD_cons_zero, List.getD_cons_succ, Int.reduceToNat, elemAt, hx0, hx1, hx2, hx3, isAggD, Bool.false_eq_true, if_false, if_true, reduceIte, take_cl, agg_cl, len_cl, List.drop_zero, Int.toNat_natCast, Int.toNat_zero, n_add_zero, Nat.mul_one, Nat.zero_add, Nat.reduceAdd, Nat.reduceMul, take_bytes, List.length_map]; rfl))); (focus ((repeat' apply And.intro) <;> first | exact True.intro | omega | (with_reducible rfl) | assumption | (simp only [lns]; first | done | omega) | (simp only [one_bv, cells_bv, one_bv1, List.length_cons, List.length_nil, List.all_cons, List.all_nil, Bool.and_self]; done) | (simp only [cells_agg, one_bv, lns, and_self, true_and, Nat.le_refl, Nat.reduceAdd, Nat.zero_add]; done) | exact one_bv _ | exact ⟨_, rfl⟩ | (simp [PV.one, one_bv, PV.cells, Value.cells, Value.oneCell']; done))))
      | ((first | refine kOps_loadp (pre := ?_) (val := ?_) rfl rfl rfl rfl rfl ty5 ?_ ?_ ?_ | refine kOps_loadr (pre := ?_) (val := ?_) rfl rfl rfl rfl ty5 ?_ ?_ ?_); rotate_left 2; (simp only [splice_one, cells_bv, getD_bv, set_bv, cells_agg, Int.cast_ofNat_Int, Int.reduceMul, Int.reduceAdd, Int.reduceLT, decide_true, decide_false, List.getD_cons_zero, List.getD_cons_succ, Int.reduceToNat, elemAt, hx0, hx1, hx2, hx3, partF, isAggD, Bool.false_eq_true, if_false, if_true, reduceIte, take_cl, agg_cl, len_cl, List.drop_zero, Int.toNat_natCast, Int.toNat_zero, n_add_zero, Nat.mul_one, Nat.zero_add, Nat.reduceAdd, Nat.reduceMul, take_bytes, List.length_map]; rfl); (focus ((repeat' apply And.intro) <;> first | exact True.intro | omega | (with_reducible rfl) | assumption | (simp only [lns]; first | done | omega) | (simp only [one_bv, cells_bv, one_bv1, List.length_cons, List.length_nil, List.all_cons, List.all_nil, Bool.and_self]; done) | (simp only [cells_agg, one_bv, lns, and_self, true_and, Nat.le_refl, Nat.reduceAdd, Nat.zero_add]; done) | exact one_bv _ | exact ⟨_, rfl⟩ | (simp [PV.one, one_bv, PV.cells, Value.cells, Value.oneCell']; done))))
      | (refine kOps_bin (b := .shr) (pre := ?_) (val := ?_) rfl rfl rfl rfl rfl ?_ ?_ ?_; rotate_left 2; (intro L; simp only [splice_one, cells_bv, getD_bv, set_bv, cells_agg, Int.cast_ofNat_Int, Int.reduceMul, Int.reduceAdd, Int.reduceLT, decide_true, decide_false, List.getD_cons_zero, List.getD_cons_succ, Int.reduceToNat, elemAt, hx0, hx1, hx2, hx3, shr_bv, and_bv, lit_ul0, lit_ul1, lc_4, binF_shr, Int.reduceSub, Int.reduceNeg, Int.sub_zero, ne_eq, Int.reduceLE, Int.reduceEq, Nat.reduceMod, Nat.reduceLT, ty5]; (first | (rw [wrap_i64] <;> first | omega | rfl) | (rw [wrap_u8] <;> first | omega | rfl) | (rw [wrap_u16] <;> first | omega | rfl) | (rw [wrap_u32] <;> first | omega | rfl) | rfl)); (focus ((repeat' apply And.intro) <;> first | exact True.intro | omega | (with_reducible rfl) | assumption | (simp only [lns]; first | done | omega) | (simp only [one_bv, cells_bv, one_bv1, List.length_cons, List.length_nil, List.all_cons, List.all_nil, Bool.and_self]; done) | (simp only [cells_agg, one_bv, lns, and_self, true_and, Nat.le_refl, Nat.reduceAdd, Nat.zero_add]; done) | exact one_bv _ | exact ⟨_, rfl⟩ | (simp [PV.one, one_bv, PV.cells, Value.cells, Value.oneCell']; done))))
      | (refine kOps_ix (pre := ?_) (val := ?_) rfl rfl rfl rfl rfl ?_ ?_ ?_; rotate_left 2; (intro L; refine hex_ix ty9 _ ?_; decide); exact trivial)
      | (refine kOps_bin (b := .and) (pre := ?_) (val := ?_) rfl rfl rfl rfl rfl ?_ ?_ ?_; rotate_left 2; (intro L; simp only [splice_one, cells_bv, getD_bv, set_bv, cells_agg, Int.cast_ofNat_Int, Int.reduceMul, Int.reduceAdd, Int.reduceLT, decide_true, decide_false, List.getD_cons_zero, List.getD_cons_succ, Int.reduceToNat, elemAt, hx0, hx1, hx2, hx3, shr_bv, and_bv, lit_ul0, lit_ul1, lc_4, binF_and, Int.reduceSub, Int.reduceNeg, Int.sub_zero, ne_eq, Int.reduceLE, Int.reduceEq, Nat.reduceMod, Nat.reduceLT, ty5]; (first | (rw [wrap_i64] <;> first | omega | rfl) | (rw [wrap_u8] <;> first | omega | rfl) | (rw [wrap_u16] <;> first | omega | rfl) | (rw [wrap_u32] <;> first | omega | rfl) | rfl)); exact trivial)
      | ((first | refine kOps_bsl (d := 23) (ps := ([_, _] : List UInt8).map bv) rfl rfl rfl rfl rfl (rfl) ty22 ty5 rfl rfl (by decide) (by simp only [↓List.length_append, ↓List.length_set, ↓List.length_cons, List.length_nil, Nat.reduceAdd, Nat.zero_add]; rfl) (by simp only [List.length_map, List.length_cons, List.length_nil, Nat.reduceAdd, Nat.zero_add]) (by decide) (by decide) (by exact one_cells_bv) ?_ | refine kOps_bsd (d := 23) (ps := ([_, _] : List UInt8).map bv) rfl rfl rfl rfl rfl (rfl) ty22 ty5 rfl rfl (by decide) (by simp only [List.length_map, List.length_cons, List.length_nil, Nat.reduceAdd, Nat.zero_add]) (by decide) (by decide) (by exact one_cells_bv) ?_))
      | (refine kOps_app (d := 24) rfl rfl rfl rfl rfl rfl ty22 ty22 ty5 (by first | exact app_nil | (refine app_own rfl ?_; (first | rfl | assumption | omega | (simp only [lns]; first | done | omega)))) (by first | exact byt_nil | ((first | refine byt_ro ?_ | refine byt_own rfl ?_); (first | rfl | assumption | omega | (simp only [lns]; first | done | omega))) | (refine byt_part rfl ?_ rfl; (first | rfl | assumption | omega | (simp only [lns]; first | done | omega)))) (by simp only [↓List.length_append, ↓List.length_set, ↓List.length_cons, List.length_nil, Nat.reduceAdd, Nat.zero_add]; rfl) (by simp only [kill, List.set_cons_zero, List.set_cons_succ, List.cons_append, List.nil_append]; rfl) (by first | rfl | assumption | omega | (simp only [lns]; first | done | omega)) ?_)
      | (refine kOps_bin (b := .add) (pre := ?_) (val := ?_) rfl rfl rfl rfl rfl ?_ ?_ ?_; rotate_left 2; (intro L; simp only [splice_one, cells_bv, getD_bv, set_bv, cells_agg, Int.cast_ofNat_Int, Int.reduceMul, Int.reduceAdd, Int.reduceLT, decide_true, decide_false, List.getD_cons_zero, List.getD_cons_succ, Int.reduceToNat, elemAt, hx0, hx1, hx2, hx3, shr_bv, and_bv, lit_ul0, lit_ul1, lc_4, add_ul, binF_add, Int.reduceSub, Int.reduceNeg, Int.sub_zero, ne_eq, Int.reduceLE, Int.reduceEq, Nat.reduceMod, Nat.reduceLT, ty3]; (first | (rw [wrap_i64] <;> first | omega | rfl) | (rw [wrap_u8] <;> first | omega | rfl) | (rw [wrap_u16] <;> first | omega | rfl) | (rw [wrap_u32] <;> first | omega | rfl) | rfl)); exact trivial)
      | (refine kOps_str (d := 27) rfl rfl rfl rfl ty22 ty9 ty5 (by first | exact byt_nil | ((first | refine byt_ro ?_ | refine byt_own rfl ?_); (first | rfl | assumption | omega | (simp only [lns]; first | done | omega))) | (refine byt_part rfl ?_ rfl; (first | rfl | assumption | omega | (simp only [lns]; first | done | omega)))) ?_)
      | (refine vOps_gundef rfl rfl ?_ ?_; (focus (simp only [lookup_cons, Nat.reduceBEq, cond_true, cond_false]; done)); simp only [putIn])
      | (refine vOps_gpick (t := ?_) (val := ?_) rfl rfl ?_ rfl rfl ?_ ?_ ?_; rotate_left 2; (focus (simp only [lookup_cons, Nat.reduceBEq, cond_true, cond_false]; done)); (simp only [evalIn_tmp, evalIn_const, lookup_cons, Nat.reduceBEq, cond_true, cond_false]; rfl); (simp only [evalIn_tmp, evalIn_const, lookup_cons, Nat.reduceBEq, cond_true, cond_false]; rfl))
      | (refine vOps_pick (t := ?_) (val := ?_) rfl rfl rfl ?_ ?_ ?_; rotate_left 2; (simp only [evalIn_tmp, evalIn_const, lookup_cons, Nat.reduceBEq, cond_true, cond_false]; rfl); (simp only [evalIn_tmp, evalIn_const, lookup_cons, Nat.reduceBEq, cond_true, cond_false]; rfl))
      | (refine vOps_fork (b := ?_) rfl rfl ?_ ?_ ?_; rotate_left 1; (simp only [lookup_cons, Nat.reduceBEq, cond_true, cond_false]; rfl); all_goals (intro hb; simp only [hb]; (try simp only [decide_eq_true_eq, decide_eq_false_iff_not] at hb); try (exfalso; first | omega | exact hb trivial)))
      | (refine vOps_forkp (b := ?_) rfl ?_ ?_ ?_; rotate_left 1; (simp only [evalIn_tmp, lookup_cons, Nat.reduceBEq, cond_true, cond_false]; rfl); all_goals (intro hb; simp only [hb]; (try simp only [decide_eq_true_eq, decide_eq_false_iff_not] at hb); try (exfalso; first | omega | exact hb trivial))))
    refine fin_c (p := ?_) (xs := [.tmp 2]) (by simp) rfl ?_ ?_ ?_ ?_
    rotate_left 2
    · simp only [resAll_cons, resAll_nil, resPVl_0, resPVl_1, resPVl_2, resOne_tmp, resOne_cell, List.map_cons, List.map_nil, splice_one, cells_bv, getD_bv, set_bv, cells_agg, Int.cast_ofNat_Int, Int.reduceMul, Int.reduceAdd, Int.reduceLT, decide_true, decide_false, List.getD_cons_zero, List.getD_cons_succ, Int.reduceToNat, elemAt, hx0, hx1, hx2, hx3, evalIn_tmp, evalIn_const, evalIn_func, lookup_cons, Nat.reduceBEq, cond_true, cond_false, lit_ul0, lit_ul1, loadF, partF, List.getElem?_cons_zero, List.getElem?_cons_succ, List.set_cons_zero, List.set_cons_succ, List.cons_append, List.nil_append, true_and, and_true, and_self, Nat.le_refl, Nat.reduceLeDiff, isAggD, Bool.false_eq_true, if_false, if_true, reduceIte, take_cl, agg_cl, len_cl, List.drop_zero, Int.toNat_natCast, Int.toNat_zero, n_add_zero, Nat.mul_one, Nat.zero_add, Nat.reduceAdd, Nat.reduceMul, take_bytes, List.length_map, ty3, ty5, ty9, ty22]; try rfl
    · first | (with_reducible rfl) | (simp only [closed, closedL, closed_u4, closed_ul, closed_uw, closed_sv, closedL_bv, closedL_wr, Bool.and_self, Bool.and_true]; done) | (simp only [closed, closedL, closed_u4, closed_ul, closed_uw, closed_sv, closedL_bv, closedL_wr, Bool.and_self, Bool.and_true]; rfl)
    · rfl
    · simp only [resAll_cons, resAll_nil, resPVl_0, resPVl_1, resPVl_2, resOne_tmp, resOne_cell, List.map_cons, List.map_nil, splice_one, cells_bv, getD_bv, set_bv, cells_agg, Int.cast_ofNat_Int, Int.reduceMul, Int.reduceAdd, Int.reduceLT, decide_true, decide_false, List.getD_cons_zero, List.getD_cons_succ, Int.reduceToNat, elemAt, hx0, hx1, hx2, hx3, evalIn_tmp, evalIn_const, evalIn_func, lookup_cons, Nat.reduceBEq, cond_true, cond_false, lit_ul0, lit_ul1, loadF, partF, List.getElem?_cons_zero, List.getElem?_cons_succ, List.set_cons_zero, List.set_cons_succ, List.cons_append, List.nil_append, true_and, and_true, and_self, Nat.le_refl, Nat.reduceLeDiff, isAggD, Bool.false_eq_true, if_false, if_true, reduceIte, take_cl, agg_cl, len_cl, List.drop_zero, Int.toNat_natCast, Int.toNat_zero, n_add_zero, Nat.mul_one, Nat.zero_add, Nat.reduceAdd, Nat.reduceMul, take_bytes, List.length_map, ty3, ty5, ty9, ty22]; try trivial
  · exact hS.elim
end Go.Ab
