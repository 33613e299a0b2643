import Derived.Test.YtaofjdaclnagnaaMG
import Derived.Test.YtaofjdaclnagnaaTY
namespace Go.Ab
open Go Go.Proofs
set_option linter.unusedVariables false
set_option linter.unusedSimpArgs false
set_option maxRecDepth 8000
set_option maxHeartbeats 4000000

noncomputable def B56 : Code := bodyOf Try.f56
theorem B56_eq : Try.f56.body = some B56 := by kernel_rfl
noncomputable def n56_0 : Code := B56
noncomputable def n56_1 : Code := codeAt B56 [0]
noncomputable def n56_2 : Code := codeAt B56 [1]
noncomputable def n56_3 : Code := codeAt B56 [1,0]
noncomputable def n56_4 : Code := codeAt B56 [1,0,0]
noncomputable def n56_5 : Code := codeAt B56 [1,0,1]
noncomputable def n56_6 : Code := codeAt B56 [1,0,1,0]
noncomputable def n56_7 : Code := codeAt B56 [1,0,1,0,0]
noncomputable def n56_8 : Code := codeAt B56 [1,0,1,0,1]
noncomputable def n56_9 : Code := codeAt B56 [1,0,1,1]
noncomputable def n56_10 : Code := codeAt B56 [1,1]
noncomputable def n56_11 : Code := codeAt B56 [1,1,0]
noncomputable def n56_12 : Code := codeAt B56 [1,1,0,0]
noncomputable def n56_13 : Code := codeAt B56 [1,1,0,1]
noncomputable def n56_14 : Code := codeAt B56 [1,1,0,1,0]
noncomputable def n56_15 : Code := codeAt B56 [1,1,0,1,0,0]
noncomputable def n56_16 : Code := codeAt B56 [1,1,0,1,0,1]
noncomputable def n56_17 : Code := codeAt B56 [1,1,0,1,1]
noncomputable def n56_18 : Code := codeAt B56 [1,1,1]
noncomputable def n56_19 : Code := codeAt B56 [1,1,1,0]
noncomputable def n56_20 : Code := codeAt B56 [1,1,1,1]
theorem e56_0 : n56_0 = .seq n56_1 n56_2 := rfl
noncomputable def r56_1 := opsAt n56_1
theorem e56_1 : n56_1 = .region 0 (r56_1).toArray false := rfl
theorem e56_2 : n56_2 = .seq n56_3 n56_10 := rfl
theorem e56_3 : n56_3 = .seq n56_4 n56_5 := rfl
noncomputable def r56_4 := opsAt n56_4
theorem e56_4 : n56_4 = .region 1 (r56_4).toArray false := rfl
theorem g56_4_2 : (r56_4[2]?).bind (·.dst) = some 9 := by decide +kernel
theorem e56_5 : n56_5 = .cond (.tmp 14) n56_6 n56_9 := rfl
theorem e56_6 : n56_6 = .seq n56_7 n56_8 := rfl
noncomputable def r56_7 := opsAt n56_7
theorem e56_7 : n56_7 = .region 2 (r56_7).toArray false := rfl
theorem e56_8 : n56_8 = .ret := rfl
theorem e56_9 : n56_9 = .skip := rfl
theorem e56_10 : n56_10 = .seq n56_11 n56_18 := rfl
theorem e56_11 : n56_11 = .seq n56_12 n56_13 := rfl
noncomputable def r56_12 := opsAt n56_12
theorem e56_12 : n56_12 = .region 3 (r56_12).toArray false := rfl
theorem e56_13 : n56_13 = .cond (.tmp 20) n56_14 n56_17 := rfl
theorem e56_14 : n56_14 = .seq n56_15 n56_16 := rfl
noncomputable def r56_15 := opsAt n56_15
theorem e56_15 : n56_15 = .region 4 (r56_15).toArray false := rfl
theorem e56_16 : n56_16 = .ret := rfl
theorem e56_17 : n56_17 = .skip := rfl
theorem e56_18 : n56_18 = .seq n56_19 n56_20 := rfl
noncomputable def r56_19 := opsAt n56_19
theorem e56_19 : n56_19 = .region 5 (r56_19).toArray false := rfl
theorem e56_20 : n56_20 = .ret := rfl
theorem f_codec_need : PureOk Try.prog 56 sNeed := by
  refine pureOk_of (c := n56_0) (Γ := conOf []) (conOf_ok (conOf_end)) mixed Try.func56 B56_eq (by decide +kernel) Try.call56 ?_
  intro args hS
  unfold sNeed at hS ⊢
  split at hS
  · refine ⟨by rw [Try.ntmps56]; simp, vC_sound ?_⟩
    rename_i n cs a w
    obtain ⟨hB, hn, ha0, ha1⟩ := hS
    obtain ⟨b, rfl, rfl⟩ := isB_out hB
    clear hB
    simp only [entry_cons, entry_nil, Nat.reduceAdd]
    repeat' (first
      | (with_reducible first | apply seqC_normal | apply seqC_ret)
      | ((with_reducible apply wC_seq e56_0; apply wC_region e56_1); refine vOps_open (l := _ :: _) rfl ?_; refine kOps_as rfl rfl rfl rfl ?_; refine vOps_nil ?_; (with_reducible apply seqC_normal; apply wC_seq e56_2; apply wC_seq e56_3; apply wC_region e56_4); refine vOps_open (l := _ :: _) rfl ?_)
      | ((with_reducible apply kC_cond e56_5); (exact rfl); all_goals (intro hb; first | (cases hb; done) | cases hb | ((try simp only [decide_eq_true_eq, decide_eq_false_iff_not, Bool.not_eq_true', Bool.not_eq_false'] at hb); try (exfalso; first | omega | exact hb trivial))))
      | ((with_reducible apply wC_seq e56_6; apply wC_region e56_7); refine vOps_open (l := _ :: _) rfl ?_; refine kOps_as rfl rfl rfl rfl ?_; refine vOps_nil ?_; (with_reducible apply seqC_normal; apply wC_ret e56_8))
      | ((with_reducible apply wC_skip e56_9))
      | ((with_reducible apply wC_seq e56_10; apply wC_seq e56_11; apply wC_region e56_12); refine vOps_open (l := _ :: _) rfl ?_; refine kOps_mv rfl rfl rfl rfl ?_; refine kOps_len (d := 16) rfl rfl rfl rfl ty22 (by first | exact byt_nil | ((first | refine byt_ro ?_ | refine byt_own rfl ?_); (first | rfl | assumption | omega | (simp only [lns]; first | done | omega))) | (refine byt_part rfl ?_ rfl; (first | rfl | assumption | omega | (simp only [lns]; first | done | omega)))) ?_; refine kOps_mv rfl rfl rfl rfl ?_; refine kOps_bin (b := .sub) (pre := ?_) (val := ?_) rfl rfl rfl rfl rfl ?_ ?_ ?_; rotate_left 2; (intro L; simp only [splice_one, cells_bv, getD_bv, set_bv, cells_agg, decide_true, decide_false, sub_ul, binF_sub, Int.reduceAdd, Int.reduceSub, Int.reduceMul, Int.reduceNeg, Int.sub_zero, Int.cast_ofNat_Int, ne_eq, Int.reduceLT, Int.reduceLE, Int.reduceEq, Nat.reduceMod, Nat.reduceLT, ty3]; (first | (rw [wrap_i64] <;> first | omega | rfl) | (rw [wrap_u8] <;> first | omega | rfl) | (rw [wrap_u16] <;> first | omega | rfl) | (rw [wrap_u32] <;> first | omega | rfl) | rfl)); exact trivial; refine kOps_mv rfl rfl rfl rfl ?_; refine kOps_bin (b := .lss) (pre := ?_) (val := ?_) rfl rfl rfl rfl rfl ?_ ?_ ?_; rotate_left 2; (intro L; simp only [splice_one, cells_bv, getD_bv, set_bv, cells_agg, decide_true, decide_false, lss_ul, binF_lss, Int.reduceAdd, Int.reduceSub, Int.reduceMul, Int.reduceNeg, Int.sub_zero, Int.cast_ofNat_Int, ne_eq, Int.reduceLT, Int.reduceLE, Int.reduceEq, Nat.reduceMod, Nat.reduceLT, ty3]; (first | (rw [wrap_i64] <;> first | omega | rfl) | (rw [wrap_u8] <;> first | omega | rfl) | (rw [wrap_u16] <;> first | omega | rfl) | (rw [wrap_u32] <;> first | omega | rfl) | rfl)); exact trivial; refine vOps_nil ?_; (with_reducible apply seqC_normal; apply kC_cond e56_13); (exact rfl); all_goals (intro hb; first | (cases hb; done) | cases hb | ((try simp only [decide_eq_true_eq, decide_eq_false_iff_not, Bool.not_eq_true', Bool.not_eq_false'] at hb); try (exfalso; first | omega | exact hb trivial))))
      | ((with_reducible apply wC_seq e56_14; apply wC_region e56_15); refine vOps_open (l := _ :: _) rfl ?_; refine kOps_as rfl rfl rfl rfl ?_; refine vOps_nil ?_; (with_reducible apply seqC_normal; apply wC_ret e56_16))
      | ((with_reducible apply wC_skip e56_17))
      | ((with_reducible apply wC_seq e56_18; apply wC_region e56_19); refine vOps_open (l := _ :: _) rfl ?_; refine kOps_as rfl rfl rfl rfl ?_; refine vOps_nil ?_; (with_reducible apply seqC_normal; apply wC_ret e56_20))
      | ((with_reducible apply vOps_nil); try (with_reducible refine And.intro (by kernel_rfl) ?_))
      | (refine kOps_gon (g := ?_) (p := ?_) rfl rfl ?_ ?_ ?_ ?_; rotate_left 2; (with_reducible first | exact g56_4_2); (exact rfl); (with_reducible rfl))
      | (refine kOps_gofft (g := ?_) (p := ?_) rfl rfl ?_ ?_ ?_ ?_; rotate_left 2; (with_reducible first | exact g56_4_2); (exact rfl); (with_reducible rfl))
      | (refine kOps_gofff (g := ?_) (p := ?_) rfl rfl ?_ ?_ ?_ ?_; rotate_left 2; (with_reducible first | exact g56_4_2); (exact rfl); (with_reducible rfl))
      | (refine kOps_pickt rfl rfl rfl rfl ?_ rfl ?_; (with_reducible rfl))
      | (refine kOps_pickf rfl rfl rfl rfl ?_ rfl ?_; (with_reducible rfl))
      | (refine kOps_mv rfl rfl rfl rfl ?_)
      | (refine kOps_bin (b := .lss) (pre := ?_) (val := ?_) rfl rfl rfl rfl rfl ?_ ?_ ?_; rotate_left 2; (intro L; simp only [splice_one, cells_bv, getD_bv, set_bv, cells_agg, decide_true, decide_false, lit_ul0, lit_ul1, lss_ul, binF_lss, Int.reduceAdd, Int.reduceSub, Int.reduceMul, Int.reduceNeg, Int.sub_zero, Int.cast_ofNat_Int, ne_eq, Int.reduceLT, Int.reduceLE, Int.reduceEq, Nat.reduceMod, Nat.reduceLT, ty3]; (first | (rw [wrap_i64] <;> first | omega | rfl) | (rw [wrap_u8] <;> first | omega | rfl) | (rw [wrap_u16] <;> first | omega | rfl) | (rw [wrap_u32] <;> first | omega | rfl) | rfl)); exact trivial)
      | (refine kOps_len (d := 12) rfl rfl rfl rfl ty22 (by first | exact byt_nil | ((first | refine byt_ro ?_ | refine byt_own rfl ?_); (first | rfl | assumption | omega | (simp only [lns]; first | done | omega))) | (refine byt_part rfl ?_ rfl; (first | rfl | assumption | omega | (simp only [lns]; first | done | omega)))) ?_)
      | (refine kOps_bin (b := .gtr) (pre := ?_) (val := ?_) rfl rfl rfl rfl rfl ?_ ?_ ?_; rotate_left 2; (intro L; simp only [splice_one, cells_bv, getD_bv, set_bv, cells_agg, decide_true, decide_false, lit_ul0, lit_ul1, gtr_ul, binF_gtr, Int.reduceAdd, Int.reduceSub, Int.reduceMul, Int.reduceNeg, Int.sub_zero, Int.cast_ofNat_Int, ne_eq, Int.reduceLT, Int.reduceLE, Int.reduceEq, Nat.reduceMod, Nat.reduceLT, ty3]; (first | (rw [wrap_i64] <;> first | omega | rfl) | (rw [wrap_u8] <;> first | omega | rfl) | (rw [wrap_u16] <;> first | omega | rfl) | (rw [wrap_u32] <;> first | omega | rfl) | rfl)); exact trivial)
      | (refine vOps_gundef rfl rfl ?_ ?_; (focus (simp only [lookup_cons, Nat.reduceBEq, cond_true, cond_false]; done)); simp only [putIn])
      | (refine vOps_gpick (t := ?_) (val := ?_) rfl rfl ?_ rfl rfl ?_ ?_ ?_; rotate_left 2; (focus (simp only [lookup_cons, Nat.reduceBEq, cond_true, cond_false]; done)); (simp only [evalIn_tmp, evalIn_const, lookup_cons, Nat.reduceBEq, cond_true, cond_false]; rfl); (simp only [evalIn_tmp, evalIn_const, lookup_cons, Nat.reduceBEq, cond_true, cond_false]; rfl))
      | (refine vOps_pick (t := ?_) (val := ?_) rfl rfl rfl ?_ ?_ ?_; rotate_left 2; (simp only [evalIn_tmp, evalIn_const, lookup_cons, Nat.reduceBEq, cond_true, cond_false]; rfl); (simp only [evalIn_tmp, evalIn_const, lookup_cons, Nat.reduceBEq, cond_true, cond_false]; rfl))
      | (refine vOps_fork (b := ?_) rfl rfl ?_ ?_ ?_; rotate_left 1; (simp only [lookup_cons, Nat.reduceBEq, cond_true, cond_false]; rfl); all_goals (intro hb; simp only [hb]; (try simp only [decide_eq_true_eq, decide_eq_false_iff_not] at hb); try (exfalso; first | omega | exact hb trivial)))
      | (refine vOps_forkp (b := ?_) rfl ?_ ?_ ?_; rotate_left 1; (simp only [evalIn_tmp, lookup_cons, Nat.reduceBEq, cond_true, cond_false]; rfl); all_goals (intro hb; simp only [hb]; (try simp only [decide_eq_true_eq, decide_eq_false_iff_not] at hb); try (exfalso; first | omega | exact hb trivial))))
    all_goals (
      refine fin_c (p := ?_) (xs := [.tmp 6]) (by simp) rfl ?_ ?_ ?_ ?_
      rotate_left 2
      · simp only [resAll_cons, resAll_nil, resPVl_0, resPVl_1, resPVl_2, resOne_tmp, resOne_cell, List.map_cons, List.map_nil, splice_one, cells_bv, getD_bv, set_bv, cells_agg, decide_true, decide_false, evalIn_tmp, evalIn_const, evalIn_func, lookup_cons, Nat.reduceBEq, cond_true, cond_false, lit_ul0, lit_ul1, loadF, partF, List.getElem?_cons_zero, List.getElem?_cons_succ, List.set_cons_zero, List.set_cons_succ, List.cons_append, List.nil_append, true_and, and_true, and_self, Nat.le_refl, Nat.reduceLeDiff, isAggD, Bool.false_eq_true, if_false, if_true, reduceIte, take_cl, agg_cl, len_cl, List.drop_zero, Int.toNat_natCast, Int.reduceToNat, Int.toNat_zero, n_add_zero, Nat.mul_one, Nat.zero_add, Nat.reduceAdd, Nat.reduceMul, take_bytes, List.length_map, List.getD_cons_zero, ty3, ty5, ty22]; try rfl
      · first | (with_reducible rfl) | (simp only [closed, closedL, closed_u4, closed_ul, closed_uw, closed_sv, closedL_bv, closedL_wr, Bool.and_self, Bool.and_true]; done) | (simp only [closed, closedL, closed_u4, closed_ul, closed_uw, closed_sv, closedL_bv, closedL_wr, Bool.and_self, Bool.and_true]; rfl)
      · first | exact ndl0 (by omega) | exact ndl1 (by omega) (by omega) | exact ndl2 (by omega) (by omega) (by omega) | exact ndl3 (by omega) (by omega) (by omega)
      · simp only [resAll_cons, resAll_nil, resPVl_0, resPVl_1, resPVl_2, resOne_tmp, resOne_cell, List.map_cons, List.map_nil, splice_one, cells_bv, getD_bv, set_bv, cells_agg, decide_true, decide_false, evalIn_tmp, evalIn_const, evalIn_func, lookup_cons, Nat.reduceBEq, cond_true, cond_false, lit_ul0, lit_ul1, loadF, partF, List.getElem?_cons_zero, List.getElem?_cons_succ, List.set_cons_zero, List.set_cons_succ, List.cons_append, List.nil_append, true_and, and_true, and_self, Nat.le_refl, Nat.reduceLeDiff, isAggD, Bool.false_eq_true, if_false, if_true, reduceIte, take_cl, agg_cl, len_cl, List.drop_zero, Int.toNat_natCast, Int.reduceToNat, Int.toNat_zero, n_add_zero, Nat.mul_one, Nat.zero_add, Nat.reduceAdd, Nat.reduceMul, take_bytes, List.length_map, List.getD_cons_zero, ty3, ty5, ty22]; try trivial)
  · exact hS.elim
end Go.Ab
