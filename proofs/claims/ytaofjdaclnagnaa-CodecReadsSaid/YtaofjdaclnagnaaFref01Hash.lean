import Derived.Test.YtaofjdaclnagnaaMG
import Derived.Test.YtaofjdaclnagnaaTY
namespace Go.Ab
open Go Go.Proofs
set_option linter.unusedVariables false
set_option linter.unusedSimpArgs false
set_option maxRecDepth 8000
set_option maxHeartbeats 4000000

noncomputable def B35 : Code := bodyOf Try.f35
theorem B35_eq : Try.f35.body = some B35 := by kernel_rfl
noncomputable def n35_0 : Code := B35
noncomputable def n35_1 : Code := codeAt B35 [0]
noncomputable def n35_2 : Code := codeAt B35 [1]
noncomputable def n35_3 : Code := codeAt B35 [1,0]
noncomputable def n35_4 : Code := codeAt B35 [1,1]
noncomputable def n35_5 : Code := codeAt B35 [1,1,0]
noncomputable def n35_6 : Code := codeAt B35 [1,1,0,0]
noncomputable def n35_7 : Code := codeAt B35 [1,1,0,1]
noncomputable def n35_8 : Code := codeAt B35 [1,1,0,1,0]
noncomputable def n35_9 : Code := codeAt B35 [1,1,0,1,0,0]
noncomputable def n35_10 : Code := codeAt B35 [1,1,0,1,0,1]
noncomputable def n35_11 : Code := codeAt B35 [1,1,0,1,1]
noncomputable def n35_12 : Code := codeAt B35 [1,1,1]
noncomputable def n35_13 : Code := codeAt B35 [1,1,1,0]
noncomputable def n35_14 : Code := codeAt B35 [1,1,1,0,0]
noncomputable def n35_15 : Code := codeAt B35 [1,1,1,0,1]
noncomputable def n35_16 : Code := codeAt B35 [1,1,1,0,1,0]
noncomputable def n35_17 : Code := codeAt B35 [1,1,1,0,1,0,0]
noncomputable def n35_18 : Code := codeAt B35 [1,1,1,0,1,0,1]
noncomputable def n35_19 : Code := codeAt B35 [1,1,1,0,1,1]
noncomputable def n35_20 : Code := codeAt B35 [1,1,1,1]
noncomputable def n35_21 : Code := codeAt B35 [1,1,1,1,0]
noncomputable def n35_22 : Code := codeAt B35 [1,1,1,1,1]
noncomputable def n35_23 : Code := codeAt B35 [1,1,1,1,1,0]
noncomputable def n35_24 : Code := codeAt B35 [1,1,1,1,1,1]
theorem e35_0 : n35_0 = .seq n35_1 n35_2 := rfl
noncomputable def r35_1 := opsAt n35_1
theorem e35_1 : n35_1 = .region 0 (r35_1).toArray false := rfl
theorem e35_2 : n35_2 = .seq n35_3 n35_4 := rfl
noncomputable def r35_3 := opsAt n35_3
theorem e35_3 : n35_3 = .region 1 (r35_3).toArray false := rfl
theorem e35_4 : n35_4 = .seq n35_5 n35_12 := rfl
theorem e35_5 : n35_5 = .seq n35_6 n35_7 := rfl
noncomputable def r35_6 := opsAt n35_6
theorem e35_6 : n35_6 = .region 2 (r35_6).toArray false := rfl
theorem g35_6_2 : (r35_6[2]?).bind (·.dst) = some 10 := by decide +kernel
theorem e35_7 : n35_7 = .cond (.tmp 15) n35_8 n35_11 := rfl
theorem e35_8 : n35_8 = .seq n35_9 n35_10 := rfl
noncomputable def r35_9 := opsAt n35_9
theorem e35_9 : n35_9 = .region 3 (r35_9).toArray false := rfl
theorem e35_10 : n35_10 = .ret := rfl
theorem e35_11 : n35_11 = .skip := rfl
theorem e35_12 : n35_12 = .seq n35_13 n35_20 := rfl
theorem e35_13 : n35_13 = .seq n35_14 n35_15 := rfl
noncomputable def r35_14 := opsAt n35_14
theorem e35_14 : n35_14 = .region 4 (r35_14).toArray false := rfl
theorem e35_15 : n35_15 = .cond (.tmp 21) n35_16 n35_19 := rfl
theorem e35_16 : n35_16 = .seq n35_17 n35_18 := rfl
noncomputable def r35_17 := opsAt n35_17
theorem e35_17 : n35_17 = .region 5 (r35_17).toArray false := rfl
theorem e35_18 : n35_18 = .ret := rfl
theorem e35_19 : n35_19 = .skip := rfl
theorem e35_20 : n35_20 = .seq n35_21 n35_22 := rfl
noncomputable def r35_21 := opsAt n35_21
theorem e35_21 : n35_21 = .region 6 (r35_21).toArray true := rfl
theorem a35_21 : anyOk r35_21 = true := by decide +kernel
theorem e35_22 : n35_22 = .seq n35_23 n35_24 := rfl
noncomputable def r35_23 := opsAt n35_23
theorem e35_23 : n35_23 = .region 7 (r35_23).toArray false := rfl
theorem e35_24 : n35_24 = .ret := rfl
theorem f_ref01_Hash : PureOk Try.prog 35 sHashT := by
  refine pureOk_of (c := n35_0) (Γ := conOf []) (conOf_ok (conOf_end)) mixed Try.func35 B35_eq (by decide +kernel) Try.call35 ?_
  intro args hS
  unfold sHashT at hS ⊢
  split at hS
  · refine ⟨by rw [Try.ntmps35]; simp, vC_sound ?_⟩
    rename_i n cs a
    obtain ⟨hB, hn, ha0, ha1⟩ := hS
    obtain ⟨b, rfl, rfl⟩ := isB_out hB
    simp only [bytesOf_bv]
    clear hB
    simp only [entry_cons, entry_nil, Nat.reduceAdd]
    by_cases hz : needE b.length a 32 = 0
    · have hok := need_ok hz
      obtain ⟨m, rfl⟩ := Int.eq_ofNat_of_zero_le (show 0 ≤ a by omega)
      rw [hR_pos hz, pR_pos hz, hz, Int.toNat_natCast]
      have hl32 : ((b.drop m).take 32).length = 32 := by rw [List.length_take, List.length_drop]; omega
      repeat' (first
        | (with_reducible first | apply seqC_normal | apply seqC_ret)
        | ((with_reducible apply wC_seq e35_0; apply wC_region e35_1); refine vOps_open (l := _ :: _) rfl ?_)
        | ((with_reducible apply wC_seq e35_2; apply wC_region e35_3); refine vOps_open (l := _ :: _) rfl ?_)
        | ((with_reducible apply wC_seq e35_4; apply wC_seq e35_5; apply wC_region e35_6); refine vOps_open (l := _ :: _) rfl ?_)
        | ((with_reducible apply kC_cond e35_7); (exact rfl); all_goals (intro hb; first | (cases hb; done) | cases hb | ((try simp only [decide_eq_true_eq, decide_eq_false_iff_not, Bool.not_eq_true', Bool.not_eq_false'] at hb); try (exfalso; first | omega | exact hb trivial))))
        | ((with_reducible apply wC_seq e35_8; apply wC_region e35_9); refine vOps_open (l := _ :: _) rfl ?_)
        | ((with_reducible apply wC_ret e35_10))
        | ((with_reducible apply wC_skip e35_11))
        | ((with_reducible apply wC_seq e35_12; apply wC_seq e35_13; apply wC_region e35_14); refine vOps_open (l := _ :: _) rfl ?_)
        | ((with_reducible apply kC_cond e35_15); (exact rfl); all_goals (intro hb; first | (cases hb; done) | cases hb | ((try simp only [decide_eq_true_eq, decide_eq_false_iff_not, Bool.not_eq_true', Bool.not_eq_false'] at hb); try (exfalso; first | omega | exact hb trivial))))
        | ((with_reducible apply wC_seq e35_16; apply wC_region e35_17); refine vOps_open (l := _ :: _) rfl ?_)
        | ((with_reducible apply wC_ret e35_18))
        | ((with_reducible apply wC_skip e35_19))
        | ((with_reducible apply wC_seq e35_20; apply wC_any e35_21 a35_21); refine vOps_open (l := _ :: _) rfl ?_)
        | ((with_reducible apply wC_seq e35_22; apply wC_region e35_23); refine vOps_open (l := _ :: _) rfl ?_)
        | ((with_reducible apply wC_ret e35_24))
        | ((with_reducible apply vOps_nil); try (with_reducible refine And.intro (by kernel_rfl) ?_))
        | (refine kOps_gon (g := ?_) (p := ?_) rfl rfl ?_ ?_ ?_ ?_; rotate_left 2; (with_reducible first | exact g35_6_2); (exact rfl); (with_reducible rfl))
        | (refine kOps_gofft (g := ?_) (p := ?_) rfl rfl ?_ ?_ ?_ ?_; rotate_left 2; (with_reducible first | exact g35_6_2); (exact rfl); (with_reducible rfl))
        | (refine kOps_gofff (g := ?_) (p := ?_) rfl rfl ?_ ?_ ?_ ?_; rotate_left 2; (with_reducible first | exact g35_6_2); (exact rfl); (with_reducible rfl))
        | (refine kOps_pickt rfl rfl rfl rfl ?_ rfl ?_; (with_reducible rfl))
        | (refine kOps_pickf rfl rfl rfl rfl ?_ rfl ?_; (with_reducible rfl))
        | (refine kOps_alloc (row := _) (n := ?_) rfl rfl rfl rfl ty25 ?_ zr25 zo25 ?_; rotate_left 1; (simp only [↓List.length_append, ↓List.length_set, ↓List.length_cons, List.length_nil, Nat.reduceAdd, Nat.zero_add]; rfl))
        | (refine kOps_as rfl rfl rfl rfl ?_)
        | (refine kOps_mv rfl rfl rfl rfl ?_)
        | (refine kOps_bin (b := .lss) (pre := ?_) (val := ?_) rfl rfl rfl rfl rfl ?_ ?_ ?_; rotate_left 2; (intro L; simp only [splice_one, cells_bv, getD_bv, set_bv, cells_agg, decide_true, decide_false, Int.reduceNe, ne_eq, not_true_eq_false, not_false_eq_true, splice_b, take_bs, List.length_replicate, Nat.le_refl, eq_self, len_hR, hl32, lit_ul0, lit_ul1, lss_ul, binF_lss, Int.reduceAdd, Int.reduceSub, Int.reduceMul, Int.reduceNeg, Int.sub_zero, Int.cast_ofNat_Int, Int.reduceLT, Int.reduceLE, Int.reduceEq, Nat.reduceMod, Nat.reduceLT, ty3]; (first | (rw [wrap_i64] <;> first | omega | rfl) | (rw [wrap_u8] <;> first | omega | rfl) | (rw [wrap_u16] <;> first | omega | rfl) | (rw [wrap_u32] <;> first | omega | rfl) | rfl)); exact trivial)
        | (refine kOps_len (d := 13) rfl rfl rfl rfl ty22 (by first | exact byt_nil | ((first | refine byt_ro ?_ | refine byt_own rfl ?_); (first | rfl | assumption | omega | (simp only [lns]; first | done | omega))) | (refine byt_part rfl ?_ rfl; (first | rfl | assumption | omega | (simp only [lns]; first | done | omega)))) ?_)
        | (refine kOps_bin (b := .gtr) (pre := ?_) (val := ?_) rfl rfl rfl rfl rfl ?_ ?_ ?_; rotate_left 2; (intro L; simp only [splice_one, cells_bv, getD_bv, set_bv, cells_agg, decide_true, decide_false, Int.reduceNe, ne_eq, not_true_eq_false, not_false_eq_true, splice_b, take_bs, List.length_replicate, Nat.le_refl, eq_self, len_hR, hl32, lit_ul0, lit_ul1, gtr_ul, binF_gtr, Int.reduceAdd, Int.reduceSub, Int.reduceMul, Int.reduceNeg, Int.sub_zero, Int.cast_ofNat_Int, Int.reduceLT, Int.reduceLE, Int.reduceEq, Nat.reduceMod, Nat.reduceLT, ty3]; (first | (rw [wrap_i64] <;> first | omega | rfl) | (rw [wrap_u8] <;> first | omega | rfl) | (rw [wrap_u16] <;> first | omega | rfl) | (rw [wrap_u32] <;> first | omega | rfl) | rfl)); exact trivial)
        | ((first | refine kOps_loadp (pre := ?_) (val := ?_) rfl rfl rfl rfl rfl ty25 ?_ ?_ ?_ | refine kOps_loadr (pre := ?_) (val := ?_) rfl rfl rfl rfl ty25 ?_ ?_ ?_); rotate_left 2; (simp only [splice_one, cells_bv, getD_bv, set_bv, cells_agg, decide_true, decide_false, Int.reduceNe, ne_eq, not_true_eq_false, not_false_eq_true, splice_b, take_bs, List.length_replicate, Nat.le_refl, eq_self, len_hR, hl32, partF, isAggD, Bool.false_eq_true, if_false, if_true, reduceIte, take_cl, agg_cl, len_cl, List.drop_zero, Int.toNat_natCast, Int.reduceToNat, Int.toNat_zero, n_add_zero, Nat.mul_one, Nat.zero_add, Nat.reduceAdd, Nat.reduceMul, take_bytes, List.length_map, List.getD_cons_zero]; rfl); (focus ((repeat' apply And.intro) <;> first | exact True.intro | omega | (with_reducible rfl) | assumption | (simp only [lns, hl32]; first | done | omega) | (simp only [one_bv, cells_bv, one_bv1, List.length_cons, List.length_nil, List.all_cons, List.all_nil, Bool.and_self]; done) | (simp only [cells_agg, one_bv, lns, hl32, and_self, true_and, Nat.le_refl, Nat.reduceAdd, Nat.zero_add]; done) | exact one_bv _ | exact ⟨_, rfl⟩ | (simp [PV.one, one_bv, PV.cells, Value.cells, Value.oneCell']; done))))
        | (refine kOps_store (cs' := ?_) rfl rfl rfl rfl rfl rfl rfl ty25 ?_ ?_ ?_; rotate_left 1; (simp only [splice_one, cells_bv, getD_bv, set_bv, cells_agg, decide_true, decide_false, Int.reduceNe, ne_eq, not_true_eq_false, not_false_eq_true, splice_b, take_bs, List.length_replicate, Nat.le_refl, eq_self, len_hR, hl32, lit_ul0, lit_ul1, cells_ul, cells_u4, isAggD, Bool.false_eq_true, if_false, if_true, reduceIte, take_cl, agg_cl, len_cl, List.drop_zero, Int.toNat_natCast, Int.reduceToNat, Int.toNat_zero, n_add_zero, Nat.mul_one, Nat.zero_add, Nat.reduceAdd, Nat.reduceMul, take_bytes, List.length_map, List.getD_cons_zero]; rfl); (focus (first | (simp only [lit_ul0, lit_ul1, cells_ul, cells_u4, cells_bv, List.length_cons, List.length_nil, len_cl, List.length_set, List.length_map, Nat.reduceAdd, Nat.zero_add, List.all_cons, List.all_nil, one_ul, one_cl, one_bv, PV.one, Value.oneCell', Bool.and_self, Nat.reduceLeDiff, Nat.le_refl, and_self, true_and, and_true]; done) | ((try simp only [lit_ul0, lit_ul1, cells_ul, cells_u4, cells_bv]); (focus ((repeat' apply And.intro) <;> first | exact True.intro | omega | (with_reducible rfl) | assumption | (simp only [lns, hl32]; first | done | omega) | (simp only [one_bv, cells_bv, one_bv1, List.length_cons, List.length_nil, List.all_cons, List.all_nil, Bool.and_self]; done) | (simp only [cells_agg, one_bv, lns, hl32, and_self, true_and, Nat.le_refl, Nat.reduceAdd, Nat.zero_add]; done) | exact one_bv _ | exact ⟨_, rfl⟩ | (simp [PV.one, one_bv, PV.cells, Value.cells, Value.oneCell']; done)))))))
        | (refine kOps_len (d := 18) rfl rfl rfl rfl ty22 (by first | exact byt_nil | ((first | refine byt_ro ?_ | refine byt_own rfl ?_); (first | rfl | assumption | omega | (simp only [lns]; first | done | omega))) | (refine byt_part rfl ?_ rfl; (first | rfl | assumption | omega | (simp only [lns]; first | done | omega)))) ?_)
        | (refine kOps_bin (b := .sub) (pre := ?_) (val := ?_) rfl rfl rfl rfl rfl ?_ ?_ ?_; rotate_left 2; (intro L; simp only [splice_one, cells_bv, getD_bv, set_bv, cells_agg, decide_true, decide_false, Int.reduceNe, ne_eq, not_true_eq_false, not_false_eq_true, splice_b, take_bs, List.length_replicate, Nat.le_refl, eq_self, len_hR, hl32, lit_ul0, lit_ul1, sub_ul, binF_sub, Int.reduceAdd, Int.reduceSub, Int.reduceMul, Int.reduceNeg, Int.sub_zero, Int.cast_ofNat_Int, Int.reduceLT, Int.reduceLE, Int.reduceEq, Nat.reduceMod, Nat.reduceLT, ty3]; (first | (rw [wrap_i64] <;> first | omega | rfl) | (rw [wrap_u8] <;> first | omega | rfl) | (rw [wrap_u16] <;> first | omega | rfl) | (rw [wrap_u32] <;> first | omega | rfl) | rfl)); exact trivial)
        | ((first | refine kOps_slp (d := 23) rfl rfl rfl rfl rfl ty25 ty5 rfl (by first | rfl | assumption | omega | (simp only [lns]; first | done | omega)) ?_ | refine kOps_slq (d := 23) rfl rfl rfl rfl ty25 ty5 rfl (by refine ⟨?_, ?_⟩ <;> (first | rfl | assumption | omega | (simp only [lns]; first | done | omega))) ?_))
        | (refine kOps_slr (d := 26) (l := m) (w := b.length - m) rfl rfl rfl rfl ty22 ty5 rfl (by first | exact bnd_none | exact bnd_some rfl) (by first | exact bnd_none | exact bnd_some rfl) (by refine ⟨?_, ?_, ?_, ?_⟩ <;> (first | rfl | assumption | omega | (simp only [lns]; first | done | omega))) (by exact drop_rest (by omega)) ?_)
        | (refine kOps_copy (d := 27) rfl rfl rfl rfl rfl rfl rfl ty22 ty5 rfl (by first | exact byt_nil | ((first | refine byt_ro ?_ | refine byt_own rfl ?_); (first | rfl | assumption | omega | (simp only [lns]; first | done | omega))) | (refine byt_part rfl ?_ rfl; (first | rfl | assumption | omega | (simp only [lns]; first | done | omega)))) (by exact copy32 (by rw [List.length_drop]; omega) List.length_drop) (by simp only [kill, List.set_cons_zero, List.set_cons_succ, List.cons_append, List.nil_append]; rfl) (by first | rfl | assumption | omega | (simp only [lns]; first | done | omega)) ?_)
        | (refine kOps_bin (b := .add) (pre := ?_) (val := ?_) rfl rfl rfl rfl rfl ?_ ?_ ?_; rotate_left 2; (intro L; simp only [splice_one, cells_bv, getD_bv, set_bv, cells_agg, decide_true, decide_false, Int.reduceNe, ne_eq, not_true_eq_false, not_false_eq_true, splice_b, take_bs, List.length_replicate, Nat.le_refl, eq_self, len_hR, hl32, lit_ul0, lit_ul1, add_ul, binF_add, Int.reduceAdd, Int.reduceSub, Int.reduceMul, Int.reduceNeg, Int.sub_zero, Int.cast_ofNat_Int, Int.reduceLT, Int.reduceLE, Int.reduceEq, Nat.reduceMod, Nat.reduceLT, ty3]; (first | (rw [wrap_i64] <;> first | omega | rfl) | (rw [wrap_u8] <;> first | omega | rfl) | (rw [wrap_u16] <;> first | omega | rfl) | (rw [wrap_u32] <;> first | omega | rfl) | rfl)); exact trivial)
        | (refine vOps_gundef rfl rfl ?_ ?_; (focus (simp only [lookup_cons, Nat.reduceBEq, cond_true, cond_false]; done)); simp only [putIn])
        | (refine vOps_gpick (t := ?_) (val := ?_) rfl rfl ?_ rfl rfl ?_ ?_ ?_; rotate_left 2; (focus (simp only [lookup_cons, Nat.reduceBEq, cond_true, cond_false]; done)); (simp only [evalIn_tmp, evalIn_const, lookup_cons, Nat.reduceBEq, cond_true, cond_false]; rfl); (simp only [evalIn_tmp, evalIn_const, lookup_cons, Nat.reduceBEq, cond_true, cond_false]; rfl))
        | (refine vOps_pick (t := ?_) (val := ?_) rfl rfl rfl ?_ ?_ ?_; rotate_left 2; (simp only [evalIn_tmp, evalIn_const, lookup_cons, Nat.reduceBEq, cond_true, cond_false]; rfl); (simp only [evalIn_tmp, evalIn_const, lookup_cons, Nat.reduceBEq, cond_true, cond_false]; rfl))
        | (refine vOps_fork (b := ?_) rfl rfl ?_ ?_ ?_; rotate_left 1; (simp only [lookup_cons, Nat.reduceBEq, cond_true, cond_false]; rfl); all_goals (intro hb; simp only [hb]; (try simp only [decide_eq_true_eq, decide_eq_false_iff_not] at hb); try (exfalso; first | omega | exact hb trivial)))
        | (refine vOps_forkp (b := ?_) rfl ?_ ?_ ?_; rotate_left 1; (simp only [evalIn_tmp, lookup_cons, Nat.reduceBEq, cond_true, cond_false]; rfl); all_goals (intro hb; simp only [hb]; (try simp only [decide_eq_true_eq, decide_eq_false_iff_not] at hb); try (exfalso; first | omega | exact hb trivial))))
      refine fin_c (p := ?_) (xs := [.cell 4 25, .tmp 5, .tmp 6]) (by simp) rfl ?_ ?_ ?_ ?_
      rotate_left 2
      · simp only [resAll_cons, resAll_nil, resPVl_0, resPVl_1, resPVl_2, resOne_tmp, resOne_cell, List.map_cons, List.map_nil, splice_one, cells_bv, getD_bv, set_bv, cells_agg, decide_true, decide_false, Int.reduceNe, ne_eq, not_true_eq_false, not_false_eq_true, splice_b, take_bs, List.length_replicate, Nat.le_refl, eq_self, len_hR, hl32, evalIn_tmp, evalIn_const, evalIn_func, lookup_cons, Nat.reduceBEq, cond_true, cond_false, lit_ul0, lit_ul1, loadF, partF, List.getElem?_cons_zero, List.getElem?_cons_succ, List.set_cons_zero, List.set_cons_succ, List.cons_append, List.nil_append, true_and, and_true, and_self, Nat.reduceLeDiff, isAggD, Bool.false_eq_true, if_false, if_true, reduceIte, take_cl, agg_cl, len_cl, List.drop_zero, Int.toNat_natCast, Int.reduceToNat, Int.toNat_zero, n_add_zero, Nat.mul_one, Nat.zero_add, Nat.reduceAdd, Nat.reduceMul, take_bytes, List.length_map, List.getD_cons_zero, ty3, ty5, ty22, ty25]; try rfl
      · first | (with_reducible rfl) | (simp only [closed, closedL, closed_u4, closed_ul, closed_uw, closed_sv, closedL_bv, closedL_wr, Bool.and_self, Bool.and_true]; done) | (simp only [closed, closedL, closed_u4, closed_ul, closed_uw, closed_sv, closedL_bv, closedL_wr, Bool.and_self, Bool.and_true]; rfl)
      · rfl
      · simp only [resAll_cons, resAll_nil, resPVl_0, resPVl_1, resPVl_2, resOne_tmp, resOne_cell, List.map_cons, List.map_nil, splice_one, cells_bv, getD_bv, set_bv, cells_agg, decide_true, decide_false, Int.reduceNe, ne_eq, not_true_eq_false, not_false_eq_true, splice_b, take_bs, List.length_replicate, Nat.le_refl, eq_self, len_hR, hl32, evalIn_tmp, evalIn_const, evalIn_func, lookup_cons, Nat.reduceBEq, cond_true, cond_false, lit_ul0, lit_ul1, loadF, partF, List.getElem?_cons_zero, List.getElem?_cons_succ, List.set_cons_zero, List.set_cons_succ, List.cons_append, List.nil_append, true_and, and_true, and_self, Nat.reduceLeDiff, isAggD, Bool.false_eq_true, if_false, if_true, reduceIte, take_cl, agg_cl, len_cl, List.drop_zero, Int.toNat_natCast, Int.reduceToNat, Int.toNat_zero, n_add_zero, Nat.mul_one, Nat.zero_add, Nat.reduceAdd, Nat.reduceMul, take_bytes, List.length_map, List.getD_cons_zero, ty3, ty5, ty22, ty25]; try trivial
    · rw [hR_neg hz, pR_neg hz]
      repeat' (first
        | (with_reducible first | apply seqC_normal | apply seqC_ret)
        | ((with_reducible apply wC_seq e35_0; apply wC_region e35_1); refine vOps_open (l := _ :: _) rfl ?_)
        | ((with_reducible apply wC_seq e35_2; apply wC_region e35_3); refine vOps_open (l := _ :: _) rfl ?_)
        | ((with_reducible apply wC_seq e35_4; apply wC_seq e35_5; apply wC_region e35_6); refine vOps_open (l := _ :: _) rfl ?_)
        | ((with_reducible apply kC_cond e35_7); (exact rfl); all_goals (intro hb; first | (cases hb; done) | cases hb | ((try simp only [decide_eq_true_eq, decide_eq_false_iff_not, Bool.not_eq_true', Bool.not_eq_false'] at hb); try (exfalso; first | omega | exact hb trivial))))
        | ((with_reducible apply wC_seq e35_8; apply wC_region e35_9); refine vOps_open (l := _ :: _) rfl ?_)
        | ((with_reducible apply wC_ret e35_10))
        | ((with_reducible apply wC_skip e35_11))
        | ((with_reducible apply wC_seq e35_12; apply wC_seq e35_13; apply wC_region e35_14); refine vOps_open (l := _ :: _) rfl ?_)
        | ((with_reducible apply kC_cond e35_15); (exact rfl); all_goals (intro hb; first | (cases hb; done) | cases hb | ((try simp only [decide_eq_true_eq, decide_eq_false_iff_not, Bool.not_eq_true', Bool.not_eq_false'] at hb); try (exfalso; first | omega | exact hb trivial))))
        | ((with_reducible apply wC_seq e35_16; apply wC_region e35_17); refine vOps_open (l := _ :: _) rfl ?_)
        | ((with_reducible apply wC_ret e35_18))
        | ((with_reducible apply wC_skip e35_19))
        | ((with_reducible apply wC_seq e35_20; apply wC_any e35_21 a35_21); refine vOps_open (l := _ :: _) rfl ?_)
        | ((with_reducible apply wC_seq e35_22; apply wC_region e35_23); refine vOps_open (l := _ :: _) rfl ?_)
        | ((with_reducible apply wC_ret e35_24))
        | ((with_reducible apply vOps_nil); try (with_reducible refine And.intro (by kernel_rfl) ?_))
        | (refine kOps_gon (g := ?_) (p := ?_) rfl rfl ?_ ?_ ?_ ?_; rotate_left 2; (with_reducible first | exact g35_6_2); (exact rfl); (with_reducible rfl))
        | (refine kOps_gofft (g := ?_) (p := ?_) rfl rfl ?_ ?_ ?_ ?_; rotate_left 2; (with_reducible first | exact g35_6_2); (exact rfl); (with_reducible rfl))
        | (refine kOps_gofff (g := ?_) (p := ?_) rfl rfl ?_ ?_ ?_ ?_; rotate_left 2; (with_reducible first | exact g35_6_2); (exact rfl); (with_reducible rfl))
        | (refine kOps_pickt rfl rfl rfl rfl ?_ rfl ?_; (with_reducible rfl))
        | (refine kOps_pickf rfl rfl rfl rfl ?_ rfl ?_; (with_reducible rfl))
        | (refine kOps_alloc (row := _) (n := ?_) rfl rfl rfl rfl ty25 ?_ zr25 zo25 ?_; rotate_left 1; (simp only [↓List.length_append, ↓List.length_set, ↓List.length_cons, List.length_nil, Nat.reduceAdd, Nat.zero_add]; rfl))
        | (refine kOps_as rfl rfl rfl rfl ?_)
        | (refine kOps_mv rfl rfl rfl rfl ?_)
        | (refine kOps_bin (b := .lss) (pre := ?_) (val := ?_) rfl rfl rfl rfl rfl ?_ ?_ ?_; rotate_left 2; (intro L; simp only [splice_one, cells_bv, getD_bv, set_bv, cells_agg, decide_true, decide_false, Int.reduceNe, ne_eq, not_true_eq_false, not_false_eq_true, splice_b, take_bs, List.length_replicate, Nat.le_refl, eq_self, len_hR, lit_ul0, lit_ul1, lss_ul, binF_lss, Int.reduceAdd, Int.reduceSub, Int.reduceMul, Int.reduceNeg, Int.sub_zero, Int.cast_ofNat_Int, Int.reduceLT, Int.reduceLE, Int.reduceEq, Nat.reduceMod, Nat.reduceLT, ty3]; (first | (rw [wrap_i64] <;> first | omega | rfl) | (rw [wrap_u8] <;> first | omega | rfl) | (rw [wrap_u16] <;> first | omega | rfl) | (rw [wrap_u32] <;> first | omega | rfl) | rfl)); exact trivial)
        | (refine kOps_len (d := 13) rfl rfl rfl rfl ty22 (by first | exact byt_nil | ((first | refine byt_ro ?_ | refine byt_own rfl ?_); (first | rfl | assumption | omega | (simp only [lns]; first | done | omega))) | (refine byt_part rfl ?_ rfl; (first | rfl | assumption | omega | (simp only [lns]; first | done | omega)))) ?_)
        | (refine kOps_bin (b := .gtr) (pre := ?_) (val := ?_) rfl rfl rfl rfl rfl ?_ ?_ ?_; rotate_left 2; (intro L; simp only [splice_one, cells_bv, getD_bv, set_bv, cells_agg, decide_true, decide_false, Int.reduceNe, ne_eq, not_true_eq_false, not_false_eq_true, splice_b, take_bs, List.length_replicate, Nat.le_refl, eq_self, len_hR, lit_ul0, lit_ul1, gtr_ul, binF_gtr, Int.reduceAdd, Int.reduceSub, Int.reduceMul, Int.reduceNeg, Int.sub_zero, Int.cast_ofNat_Int, Int.reduceLT, Int.reduceLE, Int.reduceEq, Nat.reduceMod, Nat.reduceLT, ty3]; (first | (rw [wrap_i64] <;> first | omega | rfl) | (rw [wrap_u8] <;> first | omega | rfl) | (rw [wrap_u16] <;> first | omega | rfl) | (rw [wrap_u32] <;> first | omega | rfl) | rfl)); exact trivial)
        | ((first | refine kOps_loadp (pre := ?_) (val := ?_) rfl rfl rfl rfl rfl ty25 ?_ ?_ ?_ | refine kOps_loadr (pre := ?_) (val := ?_) rfl rfl rfl rfl ty25 ?_ ?_ ?_); rotate_left 2; (simp only [splice_one, cells_bv, getD_bv, set_bv, cells_agg, decide_true, decide_false, Int.reduceNe, ne_eq, not_true_eq_false, not_false_eq_true, splice_b, take_bs, List.length_replicate, Nat.le_refl, eq_self, len_hR, partF, isAggD, Bool.false_eq_true, if_false, if_true, reduceIte, take_cl, agg_cl, len_cl, List.drop_zero, Int.toNat_natCast, Int.reduceToNat, Int.toNat_zero, n_add_zero, Nat.mul_one, Nat.zero_add, Nat.reduceAdd, Nat.reduceMul, take_bytes, List.length_map, List.getD_cons_zero]; rfl); (focus ((repeat' apply And.intro) <;> first | exact True.intro | omega | (with_reducible rfl) | assumption | (simp only [lns]; first | done | omega) | (simp only [one_bv, cells_bv, one_bv1, List.length_cons, List.length_nil, List.all_cons, List.all_nil, Bool.and_self]; done) | (simp only [cells_agg, one_bv, lns, and_self, true_and, Nat.le_refl, Nat.reduceAdd, Nat.zero_add]; done) | exact one_bv _ | exact ⟨_, rfl⟩ | (simp [PV.one, one_bv, PV.cells, Value.cells, Value.oneCell']; done))))
        | (refine kOps_store (cs' := ?_) rfl rfl rfl rfl rfl rfl rfl ty25 ?_ ?_ ?_; rotate_left 1; (simp only [splice_one, cells_bv, getD_bv, set_bv, cells_agg, decide_true, decide_false, Int.reduceNe, ne_eq, not_true_eq_false, not_false_eq_true, splice_b, take_bs, List.length_replicate, Nat.le_refl, eq_self, len_hR, lit_ul0, lit_ul1, cells_ul, cells_u4, isAggD, Bool.false_eq_true, if_false, if_true, reduceIte, take_cl, agg_cl, len_cl, List.drop_zero, Int.toNat_natCast, Int.reduceToNat, Int.toNat_zero, n_add_zero, Nat.mul_one, Nat.zero_add, Nat.reduceAdd, Nat.reduceMul, take_bytes, List.length_map, List.getD_cons_zero]; rfl); (focus (first | (simp only [lit_ul0, lit_ul1, cells_ul, cells_u4, cells_bv, List.length_cons, List.length_nil, len_cl, List.length_set, List.length_map, Nat.reduceAdd, Nat.zero_add, List.all_cons, List.all_nil, one_ul, one_cl, one_bv, PV.one, Value.oneCell', Bool.and_self, Nat.reduceLeDiff, Nat.le_refl, and_self, true_and, and_true]; done) | ((try simp only [lit_ul0, lit_ul1, cells_ul, cells_u4, cells_bv]); (focus ((repeat' apply And.intro) <;> first | exact True.intro | omega | (with_reducible rfl) | assumption | (simp only [lns]; first | done | omega) | (simp only [one_bv, cells_bv, one_bv1, List.length_cons, List.length_nil, List.all_cons, List.all_nil, Bool.and_self]; done) | (simp only [cells_agg, one_bv, lns, and_self, true_and, Nat.le_refl, Nat.reduceAdd, Nat.zero_add]; done) | exact one_bv _ | exact ⟨_, rfl⟩ | (simp [PV.one, one_bv, PV.cells, Value.cells, Value.oneCell']; done)))))))
        | (refine kOps_len (d := 18) rfl rfl rfl rfl ty22 (by first | exact byt_nil | ((first | refine byt_ro ?_ | refine byt_own rfl ?_); (first | rfl | assumption | omega | (simp only [lns]; first | done | omega))) | (refine byt_part rfl ?_ rfl; (first | rfl | assumption | omega | (simp only [lns]; first | done | omega)))) ?_)
        | (refine kOps_bin (b := .sub) (pre := ?_) (val := ?_) rfl rfl rfl rfl rfl ?_ ?_ ?_; rotate_left 2; (intro L; simp only [splice_one, cells_bv, getD_bv, set_bv, cells_agg, decide_true, decide_false, Int.reduceNe, ne_eq, not_true_eq_false, not_false_eq_true, splice_b, take_bs, List.length_replicate, Nat.le_refl, eq_self, len_hR, lit_ul0, lit_ul1, sub_ul, binF_sub, Int.reduceAdd, Int.reduceSub, Int.reduceMul, Int.reduceNeg, Int.sub_zero, Int.cast_ofNat_Int, Int.reduceLT, Int.reduceLE, Int.reduceEq, Nat.reduceMod, Nat.reduceLT, ty3]; (first | (rw [wrap_i64] <;> first | omega | rfl) | (rw [wrap_u8] <;> first | omega | rfl) | (rw [wrap_u16] <;> first | omega | rfl) | (rw [wrap_u32] <;> first | omega | rfl) | rfl)); exact trivial)
        | ((first | refine kOps_slp (d := 23) rfl rfl rfl rfl rfl ty25 ty5 rfl (by first | rfl | assumption | omega | (simp only [lns]; first | done | omega)) ?_ | refine kOps_slq (d := 23) rfl rfl rfl rfl ty25 ty5 rfl (by refine ⟨?_, ?_⟩ <;> (first | rfl | assumption | omega | (simp only [lns]; first | done | omega))) ?_))
        | (refine kOps_slr (d := 26) (l := m) (w := b.length - m) rfl rfl rfl rfl ty22 ty5 rfl (by first | exact bnd_none | exact bnd_some rfl) (by first | exact bnd_none | exact bnd_some rfl) (by refine ⟨?_, ?_, ?_, ?_⟩ <;> (first | rfl | assumption | omega | (simp only [lns]; first | done | omega))) (by exact drop_rest (by omega)) ?_)
        | (refine kOps_copy (d := 27) rfl rfl rfl rfl rfl rfl rfl ty22 ty5 rfl (by first | exact byt_nil | ((first | refine byt_ro ?_ | refine byt_own rfl ?_); (first | rfl | assumption | omega | (simp only [lns]; first | done | omega))) | (refine byt_part rfl ?_ rfl; (first | rfl | assumption | omega | (simp only [lns]; first | done | omega)))) (by exact copy32 (by rw [List.length_drop]; omega) List.length_drop) (by simp only [kill, List.set_cons_zero, List.set_cons_succ, List.cons_append, List.nil_append]; rfl) (by first | rfl | assumption | omega | (simp only [lns]; first | done | omega)) ?_)
        | (refine kOps_bin (b := .add) (pre := ?_) (val := ?_) rfl rfl rfl rfl rfl ?_ ?_ ?_; rotate_left 2; (intro L; simp only [splice_one, cells_bv, getD_bv, set_bv, cells_agg, decide_true, decide_false, Int.reduceNe, ne_eq, not_true_eq_false, not_false_eq_true, splice_b, take_bs, List.length_replicate, Nat.le_refl, eq_self, len_hR, lit_ul0, lit_ul1, add_ul, binF_add, Int.reduceAdd, Int.reduceSub, Int.reduceMul, Int.reduceNeg, Int.sub_zero, Int.cast_ofNat_Int, Int.reduceLT, Int.reduceLE, Int.reduceEq, Nat.reduceMod, Nat.reduceLT, ty3]; (first | (rw [wrap_i64] <;> first | omega | rfl) | (rw [wrap_u8] <;> first | omega | rfl) | (rw [wrap_u16] <;> first | omega | rfl) | (rw [wrap_u32] <;> first | omega | rfl) | rfl)); exact trivial)
        | (refine vOps_gundef rfl rfl ?_ ?_; (focus (simp only [lookup_cons, Nat.reduceBEq, cond_true, cond_false]; done)); simp only [putIn])
        | (refine vOps_gpick (t := ?_) (val := ?_) rfl rfl ?_ rfl rfl ?_ ?_ ?_; rotate_left 2; (focus (simp only [lookup_cons, Nat.reduceBEq, cond_true, cond_false]; done)); (simp only [evalIn_tmp, evalIn_const, lookup_cons, Nat.reduceBEq, cond_true, cond_false]; rfl); (simp only [evalIn_tmp, evalIn_const, lookup_cons, Nat.reduceBEq, cond_true, cond_false]; rfl))
        | (refine vOps_pick (t := ?_) (val := ?_) rfl rfl rfl ?_ ?_ ?_; rotate_left 2; (simp only [evalIn_tmp, evalIn_const, lookup_cons, Nat.reduceBEq, cond_true, cond_false]; rfl); (simp only [evalIn_tmp, evalIn_const, lookup_cons, Nat.reduceBEq, cond_true, cond_false]; rfl))
        | (refine vOps_fork (b := ?_) rfl rfl ?_ ?_ ?_; rotate_left 1; (simp only [lookup_cons, Nat.reduceBEq, cond_true, cond_false]; rfl); all_goals (intro hb; simp only [hb]; (try simp only [decide_eq_true_eq, decide_eq_false_iff_not] at hb); try (exfalso; first | omega | exact hb trivial)))
        | (refine vOps_forkp (b := ?_) rfl ?_ ?_ ?_; rotate_left 1; (simp only [evalIn_tmp, lookup_cons, Nat.reduceBEq, cond_true, cond_false]; rfl); all_goals (intro hb; simp only [hb]; (try simp only [decide_eq_true_eq, decide_eq_false_iff_not] at hb); try (exfalso; first | omega | exact hb trivial))))
      all_goals (try (exfalso; exact hz (nd3 (by omega) (by omega) (by omega))))
      all_goals (
        refine fin_c (p := ?_) (xs := [.cell 4 25, .tmp 5, .tmp 6]) (by simp) rfl ?_ ?_ ?_ ?_
        rotate_left 2
        · simp only [resAll_cons, resAll_nil, resPVl_0, resPVl_1, resPVl_2, resOne_tmp, resOne_cell, List.map_cons, List.map_nil, splice_one, cells_bv, getD_bv, set_bv, cells_agg, decide_true, decide_false, Int.reduceNe, ne_eq, not_true_eq_false, not_false_eq_true, splice_b, take_bs, List.length_replicate, Nat.le_refl, eq_self, len_hR, evalIn_tmp, evalIn_const, evalIn_func, lookup_cons, Nat.reduceBEq, cond_true, cond_false, lit_ul0, lit_ul1, loadF, partF, List.getElem?_cons_zero, List.getElem?_cons_succ, List.set_cons_zero, List.set_cons_succ, List.cons_append, List.nil_append, true_and, and_true, and_self, Nat.reduceLeDiff, isAggD, Bool.false_eq_true, if_false, if_true, reduceIte, take_cl, agg_cl, len_cl, List.drop_zero, Int.toNat_natCast, Int.reduceToNat, Int.toNat_zero, n_add_zero, Nat.mul_one, Nat.zero_add, Nat.reduceAdd, Nat.reduceMul, take_bytes, List.length_map, List.getD_cons_zero, ty3, ty5, ty22, ty25]; try rfl
        · first | (with_reducible rfl) | (simp only [closed, closedL, closed_u4, closed_ul, closed_uw, closed_sv, closedL_bv, closedL_wr, Bool.and_self, Bool.and_true]; done) | (simp only [closed, closedL, closed_u4, closed_ul, closed_uw, closed_sv, closedL_bv, closedL_wr, Bool.and_self, Bool.and_true]; rfl)
        · first | exact hash_e hz (ndl0 (by omega)) | exact hash_e hz (ndl1 (by omega) (by omega)) | exact hash_e hz (ndl2 (by omega) (by omega) (by omega))
        · simp only [resAll_cons, resAll_nil, resPVl_0, resPVl_1, resPVl_2, resOne_tmp, resOne_cell, List.map_cons, List.map_nil, splice_one, cells_bv, getD_bv, set_bv, cells_agg, decide_true, decide_false, Int.reduceNe, ne_eq, not_true_eq_false, not_false_eq_true, splice_b, take_bs, List.length_replicate, Nat.le_refl, eq_self, len_hR, evalIn_tmp, evalIn_const, evalIn_func, lookup_cons, Nat.reduceBEq, cond_true, cond_false, lit_ul0, lit_ul1, loadF, partF, List.getElem?_cons_zero, List.getElem?_cons_succ, List.set_cons_zero, List.set_cons_succ, List.cons_append, List.nil_append, true_and, and_true, and_self, Nat.reduceLeDiff, isAggD, Bool.false_eq_true, if_false, if_true, reduceIte, take_cl, agg_cl, len_cl, List.drop_zero, Int.toNat_natCast, Int.reduceToNat, Int.toNat_zero, n_add_zero, Nat.mul_one, Nat.zero_add, Nat.reduceAdd, Nat.reduceMul, take_bytes, List.length_map, List.getD_cons_zero, ty3, ty5, ty22, ty25]; try trivial)
  · exact hS.elim
end Go.Ab
