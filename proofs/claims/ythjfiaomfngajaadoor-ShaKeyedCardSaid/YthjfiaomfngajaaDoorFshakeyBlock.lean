import Derived.Test.YthjfiaomfngajaaDoorTY
import Derived.Test.YthjfiaomfngajaaDoorMG
import Derived.Test.YthjfiaomfngajaaDoorFshaSum
namespace Go.Ab
open Go Go.Proofs
set_option linter.unusedVariables false
set_option linter.unusedSimpArgs false
set_option maxRecDepth 8000
set_option maxHeartbeats 4000000

noncomputable def B32 : Code := bodyOf Tryd.f32
theorem B32_eq : Tryd.f32.body = some B32 := by kernel_rfl
noncomputable def n32_0 : Code := B32
noncomputable def n32_1 : Code := codeAt B32 [0]
noncomputable def n32_2 : Code := codeAt B32 [1]
noncomputable def n32_3 : Code := codeAt B32 [1,0]
noncomputable def n32_4 : Code := codeAt B32 [1,1]
noncomputable def n32_5 : Code := codeAt B32 [1,1,0]
noncomputable def n32_6 : Code := codeAt B32 [1,1,0,0]
noncomputable def n32_7 : Code := codeAt B32 [1,1,0,1]
noncomputable def n32_8 : Code := codeAt B32 [1,1,0,1,0]
noncomputable def n32_9 : Code := codeAt B32 [1,1,0,1,0,0]
noncomputable def n32_10 : Code := codeAt B32 [1,1,0,1,0,1]
noncomputable def n32_11 : Code := codeAt B32 [1,1,0,1,1]
noncomputable def n32_12 : Code := codeAt B32 [1,1,1]
noncomputable def n32_13 : Code := codeAt B32 [1,1,1,0]
noncomputable def n32_14 : Code := codeAt B32 [1,1,1,1]
noncomputable def n32_15 : Code := codeAt B32 [1,1,1,1,0]
noncomputable def n32_16 : Code := codeAt B32 [1,1,1,1,1]
theorem e32_0 : n32_0 = .seq n32_1 n32_2 := rfl
noncomputable def r32_1 := opsAt n32_1
theorem e32_1 : n32_1 = .region 0 (r32_1).toArray false := rfl
theorem e32_2 : n32_2 = .seq n32_3 n32_4 := rfl
noncomputable def r32_3 := opsAt n32_3
theorem e32_3 : n32_3 = .region 1 (r32_3).toArray false := rfl
theorem e32_4 : n32_4 = .seq n32_5 n32_12 := rfl
theorem e32_5 : n32_5 = .seq n32_6 n32_7 := rfl
noncomputable def r32_6 := opsAt n32_6
theorem e32_6 : n32_6 = .region 2 (r32_6).toArray false := rfl
theorem e32_7 : n32_7 = .cond (.tmp 7) n32_8 n32_11 := rfl
theorem e32_8 : n32_8 = .seq n32_9 n32_10 := rfl
noncomputable def r32_9 := opsAt n32_9
theorem e32_9 : n32_9 = .region 3 (r32_9).toArray false := rfl
noncomputable def r32_10 := opsAt n32_10
theorem e32_10 : n32_10 = .region 4 (r32_10).toArray false := rfl
theorem e32_11 : n32_11 = .skip := rfl
theorem e32_12 : n32_12 = .seq n32_13 n32_14 := rfl
noncomputable def r32_13 := opsAt n32_13
theorem e32_13 : n32_13 = .region 5 (r32_13).toArray false := rfl
theorem e32_14 : n32_14 = .seq n32_15 n32_16 := rfl
noncomputable def r32_15 := opsAt n32_15
theorem e32_15 : n32_15 = .region 6 (r32_15).toArray false := rfl
theorem e32_16 : n32_16 = .ret := rfl
theorem f_sha_keyBlock : PureOk Tryd.prog 32 sKeyBlock := by
  refine pureOk_of (c := n32_0) (Γ := conOf [(15, .pure sSum)]) (conOf_ok (conOf_one (S := .pure sSum) f_sha_Sum (conOf_end))) mixed Tryd.func32 B32_eq (by decide +kernel) Tryd.call32 ?_
  intro args hS
  unfold sKeyBlock at hS ⊢
  split at hS
  · refine ⟨by rw [Tryd.ntmps32]; simp, vC_sound ?_⟩
    rename_i n cs
    obtain ⟨hB, hle⟩ := hS
    obtain ⟨b, rfl, rfl⟩ := isB_out hB
    simp only [bytesOf_bv]
    clear hB
    simp only [entry_cons, entry_nil, Nat.reduceAdd]
    by_cases h3 : 64 < b.length
    · have hgt : (64 < (b.length : Int)) = True := eq_true (by omega)
      repeat' (first
        | (with_reducible first | apply seqC_normal | apply seqC_ret)
        | ((with_reducible apply wC_seq e32_0; apply wC_region e32_1); refine vOps_open (l := _ :: _) rfl ?_)
        | ((with_reducible apply wC_seq e32_2; apply wC_region e32_3); refine vOps_open (l := _ :: _) rfl ?_)
        | ((with_reducible apply wC_seq e32_4; apply wC_seq e32_5; apply wC_region e32_6); refine vOps_open (l := _ :: _) rfl ?_)
        | ((with_reducible apply kC_cond e32_7); (exact rfl); all_goals (intro hb; first | (cases hb; done) | cases hb | ((try simp only [decide_eq_true_eq, decide_eq_false_iff_not, Bool.not_eq_true', Bool.not_eq_false'] at hb); try (exfalso; first | omega | exact hb trivial))))
        | ((with_reducible apply wC_seq e32_8; apply wC_region e32_9); refine vOps_open (l := _ :: _) rfl ?_)
        | ((with_reducible apply wC_region e32_10); refine vOps_open (l := _ :: _) rfl ?_)
        | ((with_reducible apply wC_skip e32_11))
        | ((with_reducible apply wC_seq e32_12; apply wC_region e32_13); refine vOps_open (l := _ :: _) rfl ?_)
        | ((with_reducible apply wC_seq e32_14; apply wC_region e32_15); refine vOps_open (l := _ :: _) rfl ?_)
        | ((with_reducible apply wC_ret e32_16))
        | ((with_reducible apply vOps_nil); try (with_reducible refine And.intro (by kernel_rfl) ?_))
        | (refine kOps_gon (g := ?_) (p := ?_) rfl rfl ?_ ?_ ?_ ?_; rotate_left 2; fail; (exact rfl); (with_reducible rfl))
        | (refine kOps_gofft (g := ?_) (p := ?_) rfl rfl ?_ ?_ ?_ ?_; rotate_left 2; fail; (exact rfl); (with_reducible rfl))
        | (refine kOps_gofff (g := ?_) (p := ?_) rfl rfl ?_ ?_ ?_ ?_; rotate_left 2; fail; (exact rfl); (with_reducible rfl))
        | (refine kOps_pickt rfl rfl rfl rfl ?_ rfl ?_; (with_reducible rfl))
        | (refine kOps_pickf rfl rfl rfl rfl ?_ rfl ?_; (with_reducible rfl))
        | (refine kOps_alloc (row := _) (n := ?_) rfl rfl rfl rfl ty24 ?_ zr24 zo24 ?_; rotate_left 1; (simp only [↓List.length_append, ↓List.length_set, ↓List.length_cons, List.length_nil, Nat.reduceAdd, Nat.zero_add]; rfl))
        | (refine kOps_mv rfl rfl rfl rfl ?_)
        | (refine kOps_len (d := 6) rfl rfl rfl rfl ty29 (by first | exact byt_nil | (refine byt_ro ?_; (first | rfl | assumption | omega | (simp only [lnb]; first | omega | done))) | (refine byt_own rfl ?_; (first | rfl | assumption | omega | (simp only [lnb]; first | omega | done))) | (refine byt_part rfl ?_ rfl; (first | rfl | assumption | omega | (simp only [lnb]; first | omega | done)))) ?_)
        | (refine kOps_bin (b := .gtr) (pre := ?_) (val := ?_) rfl rfl rfl rfl rfl ?_ ?_ ?_; rotate_left 2; (intro L; simp only [q5, q6, Nat.le_refl, eq_self, agg_sv, len_dig, len_sum, len_key64, hgt, decide_true, decide_false, Nat.min_def, lit_ul0, lit_ul1, gtr_ul, binF_gtr, Int.reduceAdd, Int.reduceSub, Int.reduceMul, Int.reduceNeg, Int.sub_zero, Int.cast_ofNat_Int, ne_eq, Int.reduceLT, Int.reduceLE, Int.reduceEq, Nat.reduceMod, Nat.reduceLT, ty3]; (first | (rw [wrap_i64] <;> first | omega | rfl) | (rw [wrap_u8] <;> first | omega | rfl) | (rw [wrap_u16] <;> first | omega | rfl) | (rw [wrap_u32] <;> first | omega | rfl) | rfl)); exact trivial)
        | (refine kOps_callb (d := 9) (qs := [_]) rfl rfl rfl rfl rfl (by repeat (first | exact bor_nil | refine bor_bytes (by first | exact byt_nil | (refine byt_ro ?_; (first | rfl | assumption | omega | (simp only [lnb]; first | omega | done))) | (refine byt_own rfl ?_; (first | rfl | assumption | omega | (simp only [lnb]; first | omega | done))) | (refine byt_part rfl ?_ rfl; (first | rfl | assumption | omega | (simp only [lnb]; first | omega | done)))) ?_ | refine bor_rows rfl (by first | rfl | assumption | omega | (simp only [lnb]; first | omega | done)) ?_ | refine bor_closed (by first | (with_reducible rfl) | (simp only [closed, closedL, q3]; done)) ?_)) (by simp only [q5, q6, Nat.le_refl, eq_self, agg_sv, len_dig, len_sum, len_key64, hgt, decide_true, decide_false, Nat.min_def, isB_bv, bytesOf_bv, sSum, nrmC, nrm_nil, nrm_ro, newB, List.map_cons, List.map_nil, isul_ul, ulv_ul, isS_sv, sOf_sv, true_and, and_true, and_self]; rfl) (by first | (with_reducible rfl) | (simp only [closed, closedL, q3]; done)) (by first | (refine .inl ?_; first | (with_reducible rfl) | (simp only [closed, closedL, q3]; done)) | (refine .inr ?_; simp only [flat, flatL_bv, flatL_wr, flat_uw]; done)) (by (focus ((repeat' apply And.intro) <;> first | exact True.intro | omega | (with_reducible rfl) | assumption | (simp only [lnb]; omega) | (simp only [q1]; done) | (simp only [q4, lnb, and_self, true_and, Nat.le_refl, Nat.reduceAdd, Nat.zero_add]; done) | exact (isByte_bv _).2 trivial | exact one_bv _ | (simp [PV.one, one_bv, closedL_bv, flatL_bv, closedL, closed, isByte_bv, PV.cells]; done) | exact ⟨_, rfl⟩ | (simp only [q2]; done) | (simp only [len_cl]; omega) | (simp [Value.cells, Value.oneCell']; done)))) ?_)
        | (refine kOps_alloc (row := _) (n := ?_) rfl rfl rfl rfl ty33 ?_ zr33 zo33 ?_; rotate_left 1; (simp only [↓List.length_append, ↓List.length_set, ↓List.length_cons, List.length_nil, Nat.reduceAdd, Nat.zero_add]; rfl))
        | (refine kOps_store (cs' := ?_) rfl rfl rfl rfl rfl rfl rfl ty33 ?_ ?_ ?_; rotate_left 1; (simp only [q5, q6, Nat.le_refl, eq_self, agg_sv, len_dig, len_sum, len_key64, hgt, decide_true, decide_false, Nat.min_def, lit_ul0, lit_ul1, cells_ul, cells_u4, isAggD, Bool.false_eq_true, if_false, if_true, reduceIte, take_cl, agg_cl, len_cl, List.drop_zero, Int.toNat_natCast, Int.reduceToNat, Int.toNat_zero, n_add_zero, Nat.mul_one, Nat.zero_add, Nat.reduceAdd, Nat.reduceMul, take_bytes, List.length_map, List.getD_cons_zero]; rfl); (focus (first | (simp only [lit_ul0, lit_ul1, cells_ul, cells_u4, cells_bv, List.length_cons, List.length_nil, len_cl, List.length_set, List.length_map, Nat.reduceAdd, Nat.zero_add, List.all_cons, List.all_nil, one_ul, one_cl, one_bv, PV.one, Value.oneCell', Bool.and_self, Nat.reduceLeDiff, Nat.le_refl, and_self, true_and, and_true]; done) | ((try simp only [lit_ul0, lit_ul1, cells_ul, cells_u4, cells_bv]); (focus ((repeat' apply And.intro) <;> first | exact True.intro | omega | (with_reducible rfl) | assumption | (simp only [lnb]; omega) | (simp only [q1]; done) | (simp only [q4, lnb, and_self, true_and, Nat.le_refl, Nat.reduceAdd, Nat.zero_add]; done) | exact (isByte_bv _).2 trivial | exact one_bv _ | (simp [PV.one, one_bv, closedL_bv, flatL_bv, closedL, closed, isByte_bv, PV.cells]; done) | exact ⟨_, rfl⟩ | (simp only [q2]; done) | (simp only [len_cl]; omega) | (simp [Value.cells, Value.oneCell']; done)))))))
        | ((first | refine kOps_slp (d := 10) rfl rfl rfl rfl rfl ty33 ty5 rfl (by first | rfl | assumption | omega | (simp only [lnb]; first | omega | done)) ?_ | refine kOps_slq (d := 10) rfl rfl rfl rfl ty33 ty5 rfl (by refine ⟨?_, ?_⟩ <;> (first | rfl | assumption | omega | (simp only [lnb]; first | omega | done))) ?_))
        | (refine kOps_as rfl rfl rfl rfl ?_)
        | ((first | refine kOps_slp (d := 11) rfl rfl rfl rfl rfl ty24 ty5 rfl (by first | rfl | assumption | omega | (simp only [lnb]; first | omega | done)) ?_ | refine kOps_slq (d := 11) rfl rfl rfl rfl ty24 ty5 rfl (by refine ⟨?_, ?_⟩ <;> (first | rfl | assumption | omega | (simp only [lnb]; first | omega | done))) ?_))
        | (refine kOps_copy (d := 13) rfl rfl rfl rfl rfl rfl rfl ty29 ty5 rfl (by first | exact byt_nil | (refine byt_ro ?_; (first | rfl | assumption | omega | (simp only [lnb]; first | omega | done))) | (refine byt_own rfl ?_; (first | rfl | assumption | omega | (simp only [lnb]; first | omega | done))) | (refine byt_part rfl ?_ rfl; (first | rfl | assumption | omega | (simp only [lnb]; first | omega | done)))) (by exact copy_long h3) (by simp only [kill, List.set_cons_zero, List.set_cons_succ, List.cons_append, List.nil_append]; rfl) (by first | rfl | assumption | omega | (simp only [lnb]; first | omega | done)) ?_)
        | ((first | refine kOps_loadp (pre := ?_) (val := ?_) rfl rfl rfl rfl rfl ty24 ?_ ?_ ?_ | refine kOps_loadr (pre := ?_) (val := ?_) rfl rfl rfl rfl ty24 ?_ ?_ ?_); rotate_left 2; (simp only [q5, q6, Nat.le_refl, eq_self, agg_sv, len_dig, len_sum, len_key64, hgt, decide_true, decide_false, Nat.min_def, partF, isAggD, Bool.false_eq_true, if_false, if_true, reduceIte, take_cl, agg_cl, len_cl, List.drop_zero, Int.toNat_natCast, Int.reduceToNat, Int.toNat_zero, n_add_zero, Nat.mul_one, Nat.zero_add, Nat.reduceAdd, Nat.reduceMul, take_bytes, List.length_map, List.getD_cons_zero]; rfl); (focus ((repeat' apply And.intro) <;> first | exact True.intro | omega | (with_reducible rfl) | assumption | (simp only [lnb]; omega) | (simp only [q1]; done) | (simp only [q4, lnb, and_self, true_and, Nat.le_refl, Nat.reduceAdd, Nat.zero_add]; done) | exact (isByte_bv _).2 trivial | exact one_bv _ | (simp [PV.one, one_bv, closedL_bv, flatL_bv, closedL, closed, isByte_bv, PV.cells]; done) | exact ⟨_, rfl⟩ | (simp only [q2]; done) | (simp only [len_cl]; omega) | (simp [Value.cells, Value.oneCell']; done))))
        | (refine kOps_store (cs' := ?_) rfl rfl rfl rfl rfl rfl rfl ty24 ?_ ?_ ?_; rotate_left 1; (simp only [q5, q6, Nat.le_refl, eq_self, agg_sv, len_dig, len_sum, len_key64, hgt, decide_true, decide_false, Nat.min_def, lit_ul0, lit_ul1, cells_ul, cells_u4, isAggD, Bool.false_eq_true, if_false, if_true, reduceIte, take_cl, agg_cl, len_cl, List.drop_zero, Int.toNat_natCast, Int.reduceToNat, Int.toNat_zero, n_add_zero, Nat.mul_one, Nat.zero_add, Nat.reduceAdd, Nat.reduceMul, take_bytes, List.length_map, List.getD_cons_zero]; rfl); (focus (first | (simp only [lit_ul0, lit_ul1, cells_ul, cells_u4, cells_bv, List.length_cons, List.length_nil, len_cl, List.length_set, List.length_map, Nat.reduceAdd, Nat.zero_add, List.all_cons, List.all_nil, one_ul, one_cl, one_bv, PV.one, Value.oneCell', Bool.and_self, Nat.reduceLeDiff, Nat.le_refl, and_self, true_and, and_true]; done) | ((try simp only [lit_ul0, lit_ul1, cells_ul, cells_u4, cells_bv]); (focus ((repeat' apply And.intro) <;> first | exact True.intro | omega | (with_reducible rfl) | assumption | (simp only [lnb]; omega) | (simp only [q1]; done) | (simp only [q4, lnb, and_self, true_and, Nat.le_refl, Nat.reduceAdd, Nat.zero_add]; done) | exact (isByte_bv _).2 trivial | exact one_bv _ | (simp [PV.one, one_bv, closedL_bv, flatL_bv, closedL, closed, isByte_bv, PV.cells]; done) | exact ⟨_, rfl⟩ | (simp only [q2]; done) | (simp only [len_cl]; omega) | (simp [Value.cells, Value.oneCell']; done)))))))
        | (refine vOps_gundef rfl rfl ?_ ?_; (focus (simp only [lookup_cons, Nat.reduceBEq, cond_true, cond_false]; done)); simp only [putIn])
        | (refine vOps_gpick (t := ?_) (val := ?_) rfl rfl ?_ rfl rfl ?_ ?_ ?_; rotate_left 2; (focus (simp only [lookup_cons, Nat.reduceBEq, cond_true, cond_false]; done)); (simp only [evalIn_tmp, evalIn_const, lookup_cons, Nat.reduceBEq, cond_true, cond_false]; rfl); (simp only [evalIn_tmp, evalIn_const, lookup_cons, Nat.reduceBEq, cond_true, cond_false]; rfl))
        | (refine vOps_pick (t := ?_) (val := ?_) rfl rfl rfl ?_ ?_ ?_; rotate_left 2; (simp only [evalIn_tmp, evalIn_const, lookup_cons, Nat.reduceBEq, cond_true, cond_false]; rfl); (simp only [evalIn_tmp, evalIn_const, lookup_cons, Nat.reduceBEq, cond_true, cond_false]; rfl))
        | (refine vOps_fork (b := ?_) rfl rfl ?_ ?_ ?_; rotate_left 1; (simp only [lookup_cons, Nat.reduceBEq, cond_true, cond_false]; rfl); all_goals (intro hb; simp only [hb]; (try simp only [decide_eq_true_eq, decide_eq_false_iff_not] at hb); try (exfalso; first | omega | exact hb trivial)))
        | (refine vOps_forkp (b := ?_) rfl ?_ ?_ ?_; rotate_left 1; (simp only [evalIn_tmp, lookup_cons, Nat.reduceBEq, cond_true, cond_false]; rfl); all_goals (intro hb; simp only [hb]; (try simp only [decide_eq_true_eq, decide_eq_false_iff_not] at hb); try (exfalso; first | omega | exact hb trivial))))
      refine fin_c (p := ?_) (xs := [.cell 2 24]) (by simp) rfl ?_ ?_ ?_ ?_
      rotate_left 2
      · simp only [q7, List.map_cons, List.map_nil, q5, q6, Nat.le_refl, eq_self, agg_sv, len_dig, len_sum, len_key64, hgt, decide_true, decide_false, Nat.min_def, evalIn_tmp, evalIn_const, evalIn_func, lookup_cons, Nat.reduceBEq, cond_true, cond_false, lit_ul0, lit_ul1, loadF, partF, List.getElem?_cons_zero, List.getElem?_cons_succ, List.set_cons_zero, List.set_cons_succ, List.cons_append, List.nil_append, true_and, and_true, and_self, Nat.reduceLeDiff, isAggD, Bool.false_eq_true, if_false, if_true, reduceIte, take_cl, agg_cl, len_cl, List.drop_zero, Int.toNat_natCast, Int.reduceToNat, Int.toNat_zero, n_add_zero, Nat.mul_one, Nat.zero_add, Nat.reduceAdd, Nat.reduceMul, take_bytes, List.length_map, List.getD_cons_zero, ty3, ty5, ty24, ty29, ty33]; try rfl
      · first | (with_reducible rfl) | (simp only [closed, closedL, closed_u4, closed_ul, closed_uw, closed_sv, closedL_bv, closedL_wr, Bool.and_self, Bool.and_true]; first | done | rfl)
      · rfl
      · simp only [q7, List.map_cons, List.map_nil, q5, q6, Nat.le_refl, eq_self, agg_sv, len_dig, len_sum, len_key64, hgt, decide_true, decide_false, Nat.min_def, evalIn_tmp, evalIn_const, evalIn_func, lookup_cons, Nat.reduceBEq, cond_true, cond_false, lit_ul0, lit_ul1, loadF, partF, List.getElem?_cons_zero, List.getElem?_cons_succ, List.set_cons_zero, List.set_cons_succ, List.cons_append, List.nil_append, true_and, and_true, and_self, Nat.reduceLeDiff, isAggD, Bool.false_eq_true, if_false, if_true, reduceIte, take_cl, agg_cl, len_cl, List.drop_zero, Int.toNat_natCast, Int.reduceToNat, Int.toNat_zero, n_add_zero, Nat.mul_one, Nat.zero_add, Nat.reduceAdd, Nat.reduceMul, take_bytes, List.length_map, List.getD_cons_zero, ty3, ty5, ty24, ty29, ty33]; try trivial
    · have hgt : (64 < (b.length : Int)) = False := eq_false (by omega)
      repeat' (first
        | (with_reducible first | apply seqC_normal | apply seqC_ret)
        | ((with_reducible apply wC_seq e32_0; apply wC_region e32_1); refine vOps_open (l := _ :: _) rfl ?_)
        | ((with_reducible apply wC_seq e32_2; apply wC_region e32_3); refine vOps_open (l := _ :: _) rfl ?_)
        | ((with_reducible apply wC_seq e32_4; apply wC_seq e32_5; apply wC_region e32_6); refine vOps_open (l := _ :: _) rfl ?_)
        | ((with_reducible apply kC_cond e32_7); (exact rfl); all_goals (intro hb; first | (cases hb; done) | cases hb | ((try simp only [decide_eq_true_eq, decide_eq_false_iff_not, Bool.not_eq_true', Bool.not_eq_false'] at hb); try (exfalso; first | omega | exact hb trivial))))
        | ((with_reducible apply wC_seq e32_8; apply wC_region e32_9); refine vOps_open (l := _ :: _) rfl ?_)
        | ((with_reducible apply wC_region e32_10); refine vOps_open (l := _ :: _) rfl ?_)
        | ((with_reducible apply wC_skip e32_11))
        | ((with_reducible apply wC_seq e32_12; apply wC_region e32_13); refine vOps_open (l := _ :: _) rfl ?_)
        | ((with_reducible apply wC_seq e32_14; apply wC_region e32_15); refine vOps_open (l := _ :: _) rfl ?_)
        | ((with_reducible apply wC_ret e32_16))
        | ((with_reducible apply vOps_nil); try (with_reducible refine And.intro (by kernel_rfl) ?_))
        | (refine kOps_gon (g := ?_) (p := ?_) rfl rfl ?_ ?_ ?_ ?_; rotate_left 2; fail; (exact rfl); (with_reducible rfl))
        | (refine kOps_gofft (g := ?_) (p := ?_) rfl rfl ?_ ?_ ?_ ?_; rotate_left 2; fail; (exact rfl); (with_reducible rfl))
        | (refine kOps_gofff (g := ?_) (p := ?_) rfl rfl ?_ ?_ ?_ ?_; rotate_left 2; fail; (exact rfl); (with_reducible rfl))
        | (refine kOps_pickt rfl rfl rfl rfl ?_ rfl ?_; (with_reducible rfl))
        | (refine kOps_pickf rfl rfl rfl rfl ?_ rfl ?_; (with_reducible rfl))
        | (refine kOps_alloc (row := _) (n := ?_) rfl rfl rfl rfl ty24 ?_ zr24 zo24 ?_; rotate_left 1; (simp only [↓List.length_append, ↓List.length_set, ↓List.length_cons, List.length_nil, Nat.reduceAdd, Nat.zero_add]; rfl))
        | (refine kOps_mv rfl rfl rfl rfl ?_)
        | (refine kOps_len (d := 6) rfl rfl rfl rfl ty29 (by first | exact byt_nil | (refine byt_ro ?_; (first | rfl | assumption | omega | (simp only [lnb]; first | omega | done))) | (refine byt_own rfl ?_; (first | rfl | assumption | omega | (simp only [lnb]; first | omega | done))) | (refine byt_part rfl ?_ rfl; (first | rfl | assumption | omega | (simp only [lnb]; first | omega | done)))) ?_)
        | (refine kOps_bin (b := .gtr) (pre := ?_) (val := ?_) rfl rfl rfl rfl rfl ?_ ?_ ?_; rotate_left 2; (intro L; simp only [q5, q6, Nat.le_refl, eq_self, agg_sv, len_dig, len_sum, len_key64, hgt, decide_true, decide_false, Nat.min_def, lit_ul0, lit_ul1, gtr_ul, binF_gtr, Int.reduceAdd, Int.reduceSub, Int.reduceMul, Int.reduceNeg, Int.sub_zero, Int.cast_ofNat_Int, ne_eq, Int.reduceLT, Int.reduceLE, Int.reduceEq, Nat.reduceMod, Nat.reduceLT, ty3]; (first | (rw [wrap_i64] <;> first | omega | rfl) | (rw [wrap_u8] <;> first | omega | rfl) | (rw [wrap_u16] <;> first | omega | rfl) | (rw [wrap_u32] <;> first | omega | rfl) | rfl)); exact trivial)
        | (refine kOps_callb (d := 9) (qs := [_]) rfl rfl rfl rfl rfl (by repeat (first | exact bor_nil | refine bor_bytes (by first | exact byt_nil | (refine byt_ro ?_; (first | rfl | assumption | omega | (simp only [lnb]; first | omega | done))) | (refine byt_own rfl ?_; (first | rfl | assumption | omega | (simp only [lnb]; first | omega | done))) | (refine byt_part rfl ?_ rfl; (first | rfl | assumption | omega | (simp only [lnb]; first | omega | done)))) ?_ | refine bor_rows rfl (by first | rfl | assumption | omega | (simp only [lnb]; first | omega | done)) ?_ | refine bor_closed (by first | (with_reducible rfl) | (simp only [closed, closedL, q3]; done)) ?_)) (by simp only [q5, q6, Nat.le_refl, eq_self, agg_sv, len_dig, len_sum, len_key64, hgt, decide_true, decide_false, Nat.min_def, isB_bv, bytesOf_bv, sSum, nrmC, nrm_nil, nrm_ro, newB, List.map_cons, List.map_nil, isul_ul, ulv_ul, isS_sv, sOf_sv, true_and, and_true, and_self]; rfl) (by first | (with_reducible rfl) | (simp only [closed, closedL, q3]; done)) (by first | (refine .inl ?_; first | (with_reducible rfl) | (simp only [closed, closedL, q3]; done)) | (refine .inr ?_; simp only [flat, flatL_bv, flatL_wr, flat_uw]; done)) (by (focus ((repeat' apply And.intro) <;> first | exact True.intro | omega | (with_reducible rfl) | assumption | (simp only [lnb]; omega) | (simp only [q1]; done) | (simp only [q4, lnb, and_self, true_and, Nat.le_refl, Nat.reduceAdd, Nat.zero_add]; done) | exact (isByte_bv _).2 trivial | exact one_bv _ | (simp [PV.one, one_bv, closedL_bv, flatL_bv, closedL, closed, isByte_bv, PV.cells]; done) | exact ⟨_, rfl⟩ | (simp only [q2]; done) | (simp only [len_cl]; omega) | (simp [Value.cells, Value.oneCell']; done)))) ?_)
        | (refine kOps_alloc (row := _) (n := ?_) rfl rfl rfl rfl ty33 ?_ zr33 zo33 ?_; rotate_left 1; (simp only [↓List.length_append, ↓List.length_set, ↓List.length_cons, List.length_nil, Nat.reduceAdd, Nat.zero_add]; rfl))
        | (refine kOps_store (cs' := ?_) rfl rfl rfl rfl rfl rfl rfl ty33 ?_ ?_ ?_; rotate_left 1; (simp only [q5, q6, Nat.le_refl, eq_self, agg_sv, len_dig, len_sum, len_key64, hgt, decide_true, decide_false, Nat.min_def, lit_ul0, lit_ul1, cells_ul, cells_u4, isAggD, Bool.false_eq_true, if_false, if_true, reduceIte, take_cl, agg_cl, len_cl, List.drop_zero, Int.toNat_natCast, Int.reduceToNat, Int.toNat_zero, n_add_zero, Nat.mul_one, Nat.zero_add, Nat.reduceAdd, Nat.reduceMul, take_bytes, List.length_map, List.getD_cons_zero]; rfl); (focus (first | (simp only [lit_ul0, lit_ul1, cells_ul, cells_u4, cells_bv, List.length_cons, List.length_nil, len_cl, List.length_set, List.length_map, Nat.reduceAdd, Nat.zero_add, List.all_cons, List.all_nil, one_ul, one_cl, one_bv, PV.one, Value.oneCell', Bool.and_self, Nat.reduceLeDiff, Nat.le_refl, and_self, true_and, and_true]; done) | ((try simp only [lit_ul0, lit_ul1, cells_ul, cells_u4, cells_bv]); (focus ((repeat' apply And.intro) <;> first | exact True.intro | omega | (with_reducible rfl) | assumption | (simp only [lnb]; omega) | (simp only [q1]; done) | (simp only [q4, lnb, and_self, true_and, Nat.le_refl, Nat.reduceAdd, Nat.zero_add]; done) | exact (isByte_bv _).2 trivial | exact one_bv _ | (simp [PV.one, one_bv, closedL_bv, flatL_bv, closedL, closed, isByte_bv, PV.cells]; done) | exact ⟨_, rfl⟩ | (simp only [q2]; done) | (simp only [len_cl]; omega) | (simp [Value.cells, Value.oneCell']; done)))))))
        | ((first | refine kOps_slp (d := 10) rfl rfl rfl rfl rfl ty33 ty5 rfl (by first | rfl | assumption | omega | (simp only [lnb]; first | omega | done)) ?_ | refine kOps_slq (d := 10) rfl rfl rfl rfl ty33 ty5 rfl (by refine ⟨?_, ?_⟩ <;> (first | rfl | assumption | omega | (simp only [lnb]; first | omega | done))) ?_))
        | (refine kOps_as rfl rfl rfl rfl ?_)
        | ((first | refine kOps_slp (d := 11) rfl rfl rfl rfl rfl ty24 ty5 rfl (by first | rfl | assumption | omega | (simp only [lnb]; first | omega | done)) ?_ | refine kOps_slq (d := 11) rfl rfl rfl rfl ty24 ty5 rfl (by refine ⟨?_, ?_⟩ <;> (first | rfl | assumption | omega | (simp only [lnb]; first | omega | done))) ?_))
        | (refine kOps_copy (d := 13) rfl rfl rfl rfl rfl rfl rfl ty29 ty5 rfl (by first | exact byt_nil | (refine byt_ro ?_; (first | rfl | assumption | omega | (simp only [lnb]; first | omega | done))) | (refine byt_own rfl ?_; (first | rfl | assumption | omega | (simp only [lnb]; first | omega | done))) | (refine byt_part rfl ?_ rfl; (first | rfl | assumption | omega | (simp only [lnb]; first | omega | done)))) (by exact copy_short h3) (by simp only [kill, List.set_cons_zero, List.set_cons_succ, List.cons_append, List.nil_append]; rfl) (by first | rfl | assumption | omega | (simp only [lnb]; first | omega | done)) ?_)
        | ((first | refine kOps_loadp (pre := ?_) (val := ?_) rfl rfl rfl rfl rfl ty24 ?_ ?_ ?_ | refine kOps_loadr (pre := ?_) (val := ?_) rfl rfl rfl rfl ty24 ?_ ?_ ?_); rotate_left 2; (simp only [q5, q6, Nat.le_refl, eq_self, agg_sv, len_dig, len_sum, len_key64, hgt, decide_true, decide_false, Nat.min_def, partF, isAggD, Bool.false_eq_true, if_false, if_true, reduceIte, take_cl, agg_cl, len_cl, List.drop_zero, Int.toNat_natCast, Int.reduceToNat, Int.toNat_zero, n_add_zero, Nat.mul_one, Nat.zero_add, Nat.reduceAdd, Nat.reduceMul, take_bytes, List.length_map, List.getD_cons_zero]; rfl); (focus ((repeat' apply And.intro) <;> first | exact True.intro | omega | (with_reducible rfl) | assumption | (simp only [lnb]; omega) | (simp only [q1]; done) | (simp only [q4, lnb, and_self, true_and, Nat.le_refl, Nat.reduceAdd, Nat.zero_add]; done) | exact (isByte_bv _).2 trivial | exact one_bv _ | (simp [PV.one, one_bv, closedL_bv, flatL_bv, closedL, closed, isByte_bv, PV.cells]; done) | exact ⟨_, rfl⟩ | (simp only [q2]; done) | (simp only [len_cl]; omega) | (simp [Value.cells, Value.oneCell']; done))))
        | (refine kOps_store (cs' := ?_) rfl rfl rfl rfl rfl rfl rfl ty24 ?_ ?_ ?_; rotate_left 1; (simp only [q5, q6, Nat.le_refl, eq_self, agg_sv, len_dig, len_sum, len_key64, hgt, decide_true, decide_false, Nat.min_def, lit_ul0, lit_ul1, cells_ul, cells_u4, isAggD, Bool.false_eq_true, if_false, if_true, reduceIte, take_cl, agg_cl, len_cl, List.drop_zero, Int.toNat_natCast, Int.reduceToNat, Int.toNat_zero, n_add_zero, Nat.mul_one, Nat.zero_add, Nat.reduceAdd, Nat.reduceMul, take_bytes, List.length_map, List.getD_cons_zero]; rfl); (focus (first | (simp only [lit_ul0, lit_ul1, cells_ul, cells_u4, cells_bv, List.length_cons, List.length_nil, len_cl, List.length_set, List.length_map, Nat.reduceAdd, Nat.zero_add, List.all_cons, List.all_nil, one_ul, one_cl, one_bv, PV.one, Value.oneCell', Bool.and_self, Nat.reduceLeDiff, Nat.le_refl, and_self, true_and, and_true]; done) | ((try simp only [lit_ul0, lit_ul1, cells_ul, cells_u4, cells_bv]); (focus ((repeat' apply And.intro) <;> first | exact True.intro | omega | (with_reducible rfl) | assumption | (simp only [lnb]; omega) | (simp only [q1]; done) | (simp only [q4, lnb, and_self, true_and, Nat.le_refl, Nat.reduceAdd, Nat.zero_add]; done) | exact (isByte_bv _).2 trivial | exact one_bv _ | (simp [PV.one, one_bv, closedL_bv, flatL_bv, closedL, closed, isByte_bv, PV.cells]; done) | exact ⟨_, rfl⟩ | (simp only [q2]; done) | (simp only [len_cl]; omega) | (simp [Value.cells, Value.oneCell']; done)))))))
        | (refine vOps_gundef rfl rfl ?_ ?_; (focus (simp only [lookup_cons, Nat.reduceBEq, cond_true, cond_false]; done)); simp only [putIn])
        | (refine vOps_gpick (t := ?_) (val := ?_) rfl rfl ?_ rfl rfl ?_ ?_ ?_; rotate_left 2; (focus (simp only [lookup_cons, Nat.reduceBEq, cond_true, cond_false]; done)); (simp only [evalIn_tmp, evalIn_const, lookup_cons, Nat.reduceBEq, cond_true, cond_false]; rfl); (simp only [evalIn_tmp, evalIn_const, lookup_cons, Nat.reduceBEq, cond_true, cond_false]; rfl))
        | (refine vOps_pick (t := ?_) (val := ?_) rfl rfl rfl ?_ ?_ ?_; rotate_left 2; (simp only [evalIn_tmp, evalIn_const, lookup_cons, Nat.reduceBEq, cond_true, cond_false]; rfl); (simp only [evalIn_tmp, evalIn_const, lookup_cons, Nat.reduceBEq, cond_true, cond_false]; rfl))
        | (refine vOps_fork (b := ?_) rfl rfl ?_ ?_ ?_; rotate_left 1; (simp only [lookup_cons, Nat.reduceBEq, cond_true, cond_false]; rfl); all_goals (intro hb; simp only [hb]; (try simp only [decide_eq_true_eq, decide_eq_false_iff_not] at hb); try (exfalso; first | omega | exact hb trivial)))
        | (refine vOps_forkp (b := ?_) rfl ?_ ?_ ?_; rotate_left 1; (simp only [evalIn_tmp, lookup_cons, Nat.reduceBEq, cond_true, cond_false]; rfl); all_goals (intro hb; simp only [hb]; (try simp only [decide_eq_true_eq, decide_eq_false_iff_not] at hb); try (exfalso; first | omega | exact hb trivial))))
      refine fin_c (p := ?_) (xs := [.cell 2 24]) (by simp) rfl ?_ ?_ ?_ ?_
      rotate_left 2
      · simp only [q7, List.map_cons, List.map_nil, q5, q6, Nat.le_refl, eq_self, agg_sv, len_dig, len_sum, len_key64, hgt, decide_true, decide_false, Nat.min_def, evalIn_tmp, evalIn_const, evalIn_func, lookup_cons, Nat.reduceBEq, cond_true, cond_false, lit_ul0, lit_ul1, loadF, partF, List.getElem?_cons_zero, List.getElem?_cons_succ, List.set_cons_zero, List.set_cons_succ, List.cons_append, List.nil_append, true_and, and_true, and_self, Nat.reduceLeDiff, isAggD, Bool.false_eq_true, if_false, if_true, reduceIte, take_cl, agg_cl, len_cl, List.drop_zero, Int.toNat_natCast, Int.reduceToNat, Int.toNat_zero, n_add_zero, Nat.mul_one, Nat.zero_add, Nat.reduceAdd, Nat.reduceMul, take_bytes, List.length_map, List.getD_cons_zero, ty3, ty5, ty24, ty29, ty33]; try rfl
      · first | (with_reducible rfl) | (simp only [closed, closedL, closed_u4, closed_ul, closed_uw, closed_sv, closedL_bv, closedL_wr, Bool.and_self, Bool.and_true]; first | done | rfl)
      · rfl
      · simp only [q7, List.map_cons, List.map_nil, q5, q6, Nat.le_refl, eq_self, agg_sv, len_dig, len_sum, len_key64, hgt, decide_true, decide_false, Nat.min_def, evalIn_tmp, evalIn_const, evalIn_func, lookup_cons, Nat.reduceBEq, cond_true, cond_false, lit_ul0, lit_ul1, loadF, partF, List.getElem?_cons_zero, List.getElem?_cons_succ, List.set_cons_zero, List.set_cons_succ, List.cons_append, List.nil_append, true_and, and_true, and_self, Nat.reduceLeDiff, isAggD, Bool.false_eq_true, if_false, if_true, reduceIte, take_cl, agg_cl, len_cl, List.drop_zero, Int.toNat_natCast, Int.reduceToNat, Int.toNat_zero, n_add_zero, Nat.mul_one, Nat.zero_add, Nat.reduceAdd, Nat.reduceMul, take_bytes, List.length_map, List.getD_cons_zero, ty3, ty5, ty24, ty29, ty33]; try trivial
  · exact hS.elim
end Go.Ab
