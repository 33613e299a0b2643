import Derived.Test.YthjfiaomfngajaaDoorTY
import Derived.Test.YthjfiaomfngajaaDoorMG
namespace Go.Ab
open Go Go.Proofs
set_option linter.unusedVariables false
set_option linter.unusedSimpArgs false
set_option maxRecDepth 8000
set_option maxHeartbeats 4000000

noncomputable def B13 : Code := bodyOf Tryd.f13
theorem B13_eq : Tryd.f13.body = some B13 := by kernel_rfl
noncomputable def n13_0 : Code := B13
noncomputable def n13_1 : Code := codeAt B13 [0]
noncomputable def n13_2 : Code := codeAt B13 [1]
noncomputable def n13_3 : Code := codeAt B13 [1,0]
noncomputable def n13_4 : Code := codeAt B13 [1,1]
noncomputable def n13_5 : Code := codeAt B13 [1,1,0]
noncomputable def n13_6 : Code := codeAt B13 [1,1,1]
noncomputable def n13_7 : Code := codeAt B13 [1,1,1,0]
noncomputable def n13_8 : Code := codeAt B13 [1,1,1,1]
noncomputable def n13_9 : Code := codeAt B13 [1,1,1,1,0]
noncomputable def n13_10 : Code := codeAt B13 [1,1,1,1,1]
noncomputable def n13_11 : Code := codeAt B13 [1,1,1,1,1,0]
noncomputable def n13_12 : Code := codeAt B13 [1,1,1,1,1,0,0]
noncomputable def n13_13 : Code := codeAt B13 [1,1,1,1,1,0,1]
noncomputable def n13_14 : Code := codeAt B13 [1,1,1,1,1,0,1,0]
noncomputable def n13_15 : Code := codeAt B13 [1,1,1,1,1,0,1,0,0]
noncomputable def n13_16 : Code := codeAt B13 [1,1,1,1,1,0,1,0,0,0]
noncomputable def n13_17 : Code := codeAt B13 [1,1,1,1,1,0,1,0,0,1]
noncomputable def n13_18 : Code := codeAt B13 [1,1,1,1,1,0,1,0,0,1,0]
noncomputable def n13_19 : Code := codeAt B13 [1,1,1,1,1,0,1,0,0,1,0,0]
noncomputable def n13_20 : Code := codeAt B13 [1,1,1,1,1,0,1,0,0,1,0,1]
noncomputable def n13_21 : Code := codeAt B13 [1,1,1,1,1,0,1,0,0,1,1]
noncomputable def n13_22 : Code := codeAt B13 [1,1,1,1,1,0,1,0,0,1,1,0]
noncomputable def n13_23 : Code := codeAt B13 [1,1,1,1,1,0,1,0,0,1,1,0,0]
noncomputable def n13_24 : Code := codeAt B13 [1,1,1,1,1,0,1,0,0,1,1,0,0,0]
noncomputable def n13_25 : Code := codeAt B13 [1,1,1,1,1,0,1,0,0,1,1,0,0,1]
noncomputable def n13_26 : Code := codeAt B13 [1,1,1,1,1,0,1,0,0,1,1,1]
noncomputable def n13_27 : Code := codeAt B13 [1,1,1,1,1,1]
noncomputable def n13_28 : Code := codeAt B13 [1,1,1,1,1,1,0]
noncomputable def n13_29 : Code := codeAt B13 [1,1,1,1,1,1,1]
theorem e13_0 : n13_0 = .seq n13_1 n13_2 := rfl
noncomputable def r13_1 := opsAt n13_1
theorem e13_1 : n13_1 = .region 0 (r13_1).toArray false := rfl
theorem e13_2 : n13_2 = .seq n13_3 n13_4 := rfl
noncomputable def r13_3 := opsAt n13_3
theorem e13_3 : n13_3 = .region 1 (r13_3).toArray false := rfl
theorem e13_4 : n13_4 = .seq n13_5 n13_6 := rfl
noncomputable def r13_5 := opsAt n13_5
theorem e13_5 : n13_5 = .region 2 (r13_5).toArray false := rfl
theorem e13_6 : n13_6 = .seq n13_7 n13_8 := rfl
noncomputable def r13_7 := opsAt n13_7
theorem e13_7 : n13_7 = .region 3 (r13_7).toArray false := rfl
theorem e13_8 : n13_8 = .seq n13_9 n13_10 := rfl
noncomputable def r13_9 := opsAt n13_9
theorem e13_9 : n13_9 = .region 4 (r13_9).toArray false := rfl
theorem e13_10 : n13_10 = .seq n13_11 n13_27 := rfl
theorem e13_11 : n13_11 = .seq n13_12 n13_13 := rfl
noncomputable def r13_12 := opsAt n13_12
theorem e13_12 : n13_12 = .region 5 (r13_12).toArray false := rfl
theorem e13_13 : n13_13 = .block 0 n13_14 := rfl
theorem e13_14 : n13_14 = .loop n13_15 := rfl
theorem e13_15 : n13_15 = .seq n13_16 n13_17 := rfl
noncomputable def r13_16 := opsAt n13_16
theorem e13_16 : n13_16 = .region 6 (r13_16).toArray false := rfl
theorem e13_17 : n13_17 = .seq n13_18 n13_21 := rfl
theorem e13_18 : n13_18 = .cond (.tmp 21) n13_19 n13_20 := rfl
theorem e13_19 : n13_19 = .skip := rfl
theorem e13_20 : n13_20 = .exit 0 := rfl
theorem e13_21 : n13_21 = .seq n13_22 n13_26 := rfl
theorem e13_22 : n13_22 = .block 1 n13_23 := rfl
theorem e13_23 : n13_23 = .seq n13_24 n13_25 := rfl
noncomputable def r13_24 := opsAt n13_24
theorem e13_24 : n13_24 = .region 7 (r13_24).toArray false := rfl
noncomputable def r13_25 := opsAt n13_25
theorem e13_25 : n13_25 = .region 8 (r13_25).toArray false := rfl
noncomputable def r13_26 := opsAt n13_26
theorem e13_26 : n13_26 = .region 9 (r13_26).toArray false := rfl
theorem e13_27 : n13_27 = .seq n13_28 n13_29 := rfl
noncomputable def r13_28 := opsAt n13_28
theorem e13_28 : n13_28 = .region 10 (r13_28).toArray false := rfl
theorem e13_29 : n13_29 = .ret := rfl
theorem f_sha_Pad : PureOk Tryd.prog 13 sPad := by
  refine pureOk_of (c := n13_0) (Γ := conOf []) (conOf_ok (conOf_end)) mixed Tryd.func13 B13_eq (by decide +kernel) Tryd.call13 ?_
  intro args hS
  unfold sPad at hS ⊢
  split at hS
  · refine ⟨by rw [Tryd.ntmps13]; simp, vC_sound ?_⟩
    rename_i x
    obtain ⟨n, ln, rfl⟩ := isul_out hS
    simp only [ulv_ul, Nat.mod_eq_of_lt ln]
    have hz : (55 + (18446744073709551616 - n)) % 64 = padz n := by rw [padz_eq]; omega
    have hzl := padz_lt n
    clear hS
    simp only [entry_cons, entry_nil, Nat.reduceAdd]
    repeat' (first
      | (with_reducible first | apply seqC_normal | apply blockC_normal | apply seqC_exit | apply blockC_hit | apply seqC_ret | apply blockC_ret | apply loopC_ret | apply loopC_exit)
      | ((with_reducible apply blockC_miss); (exact rfl))
      | ((with_reducible apply wC_seq e13_0; apply wC_region e13_1); refine vOps_open (l := _ :: _) rfl ?_)
      | ((with_reducible apply wC_seq e13_2; apply wC_region e13_3); refine vOps_open (l := _ :: _) rfl ?_)
      | ((with_reducible apply wC_seq e13_4; apply wC_region e13_5); refine vOps_open (l := _ :: _) rfl ?_)
      | ((with_reducible apply wC_seq e13_6; apply wC_region e13_7); refine vOps_open (l := _ :: _) rfl ?_)
      | ((with_reducible apply wC_seq e13_8; apply wC_region e13_9); refine vOps_open (l := _ :: _) rfl ?_)
      | ((with_reducible apply wC_seq e13_10; apply wC_seq e13_11; apply wC_region e13_12); refine vOps_open (l := _ :: _) rfl ?_)
      | ((with_reducible apply wC_block e13_13))
      | ((with_reducible apply wC_seq e13_27; apply wC_region e13_28); refine vOps_open (l := _ :: _) rfl ?_)
      | ((with_reducible apply wC_ret e13_29))
      | ((with_reducible apply vOps_nil); try (with_reducible refine And.intro (by kernel_rfl) ?_))
      | (refine kOps_gon (g := ?_) (p := ?_) rfl rfl ?_ ?_ ?_ ?_; rotate_left 2; fail; (exact rfl); (with_reducible rfl))
      | (refine kOps_gofft (g := ?_) (p := ?_) rfl rfl ?_ ?_ ?_ ?_; rotate_left 2; fail; (exact rfl); (with_reducible rfl))
      | (refine kOps_gofff (g := ?_) (p := ?_) rfl rfl ?_ ?_ ?_ ?_; rotate_left 2; fail; (exact rfl); (with_reducible rfl))
      | (refine kOps_pickt rfl rfl rfl rfl ?_ rfl ?_; (with_reducible rfl))
      | (refine kOps_pickf rfl rfl rfl rfl ?_ rfl ?_; (with_reducible rfl))
      | (refine kOps_as rfl rfl rfl rfl ?_)
      | (refine kOps_mv rfl rfl rfl rfl ?_)
      | (refine kOps_bin (b := .sub) (pre := ?_) (val := ?_) rfl rfl rfl rfl rfl ?_ ?_ ?_; rotate_left 2; (intro L; simp only [q5, Nat.mod_eq_of_lt ln, hz, lit128, padI_zero, lit_ul0, lit_ul1, lc_8, lc_55, lc_64, sub_ul, binF_sub, Int.reduceAdd, Int.reduceSub, Int.reduceMul, Int.reduceNeg, Int.sub_zero, Int.cast_ofNat_Int, ne_eq, Int.reduceLT, Int.reduceLE, Int.reduceEq, Nat.reduceMod, Nat.reduceLT, decide_true, decide_false, ty28]; (first | (rw [wrap_i64] <;> first | omega | rfl) | (rw [wrap_u8] <;> first | omega | rfl) | (rw [wrap_u16] <;> first | omega | rfl) | (rw [wrap_u32] <;> first | omega | rfl) | rfl)); exact trivial)
      | (refine kOps_bin (b := .rem) (pre := ?_) (val := ?_) rfl rfl rfl rfl rfl ?_ ?_ ?_; rotate_left 2; (intro L; simp only [q5, Nat.mod_eq_of_lt ln, hz, lit128, padI_zero, lit_ul0, lit_ul1, lc_8, lc_55, lc_64, rem_ul64, Int.reduceAdd, Int.reduceSub, Int.reduceMul, Int.reduceNeg, Int.sub_zero, Int.cast_ofNat_Int, ne_eq, Int.reduceLT, Int.reduceLE, Int.reduceEq, Nat.reduceMod, Nat.reduceLT, decide_true, decide_false, ty28]; (first | (rw [wrap_i64] <;> first | omega | rfl) | (rw [wrap_u8] <;> first | omega | rfl) | (rw [wrap_u16] <;> first | omega | rfl) | (rw [wrap_u32] <;> first | omega | rfl) | rfl)); (focus ((repeat' apply And.intro) <;> first | exact True.intro | omega | (with_reducible rfl) | assumption | (simp only [lnb]; omega) | (simp only [q1]; done) | (simp only [q4, lnb, and_self, true_and, Nat.le_refl, Nat.reduceAdd, Nat.zero_add]; done) | exact (isByte_bv _).2 trivial | exact one_bv _ | (simp [PV.one, one_bv, closedL_bv, flatL_bv, closedL, closed, isByte_bv, PV.cells]; done) | exact ⟨_, rfl⟩ | (simp only [q2]; done) | (simp only [len_cl]; omega) | (simp [Value.cells, Value.oneCell']; done))))
      | (refine kOps_bin (b := .mul) (pre := ?_) (val := ?_) rfl rfl rfl rfl rfl ?_ ?_ ?_; rotate_left 2; (intro L; simp only [q5, Nat.mod_eq_of_lt ln, hz, lit128, padI_zero, lit_ul0, lit_ul1, lc_8, lc_55, lc_64, mul_ul, binF_mul, Int.reduceAdd, Int.reduceSub, Int.reduceMul, Int.reduceNeg, Int.sub_zero, Int.cast_ofNat_Int, ne_eq, Int.reduceLT, Int.reduceLE, Int.reduceEq, Nat.reduceMod, Nat.reduceLT, decide_true, decide_false, ty28]; (first | (rw [wrap_i64] <;> first | omega | rfl) | (rw [wrap_u8] <;> first | omega | rfl) | (rw [wrap_u16] <;> first | omega | rfl) | (rw [wrap_u32] <;> first | omega | rfl) | rfl)); exact trivial)
      | (refine kOps_bin (b := .add) (pre := ?_) (val := ?_) rfl rfl rfl rfl rfl ?_ ?_ ?_; rotate_left 2; (intro L; simp only [q5, Nat.mod_eq_of_lt ln, hz, lit128, padI_zero, lit_ul0, lit_ul1, lc_8, lc_55, lc_64, add_ul, binF_add, Int.reduceAdd, Int.reduceSub, Int.reduceMul, Int.reduceNeg, Int.sub_zero, Int.cast_ofNat_Int, ne_eq, Int.reduceLT, Int.reduceLE, Int.reduceEq, Nat.reduceMod, Nat.reduceLT, decide_true, decide_false, ty28]; (first | (rw [wrap_i64] <;> first | omega | rfl) | (rw [wrap_u8] <;> first | omega | rfl) | (rw [wrap_u16] <;> first | omega | rfl) | (rw [wrap_u32] <;> first | omega | rfl) | rfl)); exact trivial)
      | (refine kOps_mk (d := 17) (l := 1 + padz n) (c := 1 + padz n + 8) rfl rfl rfl rfl rfl rfl ty29 ty5 (by simp only [↓List.length_append, ↓List.length_set, ↓List.length_cons, List.length_nil, Nat.reduceAdd, Nat.zero_add]; rfl) (by exact ul_lit (by omega)) (by exact ul_lit (by omega)) (by first | rfl | assumption | omega | (simp only [lnb]; first | omega | done)) ?_)
      | ((first | (refine kOps_ixas (off' := ?_) rfl rfl rfl rfl rfl rfl ty29 ty5 ?_ ?_ ?_; rotate_left 1; (simp only [q5, Nat.mod_eq_of_lt ln, hz, lit128, padI_zero, Nat.zero_add, n_add_zero, Nat.mul_one, Nat.one_mul, Int.toNat_natCast, Int.reduceToNat, Int.toNat_zero, Nat.reduceMul, Nat.reduceAdd]; rfl)) | (refine kOps_ixar (cs' := ?_) rfl rfl rfl rfl rfl ty29 ty5 ?_ ?_ ?_; rotate_left 1; (simp only [q5, Nat.mod_eq_of_lt ln, hz, lit128, padI_zero, elemAt, isAggD, Bool.false_eq_true, if_false, if_true, reduceIte, take_cl, agg_cl, len_cl, List.drop_zero, Int.toNat_natCast, Int.reduceToNat, Int.toNat_zero, n_add_zero, Nat.mul_one, Nat.zero_add, Nat.reduceAdd, Nat.reduceMul, take_bytes, List.length_map, List.getD_cons_zero]; rfl))); (focus ((repeat' apply And.intro) <;> first | exact True.intro | omega | (with_reducible rfl) | assumption | (simp only [lnb]; omega) | (simp only [q1]; done) | (simp only [q4, lnb, and_self, true_and, Nat.le_refl, Nat.reduceAdd, Nat.zero_add]; done) | exact (isByte_bv _).2 trivial | exact one_bv _ | (simp [PV.one, one_bv, closedL_bv, flatL_bv, closedL, closed, isByte_bv, PV.cells]; done) | exact ⟨_, rfl⟩ | (simp only [q2]; done) | (simp only [len_cl]; omega) | (simp [Value.cells, Value.oneCell']; done))))
      | (refine kOps_store (cs' := ?_) rfl rfl rfl rfl rfl rfl rfl ty5 ?_ ?_ ?_; rotate_left 1; (simp only [q5, Nat.mod_eq_of_lt ln, hz, lit128, padI_zero, lit_ul0, lit_ul1, lc_8, lc_55, lc_64, cells_ul, cells_u4, isAggD, Bool.false_eq_true, if_false, if_true, reduceIte, take_cl, agg_cl, len_cl, List.drop_zero, Int.toNat_natCast, Int.reduceToNat, Int.toNat_zero, n_add_zero, Nat.mul_one, Nat.zero_add, Nat.reduceAdd, Nat.reduceMul, take_bytes, List.length_map, List.getD_cons_zero]; rfl); (focus (first | (simp only [lit_ul0, lit_ul1, lc_8, lc_55, lc_64, cells_ul, cells_u4, cells_bv, List.length_cons, List.length_nil, len_cl, List.length_set, List.length_map, Nat.reduceAdd, Nat.zero_add, List.all_cons, List.all_nil, one_ul, one_cl, one_bv, PV.one, Value.oneCell', Bool.and_self, Nat.reduceLeDiff, Nat.le_refl, and_self, true_and, and_true]; done) | ((try simp only [lit_ul0, lit_ul1, lc_8, lc_55, lc_64, cells_ul, cells_u4, cells_bv]); (focus ((repeat' apply And.intro) <;> first | exact True.intro | omega | (with_reducible rfl) | assumption | (simp only [lnb]; omega) | (simp only [q1]; done) | (simp only [q4, lnb, and_self, true_and, Nat.le_refl, Nat.reduceAdd, Nat.zero_add]; done) | exact (isByte_bv _).2 trivial | exact one_bv _ | (simp [PV.one, one_bv, closedL_bv, flatL_bv, closedL, closed, isByte_bv, PV.cells]; done) | exact ⟨_, rfl⟩ | (simp only [q2]; done) | (simp only [len_cl]; omega) | (simp [Value.cells, Value.oneCell']; done)))))))
      | (refine vOps_gundef rfl rfl ?_ ?_; (focus (simp only [lookup_cons, Nat.reduceBEq, cond_true, cond_false]; done)); simp only [putIn])
      | (refine vOps_gpick (t := ?_) (val := ?_) rfl rfl ?_ rfl rfl ?_ ?_ ?_; rotate_left 2; (focus (simp only [lookup_cons, Nat.reduceBEq, cond_true, cond_false]; done)); (simp only [evalIn_tmp, evalIn_const, lookup_cons, Nat.reduceBEq, cond_true, cond_false]; rfl); (simp only [evalIn_tmp, evalIn_const, lookup_cons, Nat.reduceBEq, cond_true, cond_false]; rfl))
      | (refine vOps_pick (t := ?_) (val := ?_) rfl rfl rfl ?_ ?_ ?_; rotate_left 2; (simp only [evalIn_tmp, evalIn_const, lookup_cons, Nat.reduceBEq, cond_true, cond_false]; rfl); (simp only [evalIn_tmp, evalIn_const, lookup_cons, Nat.reduceBEq, cond_true, cond_false]; rfl))
      | (refine vOps_fork (b := ?_) rfl rfl ?_ ?_ ?_; rotate_left 1; (simp only [lookup_cons, Nat.reduceBEq, cond_true, cond_false]; rfl); all_goals (intro hb; simp only [hb]; (try simp only [decide_eq_true_eq, decide_eq_false_iff_not] at hb); try (exfalso; first | omega | exact hb trivial)))
      | (refine vOps_forkp (b := ?_) rfl ?_ ?_ ?_; rotate_left 1; (simp only [evalIn_tmp, lookup_cons, Nat.reduceBEq, cond_true, cond_false]; rfl); all_goals (intro hb; simp only [hb]; (try simp only [decide_eq_true_eq, decide_eq_false_iff_not] at hb); try (exfalso; first | omega | exact hb trivial))))
    refine wC_loopI (ι := {i : Nat // i ≤ 8}) e13_14 (fun i => ([(4, ul (8 * n)), (5, .own 0 0 (1 + padz n + i.1) 1), (20, .lit (.int .i64 (i.1 : Int)))], [.cells ((padI n i.1).map bv)])) (fun i => 8 - i.1) ⟨0, by omega⟩ [0] ?_ ?_
    · show Weak _ _ _ _ _ _
      refine weak_mk (fun i h => absurd h (Nat.not_lt_zero i)) (by decide) (by simp) ?_ ?_
      · simp only [RenRows, List.nil_append, List.cons_append, List.set_cons_zero, List.set_cons_succ, List.getElem?_cons_zero, List.getElem?_cons_succ, Option.some.injEq, LE.cells.injEq, closedL_bv, closedL_wr, and_true, true_and]
        all_goals (rfl)
      · simp only [RenEnv, lookup_cons, Nat.reduceBEq, cond_true, cond_false]
        (repeat' apply And.intro) <;> first | trivial | exact ren_keep rfl | exact ren_keep (closed_u4 _) | (refine ren_int ?_; omega) | (refine ren_own rfl ?_; first | rfl | omega | (simp; done) | (omega; done)) | (refine ren_int ?_; omega; done) | (refine ren_int ?_; simp; done) | (refine ren_keep ?_; simp only [closed, closedL_bv, closedL_wr]; done) | (refine ren_ptr rfl; done)
    · rintro ⟨i, hi⟩
      dsimp only
      have p7 : (8 * (7 - (i : Int))).toNat = 8 * (7 - i) := by omega
      repeat' (first
        | (with_reducible first | apply seqC_normal | apply blockC_normal | apply seqC_exit | apply blockC_hit | apply seqC_ret | apply blockC_ret | apply loopC_ret | apply loopC_exit)
        | ((with_reducible apply blockC_miss); (exact rfl))
        | ((with_reducible apply wC_seq e13_15; apply wC_region e13_16); refine vOps_open (l := _ :: _) rfl ?_)
        | ((with_reducible apply wC_seq e13_17; apply kC_cond e13_18); (exact rfl); all_goals (intro hb; first | (cases hb; done) | cases hb | ((try simp only [decide_eq_true_eq, decide_eq_false_iff_not, Bool.not_eq_true', Bool.not_eq_false'] at hb); try (exfalso; first | omega | exact hb trivial))))
        | ((with_reducible apply wC_skip e13_19))
        | ((with_reducible apply wC_exit e13_20))
        | ((with_reducible apply wC_seq e13_21; apply wC_block e13_22; apply wC_seq e13_23; apply wC_region e13_24); refine vOps_open (l := _ :: _) rfl ?_)
        | ((with_reducible apply wC_region e13_25); refine vOps_open (l := _ :: _) rfl ?_)
        | ((with_reducible apply wC_region e13_26); refine vOps_open (l := _ :: _) rfl ?_)
        | ((with_reducible apply wC_seq e13_27; apply wC_region e13_28); refine vOps_open (l := _ :: _) rfl ?_)
        | ((with_reducible apply wC_ret e13_29))
        | ((with_reducible apply vOps_nil); try (with_reducible refine And.intro (by kernel_rfl) ?_))
        | (refine kOps_gon (g := ?_) (p := ?_) rfl rfl ?_ ?_ ?_ ?_; rotate_left 2; fail; (exact rfl); (with_reducible rfl))
        | (refine kOps_gofft (g := ?_) (p := ?_) rfl rfl ?_ ?_ ?_ ?_; rotate_left 2; fail; (exact rfl); (with_reducible rfl))
        | (refine kOps_gofff (g := ?_) (p := ?_) rfl rfl ?_ ?_ ?_ ?_; rotate_left 2; fail; (exact rfl); (with_reducible rfl))
        | (refine kOps_pickt rfl rfl rfl rfl ?_ rfl ?_; (with_reducible rfl))
        | (refine kOps_pickf rfl rfl rfl rfl ?_ rfl ?_; (with_reducible rfl))
        | (refine kOps_bin (b := .lss) (pre := ?_) (val := ?_) rfl rfl rfl rfl rfl ?_ ?_ ?_; rotate_left 2; (intro L; simp only [q5, Nat.mod_eq_of_lt ln, hz, lit128, padI_zero, p7, lit_ul0, lit_ul1, lc_8, lc_55, lc_64, lss_ul, binF_lss, Int.reduceAdd, Int.reduceSub, Int.reduceMul, Int.reduceNeg, Int.sub_zero, Int.cast_ofNat_Int, ne_eq, Int.reduceLT, Int.reduceLE, Int.reduceEq, Nat.reduceMod, Nat.reduceLT, decide_true, decide_false, ty3]; (first | (rw [wrap_i64] <;> first | omega | rfl) | (rw [wrap_u8] <;> first | omega | rfl) | (rw [wrap_u16] <;> first | omega | rfl) | (rw [wrap_u32] <;> first | omega | rfl) | rfl)); exact trivial)
        | (refine kOps_mv rfl rfl rfl rfl ?_)
        | (refine kOps_as rfl rfl rfl rfl ?_)
        | (refine kOps_bin (b := .sub) (pre := ?_) (val := ?_) rfl rfl rfl rfl rfl ?_ ?_ ?_; rotate_left 2; (intro L; simp only [q5, Nat.mod_eq_of_lt ln, hz, lit128, padI_zero, p7, lit_ul0, lit_ul1, lc_8, lc_55, lc_64, sub_ul, binF_sub, Int.reduceAdd, Int.reduceSub, Int.reduceMul, Int.reduceNeg, Int.sub_zero, Int.cast_ofNat_Int, ne_eq, Int.reduceLT, Int.reduceLE, Int.reduceEq, Nat.reduceMod, Nat.reduceLT, decide_true, decide_false, ty3]; (first | (rw [wrap_i64] <;> first | omega | rfl) | (rw [wrap_u8] <;> first | omega | rfl) | (rw [wrap_u16] <;> first | omega | rfl) | (rw [wrap_u32] <;> first | omega | rfl) | rfl)); exact trivial)
        | (refine kOps_bin (b := .mul) (pre := ?_) (val := ?_) rfl rfl rfl rfl rfl ?_ ?_ ?_; rotate_left 2; (intro L; simp only [q5, Nat.mod_eq_of_lt ln, hz, lit128, padI_zero, p7, lit_ul0, lit_ul1, lc_8, lc_55, lc_64, mul_ul, binF_mul, Int.reduceAdd, Int.reduceSub, Int.reduceMul, Int.reduceNeg, Int.sub_zero, Int.cast_ofNat_Int, ne_eq, Int.reduceLT, Int.reduceLE, Int.reduceEq, Nat.reduceMod, Nat.reduceLT, decide_true, decide_false, ty3]; (first | (rw [wrap_i64] <;> first | omega | rfl) | (rw [wrap_u8] <;> first | omega | rfl) | (rw [wrap_u16] <;> first | omega | rfl) | (rw [wrap_u32] <;> first | omega | rfl) | rfl)); exact trivial)
        | (refine kOps_bin (b := .shr) (pre := ?_) (val := ?_) rfl rfl rfl rfl rfl ?_ ?_ ?_; rotate_left 2; (intro L; simp only [q5, Nat.mod_eq_of_lt ln, hz, lit128, padI_zero, p7, lit_ul0, lit_ul1, lc_8, lc_55, lc_64, shr_z, shr_ul, binF_shr, Int.reduceAdd, Int.reduceSub, Int.reduceMul, Int.reduceNeg, Int.sub_zero, Int.cast_ofNat_Int, ne_eq, Int.reduceLT, Int.reduceLE, Int.reduceEq, Nat.reduceMod, Nat.reduceLT, decide_true, decide_false, ty28]; (first | (rw [wrap_i64] <;> first | omega | rfl) | (rw [wrap_u8] <;> first | omega | rfl) | (rw [wrap_u16] <;> first | omega | rfl) | (rw [wrap_u32] <;> first | omega | rfl) | rfl)); (focus ((repeat' apply And.intro) <;> first | exact True.intro | omega | (with_reducible rfl) | assumption | (simp only [lnb]; omega) | (simp only [q1]; done) | (simp only [q4, lnb, and_self, true_and, Nat.le_refl, Nat.reduceAdd, Nat.zero_add]; done) | exact (isByte_bv _).2 trivial | exact one_bv _ | (simp [PV.one, one_bv, closedL_bv, flatL_bv, closedL, closed, isByte_bv, PV.cells]; done) | exact ⟨_, rfl⟩ | (simp only [q2]; done) | (simp only [len_cl]; omega) | (simp [Value.cells, Value.oneCell']; done))))
        | (refine kOps_conv (s := 28) (t := 5) (pre := ?_) (val := ?_) rfl rfl rfl rfl ?_ ?_ ?_; rotate_left 2; (intro L; simp only [q5, Nat.mod_eq_of_lt ln, hz, lit128, padI_zero, p7, cv_28_5, cw_28_5]; first | rfl | (first | (rw [wrap_i64] <;> first | omega | rfl) | (rw [wrap_u8] <;> first | omega | rfl) | (rw [wrap_u16] <;> first | omega | rfl) | (rw [wrap_u32] <;> first | omega | rfl) | rfl)); exact trivial)
        | ((first | refine kOps_bsl (d := 30) (ps := ([_] : List UInt8).map bv) rfl rfl rfl rfl rfl (rfl) ty29 ty5 rfl rfl (by decide) (by simp only [↓List.length_append, ↓List.length_set, ↓List.length_cons, List.length_nil, Nat.reduceAdd, Nat.zero_add]; rfl) (by simp only [List.length_map, List.length_cons, List.length_nil, Nat.reduceAdd, Nat.zero_add]) (by decide) (by decide) (by exact one_cells_bv) ?_ | refine kOps_bsd (d := 30) (ps := ([_] : List UInt8).map bv) rfl rfl rfl rfl rfl (rfl) ty29 ty5 rfl rfl (by decide) (by simp only [List.length_map, List.length_cons, List.length_nil, Nat.reduceAdd, Nat.zero_add]) (by decide) (by decide) (by exact one_cells_bv) ?_))
        | (refine kOps_app (d := 31) rfl rfl rfl rfl rfl rfl ty29 ty29 ty5 (by first | exact app_nil | (refine app_own rfl ?_; (first | rfl | assumption | omega | (simp only [lnb]; first | omega | done)))) (by first | exact byt_nil | (refine byt_ro ?_; (first | rfl | assumption | omega | (simp only [lnb]; first | omega | done))) | (refine byt_own rfl ?_; (first | rfl | assumption | omega | (simp only [lnb]; first | omega | done))) | (refine byt_part rfl ?_ rfl; (first | rfl | assumption | omega | (simp only [lnb]; first | omega | done)))) (by simp only [↓List.length_append, ↓List.length_set, ↓List.length_cons, List.length_nil, Nat.reduceAdd, Nat.zero_add]; rfl) (by simp only [kill, List.set_cons_zero, List.set_cons_succ, List.cons_append, List.nil_append]; rfl) (by first | rfl | assumption | omega | (simp only [lnb]; first | omega | done)) ?_)
        | (refine kOps_bin (b := .add) (pre := ?_) (val := ?_) rfl rfl rfl rfl rfl ?_ ?_ ?_; rotate_left 2; (intro L; simp only [q5, Nat.mod_eq_of_lt ln, hz, lit128, padI_zero, p7, lit_ul0, lit_ul1, lc_8, lc_55, lc_64, add_ul, binF_add, Int.reduceAdd, Int.reduceSub, Int.reduceMul, Int.reduceNeg, Int.sub_zero, Int.cast_ofNat_Int, ne_eq, Int.reduceLT, Int.reduceLE, Int.reduceEq, Nat.reduceMod, Nat.reduceLT, decide_true, decide_false, ty3]; (first | (rw [wrap_i64] <;> first | omega | rfl) | (rw [wrap_u8] <;> first | omega | rfl) | (rw [wrap_u16] <;> first | omega | rfl) | (rw [wrap_u32] <;> first | omega | rfl) | rfl)); exact trivial)
        | (refine vOps_gundef rfl rfl ?_ ?_; (focus (simp only [lookup_cons, Nat.reduceBEq, cond_true, cond_false]; done)); simp only [putIn])
        | (refine vOps_gpick (t := ?_) (val := ?_) rfl rfl ?_ rfl rfl ?_ ?_ ?_; rotate_left 2; (focus (simp only [lookup_cons, Nat.reduceBEq, cond_true, cond_false]; done)); (simp only [evalIn_tmp, evalIn_const, lookup_cons, Nat.reduceBEq, cond_true, cond_false]; rfl); (simp only [evalIn_tmp, evalIn_const, lookup_cons, Nat.reduceBEq, cond_true, cond_false]; rfl))
        | (refine vOps_pick (t := ?_) (val := ?_) rfl rfl rfl ?_ ?_ ?_; rotate_left 2; (simp only [evalIn_tmp, evalIn_const, lookup_cons, Nat.reduceBEq, cond_true, cond_false]; rfl); (simp only [evalIn_tmp, evalIn_const, lookup_cons, Nat.reduceBEq, cond_true, cond_false]; rfl))
        | (refine vOps_fork (b := ?_) rfl rfl ?_ ?_ ?_; rotate_left 1; (simp only [lookup_cons, Nat.reduceBEq, cond_true, cond_false]; rfl); all_goals (intro hb; simp only [hb]; (try simp only [decide_eq_true_eq, decide_eq_false_iff_not] at hb); try (exfalso; first | omega | exact hb trivial)))
        | (refine vOps_forkp (b := ?_) rfl ?_ ?_ ?_; rotate_left 1; (simp only [evalIn_tmp, lookup_cons, Nat.reduceBEq, cond_true, cond_false]; rfl); all_goals (intro hb; simp only [hb]; (try simp only [decide_eq_true_eq, decide_eq_false_iff_not] at hb); try (exfalso; first | omega | exact hb trivial))))
      · refine loopC_normal ⟨i + 1, by omega⟩ [2] (by show 8 - (i + 1) < 8 - i; omega) ?_
        refine weak_mk (fun i h => absurd h (Nat.not_lt_zero i)) (by decide) (by simp) ?_ ?_
        · simp only [RenRows, List.nil_append, List.cons_append, List.set_cons_zero, List.set_cons_succ, List.getElem?_cons_zero, List.getElem?_cons_succ, Option.some.injEq, LE.cells.injEq, closedL_bv, closedL_wr, and_true, true_and]
          all_goals (exact bs_congr (padI_step (by omega)))
        · simp only [RenEnv, lookup_cons, Nat.reduceBEq, cond_true, cond_false]
          (repeat' apply And.intro) <;> first | trivial | exact ren_keep rfl | exact ren_keep (closed_u4 _) | (refine ren_int ?_; omega) | (refine ren_own rfl ?_; first | rfl | omega | (simp; done) | (simp only [lnb]; omega; done)) | (refine ren_int ?_; omega; done) | (refine ren_int ?_; simp; done) | (refine ren_keep ?_; simp only [closed, closedL_bv, closedL_wr]; done) | (refine ren_ptr rfl; done)
      · obtain rfl : i = 8 := by omega
        rw [← padI_all]
        exact fin_new (by simp) rfl rfl rfl (by rw [len_padI]; rfl)

  · exact hS.elim
end Go.Ab
