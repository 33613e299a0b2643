import Derived.Test.YthjfiaomfngajaaDoorTY
import Derived.Test.YthjfiaomfngajaaDoorMG
namespace Go.Ab
open Go Go.Proofs
set_option linter.unusedVariables false
set_option linter.unusedSimpArgs false
set_option maxRecDepth 8000
set_option maxHeartbeats 4000000

noncomputable def B33 : Code := bodyOf Tryd.f33
theorem B33_eq : Tryd.f33.body = some B33 := by kernel_rfl
noncomputable def n33_0 : Code := B33
noncomputable def n33_1 : Code := codeAt B33 [0]
noncomputable def n33_2 : Code := codeAt B33 [1]
noncomputable def n33_3 : Code := codeAt B33 [1,0]
noncomputable def n33_4 : Code := codeAt B33 [1,0,0]
noncomputable def n33_5 : Code := codeAt B33 [1,0,1]
noncomputable def n33_6 : Code := codeAt B33 [1,0,1,0]
noncomputable def n33_7 : Code := codeAt B33 [1,0,1,0,0]
noncomputable def n33_8 : Code := codeAt B33 [1,0,1,0,0,0]
noncomputable def n33_9 : Code := codeAt B33 [1,0,1,0,0,1]
noncomputable def n33_10 : Code := codeAt B33 [1,0,1,0,0,1,0]
noncomputable def n33_11 : Code := codeAt B33 [1,0,1,0,0,1,0,0]
noncomputable def n33_12 : Code := codeAt B33 [1,0,1,0,0,1,0,1]
noncomputable def n33_13 : Code := codeAt B33 [1,0,1,0,0,1,1]
noncomputable def n33_14 : Code := codeAt B33 [1,0,1,0,0,1,1,0]
noncomputable def n33_15 : Code := codeAt B33 [1,0,1,0,0,1,1,0,0]
noncomputable def n33_16 : Code := codeAt B33 [1,0,1,0,0,1,1,0,0,0]
noncomputable def n33_17 : Code := codeAt B33 [1,0,1,0,0,1,1,0,0,1]
noncomputable def n33_18 : Code := codeAt B33 [1,0,1,0,0,1,1,1]
noncomputable def n33_19 : Code := codeAt B33 [1,1]
noncomputable def n33_20 : Code := codeAt B33 [1,1,0]
noncomputable def n33_21 : Code := codeAt B33 [1,1,1]
theorem e33_0 : n33_0 = .seq n33_1 n33_2 := rfl
noncomputable def r33_1 := opsAt n33_1
theorem e33_1 : n33_1 = .region 0 (r33_1).toArray false := rfl
theorem e33_2 : n33_2 = .seq n33_3 n33_19 := rfl
theorem e33_3 : n33_3 = .seq n33_4 n33_5 := rfl
noncomputable def r33_4 := opsAt n33_4
theorem e33_4 : n33_4 = .region 1 (r33_4).toArray false := rfl
theorem e33_5 : n33_5 = .block 0 n33_6 := rfl
theorem e33_6 : n33_6 = .loop n33_7 := rfl
theorem e33_7 : n33_7 = .seq n33_8 n33_9 := rfl
noncomputable def r33_8 := opsAt n33_8
theorem e33_8 : n33_8 = .region 2 (r33_8).toArray false := rfl
theorem e33_9 : n33_9 = .seq n33_10 n33_13 := rfl
theorem e33_10 : n33_10 = .cond (.tmp 7) n33_11 n33_12 := rfl
theorem e33_11 : n33_11 = .skip := rfl
theorem e33_12 : n33_12 = .exit 0 := rfl
theorem e33_13 : n33_13 = .seq n33_14 n33_18 := rfl
theorem e33_14 : n33_14 = .block 1 n33_15 := rfl
theorem e33_15 : n33_15 = .seq n33_16 n33_17 := rfl
noncomputable def r33_16 := opsAt n33_16
theorem e33_16 : n33_16 = .region 3 (r33_16).toArray false := rfl
noncomputable def r33_17 := opsAt n33_17
theorem e33_17 : n33_17 = .region 4 (r33_17).toArray false := rfl
noncomputable def r33_18 := opsAt n33_18
theorem e33_18 : n33_18 = .region 5 (r33_18).toArray false := rfl
theorem e33_19 : n33_19 = .seq n33_20 n33_21 := rfl
noncomputable def r33_20 := opsAt n33_20
theorem e33_20 : n33_20 = .region 6 (r33_20).toArray false := rfl
theorem e33_21 : n33_21 = .ret := rfl
theorem f_sha_masked : PureOk Tryd.prog 33 sMask := by
  refine pureOk_of (c := n33_0) (Γ := conOf []) (conOf_ok (conOf_end)) mixed Tryd.func33 B33_eq (by decide +kernel) Tryd.call33 ?_
  intro args hS
  unfold sMask at hS ⊢
  split at hS
  · refine ⟨by rw [Tryd.ntmps33]; simp, vC_sound ?_⟩
    rename_i cs x
    obtain ⟨hB, hu⟩ := hS
    obtain ⟨b, hb, rfl⟩ := isB_out hB
    obtain ⟨m, rfl⟩ := hu
    simp only [bytesOf_bv, byteOf_bv]
    have hl : b.length = 64 := hb.symm
    clear hB
    simp only [entry_cons, entry_nil, Nat.reduceAdd]
    repeat' (first
      | (with_reducible first | apply seqC_normal | apply blockC_normal | apply seqC_exit | apply blockC_hit | apply seqC_ret | apply blockC_ret | apply loopC_ret | apply loopC_exit)
      | ((with_reducible apply blockC_miss); (exact rfl))
      | ((with_reducible apply wC_seq e33_0; apply wC_region e33_1); refine vOps_open (l := _ :: _) rfl ?_; refine kOps_box (row := ?_) (n := ?_) rfl rfl rfl rfl rfl ?_ ?_ ?_ ?_; rotate_left 2; (simp only [↓List.length_append, ↓List.length_set, ↓List.length_cons, List.length_nil, Nat.reduceAdd, Nat.zero_add]; rfl); (simp only [q5, cells_ul, cells_u4]; rfl); (focus (first | rfl | exact one_cl _ _ | exact one_bv _ | (simp only [one_cl, one_ul, List.all_cons, List.all_nil, Bool.and_self, PV.one]; done) | (simp [PV.one, one_ul, one_cl, one_bv, Value.oneCell']; done))); refine kOps_as rfl rfl rfl rfl ?_; refine vOps_nil ?_; (with_reducible apply seqC_normal; apply wC_seq e33_2; apply wC_seq e33_3; apply wC_region e33_4); refine vOps_open (l := _ :: _) rfl ?_; refine kOps_mv rfl rfl rfl rfl ?_; refine vOps_nil ?_; (with_reducible apply seqC_normal; apply wC_block e33_5))
      | ((with_reducible apply wC_seq e33_19; apply wC_region e33_20); refine vOps_open (l := _ :: _) rfl ?_; (first | refine kOps_slp (d := 16) rfl rfl rfl rfl rfl ty24 ty5 rfl (by first | rfl | assumption | omega | (simp only [lnb]; first | omega | done)) ?_ | refine kOps_slq (d := 16) rfl rfl rfl rfl ty24 ty5 rfl (by refine ⟨?_, ?_⟩ <;> (first | rfl | assumption | omega | (simp only [lnb]; first | omega | done))) ?_); refine kOps_as rfl rfl rfl rfl ?_; refine vOps_nil ?_; (with_reducible apply seqC_normal; apply wC_ret e33_21)))
    refine wC_loopI (ι := {i : Nat // i ≤ 64}) e33_6 (fun i => ([(1, bv m), (2, .ptr 0 0), (6, .lit (.int .i64 (i.1 : Int)))], [.cells ((mix b.length (fun j => b.getD j 0) (fun j => b.getD j 0 ^^^ m) i.1).map bv)])) (fun i => 64 - i.1) ⟨0, by omega⟩ [0] ?_ ?_
    · show Weak _ _ _ _ _ _
      refine weak_mk (fun i h => absurd h (Nat.not_lt_zero i)) (by decide) (by simp) ?_ ?_
      · simp only [RenRows, List.nil_append, List.cons_append, List.set_cons_zero, List.set_cons_succ, List.getElem?_cons_zero, List.getElem?_cons_succ, Option.some.injEq, LE.cells.injEq, closedL_bv, closedL_wr, and_true, true_and]
        all_goals (exact bs_congr (mask_zero m b))
      · simp only [RenEnv, lookup_cons, Nat.reduceBEq, cond_true, cond_false]
        (repeat' apply And.intro) <;> first | trivial | exact ren_keep rfl | exact ren_keep (closed_u4 _) | (refine ren_int ?_; omega) | (refine ren_own rfl ?_; first | rfl | omega | (simp; done) | (omega; done)) | (refine ren_int ?_; omega; done) | (refine ren_int ?_; simp; done) | (refine ren_keep ?_; simp only [closed, closedL_bv, closedL_wr]; done) | (refine ren_ptr rfl; done)
    · rintro ⟨i, hi⟩
      dsimp only
      have hmx := len_mix b.length (fun j => b.getD j 0) (fun j => b.getD j 0 ^^^ m) i
      generalize hgx : mix b.length (fun j => b.getD j 0) (fun j => b.getD j 0 ^^^ m) i = X at *
      repeat' (first
        | (with_reducible first | apply seqC_normal | apply blockC_normal | apply seqC_exit | apply blockC_hit | apply seqC_ret | apply blockC_ret | apply loopC_ret | apply loopC_exit)
        | ((with_reducible apply blockC_miss); (exact rfl))
        | ((with_reducible apply wC_seq e33_7; apply wC_region e33_8); refine vOps_open (l := _ :: _) rfl ?_)
        | ((with_reducible apply wC_seq e33_9; apply kC_cond e33_10); (exact rfl); all_goals (intro hb; first | (cases hb; done) | cases hb | ((try simp only [decide_eq_true_eq, decide_eq_false_iff_not, Bool.not_eq_true', Bool.not_eq_false'] at hb); try (exfalso; first | omega | exact hb trivial))))
        | ((with_reducible apply wC_skip e33_11))
        | ((with_reducible apply wC_exit e33_12))
        | ((with_reducible apply wC_seq e33_13; apply wC_block e33_14; apply wC_seq e33_15; apply wC_region e33_16); refine vOps_open (l := _ :: _) rfl ?_)
        | ((with_reducible apply wC_region e33_17); refine vOps_open (l := _ :: _) rfl ?_)
        | ((with_reducible apply wC_region e33_18); refine vOps_open (l := _ :: _) rfl ?_)
        | ((with_reducible apply wC_seq e33_19; apply wC_region e33_20); refine vOps_open (l := _ :: _) rfl ?_)
        | ((with_reducible apply wC_ret e33_21))
        | ((with_reducible apply vOps_nil); try (with_reducible refine And.intro (by kernel_rfl) ?_))
        | (refine kOps_gon (g := ?_) (p := ?_) rfl rfl ?_ ?_ ?_ ?_; rotate_left 2; fail; (exact rfl); (with_reducible rfl))
        | (refine kOps_gofft (g := ?_) (p := ?_) rfl rfl ?_ ?_ ?_ ?_; rotate_left 2; fail; (exact rfl); (with_reducible rfl))
        | (refine kOps_gofff (g := ?_) (p := ?_) rfl rfl ?_ ?_ ?_ ?_; rotate_left 2; fail; (exact rfl); (with_reducible rfl))
        | (refine kOps_pickt rfl rfl rfl rfl ?_ rfl ?_; (with_reducible rfl))
        | (refine kOps_pickf rfl rfl rfl rfl ?_ rfl ?_; (with_reducible rfl))
        | (refine kOps_bin (b := .lss) (pre := ?_) (val := ?_) rfl rfl rfl rfl rfl ?_ ?_ ?_; rotate_left 2; (intro L; simp only [q5, Int.toNat_natCast, lit_ul0, lit_ul1, lss_ul, binF_lss, Int.reduceAdd, Int.reduceSub, Int.reduceMul, Int.reduceNeg, Int.sub_zero, Int.cast_ofNat_Int, ne_eq, Int.reduceLT, Int.reduceLE, Int.reduceEq, Nat.reduceMod, Nat.reduceLT, decide_true, decide_false, ty3]; (first | (rw [wrap_i64] <;> first | omega | rfl) | (rw [wrap_u8] <;> first | omega | rfl) | (rw [wrap_u16] <;> first | omega | rfl) | (rw [wrap_u32] <;> first | omega | rfl) | rfl)); exact trivial)
        | (refine kOps_mv rfl rfl rfl rfl ?_)
        | (refine kOps_as rfl rfl rfl rfl ?_)
        | ((first | (refine kOps_ixap (off' := ?_) rfl rfl rfl rfl rfl rfl ty24 ty5 ?_ ?_ ?_; rotate_left 1; (simp only [q5, Int.toNat_natCast, Nat.zero_add, n_add_zero, Nat.mul_one, Nat.one_mul, Int.reduceToNat, Int.toNat_zero, Nat.reduceMul, Nat.reduceAdd]; rfl)) | (refine kOps_ixaq (cs' := ?_) rfl rfl rfl rfl rfl ty24 ty5 ?_ ?_ ?_; rotate_left 1; (simp only [q5, Int.toNat_natCast, elemAt, isAggD, Bool.false_eq_true, if_false, if_true, reduceIte, take_cl, agg_cl, len_cl, List.drop_zero, Int.reduceToNat, Int.toNat_zero, n_add_zero, Nat.mul_one, Nat.zero_add, Nat.reduceAdd, Nat.reduceMul, take_bytes, List.length_map, List.getD_cons_zero]; rfl))); (focus ((repeat' apply And.intro) <;> first | exact True.intro | omega | (with_reducible rfl) | assumption | (simp only [lnb, hl, hmx]; omega) | (simp only [q1]; done) | (simp only [q4, lnb, hl, hmx, and_self, true_and, Nat.le_refl, Nat.reduceAdd, Nat.zero_add]; done) | exact (isByte_bv _).2 trivial | exact one_bv _ | (simp [PV.one, one_bv, closedL_bv, flatL_bv, closedL, closed, isByte_bv, PV.cells]; done) | exact ⟨_, rfl⟩ | (simp only [q2]; done) | (simp only [len_cl]; omega) | (simp [Value.cells, Value.oneCell']; done))))
        | ((first | refine kOps_loadp (pre := ?_) (val := ?_) rfl rfl rfl rfl rfl ty5 ?_ ?_ ?_ | refine kOps_loadr (pre := ?_) (val := ?_) rfl rfl rfl rfl ty5 ?_ ?_ ?_); rotate_left 2; (simp only [q5, Int.toNat_natCast, partF, isAggD, Bool.false_eq_true, if_false, if_true, reduceIte, take_cl, agg_cl, len_cl, List.drop_zero, Int.reduceToNat, Int.toNat_zero, n_add_zero, Nat.mul_one, Nat.zero_add, Nat.reduceAdd, Nat.reduceMul, take_bytes, List.length_map, List.getD_cons_zero]; rfl); (focus ((repeat' apply And.intro) <;> first | exact True.intro | omega | (with_reducible rfl) | assumption | (simp only [lnb, hl, hmx]; omega) | (simp only [q1]; done) | (simp only [q4, lnb, hl, hmx, and_self, true_and, Nat.le_refl, Nat.reduceAdd, Nat.zero_add]; done) | exact (isByte_bv _).2 trivial | exact one_bv _ | (simp [PV.one, one_bv, closedL_bv, flatL_bv, closedL, closed, isByte_bv, PV.cells]; done) | exact ⟨_, rfl⟩ | (simp only [q2]; done) | (simp only [len_cl]; omega) | (simp [Value.cells, Value.oneCell']; done))))
        | (refine kOps_bin (b := .xor) (pre := ?_) (val := ?_) rfl rfl rfl rfl rfl ?_ ?_ ?_; rotate_left 2; (intro L; simp only [q5, Int.toNat_natCast, lit_ul0, lit_ul1, xor_bv, binF_xor, Int.reduceAdd, Int.reduceSub, Int.reduceMul, Int.reduceNeg, Int.sub_zero, Int.cast_ofNat_Int, ne_eq, Int.reduceLT, Int.reduceLE, Int.reduceEq, Nat.reduceMod, Nat.reduceLT, decide_true, decide_false, ty5]; (first | (rw [wrap_i64] <;> first | omega | rfl) | (rw [wrap_u8] <;> first | omega | rfl) | (rw [wrap_u16] <;> first | omega | rfl) | (rw [wrap_u32] <;> first | omega | rfl) | rfl)); exact trivial)
        | (refine kOps_store (cs' := ?_) rfl rfl rfl rfl rfl rfl rfl ty5 ?_ ?_ ?_; rotate_left 1; (simp only [q5, Int.toNat_natCast, lit_ul0, lit_ul1, cells_ul, cells_u4, isAggD, Bool.false_eq_true, if_false, if_true, reduceIte, take_cl, agg_cl, len_cl, List.drop_zero, Int.reduceToNat, Int.toNat_zero, n_add_zero, Nat.mul_one, Nat.zero_add, Nat.reduceAdd, Nat.reduceMul, take_bytes, List.length_map, List.getD_cons_zero]; rfl); (focus (first | (simp only [lit_ul0, lit_ul1, cells_ul, cells_u4, cells_bv, List.length_cons, List.length_nil, len_cl, List.length_set, List.length_map, Nat.reduceAdd, Nat.zero_add, List.all_cons, List.all_nil, one_ul, one_cl, one_bv, PV.one, Value.oneCell', Bool.and_self, Nat.reduceLeDiff, Nat.le_refl, and_self, true_and, and_true]; done) | ((try simp only [lit_ul0, lit_ul1, cells_ul, cells_u4, cells_bv]); (focus ((repeat' apply And.intro) <;> first | exact True.intro | omega | (with_reducible rfl) | assumption | (simp only [lnb, hl, hmx]; omega) | (simp only [q1]; done) | (simp only [q4, lnb, hl, hmx, and_self, true_and, Nat.le_refl, Nat.reduceAdd, Nat.zero_add]; done) | exact (isByte_bv _).2 trivial | exact one_bv _ | (simp [PV.one, one_bv, closedL_bv, flatL_bv, closedL, closed, isByte_bv, PV.cells]; done) | exact ⟨_, rfl⟩ | (simp only [q2]; done) | (simp only [len_cl]; omega) | (simp [Value.cells, Value.oneCell']; done)))))))
        | (refine kOps_bin (b := .add) (pre := ?_) (val := ?_) rfl rfl rfl rfl rfl ?_ ?_ ?_; rotate_left 2; (intro L; simp only [q5, Int.toNat_natCast, lit_ul0, lit_ul1, add_ul, binF_add, Int.reduceAdd, Int.reduceSub, Int.reduceMul, Int.reduceNeg, Int.sub_zero, Int.cast_ofNat_Int, ne_eq, Int.reduceLT, Int.reduceLE, Int.reduceEq, Nat.reduceMod, Nat.reduceLT, decide_true, decide_false, ty3]; (first | (rw [wrap_i64] <;> first | omega | rfl) | (rw [wrap_u8] <;> first | omega | rfl) | (rw [wrap_u16] <;> first | omega | rfl) | (rw [wrap_u32] <;> first | omega | rfl) | rfl)); exact trivial)
        | ((first | refine kOps_slp (d := 16) rfl rfl rfl rfl rfl ty24 ty5 rfl (by first | rfl | assumption | omega | (simp only [lnb]; first | omega | done)) ?_ | refine kOps_slq (d := 16) rfl rfl rfl rfl ty24 ty5 rfl (by refine ⟨?_, ?_⟩ <;> (first | rfl | assumption | omega | (simp only [lnb]; first | omega | done))) ?_))
        | (refine vOps_gundef rfl rfl ?_ ?_; (focus (simp only [lookup_cons, Nat.reduceBEq, cond_true, cond_false]; done)); simp only [putIn])
        | (refine vOps_gpick (t := ?_) (val := ?_) rfl rfl ?_ rfl rfl ?_ ?_ ?_; rotate_left 2; (focus (simp only [lookup_cons, Nat.reduceBEq, cond_true, cond_false]; done)); (simp only [evalIn_tmp, evalIn_const, lookup_cons, Nat.reduceBEq, cond_true, cond_false]; rfl); (simp only [evalIn_tmp, evalIn_const, lookup_cons, Nat.reduceBEq, cond_true, cond_false]; rfl))
        | (refine vOps_pick (t := ?_) (val := ?_) rfl rfl rfl ?_ ?_ ?_; rotate_left 2; (simp only [evalIn_tmp, evalIn_const, lookup_cons, Nat.reduceBEq, cond_true, cond_false]; rfl); (simp only [evalIn_tmp, evalIn_const, lookup_cons, Nat.reduceBEq, cond_true, cond_false]; rfl))
        | (refine vOps_fork (b := ?_) rfl rfl ?_ ?_ ?_; rotate_left 1; (simp only [lookup_cons, Nat.reduceBEq, cond_true, cond_false]; rfl); all_goals (intro hb; simp only [hb]; (try simp only [decide_eq_true_eq, decide_eq_false_iff_not] at hb); try (exfalso; first | omega | exact hb trivial)))
        | (refine vOps_forkp (b := ?_) rfl ?_ ?_ ?_; rotate_left 1; (simp only [evalIn_tmp, lookup_cons, Nat.reduceBEq, cond_true, cond_false]; rfl); all_goals (intro hb; simp only [hb]; (try simp only [decide_eq_true_eq, decide_eq_false_iff_not] at hb); try (exfalso; first | omega | exact hb trivial))))
      · refine loopC_normal ⟨i + 1, by omega⟩ [0] (by show 64 - (i + 1) < 64 - i; omega) ?_
        refine weak_mk (fun i h => absurd h (Nat.not_lt_zero i)) (by decide) (by simp) ?_ ?_
        · simp only [RenRows, List.nil_append, List.cons_append, List.set_cons_zero, List.set_cons_succ, List.getElem?_cons_zero, List.getElem?_cons_succ, Option.some.injEq, LE.cells.injEq, closedL_bv, closedL_wr, and_true, true_and]
          all_goals ((subst hgx; exact bs_congr (mask_set (by omega))))
        · simp only [RenEnv, lookup_cons, Nat.reduceBEq, cond_true, cond_false]
          (repeat' apply And.intro) <;> first | trivial | exact ren_keep rfl | exact ren_keep (closed_u4 _) | (refine ren_int ?_; omega) | (refine ren_own rfl ?_; first | rfl | omega | (simp; done) | (omega; done)) | (refine ren_int ?_; omega; done) | (refine ren_int ?_; simp; done) | (refine ren_keep ?_; simp only [closed, closedL_bv, closedL_wr]; done) | (refine ren_ptr rfl; done)
      · obtain rfl : i = 64 := by omega
        have hX : X = mask m b := by rw [← hgx, ← mask_all, hl]
        subst hX
        exact fin_new (by simp) rfl rfl rfl (by rw [len_mask, hl])

  · exact hS.elim
end Go.Ab
