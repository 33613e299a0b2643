import Derived.Test.YthjfiaomfngajaaDoorTY
import Derived.Test.YthjfiaomfngajaaDoorMG
namespace Go.Ab
open Go Go.Proofs
set_option linter.unusedVariables false
set_option linter.unusedSimpArgs false
set_option maxRecDepth 8000
set_option maxHeartbeats 4000000

noncomputable def B14 : Code := bodyOf Tryd.f14
theorem B14_eq : Tryd.f14.body = some B14 := by kernel_rfl
noncomputable def n14_0 : Code := B14
noncomputable def n14_1 : Code := codeAt B14 [0]
noncomputable def n14_2 : Code := codeAt B14 [1]
noncomputable def n14_3 : Code := codeAt B14 [1,0]
noncomputable def n14_4 : Code := codeAt B14 [1,1]
noncomputable def n14_5 : Code := codeAt B14 [1,1,0]
noncomputable def n14_6 : Code := codeAt B14 [1,1,0,0]
noncomputable def n14_7 : Code := codeAt B14 [1,1,0,0,0]
noncomputable def n14_8 : Code := codeAt B14 [1,1,0,0,0,0]
noncomputable def n14_9 : Code := codeAt B14 [1,1,0,0,0,0,0]
noncomputable def n14_10 : Code := codeAt B14 [1,1,0,0,0,0,1]
noncomputable def n14_11 : Code := codeAt B14 [1,1,0,0,0,0,1,0]
noncomputable def n14_12 : Code := codeAt B14 [1,1,0,0,0,0,1,1]
noncomputable def n14_13 : Code := codeAt B14 [1,1,0,0,0,1]
noncomputable def n14_14 : Code := codeAt B14 [1,1,0,0,0,1,0]
noncomputable def n14_15 : Code := codeAt B14 [1,1,1]
noncomputable def n14_16 : Code := codeAt B14 [1,1,1,0]
noncomputable def n14_17 : Code := codeAt B14 [1,1,1,0,0]
noncomputable def n14_18 : Code := codeAt B14 [1,1,1,0,1]
noncomputable def n14_19 : Code := codeAt B14 [1,1,1,0,1,0]
noncomputable def n14_20 : Code := codeAt B14 [1,1,1,0,1,0,0]
noncomputable def n14_21 : Code := codeAt B14 [1,1,1,0,1,0,0,0]
noncomputable def n14_22 : Code := codeAt B14 [1,1,1,0,1,0,0,0,0]
noncomputable def n14_23 : Code := codeAt B14 [1,1,1,0,1,0,0,0,1]
noncomputable def n14_24 : Code := codeAt B14 [1,1,1,0,1,0,0,0,1,0]
noncomputable def n14_25 : Code := codeAt B14 [1,1,1,0,1,0,0,0,1,1]
noncomputable def n14_26 : Code := codeAt B14 [1,1,1,0,1,0,0,1]
noncomputable def n14_27 : Code := codeAt B14 [1,1,1,0,1,0,0,1,0]
noncomputable def n14_28 : Code := codeAt B14 [1,1,1,0,1,0,0,1,0,0]
noncomputable def n14_29 : Code := codeAt B14 [1,1,1,0,1,0,0,1,1]
noncomputable def n14_30 : Code := codeAt B14 [1,1,1,1]
noncomputable def n14_31 : Code := codeAt B14 [1,1,1,1,0]
noncomputable def n14_32 : Code := codeAt B14 [1,1,1,1,1]
theorem e14_0 : n14_0 = .seq n14_1 n14_2 := rfl
noncomputable def r14_1 := opsAt n14_1
theorem e14_1 : n14_1 = .region 0 (r14_1).toArray false := rfl
theorem e14_2 : n14_2 = .seq n14_3 n14_4 := rfl
noncomputable def r14_3 := opsAt n14_3
theorem e14_3 : n14_3 = .region 1 (r14_3).toArray false := rfl
theorem e14_4 : n14_4 = .seq n14_5 n14_15 := rfl
theorem e14_5 : n14_5 = .block 0 n14_6 := rfl
theorem e14_6 : n14_6 = .loop n14_7 := rfl
theorem e14_7 : n14_7 = .seq n14_8 n14_13 := rfl
theorem e14_8 : n14_8 = .seq n14_9 n14_10 := rfl
noncomputable def r14_9 := opsAt n14_9
theorem e14_9 : n14_9 = .region 2 (r14_9).toArray false := rfl
theorem e14_10 : n14_10 = .cond (.tmp 13) n14_11 n14_12 := rfl
theorem e14_11 : n14_11 = .skip := rfl
theorem e14_12 : n14_12 = .exit 0 := rfl
theorem e14_13 : n14_13 = .block 1 n14_14 := rfl
noncomputable def r14_14 := opsAt n14_14
theorem e14_14 : n14_14 = .region 3 (r14_14).toArray false := rfl
theorem e14_15 : n14_15 = .seq n14_16 n14_30 := rfl
theorem e14_16 : n14_16 = .seq n14_17 n14_18 := rfl
noncomputable def r14_17 := opsAt n14_17
theorem e14_17 : n14_17 = .region 4 (r14_17).toArray false := rfl
theorem e14_18 : n14_18 = .block 2 n14_19 := rfl
theorem e14_19 : n14_19 = .loop n14_20 := rfl
theorem e14_20 : n14_20 = .seq n14_21 n14_26 := rfl
theorem e14_21 : n14_21 = .seq n14_22 n14_23 := rfl
noncomputable def r14_22 := opsAt n14_22
theorem e14_22 : n14_22 = .region 5 (r14_22).toArray false := rfl
theorem e14_23 : n14_23 = .cond (.tmp 18) n14_24 n14_25 := rfl
theorem e14_24 : n14_24 = .skip := rfl
theorem e14_25 : n14_25 = .exit 2 := rfl
theorem e14_26 : n14_26 = .seq n14_27 n14_29 := rfl
theorem e14_27 : n14_27 = .block 3 n14_28 := rfl
noncomputable def r14_28 := opsAt n14_28
theorem e14_28 : n14_28 = .region 7 (r14_28).toArray false := rfl
noncomputable def r14_29 := opsAt n14_29
theorem e14_29 : n14_29 = .region 6 (r14_29).toArray false := rfl
theorem e14_30 : n14_30 = .seq n14_31 n14_32 := rfl
noncomputable def r14_31 := opsAt n14_31
theorem e14_31 : n14_31 = .region 8 (r14_31).toArray false := rfl
theorem e14_32 : n14_32 = .ret := rfl
theorem f_ref03_Pad : PureOk Tryd.prog 14 sPad := by
  refine pureOk_of (c := n14_0) (Γ := conOf []) (conOf_ok (conOf_end)) mixed Tryd.func14 B14_eq (by decide +kernel) Tryd.call14 ?_
  intro args hS
  unfold sPad at hS ⊢
  split at hS
  · refine ⟨by rw [Tryd.ntmps14]; simp, vC_sound ?_⟩
    rename_i x
    obtain ⟨n, ln, rfl⟩ := isul_out hS
    simp only [ulv_ul, Nat.mod_eq_of_lt ln]
    have hz := padz_eq n
    have hzl := padz_lt n
    clear hS
    simp only [entry_cons, entry_nil, Nat.reduceAdd]
    repeat' (first
      | (with_reducible first | apply seqC_normal | apply blockC_normal | apply seqC_exit | apply blockC_hit | apply seqC_ret | apply blockC_ret | apply loopC_ret | apply loopC_exit)
      | ((with_reducible apply blockC_miss); (exact rfl))
      | ((with_reducible apply wC_seq e14_0; apply wC_region e14_1); refine vOps_open (l := _ :: _) rfl ?_; refine kOps_as rfl rfl rfl rfl ?_; refine vOps_nil ?_; (with_reducible apply seqC_normal; apply wC_seq e14_2; apply wC_region e14_3); refine vOps_open (l := _ :: _) rfl ?_; (first | refine kOps_bsl (d := 5) (ps := ([128] : List UInt8).map bv) rfl rfl rfl rfl rfl (rfl) ty29 ty5 rfl rfl (by decide) (by simp only [↓List.length_append, ↓List.length_set, ↓List.length_cons, List.length_nil, Nat.reduceAdd, Nat.zero_add]; rfl) (by simp only [List.length_map, List.length_cons, List.length_nil, Nat.reduceAdd, Nat.zero_add]) (by decide) (by decide) (by exact one_cells_bv) ?_ | refine kOps_bsd (d := 5) (ps := ([128] : List UInt8).map bv) rfl rfl rfl rfl rfl (rfl) ty29 ty5 rfl rfl (by decide) (by simp only [List.length_map, List.length_cons, List.length_nil, Nat.reduceAdd, Nat.zero_add]) (by decide) (by decide) (by exact one_cells_bv) ?_); refine kOps_as rfl rfl rfl rfl ?_; refine vOps_nil ?_; (with_reducible apply seqC_normal; apply wC_seq e14_4; apply wC_block e14_5))
      | ((with_reducible apply wC_seq e14_15; apply wC_seq e14_16; apply wC_region e14_17); refine vOps_open (l := _ :: _) rfl ?_; refine kOps_as rfl rfl rfl rfl ?_; refine vOps_nil ?_; (with_reducible apply seqC_normal; apply wC_block e14_18))
      | ((with_reducible apply wC_seq e14_30; apply wC_region e14_31); refine vOps_open (l := _ :: _) rfl ?_; refine kOps_mv rfl rfl rfl rfl ?_; refine kOps_as rfl rfl rfl rfl ?_; refine vOps_nil ?_; (with_reducible apply seqC_normal; apply wC_ret e14_32)))
    refine wC_loopI (ι := {i : Nat // i ≤ padz n}) e14_6 (fun i => ([(0, ul n), (3, .own 0 0 (1 + i.1) 1)], [.cells ((128 :: List.replicate i.1 (0 : UInt8)).map bv)])) (fun i => padz n - i.1) ⟨0, by omega⟩ [0] ?_ ?_
    · show Weak _ _ _ _ _ _
      refine weak_mk (fun i h => absurd h (Nat.not_lt_zero i)) (by decide) (by simp) ?_ ?_
      · simp only [RenRows, List.nil_append, List.cons_append, List.set_cons_zero, List.set_cons_succ, List.getElem?_cons_zero, List.getElem?_cons_succ, Option.some.injEq, LE.cells.injEq, closedL_bv, closedL_wr, and_true, true_and]
        all_goals (rfl)
      · simp only [RenEnv, lookup_cons, Nat.reduceBEq, cond_true, cond_false]
        (repeat' apply And.intro) <;> first | trivial | exact ren_keep rfl | exact ren_keep (closed_u4 _) | (refine ren_int ?_; omega) | (refine ren_own rfl ?_; first | rfl | omega | (simp; done) | (omega; done)) | (refine ren_int ?_; omega; done) | (refine ren_int ?_; simp; done) | (refine ren_keep ?_; simp only [closed, closedL_bv, closedL_wr]; done) | (refine ren_ptr rfl; done)
    · rintro ⟨i, hi⟩
      dsimp only
      repeat' (first
        | (with_reducible first | apply seqC_normal | apply blockC_normal | apply seqC_exit | apply blockC_hit | apply seqC_ret | apply blockC_ret | apply loopC_ret | apply loopC_exit)
        | ((with_reducible apply blockC_miss); (exact rfl))
        | ((with_reducible apply wC_seq e14_7; apply wC_seq e14_8; apply wC_region e14_9); refine vOps_open (l := _ :: _) rfl ?_)
        | ((with_reducible apply kC_cond e14_10); (exact rfl); all_goals (intro hb; first | (cases hb; done) | cases hb | ((try simp only [decide_eq_true_eq, decide_eq_false_iff_not, Bool.not_eq_true', Bool.not_eq_false'] at hb); try (exfalso; first | omega | exact hb trivial))))
        | ((with_reducible apply wC_skip e14_11))
        | ((with_reducible apply wC_exit e14_12))
        | ((with_reducible apply wC_block e14_13; apply wC_region e14_14); refine vOps_open (l := _ :: _) rfl ?_)
        | ((with_reducible apply wC_seq e14_15; apply wC_seq e14_16; apply wC_region e14_17); refine vOps_open (l := _ :: _) rfl ?_)
        | ((with_reducible apply wC_block e14_18))
        | ((with_reducible apply wC_seq e14_30; apply wC_region e14_31); refine vOps_open (l := _ :: _) rfl ?_)
        | ((with_reducible apply wC_ret e14_32))
        | ((with_reducible apply vOps_nil); try (with_reducible refine And.intro (by kernel_rfl) ?_))
        | (refine kOps_gon (g := ?_) (p := ?_) rfl rfl ?_ ?_ ?_ ?_; rotate_left 2; fail; (exact rfl); (with_reducible rfl))
        | (refine kOps_gofft (g := ?_) (p := ?_) rfl rfl ?_ ?_ ?_ ?_; rotate_left 2; fail; (exact rfl); (with_reducible rfl))
        | (refine kOps_gofff (g := ?_) (p := ?_) rfl rfl ?_ ?_ ?_ ?_; rotate_left 2; fail; (exact rfl); (with_reducible rfl))
        | (refine kOps_pickt rfl rfl rfl rfl ?_ rfl ?_; (with_reducible rfl))
        | (refine kOps_pickf rfl rfl rfl rfl ?_ rfl ?_; (with_reducible rfl))
        | (refine kOps_mv rfl rfl rfl rfl ?_)
        | (refine kOps_len (d := 8) rfl rfl rfl rfl ty29 (by first | exact byt_nil | (refine byt_ro ?_; (first | rfl | assumption | omega | (simp only [lnb]; first | omega | done))) | (refine byt_own rfl ?_; (first | rfl | assumption | omega | (simp only [lnb]; first | omega | done))) | (refine byt_part rfl ?_ rfl; (first | rfl | assumption | omega | (simp only [lnb]; first | omega | done)))) ?_)
        | (refine kOps_conv (s := 3) (t := 28) (pre := ?_) (val := ?_) rfl rfl rfl rfl ?_ ?_ ?_; rotate_left 2; (intro L; simp only [q5, Nat.mod_eq_of_lt ln, cw_3_28]; first | rfl | (first | (rw [wrap_i64] <;> first | omega | rfl) | (rw [wrap_u8] <;> first | omega | rfl) | (rw [wrap_u16] <;> first | omega | rfl) | (rw [wrap_u32] <;> first | omega | rfl) | rfl)); exact trivial)
        | (refine kOps_bin (b := .add) (pre := ?_) (val := ?_) rfl rfl rfl rfl rfl ?_ ?_ ?_; rotate_left 2; (intro L; simp only [q5, Nat.mod_eq_of_lt ln, lit_ul0, lit_ul1, lc_8, lc_64, add_ul, binF_add, Int.reduceAdd, Int.reduceSub, Int.reduceMul, Int.reduceNeg, Int.sub_zero, Int.cast_ofNat_Int, ne_eq, Int.reduceLT, Int.reduceLE, Int.reduceEq, Nat.reduceMod, Nat.reduceLT, decide_true, decide_false, ty28]; (first | (rw [wrap_i64] <;> first | omega | rfl) | (rw [wrap_u8] <;> first | omega | rfl) | (rw [wrap_u16] <;> first | omega | rfl) | (rw [wrap_u32] <;> first | omega | rfl) | rfl)); exact trivial)
        | (refine kOps_bin (b := .rem) (pre := ?_) (val := ?_) rfl rfl rfl rfl rfl ?_ ?_ ?_; rotate_left 2; (intro L; simp only [q5, Nat.mod_eq_of_lt ln, lit_ul0, lit_ul1, lc_8, lc_64, rem_ul64, Int.reduceAdd, Int.reduceSub, Int.reduceMul, Int.reduceNeg, Int.sub_zero, Int.cast_ofNat_Int, ne_eq, Int.reduceLT, Int.reduceLE, Int.reduceEq, Nat.reduceMod, Nat.reduceLT, decide_true, decide_false, ty28]; (first | (rw [wrap_i64] <;> first | omega | rfl) | (rw [wrap_u8] <;> first | omega | rfl) | (rw [wrap_u16] <;> first | omega | rfl) | (rw [wrap_u32] <;> first | omega | rfl) | rfl)); (focus ((repeat' apply And.intro) <;> first | exact True.intro | omega | (with_reducible rfl) | assumption | (simp only [lnb]; omega) | (simp only [q1]; done) | (simp only [q4, lnb, and_self, true_and, Nat.le_refl, Nat.reduceAdd, Nat.zero_add]; done) | exact (isByte_bv _).2 trivial | exact one_bv _ | (simp [PV.one, one_bv, closedL_bv, flatL_bv, closedL, closed, isByte_bv, PV.cells]; done) | exact ⟨_, rfl⟩ | (simp only [q2]; done) | (simp only [len_cl]; omega) | (simp [Value.cells, Value.oneCell']; done))))
        | (refine kOps_bin (b := .neq) (pre := ?_) (val := ?_) rfl rfl rfl rfl rfl ?_ ?_ ?_; rotate_left 2; (intro L; simp only [q5, Nat.mod_eq_of_lt ln, lit_ul0, lit_ul1, lc_8, lc_64, neq_ul, binF_neq, binF_sneq, Int.reduceAdd, Int.reduceSub, Int.reduceMul, Int.reduceNeg, Int.sub_zero, Int.cast_ofNat_Int, ne_eq, Int.reduceLT, Int.reduceLE, Int.reduceEq, Nat.reduceMod, Nat.reduceLT, decide_true, decide_false, ty28]; (first | (rw [wrap_i64] <;> first | omega | rfl) | (rw [wrap_u8] <;> first | omega | rfl) | (rw [wrap_u16] <;> first | omega | rfl) | (rw [wrap_u32] <;> first | omega | rfl) | rfl)); (focus ((repeat' apply And.intro) <;> first | exact True.intro | omega | (with_reducible rfl) | assumption | (simp only [lnb]; omega) | (simp only [q1]; done) | (simp only [q4, lnb, and_self, true_and, Nat.le_refl, Nat.reduceAdd, Nat.zero_add]; done) | exact (isByte_bv _).2 trivial | exact one_bv _ | (simp [PV.one, one_bv, closedL_bv, flatL_bv, closedL, closed, isByte_bv, PV.cells]; done) | exact ⟨_, rfl⟩ | (simp only [q2]; done) | (simp only [len_cl]; omega) | (simp [Value.cells, Value.oneCell']; done))))
        | ((first | refine kOps_bsl (d := 15) (ps := ([0] : List UInt8).map bv) rfl rfl rfl rfl rfl (rfl) ty29 ty5 rfl rfl (by decide) (by simp only [↓List.length_append, ↓List.length_set, ↓List.length_cons, List.length_nil, Nat.reduceAdd, Nat.zero_add]; rfl) (by simp only [List.length_map, List.length_cons, List.length_nil, Nat.reduceAdd, Nat.zero_add]) (by decide) (by decide) (by exact one_cells_bv) ?_ | refine kOps_bsd (d := 15) (ps := ([0] : List UInt8).map bv) rfl rfl rfl rfl rfl (rfl) ty29 ty5 rfl rfl (by decide) (by simp only [List.length_map, List.length_cons, List.length_nil, Nat.reduceAdd, Nat.zero_add]) (by decide) (by decide) (by exact one_cells_bv) ?_))
        | (refine kOps_app (d := 16) rfl rfl rfl rfl rfl rfl ty29 ty29 ty5 (by first | exact app_nil | (refine app_own rfl ?_; (first | rfl | assumption | omega | (simp only [lnb]; first | omega | done)))) (by first | exact byt_nil | (refine byt_ro ?_; (first | rfl | assumption | omega | (simp only [lnb]; first | omega | done))) | (refine byt_own rfl ?_; (first | rfl | assumption | omega | (simp only [lnb]; first | omega | done))) | (refine byt_part rfl ?_ rfl; (first | rfl | assumption | omega | (simp only [lnb]; first | omega | done)))) (by simp only [↓List.length_append, ↓List.length_set, ↓List.length_cons, List.length_nil, Nat.reduceAdd, Nat.zero_add]; rfl) (by simp only [kill, List.set_cons_zero, List.set_cons_succ, List.cons_append, List.nil_append]; rfl) (by first | rfl | assumption | omega | (simp only [lnb]; first | omega | done)) ?_)
        | (refine kOps_as rfl rfl rfl rfl ?_)
        | (refine vOps_gundef rfl rfl ?_ ?_; (focus (simp only [lookup_cons, Nat.reduceBEq, cond_true, cond_false]; done)); simp only [putIn])
        | (refine vOps_gpick (t := ?_) (val := ?_) rfl rfl ?_ rfl rfl ?_ ?_ ?_; rotate_left 2; (focus (simp only [lookup_cons, Nat.reduceBEq, cond_true, cond_false]; done)); (simp only [evalIn_tmp, evalIn_const, lookup_cons, Nat.reduceBEq, cond_true, cond_false]; rfl); (simp only [evalIn_tmp, evalIn_const, lookup_cons, Nat.reduceBEq, cond_true, cond_false]; rfl))
        | (refine vOps_pick (t := ?_) (val := ?_) rfl rfl rfl ?_ ?_ ?_; rotate_left 2; (simp only [evalIn_tmp, evalIn_const, lookup_cons, Nat.reduceBEq, cond_true, cond_false]; rfl); (simp only [evalIn_tmp, evalIn_const, lookup_cons, Nat.reduceBEq, cond_true, cond_false]; rfl))
        | (refine vOps_fork (b := ?_) rfl rfl ?_ ?_ ?_; rotate_left 1; (simp only [lookup_cons, Nat.reduceBEq, cond_true, cond_false]; rfl); all_goals (intro hb; simp only [hb]; (try simp only [decide_eq_true_eq, decide_eq_false_iff_not] at hb); try (exfalso; first | omega | exact hb trivial)))
        | (refine vOps_forkp (b := ?_) rfl ?_ ?_ ?_; rotate_left 1; (simp only [evalIn_tmp, lookup_cons, Nat.reduceBEq, cond_true, cond_false]; rfl); all_goals (intro hb; simp only [hb]; (try simp only [decide_eq_true_eq, decide_eq_false_iff_not] at hb); try (exfalso; first | omega | exact hb trivial))))
      · refine loopC_normal ⟨i + 1, by omega⟩ [2] (by show padz n - (i + 1) < padz n - i; omega) ?_
        refine weak_mk (fun i h => absurd h (Nat.not_lt_zero i)) (by decide) (by simp) ?_ ?_
        · simp only [RenRows, List.nil_append, List.cons_append, List.set_cons_zero, List.set_cons_succ, List.getElem?_cons_zero, List.getElem?_cons_succ, Option.some.injEq, LE.cells.injEq, closedL_bv, closedL_wr, and_true, true_and]
          all_goals (exact bs_congr (by rw [List.replicate_succ']))
        · simp only [RenEnv, lookup_cons, Nat.reduceBEq, cond_true, cond_false]
          (repeat' apply And.intro) <;> first | trivial | exact ren_keep rfl | exact ren_keep (closed_u4 _) | (refine ren_int ?_; omega) | (refine ren_own rfl ?_; first | rfl | omega | (simp; done) | (simp only [lnb]; omega; done)) | (refine ren_int ?_; omega; done) | (refine ren_int ?_; simp; done) | (refine ren_keep ?_; simp only [closed, closedL_bv, closedL_wr]; done) | (refine ren_ptr rfl; done)
      · obtain rfl : i = padz n := by omega
        refine wC_loopI (ι := {i : Nat // i ≤ 8}) e14_19 (fun i => ([(0, ul n), (3, .own 0 0 (1 + padz n + i.1) 1), (4, .lit (.int .i64 (7 - (i.1 : Int))))], [.cells ((padI n i.1).map bv)])) (fun i => 8 - i.1) ⟨0, by omega⟩ [0] ?_ ?_
        · show Weak _ _ _ _ _ _
          refine weak_mk (fun i h => absurd h (Nat.not_lt_zero i)) (by decide) (by simp) ?_ ?_
          · simp only [RenRows, List.nil_append, List.cons_append, List.set_cons_zero, List.set_cons_succ, List.getElem?_cons_zero, List.getElem?_cons_succ, Option.some.injEq, LE.cells.injEq, closedL_bv, closedL_wr, and_true, true_and]
            all_goals (exact bs_congr (padI_zero2 n))
          · simp only [RenEnv, lookup_cons, Nat.reduceBEq, cond_true, cond_false]
            (repeat' apply And.intro) <;> first | trivial | exact ren_keep rfl | exact ren_keep (closed_u4 _) | (refine ren_int ?_; omega) | (refine ren_own rfl ?_; first | rfl | omega | (simp; done) | (omega; done)) | (refine ren_int ?_; omega; done) | (refine ren_int ?_; simp; done) | (refine ren_keep ?_; simp only [closed, closedL_bv, closedL_wr]; done) | (refine ren_ptr rfl; done)
        · clear hi
          rintro ⟨i, hi⟩
          dsimp only
          have p7 : (8 * (7 - (i : Int))).toNat = 8 * (7 - i) := by omega
          repeat' (first
            | (with_reducible first | apply seqC_normal | apply blockC_normal | apply seqC_exit | apply blockC_hit | apply seqC_ret | apply blockC_ret | apply loopC_ret | apply loopC_exit)
            | ((with_reducible apply blockC_miss); (exact rfl))
            | ((with_reducible apply wC_seq e14_20; apply wC_seq e14_21; apply wC_region e14_22); refine vOps_open (l := _ :: _) rfl ?_)
            | ((with_reducible apply kC_cond e14_23); (exact rfl); all_goals (intro hb; first | (cases hb; done) | cases hb | ((try simp only [decide_eq_true_eq, decide_eq_false_iff_not, Bool.not_eq_true', Bool.not_eq_false'] at hb); try (exfalso; first | omega | exact hb trivial))))
            | ((with_reducible apply wC_skip e14_24))
            | ((with_reducible apply wC_exit e14_25))
            | ((with_reducible apply wC_seq e14_26; apply wC_block e14_27; apply wC_region e14_28); refine vOps_open (l := _ :: _) rfl ?_)
            | ((with_reducible apply wC_region e14_29); refine vOps_open (l := _ :: _) rfl ?_)
            | ((with_reducible apply wC_seq e14_30; apply wC_region e14_31); refine vOps_open (l := _ :: _) rfl ?_)
            | ((with_reducible apply wC_ret e14_32))
            | ((with_reducible apply vOps_nil); try (with_reducible refine And.intro (by kernel_rfl) ?_))
            | (refine kOps_gon (g := ?_) (p := ?_) rfl rfl ?_ ?_ ?_ ?_; rotate_left 2; fail; (exact rfl); (with_reducible rfl))
            | (refine kOps_gofft (g := ?_) (p := ?_) rfl rfl ?_ ?_ ?_ ?_; rotate_left 2; fail; (exact rfl); (with_reducible rfl))
            | (refine kOps_gofff (g := ?_) (p := ?_) rfl rfl ?_ ?_ ?_ ?_; rotate_left 2; fail; (exact rfl); (with_reducible rfl))
            | (refine kOps_pickt rfl rfl rfl rfl ?_ rfl ?_; (with_reducible rfl))
            | (refine kOps_pickf rfl rfl rfl rfl ?_ rfl ?_; (with_reducible rfl))
            | (refine kOps_mv rfl rfl rfl rfl ?_)
            | (refine kOps_bin (b := .geq) (pre := ?_) (val := ?_) rfl rfl rfl rfl rfl ?_ ?_ ?_; rotate_left 2; (intro L; simp only [q5, Nat.mod_eq_of_lt ln, p7, lit_ul0, lit_ul1, lc_8, lc_64, geq_ul, binF_geq, Int.reduceAdd, Int.reduceSub, Int.reduceMul, Int.reduceNeg, Int.sub_zero, Int.cast_ofNat_Int, ne_eq, Int.reduceLT, Int.reduceLE, Int.reduceEq, Nat.reduceMod, Nat.reduceLT, decide_true, decide_false, ty3]; (first | (rw [wrap_i64] <;> first | omega | rfl) | (rw [wrap_u8] <;> first | omega | rfl) | (rw [wrap_u16] <;> first | omega | rfl) | (rw [wrap_u32] <;> first | omega | rfl) | rfl)); exact trivial)
            | (refine kOps_bin (b := .mul) (pre := ?_) (val := ?_) rfl rfl rfl rfl rfl ?_ ?_ ?_; rotate_left 2; (intro L; simp only [q5, Nat.mod_eq_of_lt ln, p7, lit_ul0, lit_ul1, lc_8, lc_64, mul_ul, binF_mul, Int.reduceAdd, Int.reduceSub, Int.reduceMul, Int.reduceNeg, Int.sub_zero, Int.cast_ofNat_Int, ne_eq, Int.reduceLT, Int.reduceLE, Int.reduceEq, Nat.reduceMod, Nat.reduceLT, decide_true, decide_false, ty28]; (first | (rw [wrap_i64] <;> first | omega | rfl) | (rw [wrap_u8] <;> first | omega | rfl) | (rw [wrap_u16] <;> first | omega | rfl) | (rw [wrap_u32] <;> first | omega | rfl) | rfl)); exact trivial)
            | (refine kOps_bin (b := .mul) (pre := ?_) (val := ?_) rfl rfl rfl rfl rfl ?_ ?_ ?_; rotate_left 2; (intro L; simp only [q5, Nat.mod_eq_of_lt ln, p7, lit_ul0, lit_ul1, lc_8, lc_64, mul_ul, binF_mul, Int.reduceAdd, Int.reduceSub, Int.reduceMul, Int.reduceNeg, Int.sub_zero, Int.cast_ofNat_Int, ne_eq, Int.reduceLT, Int.reduceLE, Int.reduceEq, Nat.reduceMod, Nat.reduceLT, decide_true, decide_false, ty3]; (first | (rw [wrap_i64] <;> first | omega | rfl) | (rw [wrap_u8] <;> first | omega | rfl) | (rw [wrap_u16] <;> first | omega | rfl) | (rw [wrap_u32] <;> first | omega | rfl) | rfl)); exact trivial)
            | (refine kOps_bin (b := .shr) (pre := ?_) (val := ?_) rfl rfl rfl rfl rfl ?_ ?_ ?_; rotate_left 2; (intro L; simp only [q5, Nat.mod_eq_of_lt ln, p7, lit_ul0, lit_ul1, lc_8, lc_64, shr_z, shr_ul, binF_shr, Int.reduceAdd, Int.reduceSub, Int.reduceMul, Int.reduceNeg, Int.sub_zero, Int.cast_ofNat_Int, ne_eq, Int.reduceLT, Int.reduceLE, Int.reduceEq, Nat.reduceMod, Nat.reduceLT, decide_true, decide_false, ty28]; (first | (rw [wrap_i64] <;> first | omega | rfl) | (rw [wrap_u8] <;> first | omega | rfl) | (rw [wrap_u16] <;> first | omega | rfl) | (rw [wrap_u32] <;> first | omega | rfl) | rfl)); (focus ((repeat' apply And.intro) <;> first | exact True.intro | omega | (with_reducible rfl) | assumption | (simp only [lnb]; omega) | (simp only [q1]; done) | (simp only [q4, lnb, and_self, true_and, Nat.le_refl, Nat.reduceAdd, Nat.zero_add]; done) | exact (isByte_bv _).2 trivial | exact one_bv _ | (simp [PV.one, one_bv, closedL_bv, flatL_bv, closedL, closed, isByte_bv, PV.cells]; done) | exact ⟨_, rfl⟩ | (simp only [q2]; done) | (simp only [len_cl]; omega) | (simp [Value.cells, Value.oneCell']; done))))
            | (refine kOps_conv (s := 28) (t := 5) (pre := ?_) (val := ?_) rfl rfl rfl rfl ?_ ?_ ?_; rotate_left 2; (intro L; simp only [q5, Nat.mod_eq_of_lt ln, p7, cv_28_5, cw_28_5]; first | rfl | (first | (rw [wrap_i64] <;> first | omega | rfl) | (rw [wrap_u8] <;> first | omega | rfl) | (rw [wrap_u16] <;> first | omega | rfl) | (rw [wrap_u32] <;> first | omega | rfl) | rfl)); exact trivial)
            | ((first | refine kOps_bsl (d := 28) (ps := ([_] : List UInt8).map bv) rfl rfl rfl rfl rfl (rfl) ty29 ty5 rfl rfl (by decide) (by simp only [↓List.length_append, ↓List.length_set, ↓List.length_cons, List.length_nil, Nat.reduceAdd, Nat.zero_add]; rfl) (by simp only [List.length_map, List.length_cons, List.length_nil, Nat.reduceAdd, Nat.zero_add]) (by decide) (by decide) (by exact one_cells_bv) ?_ | refine kOps_bsd (d := 28) (ps := ([_] : List UInt8).map bv) rfl rfl rfl rfl rfl (rfl) ty29 ty5 rfl rfl (by decide) (by simp only [List.length_map, List.length_cons, List.length_nil, Nat.reduceAdd, Nat.zero_add]) (by decide) (by decide) (by exact one_cells_bv) ?_))
            | (refine kOps_app (d := 29) rfl rfl rfl rfl rfl rfl ty29 ty29 ty5 (by first | exact app_nil | (refine app_own rfl ?_; (first | rfl | assumption | omega | (simp only [lnb]; first | omega | done)))) (by first | exact byt_nil | (refine byt_ro ?_; (first | rfl | assumption | omega | (simp only [lnb]; first | omega | done))) | (refine byt_own rfl ?_; (first | rfl | assumption | omega | (simp only [lnb]; first | omega | done))) | (refine byt_part rfl ?_ rfl; (first | rfl | assumption | omega | (simp only [lnb]; first | omega | done)))) (by simp only [↓List.length_append, ↓List.length_set, ↓List.length_cons, List.length_nil, Nat.reduceAdd, Nat.zero_add]; rfl) (by simp only [kill, List.set_cons_zero, List.set_cons_succ, List.cons_append, List.nil_append]; rfl) (by first | rfl | assumption | omega | (simp only [lnb]; first | omega | done)) ?_)
            | (refine kOps_as rfl rfl rfl rfl ?_)
            | (refine kOps_bin (b := .sub) (pre := ?_) (val := ?_) rfl rfl rfl rfl rfl ?_ ?_ ?_; rotate_left 2; (intro L; simp only [q5, Nat.mod_eq_of_lt ln, p7, lit_ul0, lit_ul1, lc_8, lc_64, sub_ul, binF_sub, Int.reduceAdd, Int.reduceSub, Int.reduceMul, Int.reduceNeg, Int.sub_zero, Int.cast_ofNat_Int, ne_eq, Int.reduceLT, Int.reduceLE, Int.reduceEq, Nat.reduceMod, Nat.reduceLT, decide_true, decide_false, ty3]; (first | (rw [wrap_i64] <;> first | omega | rfl) | (rw [wrap_u8] <;> first | omega | rfl) | (rw [wrap_u16] <;> first | omega | rfl) | (rw [wrap_u32] <;> first | omega | rfl) | rfl)); exact trivial)
            | (refine vOps_gundef rfl rfl ?_ ?_; (focus (simp only [lookup_cons, Nat.reduceBEq, cond_true, cond_false]; done)); simp only [putIn])
            | (refine vOps_gpick (t := ?_) (val := ?_) rfl rfl ?_ rfl rfl ?_ ?_ ?_; rotate_left 2; (focus (simp only [lookup_cons, Nat.reduceBEq, cond_true, cond_false]; done)); (simp only [evalIn_tmp, evalIn_const, lookup_cons, Nat.reduceBEq, cond_true, cond_false]; rfl); (simp only [evalIn_tmp, evalIn_const, lookup_cons, Nat.reduceBEq, cond_true, cond_false]; rfl))
            | (refine vOps_pick (t := ?_) (val := ?_) rfl rfl rfl ?_ ?_ ?_; rotate_left 2; (simp only [evalIn_tmp, evalIn_const, lookup_cons, Nat.reduceBEq, cond_true, cond_false]; rfl); (simp only [evalIn_tmp, evalIn_const, lookup_cons, Nat.reduceBEq, cond_true, cond_false]; rfl))
            | (refine vOps_fork (b := ?_) rfl rfl ?_ ?_ ?_; rotate_left 1; (simp only [lookup_cons, Nat.reduceBEq, cond_true, cond_false]; rfl); all_goals (intro hb; simp only [hb]; (try simp only [decide_eq_true_eq, decide_eq_false_iff_not] at hb); try (exfalso; first | omega | exact hb trivial)))
            | (refine vOps_forkp (b := ?_) rfl ?_ ?_ ?_; rotate_left 1; (simp only [evalIn_tmp, lookup_cons, Nat.reduceBEq, cond_true, cond_false]; rfl); all_goals (intro hb; simp only [hb]; (try simp only [decide_eq_true_eq, decide_eq_false_iff_not] at hb); try (exfalso; first | omega | exact hb trivial))))
          · refine loopC_normal ⟨i + 1, by omega⟩ [2] (by show 8 - (i + 1) < 8 - i; omega) ?_
            refine weak_mk (fun i h => absurd h (Nat.not_lt_zero i)) (by decide) (by simp) ?_ ?_
            · simp only [RenRows, List.nil_append, List.cons_append, List.set_cons_zero, List.set_cons_succ, List.getElem?_cons_zero, List.getElem?_cons_succ, Option.some.injEq, LE.cells.injEq, closedL_bv, closedL_wr, and_true, true_and]
              all_goals (exact bs_congr (padI_step (by omega)))
            · simp only [RenEnv, lookup_cons, Nat.reduceBEq, cond_true, cond_false]
              (repeat' apply And.intro) <;> first | trivial | exact ren_keep rfl | exact ren_keep (closed_u4 _) | (refine ren_int ?_; omega) | (refine ren_own rfl ?_; first | rfl | omega | (simp; done) | (simp only [lnb]; omega; done)) | (refine ren_int ?_; omega; done) | (refine ren_int ?_; simp; done) | (refine ren_keep ?_; simp only [closed, closedL_bv, closedL_wr]; done) | (refine ren_ptr rfl; done)
          · obtain rfl : i = 8 := by omega
            rw [← padI_all]
            exact fin_new (by simp) rfl rfl rfl (by rw [len_padI]; rfl)

  · exact hS.elim
end Go.Ab
