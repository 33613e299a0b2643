import Derived.Test.YtaofjdaclnagnaaMG
import Derived.Test.YtaofjdaclnagnaaTY
import Derived.Test.YtaofjdaclnagnaaFcodecneed
import Derived.Test.YtaofjdaclnagnaaFbitsLen64
namespace Go.Ab
open Go Go.Proofs
set_option linter.unusedVariables false
set_option linter.unusedSimpArgs false
set_option maxRecDepth 8000
set_option maxHeartbeats 4000000

noncomputable def B51 : Code := bodyOf Try.f51
theorem B51_eq : Try.f51.body = some B51 := by kernel_rfl
noncomputable def n51_0 : Code := B51
noncomputable def n51_1 : Code := codeAt B51 [0]
noncomputable def n51_2 : Code := codeAt B51 [1]
noncomputable def n51_3 : Code := codeAt B51 [1,0]
noncomputable def n51_4 : Code := codeAt B51 [1,1]
noncomputable def n51_5 : Code := codeAt B51 [1,1,0]
noncomputable def n51_6 : Code := codeAt B51 [1,1,0,0]
noncomputable def n51_7 : Code := codeAt B51 [1,1,0,1]
noncomputable def n51_8 : Code := codeAt B51 [1,1,0,1,0]
noncomputable def n51_9 : Code := codeAt B51 [1,1,0,1,1]
noncomputable def n51_10 : Code := codeAt B51 [1,1,0,1,1,0]
noncomputable def n51_11 : Code := codeAt B51 [1,1,0,1,1,0,0]
noncomputable def n51_12 : Code := codeAt B51 [1,1,0,1,1,0,1]
noncomputable def n51_13 : Code := codeAt B51 [1,1,0,1,1,1]
noncomputable def n51_14 : Code := codeAt B51 [1,1,1]
noncomputable def n51_15 : Code := codeAt B51 [1,1,1,0]
noncomputable def n51_16 : Code := codeAt B51 [1,1,1,1]
noncomputable def n51_17 : Code := codeAt B51 [1,1,1,1,0]
noncomputable def n51_18 : Code := codeAt B51 [1,1,1,1,0,0]
noncomputable def n51_19 : Code := codeAt B51 [1,1,1,1,0,1]
noncomputable def n51_20 : Code := codeAt B51 [1,1,1,1,0,1,0]
noncomputable def n51_21 : Code := codeAt B51 [1,1,1,1,0,1,0,0]
noncomputable def n51_22 : Code := codeAt B51 [1,1,1,1,0,1,0,0,0]
noncomputable def n51_23 : Code := codeAt B51 [1,1,1,1,0,1,0,0,1]
noncomputable def n51_24 : Code := codeAt B51 [1,1,1,1,0,1,0,0,1,0]
noncomputable def n51_25 : Code := codeAt B51 [1,1,1,1,0,1,0,0,1,0,0]
noncomputable def n51_26 : Code := codeAt B51 [1,1,1,1,0,1,0,0,1,0,1]
noncomputable def n51_27 : Code := codeAt B51 [1,1,1,1,0,1,0,0,1,1]
noncomputable def n51_28 : Code := codeAt B51 [1,1,1,1,0,1,0,0,1,1,0]
noncomputable def n51_29 : Code := codeAt B51 [1,1,1,1,0,1,0,0,1,1,0,0]
noncomputable def n51_30 : Code := codeAt B51 [1,1,1,1,0,1,0,0,1,1,0,0,0]
noncomputable def n51_31 : Code := codeAt B51 [1,1,1,1,0,1,0,0,1,1,0,0,1]
noncomputable def n51_32 : Code := codeAt B51 [1,1,1,1,0,1,0,0,1,1,1]
noncomputable def n51_33 : Code := codeAt B51 [1,1,1,1,1]
noncomputable def n51_34 : Code := codeAt B51 [1,1,1,1,1,0]
noncomputable def n51_35 : Code := codeAt B51 [1,1,1,1,1,1]
theorem e51_0 : n51_0 = .seq n51_1 n51_2 := rfl
noncomputable def r51_1 := opsAt n51_1
theorem e51_1 : n51_1 = .region 0 (r51_1).toArray false := rfl
theorem e51_2 : n51_2 = .seq n51_3 n51_4 := rfl
noncomputable def r51_3 := opsAt n51_3
theorem e51_3 : n51_3 = .region 1 (r51_3).toArray false := rfl
theorem e51_4 : n51_4 = .seq n51_5 n51_14 := rfl
theorem e51_5 : n51_5 = .seq n51_6 n51_7 := rfl
noncomputable def r51_6 := opsAt n51_6
theorem e51_6 : n51_6 = .region 2 (r51_6).toArray false := rfl
theorem e51_7 : n51_7 = .seq n51_8 n51_9 := rfl
noncomputable def r51_8 := opsAt n51_8
theorem e51_8 : n51_8 = .region 3 (r51_8).toArray false := rfl
theorem e51_9 : n51_9 = .cond (.tmp 21) n51_10 n51_13 := rfl
theorem e51_10 : n51_10 = .seq n51_11 n51_12 := rfl
noncomputable def r51_11 := opsAt n51_11
theorem e51_11 : n51_11 = .region 4 (r51_11).toArray false := rfl
theorem e51_12 : n51_12 = .ret := rfl
theorem e51_13 : n51_13 = .skip := rfl
theorem e51_14 : n51_14 = .seq n51_15 n51_16 := rfl
noncomputable def r51_15 := opsAt n51_15
theorem e51_15 : n51_15 = .region 5 (r51_15).toArray false := rfl
theorem e51_16 : n51_16 = .seq n51_17 n51_33 := rfl
theorem e51_17 : n51_17 = .seq n51_18 n51_19 := rfl
noncomputable def r51_18 := opsAt n51_18
theorem e51_18 : n51_18 = .region 6 (r51_18).toArray false := rfl
theorem e51_19 : n51_19 = .block 0 n51_20 := rfl
theorem e51_20 : n51_20 = .loop n51_21 := rfl
theorem e51_21 : n51_21 = .seq n51_22 n51_23 := rfl
noncomputable def r51_22 := opsAt n51_22
theorem e51_22 : n51_22 = .region 7 (r51_22).toArray false := rfl
theorem e51_23 : n51_23 = .seq n51_24 n51_27 := rfl
theorem e51_24 : n51_24 = .cond (.tmp 25) n51_25 n51_26 := rfl
theorem e51_25 : n51_25 = .skip := rfl
theorem e51_26 : n51_26 = .exit 0 := rfl
theorem e51_27 : n51_27 = .seq n51_28 n51_32 := rfl
theorem e51_28 : n51_28 = .block 1 n51_29 := rfl
theorem e51_29 : n51_29 = .seq n51_30 n51_31 := rfl
noncomputable def r51_30 := opsAt n51_30
theorem e51_30 : n51_30 = .region 8 (r51_30).toArray false := rfl
noncomputable def r51_31 := opsAt n51_31
theorem e51_31 : n51_31 = .region 9 (r51_31).toArray false := rfl
noncomputable def r51_32 := opsAt n51_32
theorem e51_32 : n51_32 = .region 10 (r51_32).toArray false := rfl
theorem e51_33 : n51_33 = .seq n51_34 n51_35 := rfl
noncomputable def r51_34 := opsAt n51_34
theorem e51_34 : n51_34 = .region 11 (r51_34).toArray false := rfl
theorem e51_35 : n51_35 = .ret := rfl
theorem f_codec_integer_uint8 : PureOk Try.prog 51 sInt8 := by
  refine pureOk_of (c := n51_0) (Γ := conOf [(56, .pure sNeed), (62, .pure sLen64)]) (conOf_ok (conOf_one (S := .pure sNeed) f_codec_need (conOf_one (S := .pure sLen64) f_bits_Len64 (conOf_end)))) mixed Try.func51 B51_eq (by decide +kernel) Try.call51 ?_
  intro args hS
  unfold sInt8 at hS ⊢
  split at hS
  · refine ⟨by rw [Try.ntmps51]; simp, vC_sound ?_⟩
    rename_i n cs a
    obtain ⟨hB, hn, ha0, ha1⟩ := hS
    obtain ⟨b, rfl, rfl⟩ := isB_out hB
    simp only [bytesOf_bv]
    clear hB
    simp only [entry_cons, entry_nil, Nat.reduceAdd]
    by_cases hz : needE b.length a 1 = 0
    · rw [if_pos hz]
      have hok := need_ok hz
      obtain ⟨m, rfl⟩ := Int.eq_ofNat_of_zero_le (show 0 ≤ a by omega)
      repeat' (first
        | (with_reducible first | apply seqC_normal | apply blockC_normal | apply seqC_exit | apply blockC_hit | apply seqC_ret | apply blockC_ret | apply loopC_ret | apply loopC_exit)
        | ((with_reducible apply blockC_miss); (exact rfl))
        | ((with_reducible apply wC_seq e51_0; apply wC_region e51_1); refine vOps_open (l := _ :: _) rfl ?_)
        | ((with_reducible apply wC_seq e51_2; apply wC_region e51_3); refine vOps_open (l := _ :: _) rfl ?_)
        | ((with_reducible apply wC_seq e51_4; apply wC_seq e51_5; apply wC_region e51_6); refine vOps_open (l := _ :: _) rfl ?_)
        | ((with_reducible apply wC_seq e51_7; apply wC_region e51_8); refine vOps_open (l := _ :: _) rfl ?_)
        | ((with_reducible apply kC_cond e51_9); (exact rfl); all_goals (intro hb; first | (cases hb; done) | cases hb | ((try simp only [decide_eq_true_eq, decide_eq_false_iff_not, Bool.not_eq_true', Bool.not_eq_false'] at hb); try (exfalso; first | omega | exact hb trivial))))
        | ((with_reducible apply wC_seq e51_10; apply wC_region e51_11); refine vOps_open (l := _ :: _) rfl ?_)
        | ((with_reducible apply wC_ret e51_12))
        | ((with_reducible apply wC_skip e51_13))
        | ((with_reducible apply wC_seq e51_14; apply wC_region e51_15); refine vOps_open (l := _ :: _) rfl ?_)
        | ((with_reducible apply wC_seq e51_16; apply wC_seq e51_17; apply wC_region e51_18); refine vOps_open (l := _ :: _) rfl ?_)
        | ((with_reducible apply wC_block e51_19))
        | ((with_reducible apply wC_seq e51_33; apply wC_region e51_34); refine vOps_open (l := _ :: _) rfl ?_)
        | ((with_reducible apply wC_ret e51_35))
        | ((with_reducible apply vOps_nil); try (with_reducible refine And.intro (by kernel_rfl) ?_))
        | (refine kOps_gon (g := ?_) (p := ?_) rfl rfl ?_ ?_ ?_ ?_; rotate_left 2; fail; (exact rfl); (with_reducible rfl))
        | (refine kOps_gofft (g := ?_) (p := ?_) rfl rfl ?_ ?_ ?_ ?_; rotate_left 2; fail; (exact rfl); (with_reducible rfl))
        | (refine kOps_gofff (g := ?_) (p := ?_) rfl rfl ?_ ?_ ?_ ?_; rotate_left 2; fail; (exact rfl); (with_reducible rfl))
        | (refine kOps_pickt rfl rfl rfl rfl ?_ rfl ?_; (with_reducible rfl))
        | (refine kOps_pickf rfl rfl rfl rfl ?_ rfl ?_; (with_reducible rfl))
        | (refine kOps_as rfl rfl rfl rfl ?_)
        | (refine kOps_conv (s := 3) (t := 5) (pre := ?_) (val := ?_) rfl rfl rfl rfl ?_ ?_ ?_; rotate_left 2; (intro L; simp only [splice_one, cells_bv, getD_bv, set_bv, cells_agg, decide_true, decide_false, Int.reduceNe, ne_eq, not_true_eq_false, not_false_eq_true, blen8, wz8, Int.reduceTDiv, Nat.reduceSub, Nat.reduceMod, Int.cast_ofNat_Int, hz, w_8, cv_3_5]; first | rfl | (first | (rw [wrap_i64] <;> first | omega | rfl) | (rw [wrap_u8] <;> first | omega | rfl) | (rw [wrap_u16] <;> first | omega | rfl) | (rw [wrap_u32] <;> first | omega | rfl) | rfl)); exact trivial)
        | (refine kOps_un (b := .xor) (pre := ?_) (val := ?_) rfl rfl rfl rfl ?_ ?_ ?_; rotate_left 2; (intro L; simp only [splice_one, cells_bv, getD_bv, set_bv, cells_agg, decide_true, decide_false, Int.reduceNe, ne_eq, not_true_eq_false, not_false_eq_true, blen8, wz8, Int.reduceTDiv, Nat.reduceSub, Nat.reduceMod, Int.cast_ofNat_Int, hz, not_8, not_ul, not_uw, unF_not, unF_neg]; (first | (rw [wrap_i64] <;> first | omega | rfl) | (rw [wrap_u8] <;> first | omega | rfl) | (rw [wrap_u16] <;> first | omega | rfl) | (rw [wrap_u32] <;> first | omega | rfl) | rfl)); exact trivial)
        | (refine kOps_conv (s := 5) (t := 23) (pre := ?_) (val := ?_) rfl rfl rfl rfl ?_ ?_ ?_; rotate_left 2; (intro L; simp only [splice_one, cells_bv, getD_bv, set_bv, cells_agg, decide_true, decide_false, Int.reduceNe, ne_eq, not_true_eq_false, not_false_eq_true, blen8, wz8, Int.reduceTDiv, Nat.reduceSub, Nat.reduceMod, Int.cast_ofNat_Int, hz, w_8, cv_5_23, cw_5_23]; first | rfl | (first | (rw [wrap_i64] <;> first | omega | rfl) | (rw [wrap_u8] <;> first | omega | rfl) | (rw [wrap_u16] <;> first | omega | rfl) | (rw [wrap_u32] <;> first | omega | rfl) | rfl)); exact trivial)
        | (refine kOps_callc (pre := ?_) (val := ?_) rfl rfl rfl rfl rfl ?_ ?_ ?_ ?_ ?_; rotate_left 2; (simp only [splice_one, cells_bv, getD_bv, set_bv, cells_agg, decide_true, decide_false, Int.reduceNe, ne_eq, not_true_eq_false, not_false_eq_true, blen8, wz8, Int.reduceTDiv, Nat.reduceSub, Nat.reduceMod, Int.cast_ofNat_Int, hz, isB_bv, bytesOf_bv, isul_ul, ulv_ul, sNeed, sLen64, lit_ul0, lit_ul1, nrmC, List.map_cons, List.map_nil, nrm_ul, nrm_u4, nrm_nil, nrm_int, nrm_bool, nrm_string, nrm_ro, nrm_agg, nrm_rptr, isU_u4, uv_u4, true_and, and_true, and_self, n_add_zero, Nat.zero_add, Nat.zero_mod, n_sub_zero]; rfl); (focus (first | (with_reducible rfl) | (simp only [closed, closedL, closed_ul, closed_u4, closedL_bv, closedL_cl, Bool.and_self, Bool.and_true, closedL_wr, closed_uw, closed_sv, closed_tp]; done))); (focus (first | (with_reducible rfl) | (simp only [closed, closedL, closed_ul, closed_u4, closedL_bv, closedL_cl, Bool.and_self, Bool.and_true, closedL_wr, closed_uw, closed_sv, closed_tp]; done))); (focus ((repeat' apply And.intro) <;> first | exact True.intro | omega | (with_reducible rfl) | assumption | (simp only [lns]; first | done | omega) | (simp only [one_bv, cells_bv, one_bv1, List.length_cons, List.length_nil, List.all_cons, List.all_nil, Bool.and_self]; done) | (simp only [cells_agg, one_bv, lns, and_self, true_and, Nat.le_refl, Nat.reduceAdd, Nat.zero_add]; done) | exact one_bv _ | exact ⟨_, rfl⟩ | (simp [PV.one, one_bv, PV.cells, Value.cells, Value.oneCell']; done))))
        | (refine kOps_bin (b := .quo) (pre := ?_) (val := ?_) rfl rfl rfl rfl rfl ?_ ?_ ?_; rotate_left 2; (intro L; simp only [splice_one, cells_bv, getD_bv, set_bv, cells_agg, decide_true, decide_false, Int.reduceNe, ne_eq, not_true_eq_false, not_false_eq_true, blen8, wz8, Int.reduceTDiv, Nat.reduceSub, Nat.reduceMod, Int.cast_ofNat_Int, hz, lit_ul0, lit_ul1, binF_quo, Int.reduceAdd, Int.reduceSub, Int.reduceMul, Int.reduceNeg, Int.sub_zero, Int.reduceLT, Int.reduceLE, Int.reduceEq, Nat.reduceLT, ty3]; (first | (rw [wrap_i64] <;> first | omega | rfl) | (rw [wrap_u8] <;> first | omega | rfl) | (rw [wrap_u16] <;> first | omega | rfl) | (rw [wrap_u32] <;> first | omega | rfl) | rfl)); (focus ((repeat' apply And.intro) <;> first | exact True.intro | omega | (with_reducible rfl) | assumption | (simp only [lns]; first | done | omega) | (simp only [one_bv, cells_bv, one_bv1, List.length_cons, List.length_nil, List.all_cons, List.all_nil, Bool.and_self]; done) | (simp only [cells_agg, one_bv, lns, and_self, true_and, Nat.le_refl, Nat.reduceAdd, Nat.zero_add]; done) | exact one_bv _ | exact ⟨_, rfl⟩ | (simp [PV.one, one_bv, PV.cells, Value.cells, Value.oneCell']; done))))
        | (refine kOps_mv rfl rfl rfl rfl ?_)
        | (refine kOps_bin (b := .neq) (pre := ?_) (val := ?_) rfl rfl rfl rfl rfl ?_ ?_ ?_; rotate_left 2; (intro L; simp only [splice_one, cells_bv, getD_bv, set_bv, cells_agg, decide_true, decide_false, Int.reduceNe, ne_eq, not_true_eq_false, not_false_eq_true, blen8, wz8, Int.reduceTDiv, Nat.reduceSub, Nat.reduceMod, Int.cast_ofNat_Int, hz, lit_ul0, lit_ul1, neq_ul, binF_neq, binF_sneq, Int.reduceAdd, Int.reduceSub, Int.reduceMul, Int.reduceNeg, Int.sub_zero, Int.reduceLT, Int.reduceLE, Int.reduceEq, Nat.reduceLT, ty36]; (first | (rw [wrap_i64] <;> first | omega | rfl) | (rw [wrap_u8] <;> first | omega | rfl) | (rw [wrap_u16] <;> first | omega | rfl) | (rw [wrap_u32] <;> first | omega | rfl) | rfl)); (focus ((repeat' apply And.intro) <;> first | exact True.intro | omega | (with_reducible rfl) | assumption | (simp only [lns]; first | done | omega) | (simp only [one_bv, cells_bv, one_bv1, List.length_cons, List.length_nil, List.all_cons, List.all_nil, Bool.and_self]; done) | (simp only [cells_agg, one_bv, lns, and_self, true_and, Nat.le_refl, Nat.reduceAdd, Nat.zero_add]; done) | exact one_bv _ | exact ⟨_, rfl⟩ | (simp [PV.one, one_bv, PV.cells, Value.cells, Value.oneCell']; done))))
        | (refine kOps_bin (b := .add) (pre := ?_) (val := ?_) rfl rfl rfl rfl rfl ?_ ?_ ?_; rotate_left 2; (intro L; simp only [splice_one, cells_bv, getD_bv, set_bv, cells_agg, decide_true, decide_false, Int.reduceNe, ne_eq, not_true_eq_false, not_false_eq_true, blen8, wz8, Int.reduceTDiv, Nat.reduceSub, Nat.reduceMod, Int.cast_ofNat_Int, hz, lit_ul0, lit_ul1, add_ul, binF_add, Int.reduceAdd, Int.reduceSub, Int.reduceMul, Int.reduceNeg, Int.sub_zero, Int.reduceLT, Int.reduceLE, Int.reduceEq, Nat.reduceLT, ty3]; (first | (rw [wrap_i64] <;> first | omega | rfl) | (rw [wrap_u8] <;> first | omega | rfl) | (rw [wrap_u16] <;> first | omega | rfl) | (rw [wrap_u32] <;> first | omega | rfl) | rfl)); exact trivial)
        | (refine vOps_gundef rfl rfl ?_ ?_; (focus (simp only [lookup_cons, Nat.reduceBEq, cond_true, cond_false]; done)); simp only [putIn])
        | (refine vOps_gpick (t := ?_) (val := ?_) rfl rfl ?_ rfl rfl ?_ ?_ ?_; rotate_left 2; (focus (simp only [lookup_cons, Nat.reduceBEq, cond_true, cond_false]; done)); (simp only [evalIn_tmp, evalIn_const, lookup_cons, Nat.reduceBEq, cond_true, cond_false]; rfl); (simp only [evalIn_tmp, evalIn_const, lookup_cons, Nat.reduceBEq, cond_true, cond_false]; rfl))
        | (refine vOps_pick (t := ?_) (val := ?_) rfl rfl rfl ?_ ?_ ?_; rotate_left 2; (simp only [evalIn_tmp, evalIn_const, lookup_cons, Nat.reduceBEq, cond_true, cond_false]; rfl); (simp only [evalIn_tmp, evalIn_const, lookup_cons, Nat.reduceBEq, cond_true, cond_false]; rfl))
        | (refine vOps_fork (b := ?_) rfl rfl ?_ ?_ ?_; rotate_left 1; (simp only [lookup_cons, Nat.reduceBEq, cond_true, cond_false]; rfl); all_goals (intro hb; simp only [hb]; (try simp only [decide_eq_true_eq, decide_eq_false_iff_not] at hb); try (exfalso; first | omega | exact hb trivial)))
        | (refine vOps_forkp (b := ?_) rfl ?_ ?_ ?_; rotate_left 1; (simp only [evalIn_tmp, lookup_cons, Nat.reduceBEq, cond_true, cond_false]; rfl); all_goals (intro hb; simp only [hb]; (try simp only [decide_eq_true_eq, decide_eq_false_iff_not] at hb); try (exfalso; first | omega | exact hb trivial))))
      refine wC_loopI (ι := {i : Nat // i ≤ 1}) e51_20 (fun i => ([(0, .ro b.length (b.map bv)), (1, .lit (.int .i64 (m : Int))), (7, .lit (.int .i64 1)), (9, .lit (.int .u8 ((rdV b m i.1 : Nat) : Int))), (23, .lit (.int .i64 1)), (24, .lit (.int .i64 (i.1 : Int)))], [])) (fun i => 1 - i.1) ⟨0, by omega⟩ [] ?_ ?_
      · show Weak _ _ _ _ _ _
        refine weak_mk (fun i h => absurd h (Nat.not_lt_zero i)) (by decide) (by simp) ?_ ?_
        · simp only [RenRows, List.nil_append, List.cons_append, List.set_cons_zero, List.set_cons_succ, List.getElem?_cons_zero, List.getElem?_cons_succ, Option.some.injEq, LE.cells.injEq, closedL_bv, closedL_wr, and_true, true_and]
          all_goals (rfl)
        · simp only [RenEnv, lookup_cons, Nat.reduceBEq, cond_true, cond_false]
          (repeat' apply And.intro) <;> first | trivial | exact ren_keep rfl | exact ren_keep (closed_u4 _) | (refine ren_int ?_; omega) | (refine ren_own rfl ?_; first | rfl | omega | (simp; done) | (omega; done)) | (refine ren_int ?_; omega; done) | (refine ren_int ?_; simp; done) | (refine ren_keep ?_; simp only [closed, closedL_bv, closedL_wr]; done) | (refine ren_ptr rfl; done) | exact ren_keep rfl
      · rintro ⟨i, hi⟩
        dsimp only
        have h8i : (8 * (i : Int)).toNat = 8 * i := by omega
        have hai : ((m : Int) + (i : Int)).toNat = m + i := by omega
        by_cases hlt : i < 1
        · have hsh := fun (L : LH) => shl_any (P := Try.prog) (L := L) (t := 5) (k := .u8) (k2 := .i64) (x := (b.getD (m + i) 0).toNat) (i := i) (w := 1) (z := 8 * (i : Int)) (UInt8.toNat_lt _) (by omega) rfl hlt (fun n h => wrapU8 n h)
          have hor := fun (L : LH) => or_any (P := Try.prog) (L := L) (t := 5) (k := .u8) (a := rdV b m i) (b := (b.getD (m + i) 0).toNat * 2 ^ (8 * i)) (rd_lt (w := 1) (by omega)) (part_lt (w := 1) (UInt8.toNat_lt _) hlt) (fun n h => wrapU8 n h)
          have hcv : IntKind.u8.wrap ((b.getD (m + i) 0).toNat : Int) = ((b.getD (m + i) 0).toNat : Int) := by have := (b.getD (m + i) 0).toNat_lt; exact wrapU8 _ (by omega)
          repeat' (first
            | (with_reducible first | apply seqC_normal | apply blockC_normal | apply seqC_exit | apply blockC_hit | apply seqC_ret | apply blockC_ret | apply loopC_ret | apply loopC_exit)
            | ((with_reducible apply blockC_miss); (exact rfl))
            | ((with_reducible apply wC_seq e51_21; apply wC_region e51_22); refine vOps_open (l := _ :: _) rfl ?_)
            | ((with_reducible apply wC_seq e51_23; apply kC_cond e51_24); (exact rfl); all_goals (intro hb; first | (cases hb; done) | cases hb | ((try simp only [decide_eq_true_eq, decide_eq_false_iff_not, Bool.not_eq_true', Bool.not_eq_false'] at hb); try (exfalso; first | omega | exact hb trivial))))
            | ((with_reducible apply wC_skip e51_25))
            | ((with_reducible apply wC_exit e51_26))
            | ((with_reducible apply wC_seq e51_27; apply wC_block e51_28; apply wC_seq e51_29; apply wC_region e51_30); refine vOps_open (l := _ :: _) rfl ?_)
            | ((with_reducible apply wC_region e51_31); refine vOps_open (l := _ :: _) rfl ?_)
            | ((with_reducible apply wC_region e51_32); refine vOps_open (l := _ :: _) rfl ?_)
            | ((with_reducible apply wC_seq e51_33; apply wC_region e51_34); refine vOps_open (l := _ :: _) rfl ?_)
            | ((with_reducible apply wC_ret e51_35))
            | ((with_reducible apply vOps_nil); try (with_reducible refine And.intro (by kernel_rfl) ?_))
            | (refine kOps_gon (g := ?_) (p := ?_) rfl rfl ?_ ?_ ?_ ?_; rotate_left 2; fail; (exact rfl); (with_reducible rfl))
            | (refine kOps_gofft (g := ?_) (p := ?_) rfl rfl ?_ ?_ ?_ ?_; rotate_left 2; fail; (exact rfl); (with_reducible rfl))
            | (refine kOps_gofff (g := ?_) (p := ?_) rfl rfl ?_ ?_ ?_ ?_; rotate_left 2; fail; (exact rfl); (with_reducible rfl))
            | (refine kOps_pickt rfl rfl rfl rfl ?_ rfl ?_; (with_reducible rfl))
            | (refine kOps_pickf rfl rfl rfl rfl ?_ rfl ?_; (with_reducible rfl))
            | (refine kOps_bin (b := .lss) (pre := ?_) (val := ?_) rfl rfl rfl rfl rfl ?_ ?_ ?_; rotate_left 2; (intro L; simp only [splice_one, cells_bv, getD_bv, set_bv, cells_agg, decide_true, decide_false, Int.reduceNe, ne_eq, not_true_eq_false, not_false_eq_true, blen8, wz8, Int.reduceTDiv, Nat.reduceSub, Nat.reduceMod, Int.cast_ofNat_Int, Int.toNat_natCast, elemAt, h8i, hai, hsh, hor, bv_lit, lit_ul0, lit_ul1, lss_ul, binF_lss, Int.reduceAdd, Int.reduceSub, Int.reduceMul, Int.reduceNeg, Int.sub_zero, Int.reduceLT, Int.reduceLE, Int.reduceEq, Nat.reduceLT, ty3]; (first | (rw [wrap_i64] <;> first | omega | rfl) | (rw [wrap_u8] <;> first | omega | rfl) | (rw [wrap_u16] <;> first | omega | rfl) | (rw [wrap_u32] <;> first | omega | rfl) | rfl)); exact trivial)
            | (refine kOps_mv rfl rfl rfl rfl ?_)
            | (refine kOps_as rfl rfl rfl rfl ?_)
            | (refine kOps_bin (b := .add) (pre := ?_) (val := ?_) rfl rfl rfl rfl rfl ?_ ?_ ?_; rotate_left 2; (intro L; simp only [splice_one, cells_bv, getD_bv, set_bv, cells_agg, decide_true, decide_false, Int.reduceNe, ne_eq, not_true_eq_false, not_false_eq_true, blen8, wz8, Int.reduceTDiv, Nat.reduceSub, Nat.reduceMod, Int.cast_ofNat_Int, Int.toNat_natCast, elemAt, h8i, hai, hsh, hor, bv_lit, lit_ul0, lit_ul1, add_ul, binF_add, Int.reduceAdd, Int.reduceSub, Int.reduceMul, Int.reduceNeg, Int.sub_zero, Int.reduceLT, Int.reduceLE, Int.reduceEq, Nat.reduceLT, ty3]; (first | (rw [wrap_i64] <;> first | omega | rfl) | (rw [wrap_u8] <;> first | omega | rfl) | (rw [wrap_u16] <;> first | omega | rfl) | (rw [wrap_u32] <;> first | omega | rfl) | rfl)); exact trivial)
            | ((first | (refine kOps_ixas (off' := ?_) rfl rfl rfl rfl rfl rfl ty22 ty5 ?_ ?_ ?_; rotate_left 1; (simp only [splice_one, cells_bv, getD_bv, set_bv, cells_agg, decide_true, decide_false, Int.reduceNe, ne_eq, not_true_eq_false, not_false_eq_true, blen8, wz8, Int.reduceTDiv, Nat.reduceSub, Nat.reduceMod, Int.cast_ofNat_Int, Int.toNat_natCast, elemAt, h8i, hai, Nat.zero_add, n_add_zero, Nat.mul_one, Nat.one_mul, Int.reduceToNat, Int.toNat_zero, Nat.reduceMul, Nat.reduceAdd]; rfl)) | (refine kOps_ixar (cs' := ?_) rfl rfl rfl rfl rfl ty22 ty5 ?_ ?_ ?_; rotate_left 1; (simp only [splice_one, cells_bv, getD_bv, set_bv, cells_agg, decide_true, decide_false, Int.reduceNe, ne_eq, not_true_eq_false, not_false_eq_true, blen8, wz8, Int.reduceTDiv, Nat.reduceSub, Nat.reduceMod, Int.cast_ofNat_Int, Int.toNat_natCast, elemAt, h8i, hai, isAggD, Bool.false_eq_true, if_false, if_true, reduceIte, take_cl, agg_cl, len_cl, List.drop_zero, Int.reduceToNat, Int.toNat_zero, n_add_zero, Nat.mul_one, Nat.zero_add, Nat.reduceAdd, Nat.reduceMul, take_bytes, List.length_map, List.getD_cons_zero]; rfl))); (focus ((repeat' apply And.intro) <;> first | exact True.intro | omega | (with_reducible rfl) | assumption | (simp only [lns]; first | done | omega) | (simp only [one_bv, cells_bv, one_bv1, List.length_cons, List.length_nil, List.all_cons, List.all_nil, Bool.and_self]; done) | (simp only [cells_agg, one_bv, lns, and_self, true_and, Nat.le_refl, Nat.reduceAdd, Nat.zero_add]; done) | exact one_bv _ | exact ⟨_, rfl⟩ | (simp [PV.one, one_bv, PV.cells, Value.cells, Value.oneCell']; done))))
            | ((first | refine kOps_loadp (pre := ?_) (val := ?_) rfl rfl rfl rfl rfl ty5 ?_ ?_ ?_ | refine kOps_loadr (pre := ?_) (val := ?_) rfl rfl rfl rfl ty5 ?_ ?_ ?_); rotate_left 2; (simp only [splice_one, cells_bv, getD_bv, set_bv, cells_agg, decide_true, decide_false, Int.reduceNe, ne_eq, not_true_eq_false, not_false_eq_true, blen8, wz8, Int.reduceTDiv, Nat.reduceSub, Nat.reduceMod, Int.cast_ofNat_Int, Int.toNat_natCast, elemAt, h8i, hai, partF, isAggD, Bool.false_eq_true, if_false, if_true, reduceIte, take_cl, agg_cl, len_cl, List.drop_zero, Int.reduceToNat, Int.toNat_zero, n_add_zero, Nat.mul_one, Nat.zero_add, Nat.reduceAdd, Nat.reduceMul, take_bytes, List.length_map, List.getD_cons_zero]; rfl); (focus ((repeat' apply And.intro) <;> first | exact True.intro | omega | (with_reducible rfl) | assumption | (simp only [lns]; first | done | omega) | (simp only [one_bv, cells_bv, one_bv1, List.length_cons, List.length_nil, List.all_cons, List.all_nil, Bool.and_self]; done) | (simp only [cells_agg, one_bv, lns, and_self, true_and, Nat.le_refl, Nat.reduceAdd, Nat.zero_add]; done) | exact one_bv _ | exact ⟨_, rfl⟩ | (simp [PV.one, one_bv, PV.cells, Value.cells, Value.oneCell']; done))))
            | (refine kOps_bin (b := .mul) (pre := ?_) (val := ?_) rfl rfl rfl rfl rfl ?_ ?_ ?_; rotate_left 2; (intro L; simp only [splice_one, cells_bv, getD_bv, set_bv, cells_agg, decide_true, decide_false, Int.reduceNe, ne_eq, not_true_eq_false, not_false_eq_true, blen8, wz8, Int.reduceTDiv, Nat.reduceSub, Nat.reduceMod, Int.cast_ofNat_Int, Int.toNat_natCast, elemAt, h8i, hai, hsh, hor, bv_lit, lit_ul0, lit_ul1, mul_ul, binF_mul, Int.reduceAdd, Int.reduceSub, Int.reduceMul, Int.reduceNeg, Int.sub_zero, Int.reduceLT, Int.reduceLE, Int.reduceEq, Nat.reduceLT, ty3]; (first | (rw [wrap_i64] <;> first | omega | rfl) | (rw [wrap_u8] <;> first | omega | rfl) | (rw [wrap_u16] <;> first | omega | rfl) | (rw [wrap_u32] <;> first | omega | rfl) | rfl)); exact trivial)
            | (refine kOps_bin (b := .shl) (pre := ?_) (val := ?_) rfl rfl rfl rfl rfl ?_ ?_ ?_; rotate_left 2; (intro L; simp only [splice_one, cells_bv, getD_bv, set_bv, cells_agg, decide_true, decide_false, Int.reduceNe, ne_eq, not_true_eq_false, not_false_eq_true, blen8, wz8, Int.reduceTDiv, Nat.reduceSub, Nat.reduceMod, Int.cast_ofNat_Int, Int.toNat_natCast, elemAt, h8i, hai, hsh, hor, bv_lit, lit_ul0, lit_ul1, shl_bv, binF_shl, Int.reduceAdd, Int.reduceSub, Int.reduceMul, Int.reduceNeg, Int.sub_zero, Int.reduceLT, Int.reduceLE, Int.reduceEq, Nat.reduceLT, ty5]; (first | (rw [wrap_i64] <;> first | omega | rfl) | (rw [wrap_u8] <;> first | omega | rfl) | (rw [wrap_u16] <;> first | omega | rfl) | (rw [wrap_u32] <;> first | omega | rfl) | rfl)); (focus ((repeat' apply And.intro) <;> first | exact True.intro | omega | (with_reducible rfl) | assumption | (simp only [lns]; first | done | omega) | (simp only [one_bv, cells_bv, one_bv1, List.length_cons, List.length_nil, List.all_cons, List.all_nil, Bool.and_self]; done) | (simp only [cells_agg, one_bv, lns, and_self, true_and, Nat.le_refl, Nat.reduceAdd, Nat.zero_add]; done) | exact one_bv _ | exact ⟨_, rfl⟩ | (simp [PV.one, one_bv, PV.cells, Value.cells, Value.oneCell']; done))))
            | (refine kOps_bin (b := .or) (pre := ?_) (val := ?_) rfl rfl rfl rfl rfl ?_ ?_ ?_; rotate_left 2; (intro L; simp only [splice_one, cells_bv, getD_bv, set_bv, cells_agg, decide_true, decide_false, Int.reduceNe, ne_eq, not_true_eq_false, not_false_eq_true, blen8, wz8, Int.reduceTDiv, Nat.reduceSub, Nat.reduceMod, Int.cast_ofNat_Int, Int.toNat_natCast, elemAt, h8i, hai, hsh, hor, bv_lit, lit_ul0, lit_ul1, or_bv, binF_or, Int.reduceAdd, Int.reduceSub, Int.reduceMul, Int.reduceNeg, Int.sub_zero, Int.reduceLT, Int.reduceLE, Int.reduceEq, Nat.reduceLT, ty5]; (first | (rw [wrap_i64] <;> first | omega | rfl) | (rw [wrap_u8] <;> first | omega | rfl) | (rw [wrap_u16] <;> first | omega | rfl) | (rw [wrap_u32] <;> first | omega | rfl) | rfl)); exact trivial)
            | (refine vOps_gundef rfl rfl ?_ ?_; (focus (simp only [lookup_cons, Nat.reduceBEq, cond_true, cond_false]; done)); simp only [putIn])
            | (refine vOps_gpick (t := ?_) (val := ?_) rfl rfl ?_ rfl rfl ?_ ?_ ?_; rotate_left 2; (focus (simp only [lookup_cons, Nat.reduceBEq, cond_true, cond_false]; done)); (simp only [evalIn_tmp, evalIn_const, lookup_cons, Nat.reduceBEq, cond_true, cond_false]; rfl); (simp only [evalIn_tmp, evalIn_const, lookup_cons, Nat.reduceBEq, cond_true, cond_false]; rfl))
            | (refine vOps_pick (t := ?_) (val := ?_) rfl rfl rfl ?_ ?_ ?_; rotate_left 2; (simp only [evalIn_tmp, evalIn_const, lookup_cons, Nat.reduceBEq, cond_true, cond_false]; rfl); (simp only [evalIn_tmp, evalIn_const, lookup_cons, Nat.reduceBEq, cond_true, cond_false]; rfl))
            | (refine vOps_fork (b := ?_) rfl rfl ?_ ?_ ?_; rotate_left 1; (simp only [lookup_cons, Nat.reduceBEq, cond_true, cond_false]; rfl); all_goals (intro hb; simp only [hb]; (try simp only [decide_eq_true_eq, decide_eq_false_iff_not] at hb); try (exfalso; first | omega | exact hb trivial)))
            | (refine vOps_forkp (b := ?_) rfl ?_ ?_ ?_; rotate_left 1; (simp only [evalIn_tmp, lookup_cons, Nat.reduceBEq, cond_true, cond_false]; rfl); all_goals (intro hb; simp only [hb]; (try simp only [decide_eq_true_eq, decide_eq_false_iff_not] at hb); try (exfalso; first | omega | exact hb trivial))))
          refine loopC_normal ⟨i + 1, by omega⟩ [] (by show 1 - (i + 1) < 1 - i; omega) ?_
          refine weak_mk (fun i h => absurd h (Nat.not_lt_zero i)) (by decide) (by simp) ?_ ?_
          · simp only [RenRows, List.nil_append, List.cons_append, List.set_cons_zero, List.set_cons_succ, List.getElem?_cons_zero, List.getElem?_cons_succ, Option.some.injEq, LE.cells.injEq, closedL_bv, closedL_wr, and_true, true_and]
            all_goals (rfl)
          · simp only [RenEnv, lookup_cons, Nat.reduceBEq, cond_true, cond_false]
            (repeat' apply And.intro) <;> first | trivial | exact ren_keep rfl | exact ren_keep (closed_u4 _) | (refine ren_int ?_; omega) | (refine ren_own rfl ?_; first | rfl | omega | (simp; done) | (omega; done)) | (refine ren_int ?_; omega; done) | (refine ren_int ?_; simp; done) | (refine ren_keep ?_; simp only [closed, closedL_bv, closedL_wr]; done) | (refine ren_ptr rfl; done) | exact ren_rdq (by omega)
        · obtain rfl : i = 1 := by omega
          repeat' (first
            | (with_reducible first | apply seqC_normal | apply blockC_normal | apply seqC_exit | apply blockC_hit | apply seqC_ret | apply blockC_ret | apply loopC_ret | apply loopC_exit)
            | ((with_reducible apply blockC_miss); (exact rfl))
            | ((with_reducible apply wC_seq e51_21; apply wC_region e51_22); refine vOps_open (l := _ :: _) rfl ?_)
            | ((with_reducible apply wC_seq e51_23; apply kC_cond e51_24); (exact rfl); all_goals (intro hb; first | (cases hb; done) | cases hb | ((try simp only [decide_eq_true_eq, decide_eq_false_iff_not, Bool.not_eq_true', Bool.not_eq_false'] at hb); try (exfalso; first | omega | exact hb trivial))))
            | ((with_reducible apply wC_skip e51_25))
            | ((with_reducible apply wC_exit e51_26))
            | ((with_reducible apply wC_seq e51_27; apply wC_block e51_28; apply wC_seq e51_29; apply wC_region e51_30); refine vOps_open (l := _ :: _) rfl ?_)
            | ((with_reducible apply wC_region e51_31); refine vOps_open (l := _ :: _) rfl ?_)
            | ((with_reducible apply wC_region e51_32); refine vOps_open (l := _ :: _) rfl ?_)
            | ((with_reducible apply wC_seq e51_33; apply wC_region e51_34); refine vOps_open (l := _ :: _) rfl ?_)
            | ((with_reducible apply wC_ret e51_35))
            | ((with_reducible apply vOps_nil); try (with_reducible refine And.intro (by kernel_rfl) ?_))
            | (refine kOps_gon (g := ?_) (p := ?_) rfl rfl ?_ ?_ ?_ ?_; rotate_left 2; fail; (exact rfl); (with_reducible rfl))
            | (refine kOps_gofft (g := ?_) (p := ?_) rfl rfl ?_ ?_ ?_ ?_; rotate_left 2; fail; (exact rfl); (with_reducible rfl))
            | (refine kOps_gofff (g := ?_) (p := ?_) rfl rfl ?_ ?_ ?_ ?_; rotate_left 2; fail; (exact rfl); (with_reducible rfl))
            | (refine kOps_pickt rfl rfl rfl rfl ?_ rfl ?_; (with_reducible rfl))
            | (refine kOps_pickf rfl rfl rfl rfl ?_ rfl ?_; (with_reducible rfl))
            | (refine kOps_bin (b := .lss) (pre := ?_) (val := ?_) rfl rfl rfl rfl rfl ?_ ?_ ?_; rotate_left 2; (intro L; simp only [splice_one, cells_bv, getD_bv, set_bv, cells_agg, decide_true, decide_false, Int.reduceNe, ne_eq, not_true_eq_false, not_false_eq_true, blen8, wz8, Int.reduceTDiv, Nat.reduceSub, Nat.reduceMod, Int.cast_ofNat_Int, Int.toNat_natCast, lit_ul0, lit_ul1, lss_ul, binF_lss, Int.reduceAdd, Int.reduceSub, Int.reduceMul, Int.reduceNeg, Int.sub_zero, Int.reduceLT, Int.reduceLE, Int.reduceEq, Nat.reduceLT, ty3]; (first | (rw [wrap_i64] <;> first | omega | rfl) | (rw [wrap_u8] <;> first | omega | rfl) | (rw [wrap_u16] <;> first | omega | rfl) | (rw [wrap_u32] <;> first | omega | rfl) | rfl)); exact trivial)
            | (refine kOps_mv rfl rfl rfl rfl ?_)
            | (refine kOps_as rfl rfl rfl rfl ?_)
            | (refine kOps_bin (b := .add) (pre := ?_) (val := ?_) rfl rfl rfl rfl rfl ?_ ?_ ?_; rotate_left 2; (intro L; simp only [splice_one, cells_bv, getD_bv, set_bv, cells_agg, decide_true, decide_false, Int.reduceNe, ne_eq, not_true_eq_false, not_false_eq_true, blen8, wz8, Int.reduceTDiv, Nat.reduceSub, Nat.reduceMod, Int.cast_ofNat_Int, Int.toNat_natCast, lit_ul0, lit_ul1, add_ul, binF_add, Int.reduceAdd, Int.reduceSub, Int.reduceMul, Int.reduceNeg, Int.sub_zero, Int.reduceLT, Int.reduceLE, Int.reduceEq, Nat.reduceLT, ty3]; (first | (rw [wrap_i64] <;> first | omega | rfl) | (rw [wrap_u8] <;> first | omega | rfl) | (rw [wrap_u16] <;> first | omega | rfl) | (rw [wrap_u32] <;> first | omega | rfl) | rfl)); exact trivial)
            | ((first | (refine kOps_ixas (off' := ?_) rfl rfl rfl rfl rfl rfl ty22 ty5 ?_ ?_ ?_; rotate_left 1; (simp only [splice_one, cells_bv, getD_bv, set_bv, cells_agg, decide_true, decide_false, Int.reduceNe, ne_eq, not_true_eq_false, not_false_eq_true, blen8, wz8, Int.reduceTDiv, Nat.reduceSub, Nat.reduceMod, Int.cast_ofNat_Int, Int.toNat_natCast, Nat.zero_add, n_add_zero, Nat.mul_one, Nat.one_mul, Int.reduceToNat, Int.toNat_zero, Nat.reduceMul, Nat.reduceAdd]; rfl)) | (refine kOps_ixar (cs' := ?_) rfl rfl rfl rfl rfl ty22 ty5 ?_ ?_ ?_; rotate_left 1; (simp only [splice_one, cells_bv, getD_bv, set_bv, cells_agg, decide_true, decide_false, Int.reduceNe, ne_eq, not_true_eq_false, not_false_eq_true, blen8, wz8, Int.reduceTDiv, Nat.reduceSub, Nat.reduceMod, Int.cast_ofNat_Int, Int.toNat_natCast, elemAt, isAggD, Bool.false_eq_true, if_false, if_true, reduceIte, take_cl, agg_cl, len_cl, List.drop_zero, Int.reduceToNat, Int.toNat_zero, n_add_zero, Nat.mul_one, Nat.zero_add, Nat.reduceAdd, Nat.reduceMul, take_bytes, List.length_map, List.getD_cons_zero]; rfl))); (focus ((repeat' apply And.intro) <;> first | exact True.intro | omega | (with_reducible rfl) | assumption | (simp only [lns]; first | done | omega) | (simp only [one_bv, cells_bv, one_bv1, List.length_cons, List.length_nil, List.all_cons, List.all_nil, Bool.and_self]; done) | (simp only [cells_agg, one_bv, lns, and_self, true_and, Nat.le_refl, Nat.reduceAdd, Nat.zero_add]; done) | exact one_bv _ | exact ⟨_, rfl⟩ | (simp [PV.one, one_bv, PV.cells, Value.cells, Value.oneCell']; done))))
            | ((first | refine kOps_loadp (pre := ?_) (val := ?_) rfl rfl rfl rfl rfl ty5 ?_ ?_ ?_ | refine kOps_loadr (pre := ?_) (val := ?_) rfl rfl rfl rfl ty5 ?_ ?_ ?_); rotate_left 2; (simp only [splice_one, cells_bv, getD_bv, set_bv, cells_agg, decide_true, decide_false, Int.reduceNe, ne_eq, not_true_eq_false, not_false_eq_true, blen8, wz8, Int.reduceTDiv, Nat.reduceSub, Nat.reduceMod, Int.cast_ofNat_Int, Int.toNat_natCast, partF, isAggD, Bool.false_eq_true, if_false, if_true, reduceIte, take_cl, agg_cl, len_cl, List.drop_zero, Int.reduceToNat, Int.toNat_zero, n_add_zero, Nat.mul_one, Nat.zero_add, Nat.reduceAdd, Nat.reduceMul, take_bytes, List.length_map, List.getD_cons_zero]; rfl); (focus ((repeat' apply And.intro) <;> first | exact True.intro | omega | (with_reducible rfl) | assumption | (simp only [lns]; first | done | omega) | (simp only [one_bv, cells_bv, one_bv1, List.length_cons, List.length_nil, List.all_cons, List.all_nil, Bool.and_self]; done) | (simp only [cells_agg, one_bv, lns, and_self, true_and, Nat.le_refl, Nat.reduceAdd, Nat.zero_add]; done) | exact one_bv _ | exact ⟨_, rfl⟩ | (simp [PV.one, one_bv, PV.cells, Value.cells, Value.oneCell']; done))))
            | (refine kOps_bin (b := .mul) (pre := ?_) (val := ?_) rfl rfl rfl rfl rfl ?_ ?_ ?_; rotate_left 2; (intro L; simp only [splice_one, cells_bv, getD_bv, set_bv, cells_agg, decide_true, decide_false, Int.reduceNe, ne_eq, not_true_eq_false, not_false_eq_true, blen8, wz8, Int.reduceTDiv, Nat.reduceSub, Nat.reduceMod, Int.cast_ofNat_Int, Int.toNat_natCast, lit_ul0, lit_ul1, mul_ul, binF_mul, Int.reduceAdd, Int.reduceSub, Int.reduceMul, Int.reduceNeg, Int.sub_zero, Int.reduceLT, Int.reduceLE, Int.reduceEq, Nat.reduceLT, ty3]; (first | (rw [wrap_i64] <;> first | omega | rfl) | (rw [wrap_u8] <;> first | omega | rfl) | (rw [wrap_u16] <;> first | omega | rfl) | (rw [wrap_u32] <;> first | omega | rfl) | rfl)); exact trivial)
            | (refine kOps_bin (b := .shl) (pre := ?_) (val := ?_) rfl rfl rfl rfl rfl ?_ ?_ ?_; rotate_left 2; (intro L; simp only [splice_one, cells_bv, getD_bv, set_bv, cells_agg, decide_true, decide_false, Int.reduceNe, ne_eq, not_true_eq_false, not_false_eq_true, blen8, wz8, Int.reduceTDiv, Nat.reduceSub, Nat.reduceMod, Int.cast_ofNat_Int, Int.toNat_natCast, lit_ul0, lit_ul1, shl_bv, binF_shl, Int.reduceAdd, Int.reduceSub, Int.reduceMul, Int.reduceNeg, Int.sub_zero, Int.reduceLT, Int.reduceLE, Int.reduceEq, Nat.reduceLT, ty5]; (first | (rw [wrap_i64] <;> first | omega | rfl) | (rw [wrap_u8] <;> first | omega | rfl) | (rw [wrap_u16] <;> first | omega | rfl) | (rw [wrap_u32] <;> first | omega | rfl) | rfl)); (focus ((repeat' apply And.intro) <;> first | exact True.intro | omega | (with_reducible rfl) | assumption | (simp only [lns]; first | done | omega) | (simp only [one_bv, cells_bv, one_bv1, List.length_cons, List.length_nil, List.all_cons, List.all_nil, Bool.and_self]; done) | (simp only [cells_agg, one_bv, lns, and_self, true_and, Nat.le_refl, Nat.reduceAdd, Nat.zero_add]; done) | exact one_bv _ | exact ⟨_, rfl⟩ | (simp [PV.one, one_bv, PV.cells, Value.cells, Value.oneCell']; done))))
            | (refine kOps_bin (b := .or) (pre := ?_) (val := ?_) rfl rfl rfl rfl rfl ?_ ?_ ?_; rotate_left 2; (intro L; simp only [splice_one, cells_bv, getD_bv, set_bv, cells_agg, decide_true, decide_false, Int.reduceNe, ne_eq, not_true_eq_false, not_false_eq_true, blen8, wz8, Int.reduceTDiv, Nat.reduceSub, Nat.reduceMod, Int.cast_ofNat_Int, Int.toNat_natCast, lit_ul0, lit_ul1, or_bv, binF_or, Int.reduceAdd, Int.reduceSub, Int.reduceMul, Int.reduceNeg, Int.sub_zero, Int.reduceLT, Int.reduceLE, Int.reduceEq, Nat.reduceLT, ty5]; (first | (rw [wrap_i64] <;> first | omega | rfl) | (rw [wrap_u8] <;> first | omega | rfl) | (rw [wrap_u16] <;> first | omega | rfl) | (rw [wrap_u32] <;> first | omega | rfl) | rfl)); exact trivial)
            | (refine vOps_gundef rfl rfl ?_ ?_; (focus (simp only [lookup_cons, Nat.reduceBEq, cond_true, cond_false]; done)); simp only [putIn])
            | (refine vOps_gpick (t := ?_) (val := ?_) rfl rfl ?_ rfl rfl ?_ ?_ ?_; rotate_left 2; (focus (simp only [lookup_cons, Nat.reduceBEq, cond_true, cond_false]; done)); (simp only [evalIn_tmp, evalIn_const, lookup_cons, Nat.reduceBEq, cond_true, cond_false]; rfl); (simp only [evalIn_tmp, evalIn_const, lookup_cons, Nat.reduceBEq, cond_true, cond_false]; rfl))
            | (refine vOps_pick (t := ?_) (val := ?_) rfl rfl rfl ?_ ?_ ?_; rotate_left 2; (simp only [evalIn_tmp, evalIn_const, lookup_cons, Nat.reduceBEq, cond_true, cond_false]; rfl); (simp only [evalIn_tmp, evalIn_const, lookup_cons, Nat.reduceBEq, cond_true, cond_false]; rfl))
            | (refine vOps_fork (b := ?_) rfl rfl ?_ ?_ ?_; rotate_left 1; (simp only [lookup_cons, Nat.reduceBEq, cond_true, cond_false]; rfl); all_goals (intro hb; simp only [hb]; (try simp only [decide_eq_true_eq, decide_eq_false_iff_not] at hb); try (exfalso; first | omega | exact hb trivial)))
            | (refine vOps_forkp (b := ?_) rfl ?_ ?_ ?_; rotate_left 1; (simp only [evalIn_tmp, lookup_cons, Nat.reduceBEq, cond_true, cond_false]; rfl); all_goals (intro hb; simp only [hb]; (try simp only [decide_eq_true_eq, decide_eq_false_iff_not] at hb); try (exfalso; first | omega | exact hb trivial))))
          refine fin_c (p := ?_) (xs := [.tmp 4, .tmp 5, .tmp 6]) (by simp) rfl ?_ ?_ ?_ ?_
          rotate_left 2
          · simp only [resAll_cons, resAll_nil, resPVl_0, resPVl_1, resPVl_2, resOne_tmp, resOne_cell, List.map_cons, List.map_nil, splice_one, cells_bv, getD_bv, set_bv, cells_agg, decide_true, decide_false, Int.reduceNe, ne_eq, not_true_eq_false, not_false_eq_true, blen8, wz8, Int.reduceTDiv, Nat.reduceSub, Nat.reduceMod, Int.cast_ofNat_Int, Int.toNat_natCast, elemAt, h8i, hai, evalIn_tmp, evalIn_const, evalIn_func, lookup_cons, Nat.reduceBEq, cond_true, cond_false, lit_ul0, lit_ul1, loadF, partF, List.getElem?_cons_zero, List.getElem?_cons_succ, List.set_cons_zero, List.set_cons_succ, List.cons_append, List.nil_append, true_and, and_true, and_self, Nat.le_refl, Nat.reduceLeDiff, isAggD, Bool.false_eq_true, if_false, if_true, reduceIte, take_cl, agg_cl, len_cl, List.drop_zero, Int.reduceToNat, Int.toNat_zero, n_add_zero, Nat.mul_one, Nat.zero_add, Nat.reduceAdd, Nat.reduceMul, take_bytes, List.length_map, List.getD_cons_zero, ty3, ty5, ty22, ty23, ty36]; try rfl
          · first | (with_reducible rfl) | (simp only [closed, closedL, closed_u4, closed_ul, closed_uw, closed_sv, closedL_bv, closedL_wr, Bool.and_self, Bool.and_true]; done) | (simp only [closed, closedL, closed_u4, closed_ul, closed_uw, closed_sv, closedL_bv, closedL_wr, Bool.and_self, Bool.and_true]; rfl)
          · rfl
          · simp only [resAll_cons, resAll_nil, resPVl_0, resPVl_1, resPVl_2, resOne_tmp, resOne_cell, List.map_cons, List.map_nil, splice_one, cells_bv, getD_bv, set_bv, cells_agg, decide_true, decide_false, Int.reduceNe, ne_eq, not_true_eq_false, not_false_eq_true, blen8, wz8, Int.reduceTDiv, Nat.reduceSub, Nat.reduceMod, Int.cast_ofNat_Int, Int.toNat_natCast, elemAt, h8i, hai, evalIn_tmp, evalIn_const, evalIn_func, lookup_cons, Nat.reduceBEq, cond_true, cond_false, lit_ul0, lit_ul1, loadF, partF, List.getElem?_cons_zero, List.getElem?_cons_succ, List.set_cons_zero, List.set_cons_succ, List.cons_append, List.nil_append, true_and, and_true, and_self, Nat.le_refl, Nat.reduceLeDiff, isAggD, Bool.false_eq_true, if_false, if_true, reduceIte, take_cl, agg_cl, len_cl, List.drop_zero, Int.reduceToNat, Int.toNat_zero, n_add_zero, Nat.mul_one, Nat.zero_add, Nat.reduceAdd, Nat.reduceMul, take_bytes, List.length_map, List.getD_cons_zero, ty3, ty5, ty22, ty23, ty36]; try trivial
    · rw [if_neg hz]
      have hn0 : (needE b.length a 1 = 0) = False := eq_false hz
      repeat' (first
        | (with_reducible first | apply seqC_normal | apply blockC_normal | apply seqC_exit | apply blockC_hit | apply seqC_ret | apply blockC_ret | apply loopC_ret | apply loopC_exit)
        | ((with_reducible apply blockC_miss); (exact rfl))
        | ((with_reducible apply wC_seq e51_0; apply wC_region e51_1); refine vOps_open (l := _ :: _) rfl ?_)
        | ((with_reducible apply wC_seq e51_2; apply wC_region e51_3); refine vOps_open (l := _ :: _) rfl ?_)
        | ((with_reducible apply wC_seq e51_4; apply wC_seq e51_5; apply wC_region e51_6); refine vOps_open (l := _ :: _) rfl ?_)
        | ((with_reducible apply wC_seq e51_7; apply wC_region e51_8); refine vOps_open (l := _ :: _) rfl ?_)
        | ((with_reducible apply kC_cond e51_9); (exact rfl); all_goals (intro hb; first | (cases hb; done) | cases hb | ((try simp only [decide_eq_true_eq, decide_eq_false_iff_not, Bool.not_eq_true', Bool.not_eq_false'] at hb); try (exfalso; first | omega | exact hb trivial))))
        | ((with_reducible apply wC_seq e51_10; apply wC_region e51_11); refine vOps_open (l := _ :: _) rfl ?_)
        | ((with_reducible apply wC_ret e51_12))
        | ((with_reducible apply wC_skip e51_13))
        | ((with_reducible apply wC_seq e51_14; apply wC_region e51_15); refine vOps_open (l := _ :: _) rfl ?_)
        | ((with_reducible apply wC_seq e51_16; apply wC_seq e51_17; apply wC_region e51_18); refine vOps_open (l := _ :: _) rfl ?_)
        | ((with_reducible apply wC_block e51_19))
        | ((with_reducible apply wC_seq e51_33; apply wC_region e51_34); refine vOps_open (l := _ :: _) rfl ?_)
        | ((with_reducible apply wC_ret e51_35))
        | ((with_reducible apply vOps_nil); try (with_reducible refine And.intro (by kernel_rfl) ?_))
        | (refine kOps_gon (g := ?_) (p := ?_) rfl rfl ?_ ?_ ?_ ?_; rotate_left 2; fail; (exact rfl); (with_reducible rfl))
        | (refine kOps_gofft (g := ?_) (p := ?_) rfl rfl ?_ ?_ ?_ ?_; rotate_left 2; fail; (exact rfl); (with_reducible rfl))
        | (refine kOps_gofff (g := ?_) (p := ?_) rfl rfl ?_ ?_ ?_ ?_; rotate_left 2; fail; (exact rfl); (with_reducible rfl))
        | (refine kOps_pickt rfl rfl rfl rfl ?_ rfl ?_; (with_reducible rfl))
        | (refine kOps_pickf rfl rfl rfl rfl ?_ rfl ?_; (with_reducible rfl))
        | (refine kOps_as rfl rfl rfl rfl ?_)
        | (refine kOps_conv (s := 3) (t := 5) (pre := ?_) (val := ?_) rfl rfl rfl rfl ?_ ?_ ?_; rotate_left 2; (intro L; simp only [splice_one, cells_bv, getD_bv, set_bv, cells_agg, decide_true, decide_false, Int.reduceNe, ne_eq, not_true_eq_false, not_false_eq_true, blen8, wz8, Int.reduceTDiv, Nat.reduceSub, Nat.reduceMod, Int.cast_ofNat_Int, hz, hn0, w_8, cv_3_5]; first | rfl | (first | (rw [wrap_i64] <;> first | omega | rfl) | (rw [wrap_u8] <;> first | omega | rfl) | (rw [wrap_u16] <;> first | omega | rfl) | (rw [wrap_u32] <;> first | omega | rfl) | rfl)); exact trivial)
        | (refine kOps_un (b := .xor) (pre := ?_) (val := ?_) rfl rfl rfl rfl ?_ ?_ ?_; rotate_left 2; (intro L; simp only [splice_one, cells_bv, getD_bv, set_bv, cells_agg, decide_true, decide_false, Int.reduceNe, ne_eq, not_true_eq_false, not_false_eq_true, blen8, wz8, Int.reduceTDiv, Nat.reduceSub, Nat.reduceMod, Int.cast_ofNat_Int, hz, hn0, not_8, not_ul, not_uw, unF_not, unF_neg]; (first | (rw [wrap_i64] <;> first | omega | rfl) | (rw [wrap_u8] <;> first | omega | rfl) | (rw [wrap_u16] <;> first | omega | rfl) | (rw [wrap_u32] <;> first | omega | rfl) | rfl)); exact trivial)
        | (refine kOps_conv (s := 5) (t := 23) (pre := ?_) (val := ?_) rfl rfl rfl rfl ?_ ?_ ?_; rotate_left 2; (intro L; simp only [splice_one, cells_bv, getD_bv, set_bv, cells_agg, decide_true, decide_false, Int.reduceNe, ne_eq, not_true_eq_false, not_false_eq_true, blen8, wz8, Int.reduceTDiv, Nat.reduceSub, Nat.reduceMod, Int.cast_ofNat_Int, hz, hn0, w_8, cv_5_23, cw_5_23]; first | rfl | (first | (rw [wrap_i64] <;> first | omega | rfl) | (rw [wrap_u8] <;> first | omega | rfl) | (rw [wrap_u16] <;> first | omega | rfl) | (rw [wrap_u32] <;> first | omega | rfl) | rfl)); exact trivial)
        | (refine kOps_callc (pre := ?_) (val := ?_) rfl rfl rfl rfl rfl ?_ ?_ ?_ ?_ ?_; rotate_left 2; (simp only [splice_one, cells_bv, getD_bv, set_bv, cells_agg, decide_true, decide_false, Int.reduceNe, ne_eq, not_true_eq_false, not_false_eq_true, blen8, wz8, Int.reduceTDiv, Nat.reduceSub, Nat.reduceMod, Int.cast_ofNat_Int, hz, hn0, isB_bv, bytesOf_bv, isul_ul, ulv_ul, sNeed, sLen64, lit_ul0, lit_ul1, nrmC, List.map_cons, List.map_nil, nrm_ul, nrm_u4, nrm_nil, nrm_int, nrm_bool, nrm_string, nrm_ro, nrm_agg, nrm_rptr, isU_u4, uv_u4, true_and, and_true, and_self, n_add_zero, Nat.zero_add, Nat.zero_mod, n_sub_zero]; rfl); (focus (first | (with_reducible rfl) | (simp only [closed, closedL, closed_ul, closed_u4, closedL_bv, closedL_cl, Bool.and_self, Bool.and_true, closedL_wr, closed_uw, closed_sv, closed_tp]; done))); (focus (first | (with_reducible rfl) | (simp only [closed, closedL, closed_ul, closed_u4, closedL_bv, closedL_cl, Bool.and_self, Bool.and_true, closedL_wr, closed_uw, closed_sv, closed_tp]; done))); (focus ((repeat' apply And.intro) <;> first | exact True.intro | omega | (with_reducible rfl) | assumption | (simp only [lns]; first | done | omega) | (simp only [one_bv, cells_bv, one_bv1, List.length_cons, List.length_nil, List.all_cons, List.all_nil, Bool.and_self]; done) | (simp only [cells_agg, one_bv, lns, and_self, true_and, Nat.le_refl, Nat.reduceAdd, Nat.zero_add]; done) | exact one_bv _ | exact ⟨_, rfl⟩ | (simp [PV.one, one_bv, PV.cells, Value.cells, Value.oneCell']; done))))
        | (refine kOps_bin (b := .quo) (pre := ?_) (val := ?_) rfl rfl rfl rfl rfl ?_ ?_ ?_; rotate_left 2; (intro L; simp only [splice_one, cells_bv, getD_bv, set_bv, cells_agg, decide_true, decide_false, Int.reduceNe, ne_eq, not_true_eq_false, not_false_eq_true, blen8, wz8, Int.reduceTDiv, Nat.reduceSub, Nat.reduceMod, Int.cast_ofNat_Int, hz, hn0, lit_ul0, lit_ul1, binF_quo, Int.reduceAdd, Int.reduceSub, Int.reduceMul, Int.reduceNeg, Int.sub_zero, Int.reduceLT, Int.reduceLE, Int.reduceEq, Nat.reduceLT, ty3]; (first | (rw [wrap_i64] <;> first | omega | rfl) | (rw [wrap_u8] <;> first | omega | rfl) | (rw [wrap_u16] <;> first | omega | rfl) | (rw [wrap_u32] <;> first | omega | rfl) | rfl)); (focus ((repeat' apply And.intro) <;> first | exact True.intro | omega | (with_reducible rfl) | assumption | (simp only [lns]; first | done | omega) | (simp only [one_bv, cells_bv, one_bv1, List.length_cons, List.length_nil, List.all_cons, List.all_nil, Bool.and_self]; done) | (simp only [cells_agg, one_bv, lns, and_self, true_and, Nat.le_refl, Nat.reduceAdd, Nat.zero_add]; done) | exact one_bv _ | exact ⟨_, rfl⟩ | (simp [PV.one, one_bv, PV.cells, Value.cells, Value.oneCell']; done))))
        | (refine kOps_mv rfl rfl rfl rfl ?_)
        | (refine kOps_bin (b := .neq) (pre := ?_) (val := ?_) rfl rfl rfl rfl rfl ?_ ?_ ?_; rotate_left 2; (intro L; simp only [splice_one, cells_bv, getD_bv, set_bv, cells_agg, decide_true, decide_false, Int.reduceNe, ne_eq, not_true_eq_false, not_false_eq_true, blen8, wz8, Int.reduceTDiv, Nat.reduceSub, Nat.reduceMod, Int.cast_ofNat_Int, hz, hn0, lit_ul0, lit_ul1, neq_ul, binF_neq, binF_sneq, Int.reduceAdd, Int.reduceSub, Int.reduceMul, Int.reduceNeg, Int.sub_zero, Int.reduceLT, Int.reduceLE, Int.reduceEq, Nat.reduceLT, ty36]; (first | (rw [wrap_i64] <;> first | omega | rfl) | (rw [wrap_u8] <;> first | omega | rfl) | (rw [wrap_u16] <;> first | omega | rfl) | (rw [wrap_u32] <;> first | omega | rfl) | rfl)); (focus ((repeat' apply And.intro) <;> first | exact True.intro | omega | (with_reducible rfl) | assumption | (simp only [lns]; first | done | omega) | (simp only [one_bv, cells_bv, one_bv1, List.length_cons, List.length_nil, List.all_cons, List.all_nil, Bool.and_self]; done) | (simp only [cells_agg, one_bv, lns, and_self, true_and, Nat.le_refl, Nat.reduceAdd, Nat.zero_add]; done) | exact one_bv _ | exact ⟨_, rfl⟩ | (simp [PV.one, one_bv, PV.cells, Value.cells, Value.oneCell']; done))))
        | (refine kOps_bin (b := .add) (pre := ?_) (val := ?_) rfl rfl rfl rfl rfl ?_ ?_ ?_; rotate_left 2; (intro L; simp only [splice_one, cells_bv, getD_bv, set_bv, cells_agg, decide_true, decide_false, Int.reduceNe, ne_eq, not_true_eq_false, not_false_eq_true, blen8, wz8, Int.reduceTDiv, Nat.reduceSub, Nat.reduceMod, Int.cast_ofNat_Int, hz, hn0, lit_ul0, lit_ul1, add_ul, binF_add, Int.reduceAdd, Int.reduceSub, Int.reduceMul, Int.reduceNeg, Int.sub_zero, Int.reduceLT, Int.reduceLE, Int.reduceEq, Nat.reduceLT, ty3]; (first | (rw [wrap_i64] <;> first | omega | rfl) | (rw [wrap_u8] <;> first | omega | rfl) | (rw [wrap_u16] <;> first | omega | rfl) | (rw [wrap_u32] <;> first | omega | rfl) | rfl)); exact trivial)
        | (refine vOps_gundef rfl rfl ?_ ?_; (focus (simp only [lookup_cons, Nat.reduceBEq, cond_true, cond_false]; done)); simp only [putIn])
        | (refine vOps_gpick (t := ?_) (val := ?_) rfl rfl ?_ rfl rfl ?_ ?_ ?_; rotate_left 2; (focus (simp only [lookup_cons, Nat.reduceBEq, cond_true, cond_false]; done)); (simp only [evalIn_tmp, evalIn_const, lookup_cons, Nat.reduceBEq, cond_true, cond_false]; rfl); (simp only [evalIn_tmp, evalIn_const, lookup_cons, Nat.reduceBEq, cond_true, cond_false]; rfl))
        | (refine vOps_pick (t := ?_) (val := ?_) rfl rfl rfl ?_ ?_ ?_; rotate_left 2; (simp only [evalIn_tmp, evalIn_const, lookup_cons, Nat.reduceBEq, cond_true, cond_false]; rfl); (simp only [evalIn_tmp, evalIn_const, lookup_cons, Nat.reduceBEq, cond_true, cond_false]; rfl))
        | (refine vOps_fork (b := ?_) rfl rfl ?_ ?_ ?_; rotate_left 1; (simp only [lookup_cons, Nat.reduceBEq, cond_true, cond_false]; rfl); all_goals (intro hb; simp only [hb]; (try simp only [decide_eq_true_eq, decide_eq_false_iff_not] at hb); try (exfalso; first | omega | exact hb trivial)))
        | (refine vOps_forkp (b := ?_) rfl ?_ ?_ ?_; rotate_left 1; (simp only [evalIn_tmp, lookup_cons, Nat.reduceBEq, cond_true, cond_false]; rfl); all_goals (intro hb; simp only [hb]; (try simp only [decide_eq_true_eq, decide_eq_false_iff_not] at hb); try (exfalso; first | omega | exact hb trivial))))
      refine fin_c (p := ?_) (xs := [.tmp 4, .tmp 5, .tmp 6]) (by simp) rfl ?_ ?_ ?_ ?_
      rotate_left 2
      · simp only [resAll_cons, resAll_nil, resPVl_0, resPVl_1, resPVl_2, resOne_tmp, resOne_cell, List.map_cons, List.map_nil, splice_one, cells_bv, getD_bv, set_bv, cells_agg, decide_true, decide_false, Int.reduceNe, ne_eq, not_true_eq_false, not_false_eq_true, blen8, wz8, Int.reduceTDiv, Nat.reduceSub, Nat.reduceMod, Int.cast_ofNat_Int, hz, hn0, evalIn_tmp, evalIn_const, evalIn_func, lookup_cons, Nat.reduceBEq, cond_true, cond_false, lit_ul0, lit_ul1, loadF, partF, List.getElem?_cons_zero, List.getElem?_cons_succ, List.set_cons_zero, List.set_cons_succ, List.cons_append, List.nil_append, true_and, and_true, and_self, Nat.le_refl, Nat.reduceLeDiff, isAggD, Bool.false_eq_true, if_false, if_true, reduceIte, take_cl, agg_cl, len_cl, List.drop_zero, Int.toNat_natCast, Int.reduceToNat, Int.toNat_zero, n_add_zero, Nat.mul_one, Nat.zero_add, Nat.reduceAdd, Nat.reduceMul, take_bytes, List.length_map, List.getD_cons_zero, ty3, ty5, ty22, ty23, ty36]; try rfl
      · first | (with_reducible rfl) | (simp only [closed, closedL, closed_u4, closed_ul, closed_uw, closed_sv, closedL_bv, closedL_wr, Bool.and_self, Bool.and_true]; done) | (simp only [closed, closedL, closed_u4, closed_ul, closed_uw, closed_sv, closedL_bv, closedL_wr, Bool.and_self, Bool.and_true]; rfl)
      · rfl
      · simp only [resAll_cons, resAll_nil, resPVl_0, resPVl_1, resPVl_2, resOne_tmp, resOne_cell, List.map_cons, List.map_nil, splice_one, cells_bv, getD_bv, set_bv, cells_agg, decide_true, decide_false, Int.reduceNe, ne_eq, not_true_eq_false, not_false_eq_true, blen8, wz8, Int.reduceTDiv, Nat.reduceSub, Nat.reduceMod, Int.cast_ofNat_Int, hz, hn0, evalIn_tmp, evalIn_const, evalIn_func, lookup_cons, Nat.reduceBEq, cond_true, cond_false, lit_ul0, lit_ul1, loadF, partF, List.getElem?_cons_zero, List.getElem?_cons_succ, List.set_cons_zero, List.set_cons_succ, List.cons_append, List.nil_append, true_and, and_true, and_self, Nat.le_refl, Nat.reduceLeDiff, isAggD, Bool.false_eq_true, if_false, if_true, reduceIte, take_cl, agg_cl, len_cl, List.drop_zero, Int.toNat_natCast, Int.reduceToNat, Int.toNat_zero, n_add_zero, Nat.mul_one, Nat.zero_add, Nat.reduceAdd, Nat.reduceMul, take_bytes, List.length_map, List.getD_cons_zero, ty3, ty5, ty22, ty23, ty36]; try trivial
  · exact hS.elim
end Go.Ab
