import Derived.Test.YtaofjdaclnagnaaMG
import Derived.Test.YtaofjdaclnagnaaTY
import Derived.Test.YtaofjdaclnagnaaFcodecneed
import Derived.Test.YtaofjdaclnagnaaFbitsLen64
namespace Go.Ab
open Go Go.Proofs
set_option linter.unusedVariables false
set_option linter.unusedSimpArgs false
set_option maxRecDepth 8000
set_option maxHeartbeats 4000000

noncomputable def B54 : Code := bodyOf Try.f54
theorem B54_eq : Try.f54.body = some B54 := by kernel_rfl
noncomputable def n54_0 : Code := B54
noncomputable def n54_1 : Code := codeAt B54 [0]
noncomputable def n54_2 : Code := codeAt B54 [1]
noncomputable def n54_3 : Code := codeAt B54 [1,0]
noncomputable def n54_4 : Code := codeAt B54 [1,1]
noncomputable def n54_5 : Code := codeAt B54 [1,1,0]
noncomputable def n54_6 : Code := codeAt B54 [1,1,0,0]
noncomputable def n54_7 : Code := codeAt B54 [1,1,0,1]
noncomputable def n54_8 : Code := codeAt B54 [1,1,0,1,0]
noncomputable def n54_9 : Code := codeAt B54 [1,1,0,1,1]
noncomputable def n54_10 : Code := codeAt B54 [1,1,0,1,1,0]
noncomputable def n54_11 : Code := codeAt B54 [1,1,0,1,1,0,0]
noncomputable def n54_12 : Code := codeAt B54 [1,1,0,1,1,0,1]
noncomputable def n54_13 : Code := codeAt B54 [1,1,0,1,1,1]
noncomputable def n54_14 : Code := codeAt B54 [1,1,1]
noncomputable def n54_15 : Code := codeAt B54 [1,1,1,0]
noncomputable def n54_16 : Code := codeAt B54 [1,1,1,1]
noncomputable def n54_17 : Code := codeAt B54 [1,1,1,1,0]
noncomputable def n54_18 : Code := codeAt B54 [1,1,1,1,0,0]
noncomputable def n54_19 : Code := codeAt B54 [1,1,1,1,0,1]
noncomputable def n54_20 : Code := codeAt B54 [1,1,1,1,0,1,0]
noncomputable def n54_21 : Code := codeAt B54 [1,1,1,1,0,1,0,0]
noncomputable def n54_22 : Code := codeAt B54 [1,1,1,1,0,1,0,0,0]
noncomputable def n54_23 : Code := codeAt B54 [1,1,1,1,0,1,0,0,1]
noncomputable def n54_24 : Code := codeAt B54 [1,1,1,1,0,1,0,0,1,0]
noncomputable def n54_25 : Code := codeAt B54 [1,1,1,1,0,1,0,0,1,0,0]
noncomputable def n54_26 : Code := codeAt B54 [1,1,1,1,0,1,0,0,1,0,1]
noncomputable def n54_27 : Code := codeAt B54 [1,1,1,1,0,1,0,0,1,1]
noncomputable def n54_28 : Code := codeAt B54 [1,1,1,1,0,1,0,0,1,1,0]
noncomputable def n54_29 : Code := codeAt B54 [1,1,1,1,0,1,0,0,1,1,0,0]
noncomputable def n54_30 : Code := codeAt B54 [1,1,1,1,0,1,0,0,1,1,0,0,0]
noncomputable def n54_31 : Code := codeAt B54 [1,1,1,1,0,1,0,0,1,1,0,0,1]
noncomputable def n54_32 : Code := codeAt B54 [1,1,1,1,0,1,0,0,1,1,1]
noncomputable def n54_33 : Code := codeAt B54 [1,1,1,1,1]
noncomputable def n54_34 : Code := codeAt B54 [1,1,1,1,1,0]
noncomputable def n54_35 : Code := codeAt B54 [1,1,1,1,1,1]
theorem e54_0 : n54_0 = .seq n54_1 n54_2 := rfl
noncomputable def r54_1 := opsAt n54_1
theorem e54_1 : n54_1 = .region 0 (r54_1).toArray false := rfl
theorem e54_2 : n54_2 = .seq n54_3 n54_4 := rfl
noncomputable def r54_3 := opsAt n54_3
theorem e54_3 : n54_3 = .region 1 (r54_3).toArray false := rfl
theorem e54_4 : n54_4 = .seq n54_5 n54_14 := rfl
theorem e54_5 : n54_5 = .seq n54_6 n54_7 := rfl
noncomputable def r54_6 := opsAt n54_6
theorem e54_6 : n54_6 = .region 2 (r54_6).toArray false := rfl
theorem e54_7 : n54_7 = .seq n54_8 n54_9 := rfl
noncomputable def r54_8 := opsAt n54_8
theorem e54_8 : n54_8 = .region 3 (r54_8).toArray false := rfl
theorem e54_9 : n54_9 = .cond (.tmp 21) n54_10 n54_13 := rfl
theorem e54_10 : n54_10 = .seq n54_11 n54_12 := rfl
noncomputable def r54_11 := opsAt n54_11
theorem e54_11 : n54_11 = .region 4 (r54_11).toArray false := rfl
theorem e54_12 : n54_12 = .ret := rfl
theorem e54_13 : n54_13 = .skip := rfl
theorem e54_14 : n54_14 = .seq n54_15 n54_16 := rfl
noncomputable def r54_15 := opsAt n54_15
theorem e54_15 : n54_15 = .region 5 (r54_15).toArray false := rfl
theorem e54_16 : n54_16 = .seq n54_17 n54_33 := rfl
theorem e54_17 : n54_17 = .seq n54_18 n54_19 := rfl
noncomputable def r54_18 := opsAt n54_18
theorem e54_18 : n54_18 = .region 6 (r54_18).toArray false := rfl
theorem e54_19 : n54_19 = .block 0 n54_20 := rfl
theorem e54_20 : n54_20 = .loop n54_21 := rfl
theorem e54_21 : n54_21 = .seq n54_22 n54_23 := rfl
noncomputable def r54_22 := opsAt n54_22
theorem e54_22 : n54_22 = .region 7 (r54_22).toArray false := rfl
theorem e54_23 : n54_23 = .seq n54_24 n54_27 := rfl
theorem e54_24 : n54_24 = .cond (.tmp 25) n54_25 n54_26 := rfl
theorem e54_25 : n54_25 = .skip := rfl
theorem e54_26 : n54_26 = .exit 0 := rfl
theorem e54_27 : n54_27 = .seq n54_28 n54_32 := rfl
theorem e54_28 : n54_28 = .block 1 n54_29 := rfl
theorem e54_29 : n54_29 = .seq n54_30 n54_31 := rfl
noncomputable def r54_30 := opsAt n54_30
theorem e54_30 : n54_30 = .region 8 (r54_30).toArray false := rfl
noncomputable def r54_31 := opsAt n54_31
theorem e54_31 : n54_31 = .region 9 (r54_31).toArray false := rfl
noncomputable def r54_32 := opsAt n54_32
theorem e54_32 : n54_32 = .region 10 (r54_32).toArray false := rfl
theorem e54_33 : n54_33 = .seq n54_34 n54_35 := rfl
noncomputable def r54_34 := opsAt n54_34
theorem e54_34 : n54_34 = .region 11 (r54_34).toArray false := rfl
theorem e54_35 : n54_35 = .ret := rfl
theorem f_codec_integer_uint32 : PureOk Try.prog 54 sInt32 := by
  refine pureOk_of (c := n54_0) (Γ := conOf [(56, .pure sNeed), (62, .pure sLen64)]) (conOf_ok (conOf_one (S := .pure sNeed) f_codec_need (conOf_one (S := .pure sLen64) f_bits_Len64 (conOf_end)))) mixed Try.func54 B54_eq (by decide +kernel) Try.call54 ?_
  intro args hS
  unfold sInt32 at hS ⊢
  split at hS
  · refine ⟨by rw [Try.ntmps54]; simp, vC_sound ?_⟩
    rename_i n cs a
    obtain ⟨hB, hn, ha0, ha1⟩ := hS
    obtain ⟨b, rfl, rfl⟩ := isB_out hB
    simp only [bytesOf_bv]
    clear hB
    simp only [entry_cons, entry_nil, Nat.reduceAdd]
    by_cases hz : needE b.length a 4 = 0
    · rw [if_pos hz]
      have hok := need_ok hz
      obtain ⟨m, rfl⟩ := Int.eq_ofNat_of_zero_le (show 0 ≤ a by omega)
      repeat' (first
        | (with_reducible first | apply seqC_normal | apply blockC_normal | apply seqC_exit | apply blockC_hit | apply seqC_ret | apply blockC_ret | apply loopC_ret | apply loopC_exit)
        | ((with_reducible apply blockC_miss); (exact rfl))
        | ((with_reducible apply wC_seq e54_0; apply wC_region e54_1); refine vOps_open (l := _ :: _) rfl ?_)
        | ((with_reducible apply wC_seq e54_2; apply wC_region e54_3); refine vOps_open (l := _ :: _) rfl ?_)
        | ((with_reducible apply wC_seq e54_4; apply wC_seq e54_5; apply wC_region e54_6); refine vOps_open (l := _ :: _) rfl ?_)
        | ((with_reducible apply wC_seq e54_7; apply wC_region e54_8); refine vOps_open (l := _ :: _) rfl ?_)
        | ((with_reducible apply kC_cond e54_9); (exact rfl); all_goals (intro hb; first | (cases hb; done) | cases hb | ((try simp only [decide_eq_true_eq, decide_eq_false_iff_not, Bool.not_eq_true', Bool.not_eq_false'] at hb); try (exfalso; first | omega | exact hb trivial))))
        | ((with_reducible apply wC_seq e54_10; apply wC_region e54_11); refine vOps_open (l := _ :: _) rfl ?_)
        | ((with_reducible apply wC_ret e54_12))
        | ((with_reducible apply wC_skip e54_13))
        | ((with_reducible apply wC_seq e54_14; apply wC_region e54_15); refine vOps_open (l := _ :: _) rfl ?_)
        | ((with_reducible apply wC_seq e54_16; apply wC_seq e54_17; apply wC_region e54_18); refine vOps_open (l := _ :: _) rfl ?_)
        | ((with_reducible apply wC_block e54_19))
        | ((with_reducible apply wC_seq e54_33; apply wC_region e54_34); refine vOps_open (l := _ :: _) rfl ?_)
        | ((with_reducible apply wC_ret e54_35))
        | ((with_reducible apply vOps_nil); try (with_reducible refine And.intro (by kernel_rfl) ?_))
        | (refine kOps_gon (g := ?_) (p := ?_) rfl rfl ?_ ?_ ?_ ?_; rotate_left 2; fail; (exact rfl); (with_reducible rfl))
        | (refine kOps_gofft (g := ?_) (p := ?_) rfl rfl ?_ ?_ ?_ ?_; rotate_left 2; fail; (exact rfl); (with_reducible rfl))
        | (refine kOps_gofff (g := ?_) (p := ?_) rfl rfl ?_ ?_ ?_ ?_; rotate_left 2; fail; (exact rfl); (with_reducible rfl))
        | (refine kOps_pickt rfl rfl rfl rfl ?_ rfl ?_; (with_reducible rfl))
        | (refine kOps_pickf rfl rfl rfl rfl ?_ rfl ?_; (with_reducible rfl))
        | (refine kOps_as rfl rfl rfl rfl ?_)
        | (refine kOps_conv (s := 3) (t := 31) (pre := ?_) (val := ?_) rfl rfl rfl rfl ?_ ?_ ?_; rotate_left 2; (intro L; simp only [splice_one, cells_bv, getD_bv, set_bv, cells_agg, decide_true, decide_false, Int.reduceNe, ne_eq, not_true_eq_false, not_false_eq_true, blen32, wz32, Int.reduceTDiv, Nat.reduceSub, Nat.reduceMod, Int.cast_ofNat_Int, hz, w_32, cv_3_31]; first | rfl | (first | (rw [wrap_i64] <;> first | omega | rfl) | (rw [wrap_u8] <;> first | omega | rfl) | (rw [wrap_u16] <;> first | omega | rfl) | (rw [wrap_u32] <;> first | omega | rfl) | rfl)); exact trivial)
        | (refine kOps_un (b := .xor) (pre := ?_) (val := ?_) rfl rfl rfl rfl ?_ ?_ ?_; rotate_left 2; (intro L; simp only [splice_one, cells_bv, getD_bv, set_bv, cells_agg, decide_true, decide_false, Int.reduceNe, ne_eq, not_true_eq_false, not_false_eq_true, blen32, wz32, Int.reduceTDiv, Nat.reduceSub, Nat.reduceMod, Int.cast_ofNat_Int, hz, not_32, not_ul, not_uw, unF_not, unF_neg]; (first | (rw [wrap_i64] <;> first | omega | rfl) | (rw [wrap_u8] <;> first | omega | rfl) | (rw [wrap_u16] <;> first | omega | rfl) | (rw [wrap_u32] <;> first | omega | rfl) | rfl)); exact trivial)
        | (refine kOps_conv (s := 31) (t := 23) (pre := ?_) (val := ?_) rfl rfl rfl rfl ?_ ?_ ?_; rotate_left 2; (intro L; simp only [splice_one, cells_bv, getD_bv, set_bv, cells_agg, decide_true, decide_false, Int.reduceNe, ne_eq, not_true_eq_false, not_false_eq_true, blen32, wz32, Int.reduceTDiv, Nat.reduceSub, Nat.reduceMod, Int.cast_ofNat_Int, hz, w_32, cv_31_23]; first | rfl | (first | (rw [wrap_i64] <;> first | omega | rfl) | (rw [wrap_u8] <;> first | omega | rfl) | (rw [wrap_u16] <;> first | omega | rfl) | (rw [wrap_u32] <;> first | omega | rfl) | rfl)); exact trivial)
        | (refine kOps_callc (pre := ?_) (val := ?_) rfl rfl rfl rfl rfl ?_ ?_ ?_ ?_ ?_; rotate_left 2; (simp only [splice_one, cells_bv, getD_bv, set_bv, cells_agg, decide_true, decide_false, Int.reduceNe, ne_eq, not_true_eq_false, not_false_eq_true, blen32, wz32, Int.reduceTDiv, Nat.reduceSub, Nat.reduceMod, Int.cast_ofNat_Int, hz, isB_bv, bytesOf_bv, isul_ul, ulv_ul, sNeed, sLen64, lit_ul0, lit_ul1, nrmC, List.map_cons, List.map_nil, nrm_ul, nrm_u4, nrm_nil, nrm_int, nrm_bool, nrm_string, nrm_ro, nrm_agg, nrm_rptr, isU_u4, uv_u4, true_and, and_true, and_self, n_add_zero, Nat.zero_add, Nat.zero_mod, n_sub_zero]; rfl); (focus (first | (with_reducible rfl) | (simp only [closed, closedL, closed_ul, closed_u4, closedL_bv, closedL_cl, Bool.and_self, Bool.and_true, closedL_wr, closed_uw, closed_sv, closed_tp]; done))); (focus (first | (with_reducible rfl) | (simp only [closed, closedL, closed_ul, closed_u4, closedL_bv, closedL_cl, Bool.and_self, Bool.and_true, closedL_wr, closed_uw, closed_sv, closed_tp]; done))); (focus ((repeat' apply And.intro) <;> first | exact True.intro | omega | (with_reducible rfl) | assumption | (simp only [lns]; first | done | omega) | (simp only [one_bv, cells_bv, one_bv1, List.length_cons, List.length_nil, List.all_cons, List.all_nil, Bool.and_self]; done) | (simp only [cells_agg, one_bv, lns, and_self, true_and, Nat.le_refl, Nat.reduceAdd, Nat.zero_add]; done) | exact one_bv _ | exact ⟨_, rfl⟩ | (simp [PV.one, one_bv, PV.cells, Value.cells, Value.oneCell']; done))))
        | (refine kOps_bin (b := .quo) (pre := ?_) (val := ?_) rfl rfl rfl rfl rfl ?_ ?_ ?_; rotate_left 2; (intro L; simp only [splice_one, cells_bv, getD_bv, set_bv, cells_agg, decide_true, decide_false, Int.reduceNe, ne_eq, not_true_eq_false, not_false_eq_true, blen32, wz32, Int.reduceTDiv, Nat.reduceSub, Nat.reduceMod, Int.cast_ofNat_Int, hz, lit_ul0, lit_ul1, binF_quo, Int.reduceAdd, Int.reduceSub, Int.reduceMul, Int.reduceNeg, Int.sub_zero, Int.reduceLT, Int.reduceLE, Int.reduceEq, Nat.reduceLT, ty3]; (first | (rw [wrap_i64] <;> first | omega | rfl) | (rw [wrap_u8] <;> first | omega | rfl) | (rw [wrap_u16] <;> first | omega | rfl) | (rw [wrap_u32] <;> first | omega | rfl) | rfl)); (focus ((repeat' apply And.intro) <;> first | exact True.intro | omega | (with_reducible rfl) | assumption | (simp only [lns]; first | done | omega) | (simp only [one_bv, cells_bv, one_bv1, List.length_cons, List.length_nil, List.all_cons, List.all_nil, Bool.and_self]; done) | (simp only [cells_agg, one_bv, lns, and_self, true_and, Nat.le_refl, Nat.reduceAdd, Nat.zero_add]; done) | exact one_bv _ | exact ⟨_, rfl⟩ | (simp [PV.one, one_bv, PV.cells, Value.cells, Value.oneCell']; done))))
        | (refine kOps_mv rfl rfl rfl rfl ?_)
        | (refine kOps_bin (b := .neq) (pre := ?_) (val := ?_) rfl rfl rfl rfl rfl ?_ ?_ ?_; rotate_left 2; (intro L; simp only [splice_one, cells_bv, getD_bv, set_bv, cells_agg, decide_true, decide_false, Int.reduceNe, ne_eq, not_true_eq_false, not_false_eq_true, blen32, wz32, Int.reduceTDiv, Nat.reduceSub, Nat.reduceMod, Int.cast_ofNat_Int, hz, lit_ul0, lit_ul1, neq_ul, binF_neq, binF_sneq, Int.reduceAdd, Int.reduceSub, Int.reduceMul, Int.reduceNeg, Int.sub_zero, Int.reduceLT, Int.reduceLE, Int.reduceEq, Nat.reduceLT, ty36]; (first | (rw [wrap_i64] <;> first | omega | rfl) | (rw [wrap_u8] <;> first | omega | rfl) | (rw [wrap_u16] <;> first | omega | rfl) | (rw [wrap_u32] <;> first | omega | rfl) | rfl)); (focus ((repeat' apply And.intro) <;> first | exact True.intro | omega | (with_reducible rfl) | assumption | (simp only [lns]; first | done | omega) | (simp only [one_bv, cells_bv, one_bv1, List.length_cons, List.length_nil, List.all_cons, List.all_nil, Bool.and_self]; done) | (simp only [cells_agg, one_bv, lns, and_self, true_and, Nat.le_refl, Nat.reduceAdd, Nat.zero_add]; done) | exact one_bv _ | exact ⟨_, rfl⟩ | (simp [PV.one, one_bv, PV.cells, Value.cells, Value.oneCell']; done))))
        | (refine kOps_bin (b := .add) (pre := ?_) (val := ?_) rfl rfl rfl rfl rfl ?_ ?_ ?_; rotate_left 2; (intro L; simp only [splice_one, cells_bv, getD_bv, set_bv, cells_agg, decide_true, decide_false, Int.reduceNe, ne_eq, not_true_eq_false, not_false_eq_true, blen32, wz32, Int.reduceTDiv, Nat.reduceSub, Nat.reduceMod, Int.cast_ofNat_Int, hz, lit_ul0, lit_ul1, add_ul, binF_add, Int.reduceAdd, Int.reduceSub, Int.reduceMul, Int.reduceNeg, Int.sub_zero, Int.reduceLT, Int.reduceLE, Int.reduceEq, Nat.reduceLT, ty3]; (first | (rw [wrap_i64] <;> first | omega | rfl) | (rw [wrap_u8] <;> first | omega | rfl) | (rw [wrap_u16] <;> first | omega | rfl) | (rw [wrap_u32] <;> first | omega | rfl) | rfl)); exact trivial)
        | (refine vOps_gundef rfl rfl ?_ ?_; (focus (simp only [lookup_cons, Nat.reduceBEq, cond_true, cond_false]; done)); simp only [putIn])
        | (refine vOps_gpick (t := ?_) (val := ?_) rfl rfl ?_ rfl rfl ?_ ?_ ?_; rotate_left 2; (focus (simp only [lookup_cons, Nat.reduceBEq, cond_true, cond_false]; done)); (simp only [evalIn_tmp, evalIn_const, lookup_cons, Nat.reduceBEq, cond_true, cond_false]; rfl); (simp only [evalIn_tmp, evalIn_const, lookup_cons, Nat.reduceBEq, cond_true, cond_false]; rfl))
        | (refine vOps_pick (t := ?_) (val := ?_) rfl rfl rfl ?_ ?_ ?_; rotate_left 2; (simp only [evalIn_tmp, evalIn_const, lookup_cons, Nat.reduceBEq, cond_true, cond_false]; rfl); (simp only [evalIn_tmp, evalIn_const, lookup_cons, Nat.reduceBEq, cond_true, cond_false]; rfl))
        | (refine vOps_fork (b := ?_) rfl rfl ?_ ?_ ?_; rotate_left 1; (simp only [lookup_cons, Nat.reduceBEq, cond_true, cond_false]; rfl); all_goals (intro hb; simp only [hb]; (try simp only [decide_eq_true_eq, decide_eq_false_iff_not] at hb); try (exfalso; first | omega | exact hb trivial)))
        | (refine vOps_forkp (b := ?_) rfl ?_ ?_ ?_; rotate_left 1; (simp only [evalIn_tmp, lookup_cons, Nat.reduceBEq, cond_true, cond_false]; rfl); all_goals (intro hb; simp only [hb]; (try simp only [decide_eq_true_eq, decide_eq_false_iff_not] at hb); try (exfalso; first | omega | exact hb trivial))))
      refine wC_loopI (ι := {i : Nat // i ≤ 4}) e54_20 (fun i => ([(0, .ro b.length (b.map bv)), (1, .lit (.int .i64 (m : Int))), (7, .lit (.int .i64 4)), (9, .lit (.int .u32 ((rdV b m i.1 : Nat) : Int))), (23, .lit (.int .i64 4)), (24, .lit (.int .i64 (i.1 : Int)))], [])) (fun i => 4 - i.1) ⟨0, by omega⟩ [] ?_ ?_
      · show Weak _ _ _ _ _ _
        refine weak_mk (fun i h => absurd h (Nat.not_lt_zero i)) (by decide) (by simp) ?_ ?_
        · simp only [RenRows, List.nil_append, List.cons_append, List.set_cons_zero, List.set_cons_succ, List.getElem?_cons_zero, List.getElem?_cons_succ, Option.some.injEq, LE.cells.injEq, closedL_bv, closedL_wr, and_true, true_and]
          all_goals (rfl)
        · simp only [RenEnv, lookup_cons, Nat.reduceBEq, cond_true, cond_false]
          (repeat' apply And.intro) <;> first | trivial | exact ren_keep rfl | exact ren_keep (closed_u4 _) | (refine ren_int ?_; omega) | (refine ren_own rfl ?_; first | rfl | omega | (simp; done) | (omega; done)) | (refine ren_int ?_; omega; done) | (refine ren_int ?_; simp; done) | (refine ren_keep ?_; simp only [closed, closedL_bv, closedL_wr]; done) | (refine ren_ptr rfl; done) | exact ren_keep rfl
      · rintro ⟨i, hi⟩
        dsimp only
        have h8i : (8 * (i : Int)).toNat = 8 * i := by omega
        have hai : ((m : Int) + (i : Int)).toNat = m + i := by omega
        by_cases hlt : i < 4
        · have hsh := fun (L : LH) => shl_any (P := Try.prog) (L := L) (t := 31) (k := .u32) (k2 := .i64) (x := (b.getD (m + i) 0).toNat) (i := i) (w := 4) (z := 8 * (i : Int)) (UInt8.toNat_lt _) (by omega) rfl hlt (fun n h => wrapU32 n h)
          have hor := fun (L : LH) => or_any (P := Try.prog) (L := L) (t := 31) (k := .u32) (a := rdV b m i) (b := (b.getD (m + i) 0).toNat * 2 ^ (8 * i)) (rd_lt (w := 4) (by omega)) (part_lt (w := 4) (UInt8.toNat_lt _) hlt) (fun n h => wrapU32 n h)
          have hcv : IntKind.u32.wrap ((b.getD (m + i) 0).toNat : Int) = ((b.getD (m + i) 0).toNat : Int) := by have := (b.getD (m + i) 0).toNat_lt; exact wrapU32 _ (by omega)
          repeat' (first
            | (with_reducible first | apply seqC_normal | apply blockC_normal | apply seqC_exit | apply blockC_hit | apply seqC_ret | apply blockC_ret | apply loopC_ret | apply loopC_exit)
            | ((with_reducible apply blockC_miss); (exact rfl))
            | ((with_reducible apply wC_seq e54_21; apply wC_region e54_22); refine vOps_open (l := _ :: _) rfl ?_)
            | ((with_reducible apply wC_seq e54_23; apply kC_cond e54_24); (exact rfl); all_goals (intro hb; first | (cases hb; done) | cases hb | ((try simp only [decide_eq_true_eq, decide_eq_false_iff_not, Bool.not_eq_true', Bool.not_eq_false'] at hb); try (exfalso; first | omega | exact hb trivial))))
            | ((with_reducible apply wC_skip e54_25))
            | ((with_reducible apply wC_exit e54_26))
            | ((with_reducible apply wC_seq e54_27; apply wC_block e54_28; apply wC_seq e54_29; apply wC_region e54_30); refine vOps_open (l := _ :: _) rfl ?_)
            | ((with_reducible apply wC_region e54_31); refine vOps_open (l := _ :: _) rfl ?_)
            | ((with_reducible apply wC_region e54_32); refine vOps_open (l := _ :: _) rfl ?_)
            | ((with_reducible apply wC_seq e54_33; apply wC_region e54_34); refine vOps_open (l := _ :: _) rfl ?_)
            | ((with_reducible apply wC_ret e54_35))
            | ((with_reducible apply vOps_nil); try (with_reducible refine And.intro (by kernel_rfl) ?_))
            | (refine kOps_gon (g := ?_) (p := ?_) rfl rfl ?_ ?_ ?_ ?_; rotate_left 2; fail; (exact rfl); (with_reducible rfl))
            | (refine kOps_gofft (g := ?_) (p := ?_) rfl rfl ?_ ?_ ?_ ?_; rotate_left 2; fail; (exact rfl); (with_reducible rfl))
            | (refine kOps_gofff (g := ?_) (p := ?_) rfl rfl ?_ ?_ ?_ ?_; rotate_left 2; fail; (exact rfl); (with_reducible rfl))
            | (refine kOps_pickt rfl rfl rfl rfl ?_ rfl ?_; (with_reducible rfl))
            | (refine kOps_pickf rfl rfl rfl rfl ?_ rfl ?_; (with_reducible rfl))
            | (refine kOps_bin (b := .lss) (pre := ?_) (val := ?_) rfl rfl rfl rfl rfl ?_ ?_ ?_; rotate_left 2; (intro L; simp only [splice_one, cells_bv, getD_bv, set_bv, cells_agg, decide_true, decide_false, Int.reduceNe, ne_eq, not_true_eq_false, not_false_eq_true, blen32, wz32, Int.reduceTDiv, Nat.reduceSub, Nat.reduceMod, Int.cast_ofNat_Int, Int.toNat_natCast, elemAt, h8i, hai, hsh, hor, bv_lit, lit_ul0, lit_ul1, lss_ul, binF_lss, Int.reduceAdd, Int.reduceSub, Int.reduceMul, Int.reduceNeg, Int.sub_zero, Int.reduceLT, Int.reduceLE, Int.reduceEq, Nat.reduceLT, ty3]; (first | (rw [wrap_i64] <;> first | omega | rfl) | (rw [wrap_u8] <;> first | omega | rfl) | (rw [wrap_u16] <;> first | omega | rfl) | (rw [wrap_u32] <;> first | omega | rfl) | rfl)); exact trivial)
            | (refine kOps_mv rfl rfl rfl rfl ?_)
            | (refine kOps_as rfl rfl rfl rfl ?_)
            | (refine kOps_bin (b := .add) (pre := ?_) (val := ?_) rfl rfl rfl rfl rfl ?_ ?_ ?_; rotate_left 2; (intro L; simp only [splice_one, cells_bv, getD_bv, set_bv, cells_agg, decide_true, decide_false, Int.reduceNe, ne_eq, not_true_eq_false, not_false_eq_true, blen32, wz32, Int.reduceTDiv, Nat.reduceSub, Nat.reduceMod, Int.cast_ofNat_Int, Int.toNat_natCast, elemAt, h8i, hai, hsh, hor, bv_lit, lit_ul0, lit_ul1, add_ul, binF_add, Int.reduceAdd, Int.reduceSub, Int.reduceMul, Int.reduceNeg, Int.sub_zero, Int.reduceLT, Int.reduceLE, Int.reduceEq, Nat.reduceLT, ty3]; (first | (rw [wrap_i64] <;> first | omega | rfl) | (rw [wrap_u8] <;> first | omega | rfl) | (rw [wrap_u16] <;> first | omega | rfl) | (rw [wrap_u32] <;> first | omega | rfl) | rfl)); exact trivial)
            | ((first | (refine kOps_ixas (off' := ?_) rfl rfl rfl rfl rfl rfl ty22 ty5 ?_ ?_ ?_; rotate_left 1; (simp only [splice_one, cells_bv, getD_bv, set_bv, cells_agg, decide_true, decide_false, Int.reduceNe, ne_eq, not_true_eq_false, not_false_eq_true, blen32, wz32, Int.reduceTDiv, Nat.reduceSub, Nat.reduceMod, Int.cast_ofNat_Int, Int.toNat_natCast, elemAt, h8i, hai, Nat.zero_add, n_add_zero, Nat.mul_one, Nat.one_mul, Int.reduceToNat, Int.toNat_zero, Nat.reduceMul, Nat.reduceAdd]; rfl)) | (refine kOps_ixar (cs' := ?_) rfl rfl rfl rfl rfl ty22 ty5 ?_ ?_ ?_; rotate_left 1; (simp only [splice_one, cells_bv, getD_bv, set_bv, cells_agg, decide_true, decide_false, Int.reduceNe, ne_eq, not_true_eq_false, not_false_eq_true, blen32, wz32, Int.reduceTDiv, Nat.reduceSub, Nat.reduceMod, Int.cast_ofNat_Int, Int.toNat_natCast, elemAt, h8i, hai, isAggD, Bool.false_eq_true, if_false, if_true, reduceIte, take_cl, agg_cl, len_cl, List.drop_zero, Int.reduceToNat, Int.toNat_zero, n_add_zero, Nat.mul_one, Nat.zero_add, Nat.reduceAdd, Nat.reduceMul, take_bytes, List.length_map, List.getD_cons_zero]; rfl))); (focus ((repeat' apply And.intro) <;> first | exact True.intro | omega | (with_reducible rfl) | assumption | (simp only [lns]; first | done | omega) | (simp only [one_bv, cells_bv, one_bv1, List.length_cons, List.length_nil, List.all_cons, List.all_nil, Bool.and_self]; done) | (simp only [cells_agg, one_bv, lns, and_self, true_and, Nat.le_refl, Nat.reduceAdd, Nat.zero_add]; done) | exact one_bv _ | exact ⟨_, rfl⟩ | (simp [PV.one, one_bv, PV.cells, Value.cells, Value.oneCell']; done))))
            | ((first | refine kOps_loadp (pre := ?_) (val := ?_) rfl rfl rfl rfl rfl ty5 ?_ ?_ ?_ | refine kOps_loadr (pre := ?_) (val := ?_) rfl rfl rfl rfl ty5 ?_ ?_ ?_); rotate_left 2; (simp only [splice_one, cells_bv, getD_bv, set_bv, cells_agg, decide_true, decide_false, Int.reduceNe, ne_eq, not_true_eq_false, not_false_eq_true, blen32, wz32, Int.reduceTDiv, Nat.reduceSub, Nat.reduceMod, Int.cast_ofNat_Int, Int.toNat_natCast, elemAt, h8i, hai, partF, isAggD, Bool.false_eq_true, if_false, if_true, reduceIte, take_cl, agg_cl, len_cl, List.drop_zero, Int.reduceToNat, Int.toNat_zero, n_add_zero, Nat.mul_one, Nat.zero_add, Nat.reduceAdd, Nat.reduceMul, take_bytes, List.length_map, List.getD_cons_zero]; rfl); (focus ((repeat' apply And.intro) <;> first | exact True.intro | omega | (with_reducible rfl) | assumption | (simp only [lns]; first | done | omega) | (simp only [one_bv, cells_bv, one_bv1, List.length_cons, List.length_nil, List.all_cons, List.all_nil, Bool.and_self]; done) | (simp only [cells_agg, one_bv, lns, and_self, true_and, Nat.le_refl, Nat.reduceAdd, Nat.zero_add]; done) | exact one_bv _ | exact ⟨_, rfl⟩ | (simp [PV.one, one_bv, PV.cells, Value.cells, Value.oneCell']; done))))
            | (refine kOps_conv (s := 5) (t := 31) (pre := ?_) (val := ?_) rfl rfl rfl rfl ?_ ?_ ?_; rotate_left 2; (intro L; simp only [splice_one, cells_bv, getD_bv, set_bv, cells_agg, decide_true, decide_false, Int.reduceNe, ne_eq, not_true_eq_false, not_false_eq_true, blen32, wz32, Int.reduceTDiv, Nat.reduceSub, Nat.reduceMod, Int.cast_ofNat_Int, Int.toNat_natCast, elemAt, h8i, hai, uw_bw, hcv, cw_5_31]; first | rfl | (first | (rw [wrap_i64] <;> first | omega | rfl) | (rw [wrap_u8] <;> first | omega | rfl) | (rw [wrap_u16] <;> first | omega | rfl) | (rw [wrap_u32] <;> first | omega | rfl) | rfl)); exact trivial)
            | (refine kOps_bin (b := .mul) (pre := ?_) (val := ?_) rfl rfl rfl rfl rfl ?_ ?_ ?_; rotate_left 2; (intro L; simp only [splice_one, cells_bv, getD_bv, set_bv, cells_agg, decide_true, decide_false, Int.reduceNe, ne_eq, not_true_eq_false, not_false_eq_true, blen32, wz32, Int.reduceTDiv, Nat.reduceSub, Nat.reduceMod, Int.cast_ofNat_Int, Int.toNat_natCast, elemAt, h8i, hai, hsh, hor, bv_lit, lit_ul0, lit_ul1, mul_ul, binF_mul, Int.reduceAdd, Int.reduceSub, Int.reduceMul, Int.reduceNeg, Int.sub_zero, Int.reduceLT, Int.reduceLE, Int.reduceEq, Nat.reduceLT, ty3]; (first | (rw [wrap_i64] <;> first | omega | rfl) | (rw [wrap_u8] <;> first | omega | rfl) | (rw [wrap_u16] <;> first | omega | rfl) | (rw [wrap_u32] <;> first | omega | rfl) | rfl)); exact trivial)
            | (refine kOps_bin (b := .shl) (pre := ?_) (val := ?_) rfl rfl rfl rfl rfl ?_ ?_ ?_; rotate_left 2; (intro L; simp only [splice_one, cells_bv, getD_bv, set_bv, cells_agg, decide_true, decide_false, Int.reduceNe, ne_eq, not_true_eq_false, not_false_eq_true, blen32, wz32, Int.reduceTDiv, Nat.reduceSub, Nat.reduceMod, Int.cast_ofNat_Int, Int.toNat_natCast, elemAt, h8i, hai, hsh, hor, bv_lit, lit_ul0, lit_ul1, shl_uw, shl_uwz, ge0, binF_shl, Int.reduceAdd, Int.reduceSub, Int.reduceMul, Int.reduceNeg, Int.sub_zero, Int.reduceLT, Int.reduceLE, Int.reduceEq, Nat.reduceLT, ty31]; (first | (rw [wrap_i64] <;> first | omega | rfl) | (rw [wrap_u8] <;> first | omega | rfl) | (rw [wrap_u16] <;> first | omega | rfl) | (rw [wrap_u32] <;> first | omega | rfl) | rfl)); (focus ((repeat' apply And.intro) <;> first | exact True.intro | omega | (with_reducible rfl) | assumption | (simp only [lns]; first | done | omega) | (simp only [one_bv, cells_bv, one_bv1, List.length_cons, List.length_nil, List.all_cons, List.all_nil, Bool.and_self]; done) | (simp only [cells_agg, one_bv, lns, and_self, true_and, Nat.le_refl, Nat.reduceAdd, Nat.zero_add]; done) | exact one_bv _ | exact ⟨_, rfl⟩ | (simp [PV.one, one_bv, PV.cells, Value.cells, Value.oneCell']; done))))
            | (refine kOps_bin (b := .or) (pre := ?_) (val := ?_) rfl rfl rfl rfl rfl ?_ ?_ ?_; rotate_left 2; (intro L; simp only [splice_one, cells_bv, getD_bv, set_bv, cells_agg, decide_true, decide_false, Int.reduceNe, ne_eq, not_true_eq_false, not_false_eq_true, blen32, wz32, Int.reduceTDiv, Nat.reduceSub, Nat.reduceMod, Int.cast_ofNat_Int, Int.toNat_natCast, elemAt, h8i, hai, hsh, hor, bv_lit, lit_ul0, lit_ul1, or_uw, binF_or, Int.reduceAdd, Int.reduceSub, Int.reduceMul, Int.reduceNeg, Int.sub_zero, Int.reduceLT, Int.reduceLE, Int.reduceEq, Nat.reduceLT, ty31]; (first | (rw [wrap_i64] <;> first | omega | rfl) | (rw [wrap_u8] <;> first | omega | rfl) | (rw [wrap_u16] <;> first | omega | rfl) | (rw [wrap_u32] <;> first | omega | rfl) | rfl)); exact trivial)
            | (refine vOps_gundef rfl rfl ?_ ?_; (focus (simp only [lookup_cons, Nat.reduceBEq, cond_true, cond_false]; done)); simp only [putIn])
            | (refine vOps_gpick (t := ?_) (val := ?_) rfl rfl ?_ rfl rfl ?_ ?_ ?_; rotate_left 2; (focus (simp only [lookup_cons, Nat.reduceBEq, cond_true, cond_false]; done)); (simp only [evalIn_tmp, evalIn_const, lookup_cons, Nat.reduceBEq, cond_true, cond_false]; rfl); (simp only [evalIn_tmp, evalIn_const, lookup_cons, Nat.reduceBEq, cond_true, cond_false]; rfl))
            | (refine vOps_pick (t := ?_) (val := ?_) rfl rfl rfl ?_ ?_ ?_; rotate_left 2; (simp only [evalIn_tmp, evalIn_const, lookup_cons, Nat.reduceBEq, cond_true, cond_false]; rfl); (simp only [evalIn_tmp, evalIn_const, lookup_cons, Nat.reduceBEq, cond_true, cond_false]; rfl))
            | (refine vOps_fork (b := ?_) rfl rfl ?_ ?_ ?_; rotate_left 1; (simp only [lookup_cons, Nat.reduceBEq, cond_true, cond_false]; rfl); all_goals (intro hb; simp only [hb]; (try simp only [decide_eq_true_eq, decide_eq_false_iff_not] at hb); try (exfalso; first | omega | exact hb trivial)))
            | (refine vOps_forkp (b := ?_) rfl ?_ ?_ ?_; rotate_left 1; (simp only [evalIn_tmp, lookup_cons, Nat.reduceBEq, cond_true, cond_false]; rfl); all_goals (intro hb; simp only [hb]; (try simp only [decide_eq_true_eq, decide_eq_false_iff_not] at hb); try (exfalso; first | omega | exact hb trivial))))
          refine loopC_normal ⟨i + 1, by omega⟩ [] (by show 4 - (i + 1) < 4 - i; omega) ?_
          refine weak_mk (fun i h => absurd h (Nat.not_lt_zero i)) (by decide) (by simp) ?_ ?_
          · simp only [RenRows, List.nil_append, List.cons_append, List.set_cons_zero, List.set_cons_succ, List.getElem?_cons_zero, List.getElem?_cons_succ, Option.some.injEq, LE.cells.injEq, closedL_bv, closedL_wr, and_true, true_and]
            all_goals (rfl)
          · simp only [RenEnv, lookup_cons, Nat.reduceBEq, cond_true, cond_false]
            (repeat' apply And.intro) <;> first | trivial | exact ren_keep rfl | exact ren_keep (closed_u4 _) | (refine ren_int ?_; omega) | (refine ren_own rfl ?_; first | rfl | omega | (simp; done) | (omega; done)) | (refine ren_int ?_; omega; done) | (refine ren_int ?_; simp; done) | (refine ren_keep ?_; simp only [closed, closedL_bv, closedL_wr]; done) | (refine ren_ptr rfl; done) | exact ren_rdq (by omega)
        · obtain rfl : i = 4 := by omega
          repeat' (first
            | (with_reducible first | apply seqC_normal | apply blockC_normal | apply seqC_exit | apply blockC_hit | apply seqC_ret | apply blockC_ret | apply loopC_ret | apply loopC_exit)
            | ((with_reducible apply blockC_miss); (exact rfl))
            | ((with_reducible apply wC_seq e54_21; apply wC_region e54_22); refine vOps_open (l := _ :: _) rfl ?_)
            | ((with_reducible apply wC_seq e54_23; apply kC_cond e54_24); (exact rfl); all_goals (intro hb; first | (cases hb; done) | cases hb | ((try simp only [decide_eq_true_eq, decide_eq_false_iff_not, Bool.not_eq_true', Bool.not_eq_false'] at hb); try (exfalso; first | omega | exact hb trivial))))
            | ((with_reducible apply wC_skip e54_25))
            | ((with_reducible apply wC_exit e54_26))
            | ((with_reducible apply wC_seq e54_27; apply wC_block e54_28; apply wC_seq e54_29; apply wC_region e54_30); refine vOps_open (l := _ :: _) rfl ?_)
            | ((with_reducible apply wC_region e54_31); refine vOps_open (l := _ :: _) rfl ?_)
            | ((with_reducible apply wC_region e54_32); refine vOps_open (l := _ :: _) rfl ?_)
            | ((with_reducible apply wC_seq e54_33; apply wC_region e54_34); refine vOps_open (l := _ :: _) rfl ?_)
            | ((with_reducible apply wC_ret e54_35))
            | ((with_reducible apply vOps_nil); try (with_reducible refine And.intro (by kernel_rfl) ?_))
            | (refine kOps_gon (g := ?_) (p := ?_) rfl rfl ?_ ?_ ?_ ?_; rotate_left 2; fail; (exact rfl); (with_reducible rfl))
            | (refine kOps_gofft (g := ?_) (p := ?_) rfl rfl ?_ ?_ ?_ ?_; rotate_left 2; fail; (exact rfl); (with_reducible rfl))
            | (refine kOps_gofff (g := ?_) (p := ?_) rfl rfl ?_ ?_ ?_ ?_; rotate_left 2; fail; (exact rfl); (with_reducible rfl))
            | (refine kOps_pickt rfl rfl rfl rfl ?_ rfl ?_; (with_reducible rfl))
            | (refine kOps_pickf rfl rfl rfl rfl ?_ rfl ?_; (with_reducible rfl))
            | (refine kOps_bin (b := .lss) (pre := ?_) (val := ?_) rfl rfl rfl rfl rfl ?_ ?_ ?_; rotate_left 2; (intro L; simp only [splice_one, cells_bv, getD_bv, set_bv, cells_agg, decide_true, decide_false, Int.reduceNe, ne_eq, not_true_eq_false, not_false_eq_true, blen32, wz32, Int.reduceTDiv, Nat.reduceSub, Nat.reduceMod, Int.cast_ofNat_Int, Int.toNat_natCast, lit_ul0, lit_ul1, lss_ul, binF_lss, Int.reduceAdd, Int.reduceSub, Int.reduceMul, Int.reduceNeg, Int.sub_zero, Int.reduceLT, Int.reduceLE, Int.reduceEq, Nat.reduceLT, ty3]; (first | (rw [wrap_i64] <;> first | omega | rfl) | (rw [wrap_u8] <;> first | omega | rfl) | (rw [wrap_u16] <;> first | omega | rfl) | (rw [wrap_u32] <;> first | omega | rfl) | rfl)); exact trivial)
            | (refine kOps_mv rfl rfl rfl rfl ?_)
            | (refine kOps_as rfl rfl rfl rfl ?_)
            | (refine kOps_bin (b := .add) (pre := ?_) (val := ?_) rfl rfl rfl rfl rfl ?_ ?_ ?_; rotate_left 2; (intro L; simp only [splice_one, cells_bv, getD_bv, set_bv, cells_agg, decide_true, decide_false, Int.reduceNe, ne_eq, not_true_eq_false, not_false_eq_true, blen32, wz32, Int.reduceTDiv, Nat.reduceSub, Nat.reduceMod, Int.cast_ofNat_Int, Int.toNat_natCast, lit_ul0, lit_ul1, add_ul, binF_add, Int.reduceAdd, Int.reduceSub, Int.reduceMul, Int.reduceNeg, Int.sub_zero, Int.reduceLT, Int.reduceLE, Int.reduceEq, Nat.reduceLT, ty3]; (first | (rw [wrap_i64] <;> first | omega | rfl) | (rw [wrap_u8] <;> first | omega | rfl) | (rw [wrap_u16] <;> first | omega | rfl) | (rw [wrap_u32] <;> first | omega | rfl) | rfl)); exact trivial)
            | ((first | (refine kOps_ixas (off' := ?_) rfl rfl rfl rfl rfl rfl ty22 ty5 ?_ ?_ ?_; rotate_left 1; (simp only [splice_one, cells_bv, getD_bv, set_bv, cells_agg, decide_true, decide_false, Int.reduceNe, ne_eq, not_true_eq_false, not_false_eq_true, blen32, wz32, Int.reduceTDiv, Nat.reduceSub, Nat.reduceMod, Int.cast_ofNat_Int, Int.toNat_natCast, Nat.zero_add, n_add_zero, Nat.mul_one, Nat.one_mul, Int.reduceToNat, Int.toNat_zero, Nat.reduceMul, Nat.reduceAdd]; rfl)) | (refine kOps_ixar (cs' := ?_) rfl rfl rfl rfl rfl ty22 ty5 ?_ ?_ ?_; rotate_left 1; (simp only [splice_one, cells_bv, getD_bv, set_bv, cells_agg, decide_true, decide_false, Int.reduceNe, ne_eq, not_true_eq_false, not_false_eq_true, blen32, wz32, Int.reduceTDiv, Nat.reduceSub, Nat.reduceMod, Int.cast_ofNat_Int, Int.toNat_natCast, elemAt, isAggD, Bool.false_eq_true, if_false, if_true, reduceIte, take_cl, agg_cl, len_cl, List.drop_zero, Int.reduceToNat, Int.toNat_zero, n_add_zero, Nat.mul_one, Nat.zero_add, Nat.reduceAdd, Nat.reduceMul, take_bytes, List.length_map, List.getD_cons_zero]; rfl))); (focus ((repeat' apply And.intro) <;> first | exact True.intro | omega | (with_reducible rfl) | assumption | (simp only [lns]; first | done | omega) | (simp only [one_bv, cells_bv, one_bv1, List.length_cons, List.length_nil, List.all_cons, List.all_nil, Bool.and_self]; done) | (simp only [cells_agg, one_bv, lns, and_self, true_and, Nat.le_refl, Nat.reduceAdd, Nat.zero_add]; done) | exact one_bv _ | exact ⟨_, rfl⟩ | (simp [PV.one, one_bv, PV.cells, Value.cells, Value.oneCell']; done))))
            | ((first | refine kOps_loadp (pre := ?_) (val := ?_) rfl rfl rfl rfl rfl ty5 ?_ ?_ ?_ | refine kOps_loadr (pre := ?_) (val := ?_) rfl rfl rfl rfl ty5 ?_ ?_ ?_); rotate_left 2; (simp only [splice_one, cells_bv, getD_bv, set_bv, cells_agg, decide_true, decide_false, Int.reduceNe, ne_eq, not_true_eq_false, not_false_eq_true, blen32, wz32, Int.reduceTDiv, Nat.reduceSub, Nat.reduceMod, Int.cast_ofNat_Int, Int.toNat_natCast, partF, isAggD, Bool.false_eq_true, if_false, if_true, reduceIte, take_cl, agg_cl, len_cl, List.drop_zero, Int.reduceToNat, Int.toNat_zero, n_add_zero, Nat.mul_one, Nat.zero_add, Nat.reduceAdd, Nat.reduceMul, take_bytes, List.length_map, List.getD_cons_zero]; rfl); (focus ((repeat' apply And.intro) <;> first | exact True.intro | omega | (with_reducible rfl) | assumption | (simp only [lns]; first | done | omega) | (simp only [one_bv, cells_bv, one_bv1, List.length_cons, List.length_nil, List.all_cons, List.all_nil, Bool.and_self]; done) | (simp only [cells_agg, one_bv, lns, and_self, true_and, Nat.le_refl, Nat.reduceAdd, Nat.zero_add]; done) | exact one_bv _ | exact ⟨_, rfl⟩ | (simp [PV.one, one_bv, PV.cells, Value.cells, Value.oneCell']; done))))
            | (refine kOps_conv (s := 5) (t := 31) (pre := ?_) (val := ?_) rfl rfl rfl rfl ?_ ?_ ?_; rotate_left 2; (intro L; simp only [splice_one, cells_bv, getD_bv, set_bv, cells_agg, decide_true, decide_false, Int.reduceNe, ne_eq, not_true_eq_false, not_false_eq_true, blen32, wz32, Int.reduceTDiv, Nat.reduceSub, Nat.reduceMod, Int.cast_ofNat_Int, Int.toNat_natCast, cw_5_31]; first | rfl | (first | (rw [wrap_i64] <;> first | omega | rfl) | (rw [wrap_u8] <;> first | omega | rfl) | (rw [wrap_u16] <;> first | omega | rfl) | (rw [wrap_u32] <;> first | omega | rfl) | rfl)); exact trivial)
            | (refine kOps_bin (b := .mul) (pre := ?_) (val := ?_) rfl rfl rfl rfl rfl ?_ ?_ ?_; rotate_left 2; (intro L; simp only [splice_one, cells_bv, getD_bv, set_bv, cells_agg, decide_true, decide_false, Int.reduceNe, ne_eq, not_true_eq_false, not_false_eq_true, blen32, wz32, Int.reduceTDiv, Nat.reduceSub, Nat.reduceMod, Int.cast_ofNat_Int, Int.toNat_natCast, lit_ul0, lit_ul1, mul_ul, binF_mul, Int.reduceAdd, Int.reduceSub, Int.reduceMul, Int.reduceNeg, Int.sub_zero, Int.reduceLT, Int.reduceLE, Int.reduceEq, Nat.reduceLT, ty3]; (first | (rw [wrap_i64] <;> first | omega | rfl) | (rw [wrap_u8] <;> first | omega | rfl) | (rw [wrap_u16] <;> first | omega | rfl) | (rw [wrap_u32] <;> first | omega | rfl) | rfl)); exact trivial)
            | (refine kOps_bin (b := .shl) (pre := ?_) (val := ?_) rfl rfl rfl rfl rfl ?_ ?_ ?_; rotate_left 2; (intro L; simp only [splice_one, cells_bv, getD_bv, set_bv, cells_agg, decide_true, decide_false, Int.reduceNe, ne_eq, not_true_eq_false, not_false_eq_true, blen32, wz32, Int.reduceTDiv, Nat.reduceSub, Nat.reduceMod, Int.cast_ofNat_Int, Int.toNat_natCast, lit_ul0, lit_ul1, shl_uw, shl_uwz, ge0, binF_shl, Int.reduceAdd, Int.reduceSub, Int.reduceMul, Int.reduceNeg, Int.sub_zero, Int.reduceLT, Int.reduceLE, Int.reduceEq, Nat.reduceLT, ty31]; (first | (rw [wrap_i64] <;> first | omega | rfl) | (rw [wrap_u8] <;> first | omega | rfl) | (rw [wrap_u16] <;> first | omega | rfl) | (rw [wrap_u32] <;> first | omega | rfl) | rfl)); (focus ((repeat' apply And.intro) <;> first | exact True.intro | omega | (with_reducible rfl) | assumption | (simp only [lns]; first | done | omega) | (simp only [one_bv, cells_bv, one_bv1, List.length_cons, List.length_nil, List.all_cons, List.all_nil, Bool.and_self]; done) | (simp only [cells_agg, one_bv, lns, and_self, true_and, Nat.le_refl, Nat.reduceAdd, Nat.zero_add]; done) | exact one_bv _ | exact ⟨_, rfl⟩ | (simp [PV.one, one_bv, PV.cells, Value.cells, Value.oneCell']; done))))
            | (refine kOps_bin (b := .or) (pre := ?_) (val := ?_) rfl rfl rfl rfl rfl ?_ ?_ ?_; rotate_left 2; (intro L; simp only [splice_one, cells_bv, getD_bv, set_bv, cells_agg, decide_true, decide_false, Int.reduceNe, ne_eq, not_true_eq_false, not_false_eq_true, blen32, wz32, Int.reduceTDiv, Nat.reduceSub, Nat.reduceMod, Int.cast_ofNat_Int, Int.toNat_natCast, lit_ul0, lit_ul1, or_uw, binF_or, Int.reduceAdd, Int.reduceSub, Int.reduceMul, Int.reduceNeg, Int.sub_zero, Int.reduceLT, Int.reduceLE, Int.reduceEq, Nat.reduceLT, ty31]; (first | (rw [wrap_i64] <;> first | omega | rfl) | (rw [wrap_u8] <;> first | omega | rfl) | (rw [wrap_u16] <;> first | omega | rfl) | (rw [wrap_u32] <;> first | omega | rfl) | rfl)); exact trivial)
            | (refine vOps_gundef rfl rfl ?_ ?_; (focus (simp only [lookup_cons, Nat.reduceBEq, cond_true, cond_false]; done)); simp only [putIn])
            | (refine vOps_gpick (t := ?_) (val := ?_) rfl rfl ?_ rfl rfl ?_ ?_ ?_; rotate_left 2; (focus (simp only [lookup_cons, Nat.reduceBEq, cond_true, cond_false]; done)); (simp only [evalIn_tmp, evalIn_const, lookup_cons, Nat.reduceBEq, cond_true, cond_false]; rfl); (simp only [evalIn_tmp, evalIn_const, lookup_cons, Nat.reduceBEq, cond_true, cond_false]; rfl))
            | (refine vOps_pick (t := ?_) (val := ?_) rfl rfl rfl ?_ ?_ ?_; rotate_left 2; (simp only [evalIn_tmp, evalIn_const, lookup_cons, Nat.reduceBEq, cond_true, cond_false]; rfl); (simp only [evalIn_tmp, evalIn_const, lookup_cons, Nat.reduceBEq, cond_true, cond_false]; rfl))
            | (refine vOps_fork (b := ?_) rfl rfl ?_ ?_ ?_; rotate_left 1; (simp only [lookup_cons, Nat.reduceBEq, cond_true, cond_false]; rfl); all_goals (intro hb; simp only [hb]; (try simp only [decide_eq_true_eq, decide_eq_false_iff_not] at hb); try (exfalso; first | omega | exact hb trivial)))
            | (refine vOps_forkp (b := ?_) rfl ?_ ?_ ?_; rotate_left 1; (simp only [evalIn_tmp, lookup_cons, Nat.reduceBEq, cond_true, cond_false]; rfl); all_goals (intro hb; simp only [hb]; (try simp only [decide_eq_true_eq, decide_eq_false_iff_not] at hb); try (exfalso; first | omega | exact hb trivial))))
          refine fin_c (p := ?_) (xs := [.tmp 4, .tmp 5, .tmp 6]) (by simp) rfl ?_ ?_ ?_ ?_
          rotate_left 2
          · simp only [resAll_cons, resAll_nil, resPVl_0, resPVl_1, resPVl_2, resOne_tmp, resOne_cell, List.map_cons, List.map_nil, splice_one, cells_bv, getD_bv, set_bv, cells_agg, decide_true, decide_false, Int.reduceNe, ne_eq, not_true_eq_false, not_false_eq_true, blen32, wz32, Int.reduceTDiv, Nat.reduceSub, Nat.reduceMod, Int.cast_ofNat_Int, Int.toNat_natCast, elemAt, h8i, hai, evalIn_tmp, evalIn_const, evalIn_func, lookup_cons, Nat.reduceBEq, cond_true, cond_false, lit_ul0, lit_ul1, loadF, partF, List.getElem?_cons_zero, List.getElem?_cons_succ, List.set_cons_zero, List.set_cons_succ, List.cons_append, List.nil_append, true_and, and_true, and_self, Nat.le_refl, Nat.reduceLeDiff, isAggD, Bool.false_eq_true, if_false, if_true, reduceIte, take_cl, agg_cl, len_cl, List.drop_zero, Int.reduceToNat, Int.toNat_zero, n_add_zero, Nat.mul_one, Nat.zero_add, Nat.reduceAdd, Nat.reduceMul, take_bytes, List.length_map, List.getD_cons_zero, ty3, ty5, ty22, ty23, ty31, ty36]; try rfl
          · first | (with_reducible rfl) | (simp only [closed, closedL, closed_u4, closed_ul, closed_uw, closed_sv, closedL_bv, closedL_wr, Bool.and_self, Bool.and_true]; done) | (simp only [closed, closedL, closed_u4, closed_ul, closed_uw, closed_sv, closedL_bv, closedL_wr, Bool.and_self, Bool.and_true]; rfl)
          · rfl
          · simp only [resAll_cons, resAll_nil, resPVl_0, resPVl_1, resPVl_2, resOne_tmp, resOne_cell, List.map_cons, List.map_nil, splice_one, cells_bv, getD_bv, set_bv, cells_agg, decide_true, decide_false, Int.reduceNe, ne_eq, not_true_eq_false, not_false_eq_true, blen32, wz32, Int.reduceTDiv, Nat.reduceSub, Nat.reduceMod, Int.cast_ofNat_Int, Int.toNat_natCast, elemAt, h8i, hai, evalIn_tmp, evalIn_const, evalIn_func, lookup_cons, Nat.reduceBEq, cond_true, cond_false, lit_ul0, lit_ul1, loadF, partF, List.getElem?_cons_zero, List.getElem?_cons_succ, List.set_cons_zero, List.set_cons_succ, List.cons_append, List.nil_append, true_and, and_true, and_self, Nat.le_refl, Nat.reduceLeDiff, isAggD, Bool.false_eq_true, if_false, if_true, reduceIte, take_cl, agg_cl, len_cl, List.drop_zero, Int.reduceToNat, Int.toNat_zero, n_add_zero, Nat.mul_one, Nat.zero_add, Nat.reduceAdd, Nat.reduceMul, take_bytes, List.length_map, List.getD_cons_zero, ty3, ty5, ty22, ty23, ty31, ty36]; try trivial
    · rw [if_neg hz]
      have hn0 : (needE b.length a 4 = 0) = False := eq_false hz
      repeat' (first
        | (with_reducible first | apply seqC_normal | apply blockC_normal | apply seqC_exit | apply blockC_hit | apply seqC_ret | apply blockC_ret | apply loopC_ret | apply loopC_exit)
        | ((with_reducible apply blockC_miss); (exact rfl))
        | ((with_reducible apply wC_seq e54_0; apply wC_region e54_1); refine vOps_open (l := _ :: _) rfl ?_)
        | ((with_reducible apply wC_seq e54_2; apply wC_region e54_3); refine vOps_open (l := _ :: _) rfl ?_)
        | ((with_reducible apply wC_seq e54_4; apply wC_seq e54_5; apply wC_region e54_6); refine vOps_open (l := _ :: _) rfl ?_)
        | ((with_reducible apply wC_seq e54_7; apply wC_region e54_8); refine vOps_open (l := _ :: _) rfl ?_)
        | ((with_reducible apply kC_cond e54_9); (exact rfl); all_goals (intro hb; first | (cases hb; done) | cases hb | ((try simp only [decide_eq_true_eq, decide_eq_false_iff_not, Bool.not_eq_true', Bool.not_eq_false'] at hb); try (exfalso; first | omega | exact hb trivial))))
        | ((with_reducible apply wC_seq e54_10; apply wC_region e54_11); refine vOps_open (l := _ :: _) rfl ?_)
        | ((with_reducible apply wC_ret e54_12))
        | ((with_reducible apply wC_skip e54_13))
        | ((with_reducible apply wC_seq e54_14; apply wC_region e54_15); refine vOps_open (l := _ :: _) rfl ?_)
        | ((with_reducible apply wC_seq e54_16; apply wC_seq e54_17; apply wC_region e54_18); refine vOps_open (l := _ :: _) rfl ?_)
        | ((with_reducible apply wC_block e54_19))
        | ((with_reducible apply wC_seq e54_33; apply wC_region e54_34); refine vOps_open (l := _ :: _) rfl ?_)
        | ((with_reducible apply wC_ret e54_35))
        | ((with_reducible apply vOps_nil); try (with_reducible refine And.intro (by kernel_rfl) ?_))
        | (refine kOps_gon (g := ?_) (p := ?_) rfl rfl ?_ ?_ ?_ ?_; rotate_left 2; fail; (exact rfl); (with_reducible rfl))
        | (refine kOps_gofft (g := ?_) (p := ?_) rfl rfl ?_ ?_ ?_ ?_; rotate_left 2; fail; (exact rfl); (with_reducible rfl))
        | (refine kOps_gofff (g := ?_) (p := ?_) rfl rfl ?_ ?_ ?_ ?_; rotate_left 2; fail; (exact rfl); (with_reducible rfl))
        | (refine kOps_pickt rfl rfl rfl rfl ?_ rfl ?_; (with_reducible rfl))
        | (refine kOps_pickf rfl rfl rfl rfl ?_ rfl ?_; (with_reducible rfl))
        | (refine kOps_as rfl rfl rfl rfl ?_)
        | (refine kOps_conv (s := 3) (t := 31) (pre := ?_) (val := ?_) rfl rfl rfl rfl ?_ ?_ ?_; rotate_left 2; (intro L; simp only [splice_one, cells_bv, getD_bv, set_bv, cells_agg, decide_true, decide_false, Int.reduceNe, ne_eq, not_true_eq_false, not_false_eq_true, blen32, wz32, Int.reduceTDiv, Nat.reduceSub, Nat.reduceMod, Int.cast_ofNat_Int, hz, hn0, w_32, cv_3_31]; first | rfl | (first | (rw [wrap_i64] <;> first | omega | rfl) | (rw [wrap_u8] <;> first | omega | rfl) | (rw [wrap_u16] <;> first | omega | rfl) | (rw [wrap_u32] <;> first | omega | rfl) | rfl)); exact trivial)
        | (refine kOps_un (b := .xor) (pre := ?_) (val := ?_) rfl rfl rfl rfl ?_ ?_ ?_; rotate_left 2; (intro L; simp only [splice_one, cells_bv, getD_bv, set_bv, cells_agg, decide_true, decide_false, Int.reduceNe, ne_eq, not_true_eq_false, not_false_eq_true, blen32, wz32, Int.reduceTDiv, Nat.reduceSub, Nat.reduceMod, Int.cast_ofNat_Int, hz, hn0, not_32, not_ul, not_uw, unF_not, unF_neg]; (first | (rw [wrap_i64] <;> first | omega | rfl) | (rw [wrap_u8] <;> first | omega | rfl) | (rw [wrap_u16] <;> first | omega | rfl) | (rw [wrap_u32] <;> first | omega | rfl) | rfl)); exact trivial)
        | (refine kOps_conv (s := 31) (t := 23) (pre := ?_) (val := ?_) rfl rfl rfl rfl ?_ ?_ ?_; rotate_left 2; (intro L; simp only [splice_one, cells_bv, getD_bv, set_bv, cells_agg, decide_true, decide_false, Int.reduceNe, ne_eq, not_true_eq_false, not_false_eq_true, blen32, wz32, Int.reduceTDiv, Nat.reduceSub, Nat.reduceMod, Int.cast_ofNat_Int, hz, hn0, w_32, cv_31_23]; first | rfl | (first | (rw [wrap_i64] <;> first | omega | rfl) | (rw [wrap_u8] <;> first | omega | rfl) | (rw [wrap_u16] <;> first | omega | rfl) | (rw [wrap_u32] <;> first | omega | rfl) | rfl)); exact trivial)
        | (refine kOps_callc (pre := ?_) (val := ?_) rfl rfl rfl rfl rfl ?_ ?_ ?_ ?_ ?_; rotate_left 2; (simp only [splice_one, cells_bv, getD_bv, set_bv, cells_agg, decide_true, decide_false, Int.reduceNe, ne_eq, not_true_eq_false, not_false_eq_true, blen32, wz32, Int.reduceTDiv, Nat.reduceSub, Nat.reduceMod, Int.cast_ofNat_Int, hz, hn0, isB_bv, bytesOf_bv, isul_ul, ulv_ul, sNeed, sLen64, lit_ul0, lit_ul1, nrmC, List.map_cons, List.map_nil, nrm_ul, nrm_u4, nrm_nil, nrm_int, nrm_bool, nrm_string, nrm_ro, nrm_agg, nrm_rptr, isU_u4, uv_u4, true_and, and_true, and_self, n_add_zero, Nat.zero_add, Nat.zero_mod, n_sub_zero]; rfl); (focus (first | (with_reducible rfl) | (simp only [closed, closedL, closed_ul, closed_u4, closedL_bv, closedL_cl, Bool.and_self, Bool.and_true, closedL_wr, closed_uw, closed_sv, closed_tp]; done))); (focus (first | (with_reducible rfl) | (simp only [closed, closedL, closed_ul, closed_u4, closedL_bv, closedL_cl, Bool.and_self, Bool.and_true, closedL_wr, closed_uw, closed_sv, closed_tp]; done))); (focus ((repeat' apply And.intro) <;> first | exact True.intro | omega | (with_reducible rfl) | assumption | (simp only [lns]; first | done | omega) | (simp only [one_bv, cells_bv, one_bv1, List.length_cons, List.length_nil, List.all_cons, List.all_nil, Bool.and_self]; done) | (simp only [cells_agg, one_bv, lns, and_self, true_and, Nat.le_refl, Nat.reduceAdd, Nat.zero_add]; done) | exact one_bv _ | exact ⟨_, rfl⟩ | (simp [PV.one, one_bv, PV.cells, Value.cells, Value.oneCell']; done))))
        | (refine kOps_bin (b := .quo) (pre := ?_) (val := ?_) rfl rfl rfl rfl rfl ?_ ?_ ?_; rotate_left 2; (intro L; simp only [splice_one, cells_bv, getD_bv, set_bv, cells_agg, decide_true, decide_false, Int.reduceNe, ne_eq, not_true_eq_false, not_false_eq_true, blen32, wz32, Int.reduceTDiv, Nat.reduceSub, Nat.reduceMod, Int.cast_ofNat_Int, hz, hn0, lit_ul0, lit_ul1, binF_quo, Int.reduceAdd, Int.reduceSub, Int.reduceMul, Int.reduceNeg, Int.sub_zero, Int.reduceLT, Int.reduceLE, Int.reduceEq, Nat.reduceLT, ty3]; (first | (rw [wrap_i64] <;> first | omega | rfl) | (rw [wrap_u8] <;> first | omega | rfl) | (rw [wrap_u16] <;> first | omega | rfl) | (rw [wrap_u32] <;> first | omega | rfl) | rfl)); (focus ((repeat' apply And.intro) <;> first | exact True.intro | omega | (with_reducible rfl) | assumption | (simp only [lns]; first | done | omega) | (simp only [one_bv, cells_bv, one_bv1, List.length_cons, List.length_nil, List.all_cons, List.all_nil, Bool.and_self]; done) | (simp only [cells_agg, one_bv, lns, and_self, true_and, Nat.le_refl, Nat.reduceAdd, Nat.zero_add]; done) | exact one_bv _ | exact ⟨_, rfl⟩ | (simp [PV.one, one_bv, PV.cells, Value.cells, Value.oneCell']; done))))
        | (refine kOps_mv rfl rfl rfl rfl ?_)
        | (refine kOps_bin (b := .neq) (pre := ?_) (val := ?_) rfl rfl rfl rfl rfl ?_ ?_ ?_; rotate_left 2; (intro L; simp only [splice_one, cells_bv, getD_bv, set_bv, cells_agg, decide_true, decide_false, Int.reduceNe, ne_eq, not_true_eq_false, not_false_eq_true, blen32, wz32, Int.reduceTDiv, Nat.reduceSub, Nat.reduceMod, Int.cast_ofNat_Int, hz, hn0, lit_ul0, lit_ul1, neq_ul, binF_neq, binF_sneq, Int.reduceAdd, Int.reduceSub, Int.reduceMul, Int.reduceNeg, Int.sub_zero, Int.reduceLT, Int.reduceLE, Int.reduceEq, Nat.reduceLT, ty36]; (first | (rw [wrap_i64] <;> first | omega | rfl) | (rw [wrap_u8] <;> first | omega | rfl) | (rw [wrap_u16] <;> first | omega | rfl) | (rw [wrap_u32] <;> first | omega | rfl) | rfl)); (focus ((repeat' apply And.intro) <;> first | exact True.intro | omega | (with_reducible rfl) | assumption | (simp only [lns]; first | done | omega) | (simp only [one_bv, cells_bv, one_bv1, List.length_cons, List.length_nil, List.all_cons, List.all_nil, Bool.and_self]; done) | (simp only [cells_agg, one_bv, lns, and_self, true_and, Nat.le_refl, Nat.reduceAdd, Nat.zero_add]; done) | exact one_bv _ | exact ⟨_, rfl⟩ | (simp [PV.one, one_bv, PV.cells, Value.cells, Value.oneCell']; done))))
        | (refine kOps_bin (b := .add) (pre := ?_) (val := ?_) rfl rfl rfl rfl rfl ?_ ?_ ?_; rotate_left 2; (intro L; simp only [splice_one, cells_bv, getD_bv, set_bv, cells_agg, decide_true, decide_false, Int.reduceNe, ne_eq, not_true_eq_false, not_false_eq_true, blen32, wz32, Int.reduceTDiv, Nat.reduceSub, Nat.reduceMod, Int.cast_ofNat_Int, hz, hn0, lit_ul0, lit_ul1, add_ul, binF_add, Int.reduceAdd, Int.reduceSub, Int.reduceMul, Int.reduceNeg, Int.sub_zero, Int.reduceLT, Int.reduceLE, Int.reduceEq, Nat.reduceLT, ty3]; (first | (rw [wrap_i64] <;> first | omega | rfl) | (rw [wrap_u8] <;> first | omega | rfl) | (rw [wrap_u16] <;> first | omega | rfl) | (rw [wrap_u32] <;> first | omega | rfl) | rfl)); exact trivial)
        | (refine vOps_gundef rfl rfl ?_ ?_; (focus (simp only [lookup_cons, Nat.reduceBEq, cond_true, cond_false]; done)); simp only [putIn])
        | (refine vOps_gpick (t := ?_) (val := ?_) rfl rfl ?_ rfl rfl ?_ ?_ ?_; rotate_left 2; (focus (simp only [lookup_cons, Nat.reduceBEq, cond_true, cond_false]; done)); (simp only [evalIn_tmp, evalIn_const, lookup_cons, Nat.reduceBEq, cond_true, cond_false]; rfl); (simp only [evalIn_tmp, evalIn_const, lookup_cons, Nat.reduceBEq, cond_true, cond_false]; rfl))
        | (refine vOps_pick (t := ?_) (val := ?_) rfl rfl rfl ?_ ?_ ?_; rotate_left 2; (simp only [evalIn_tmp, evalIn_const, lookup_cons, Nat.reduceBEq, cond_true, cond_false]; rfl); (simp only [evalIn_tmp, evalIn_const, lookup_cons, Nat.reduceBEq, cond_true, cond_false]; rfl))
        | (refine vOps_fork (b := ?_) rfl rfl ?_ ?_ ?_; rotate_left 1; (simp only [lookup_cons, Nat.reduceBEq, cond_true, cond_false]; rfl); all_goals (intro hb; simp only [hb]; (try simp only [decide_eq_true_eq, decide_eq_false_iff_not] at hb); try (exfalso; first | omega | exact hb trivial)))
        | (refine vOps_forkp (b := ?_) rfl ?_ ?_ ?_; rotate_left 1; (simp only [evalIn_tmp, lookup_cons, Nat.reduceBEq, cond_true, cond_false]; rfl); all_goals (intro hb; simp only [hb]; (try simp only [decide_eq_true_eq, decide_eq_false_iff_not] at hb); try (exfalso; first | omega | exact hb trivial))))
      refine fin_c (p := ?_) (xs := [.tmp 4, .tmp 5, .tmp 6]) (by simp) rfl ?_ ?_ ?_ ?_
      rotate_left 2
      · simp only [resAll_cons, resAll_nil, resPVl_0, resPVl_1, resPVl_2, resOne_tmp, resOne_cell, List.map_cons, List.map_nil, splice_one, cells_bv, getD_bv, set_bv, cells_agg, decide_true, decide_false, Int.reduceNe, ne_eq, not_true_eq_false, not_false_eq_true, blen32, wz32, Int.reduceTDiv, Nat.reduceSub, Nat.reduceMod, Int.cast_ofNat_Int, hz, hn0, evalIn_tmp, evalIn_const, evalIn_func, lookup_cons, Nat.reduceBEq, cond_true, cond_false, lit_ul0, lit_ul1, loadF, partF, List.getElem?_cons_zero, List.getElem?_cons_succ, List.set_cons_zero, List.set_cons_succ, List.cons_append, List.nil_append, true_and, and_true, and_self, Nat.le_refl, Nat.reduceLeDiff, isAggD, Bool.false_eq_true, if_false, if_true, reduceIte, take_cl, agg_cl, len_cl, List.drop_zero, Int.toNat_natCast, Int.reduceToNat, Int.toNat_zero, n_add_zero, Nat.mul_one, Nat.zero_add, Nat.reduceAdd, Nat.reduceMul, take_bytes, List.length_map, List.getD_cons_zero, ty3, ty5, ty22, ty23, ty31, ty36]; try rfl
      · first | (with_reducible rfl) | (simp only [closed, closedL, closed_u4, closed_ul, closed_uw, closed_sv, closedL_bv, closedL_wr, Bool.and_self, Bool.and_true]; done) | (simp only [closed, closedL, closed_u4, closed_ul, closed_uw, closed_sv, closedL_bv, closedL_wr, Bool.and_self, Bool.and_true]; rfl)
      · rfl
      · simp only [resAll_cons, resAll_nil, resPVl_0, resPVl_1, resPVl_2, resOne_tmp, resOne_cell, List.map_cons, List.map_nil, splice_one, cells_bv, getD_bv, set_bv, cells_agg, decide_true, decide_false, Int.reduceNe, ne_eq, not_true_eq_false, not_false_eq_true, blen32, wz32, Int.reduceTDiv, Nat.reduceSub, Nat.reduceMod, Int.cast_ofNat_Int, hz, hn0, evalIn_tmp, evalIn_const, evalIn_func, lookup_cons, Nat.reduceBEq, cond_true, cond_false, lit_ul0, lit_ul1, loadF, partF, List.getElem?_cons_zero, List.getElem?_cons_succ, List.set_cons_zero, List.set_cons_succ, List.cons_append, List.nil_append, true_and, and_true, and_self, Nat.le_refl, Nat.reduceLeDiff, isAggD, Bool.false_eq_true, if_false, if_true, reduceIte, take_cl, agg_cl, len_cl, List.drop_zero, Int.toNat_natCast, Int.reduceToNat, Int.toNat_zero, n_add_zero, Nat.mul_one, Nat.zero_add, Nat.reduceAdd, Nat.reduceMul, take_bytes, List.length_map, List.getD_cons_zero, ty3, ty5, ty22, ty23, ty31, ty36]; try trivial
  · exact hS.elim
end Go.Ab
