import Derived.Test.YtaofjdaclnagnaaMG
import Derived.Test.YtaofjdaclnagnaaTY
import Derived.Test.YtaofjdaclnagnaaFcodecneed
import Derived.Test.YtaofjdaclnagnaaFbitsLen64
namespace Go.Ab
open Go Go.Proofs
set_option linter.unusedVariables false
set_option linter.unusedSimpArgs false
set_option maxRecDepth 8000
set_option maxHeartbeats 4000000

noncomputable def B53 : Code := bodyOf Try.f53
theorem B53_eq : Try.f53.body = some B53 := by kernel_rfl
noncomputable def n53_0 : Code := B53
noncomputable def n53_1 : Code := codeAt B53 [0]
noncomputable def n53_2 : Code := codeAt B53 [1]
noncomputable def n53_3 : Code := codeAt B53 [1,0]
noncomputable def n53_4 : Code := codeAt B53 [1,1]
noncomputable def n53_5 : Code := codeAt B53 [1,1,0]
noncomputable def n53_6 : Code := codeAt B53 [1,1,0,0]
noncomputable def n53_7 : Code := codeAt B53 [1,1,0,1]
noncomputable def n53_8 : Code := codeAt B53 [1,1,0,1,0]
noncomputable def n53_9 : Code := codeAt B53 [1,1,0,1,1]
noncomputable def n53_10 : Code := codeAt B53 [1,1,0,1,1,0]
noncomputable def n53_11 : Code := codeAt B53 [1,1,0,1,1,0,0]
noncomputable def n53_12 : Code := codeAt B53 [1,1,0,1,1,0,1]
noncomputable def n53_13 : Code := codeAt B53 [1,1,0,1,1,1]
noncomputable def n53_14 : Code := codeAt B53 [1,1,1]
noncomputable def n53_15 : Code := codeAt B53 [1,1,1,0]
noncomputable def n53_16 : Code := codeAt B53 [1,1,1,1]
noncomputable def n53_17 : Code := codeAt B53 [1,1,1,1,0]
noncomputable def n53_18 : Code := codeAt B53 [1,1,1,1,0,0]
noncomputable def n53_19 : Code := codeAt B53 [1,1,1,1,0,1]
noncomputable def n53_20 : Code := codeAt B53 [1,1,1,1,0,1,0]
noncomputable def n53_21 : Code := codeAt B53 [1,1,1,1,0,1,0,0]
noncomputable def n53_22 : Code := codeAt B53 [1,1,1,1,0,1,0,0,0]
noncomputable def n53_23 : Code := codeAt B53 [1,1,1,1,0,1,0,0,1]
noncomputable def n53_24 : Code := codeAt B53 [1,1,1,1,0,1,0,0,1,0]
noncomputable def n53_25 : Code := codeAt B53 [1,1,1,1,0,1,0,0,1,0,0]
noncomputable def n53_26 : Code := codeAt B53 [1,1,1,1,0,1,0,0,1,0,1]
noncomputable def n53_27 : Code := codeAt B53 [1,1,1,1,0,1,0,0,1,1]
noncomputable def n53_28 : Code := codeAt B53 [1,1,1,1,0,1,0,0,1,1,0]
noncomputable def n53_29 : Code := codeAt B53 [1,1,1,1,0,1,0,0,1,1,0,0]
noncomputable def n53_30 : Code := codeAt B53 [1,1,1,1,0,1,0,0,1,1,0,0,0]
noncomputable def n53_31 : Code := codeAt B53 [1,1,1,1,0,1,0,0,1,1,0,0,1]
noncomputable def n53_32 : Code := codeAt B53 [1,1,1,1,0,1,0,0,1,1,1]
noncomputable def n53_33 : Code := codeAt B53 [1,1,1,1,1]
noncomputable def n53_34 : Code := codeAt B53 [1,1,1,1,1,0]
noncomputable def n53_35 : Code := codeAt B53 [1,1,1,1,1,1]
theorem e53_0 : n53_0 = .seq n53_1 n53_2 := rfl
noncomputable def r53_1 := opsAt n53_1
theorem e53_1 : n53_1 = .region 0 (r53_1).toArray false := rfl
theorem e53_2 : n53_2 = .seq n53_3 n53_4 := rfl
noncomputable def r53_3 := opsAt n53_3
theorem e53_3 : n53_3 = .region 1 (r53_3).toArray false := rfl
theorem e53_4 : n53_4 = .seq n53_5 n53_14 := rfl
theorem e53_5 : n53_5 = .seq n53_6 n53_7 := rfl
noncomputable def r53_6 := opsAt n53_6
theorem e53_6 : n53_6 = .region 2 (r53_6).toArray false := rfl
theorem e53_7 : n53_7 = .seq n53_8 n53_9 := rfl
noncomputable def r53_8 := opsAt n53_8
theorem e53_8 : n53_8 = .region 3 (r53_8).toArray false := rfl
theorem e53_9 : n53_9 = .cond (.tmp 21) n53_10 n53_13 := rfl
theorem e53_10 : n53_10 = .seq n53_11 n53_12 := rfl
noncomputable def r53_11 := opsAt n53_11
theorem e53_11 : n53_11 = .region 4 (r53_11).toArray false := rfl
theorem e53_12 : n53_12 = .ret := rfl
theorem e53_13 : n53_13 = .skip := rfl
theorem e53_14 : n53_14 = .seq n53_15 n53_16 := rfl
noncomputable def r53_15 := opsAt n53_15
theorem e53_15 : n53_15 = .region 5 (r53_15).toArray false := rfl
theorem e53_16 : n53_16 = .seq n53_17 n53_33 := rfl
theorem e53_17 : n53_17 = .seq n53_18 n53_19 := rfl
noncomputable def r53_18 := opsAt n53_18
theorem e53_18 : n53_18 = .region 6 (r53_18).toArray false := rfl
theorem e53_19 : n53_19 = .block 0 n53_20 := rfl
theorem e53_20 : n53_20 = .loop n53_21 := rfl
theorem e53_21 : n53_21 = .seq n53_22 n53_23 := rfl
noncomputable def r53_22 := opsAt n53_22
theorem e53_22 : n53_22 = .region 7 (r53_22).toArray false := rfl
theorem e53_23 : n53_23 = .seq n53_24 n53_27 := rfl
theorem e53_24 : n53_24 = .cond (.tmp 25) n53_25 n53_26 := rfl
theorem e53_25 : n53_25 = .skip := rfl
theorem e53_26 : n53_26 = .exit 0 := rfl
theorem e53_27 : n53_27 = .seq n53_28 n53_32 := rfl
theorem e53_28 : n53_28 = .block 1 n53_29 := rfl
theorem e53_29 : n53_29 = .seq n53_30 n53_31 := rfl
noncomputable def r53_30 := opsAt n53_30
theorem e53_30 : n53_30 = .region 8 (r53_30).toArray false := rfl
noncomputable def r53_31 := opsAt n53_31
theorem e53_31 : n53_31 = .region 9 (r53_31).toArray false := rfl
noncomputable def r53_32 := opsAt n53_32
theorem e53_32 : n53_32 = .region 10 (r53_32).toArray false := rfl
theorem e53_33 : n53_33 = .seq n53_34 n53_35 := rfl
noncomputable def r53_34 := opsAt n53_34
theorem e53_34 : n53_34 = .region 11 (r53_34).toArray false := rfl
theorem e53_35 : n53_35 = .ret := rfl
theorem f_codec_integer_uint16 : PureOk Try.prog 53 sInt16 := by
  refine pureOk_of (c := n53_0) (Γ := conOf [(56, .pure sNeed), (62, .pure sLen64)]) (conOf_ok (conOf_one (S := .pure sNeed) f_codec_need (conOf_one (S := .pure sLen64) f_bits_Len64 (conOf_end)))) mixed Try.func53 B53_eq (by decide +kernel) Try.call53 ?_
  intro args hS
  unfold sInt16 at hS ⊢
  split at hS
  · refine ⟨by rw [Try.ntmps53]; simp, vC_sound ?_⟩
    rename_i n cs a
    obtain ⟨hB, hn, ha0, ha1⟩ := hS
    obtain ⟨b, rfl, rfl⟩ := isB_out hB
    simp only [bytesOf_bv]
    clear hB
    simp only [entry_cons, entry_nil, Nat.reduceAdd]
    by_cases hz : needE b.length a 2 = 0
    · rw [if_pos hz]
      have hok := need_ok hz
      obtain ⟨m, rfl⟩ := Int.eq_ofNat_of_zero_le (show 0 ≤ a by omega)
      repeat' (first
        | (with_reducible first | apply seqC_normal | apply blockC_normal | apply seqC_exit | apply blockC_hit | apply seqC_ret | apply blockC_ret | apply loopC_ret | apply loopC_exit)
        | ((with_reducible apply blockC_miss); (exact rfl))
        | ((with_reducible apply wC_seq e53_0; apply wC_region e53_1); refine vOps_open (l := _ :: _) rfl ?_)
        | ((with_reducible apply wC_seq e53_2; apply wC_region e53_3); refine vOps_open (l := _ :: _) rfl ?_)
        | ((with_reducible apply wC_seq e53_4; apply wC_seq e53_5; apply wC_region e53_6); refine vOps_open (l := _ :: _) rfl ?_)
        | ((with_reducible apply wC_seq e53_7; apply wC_region e53_8); refine vOps_open (l := _ :: _) rfl ?_)
        | ((with_reducible apply kC_cond e53_9); (exact rfl); all_goals (intro hb; first | (cases hb; done) | cases hb | ((try simp only [decide_eq_true_eq, decide_eq_false_iff_not, Bool.not_eq_true', Bool.not_eq_false'] at hb); try (exfalso; first | omega | exact hb trivial))))
        | ((with_reducible apply wC_seq e53_10; apply wC_region e53_11); refine vOps_open (l := _ :: _) rfl ?_)
        | ((with_reducible apply wC_ret e53_12))
        | ((with_reducible apply wC_skip e53_13))
        | ((with_reducible apply wC_seq e53_14; apply wC_region e53_15); refine vOps_open (l := _ :: _) rfl ?_)
        | ((with_reducible apply wC_seq e53_16; apply wC_seq e53_17; apply wC_region e53_18); refine vOps_open (l := _ :: _) rfl ?_)
        | ((with_reducible apply wC_block e53_19))
        | ((with_reducible apply wC_seq e53_33; apply wC_region e53_34); refine vOps_open (l := _ :: _) rfl ?_)
        | ((with_reducible apply wC_ret e53_35))
        | ((with_reducible apply vOps_nil); try (with_reducible refine And.intro (by kernel_rfl) ?_))
        | (refine kOps_gon (g := ?_) (p := ?_) rfl rfl ?_ ?_ ?_ ?_; rotate_left 2; fail; (exact rfl); (with_reducible rfl))
        | (refine kOps_gofft (g := ?_) (p := ?_) rfl rfl ?_ ?_ ?_ ?_; rotate_left 2; fail; (exact rfl); (with_reducible rfl))
        | (refine kOps_gofff (g := ?_) (p := ?_) rfl rfl ?_ ?_ ?_ ?_; rotate_left 2; fail; (exact rfl); (with_reducible rfl))
        | (refine kOps_pickt rfl rfl rfl rfl ?_ rfl ?_; (with_reducible rfl))
        | (refine kOps_pickf rfl rfl rfl rfl ?_ rfl ?_; (with_reducible rfl))
        | (refine kOps_as rfl rfl rfl rfl ?_)
        | (refine kOps_conv (s := 3) (t := 29) (pre := ?_) (val := ?_) rfl rfl rfl rfl ?_ ?_ ?_; rotate_left 2; (intro L; simp only [splice_one, cells_bv, getD_bv, set_bv, cells_agg, decide_true, decide_false, Int.reduceNe, ne_eq, not_true_eq_false, not_false_eq_true, blen16, wz16, Int.reduceTDiv, Nat.reduceSub, Nat.reduceMod, Int.cast_ofNat_Int, hz, w_16, cv_3_29]; first | rfl | (first | (rw [wrap_i64] <;> first | omega | rfl) | (rw [wrap_u8] <;> first | omega | rfl) | (rw [wrap_u16] <;> first | omega | rfl) | (rw [wrap_u32] <;> first | omega | rfl) | rfl)); exact trivial)
        | (refine kOps_un (b := .xor) (pre := ?_) (val := ?_) rfl rfl rfl rfl ?_ ?_ ?_; rotate_left 2; (intro L; simp only [splice_one, cells_bv, getD_bv, set_bv, cells_agg, decide_true, decide_false, Int.reduceNe, ne_eq, not_true_eq_false, not_false_eq_true, blen16, wz16, Int.reduceTDiv, Nat.reduceSub, Nat.reduceMod, Int.cast_ofNat_Int, hz, not_16, not_ul, not_uw, unF_not, unF_neg]; (first | (rw [wrap_i64] <;> first | omega | rfl) | (rw [wrap_u8] <;> first | omega | rfl) | (rw [wrap_u16] <;> first | omega | rfl) | (rw [wrap_u32] <;> first | omega | rfl) | rfl)); exact trivial)
        | (refine kOps_conv (s := 29) (t := 23) (pre := ?_) (val := ?_) rfl rfl rfl rfl ?_ ?_ ?_; rotate_left 2; (intro L; simp only [splice_one, cells_bv, getD_bv, set_bv, cells_agg, decide_true, decide_false, Int.reduceNe, ne_eq, not_true_eq_false, not_false_eq_true, blen16, wz16, Int.reduceTDiv, Nat.reduceSub, Nat.reduceMod, Int.cast_ofNat_Int, hz, w_16, cv_29_23]; first | rfl | (first | (rw [wrap_i64] <;> first | omega | rfl) | (rw [wrap_u8] <;> first | omega | rfl) | (rw [wrap_u16] <;> first | omega | rfl) | (rw [wrap_u32] <;> first | omega | rfl) | rfl)); exact trivial)
        | (refine kOps_callc (pre := ?_) (val := ?_) rfl rfl rfl rfl rfl ?_ ?_ ?_ ?_ ?_; rotate_left 2; (simp only [splice_one, cells_bv, getD_bv, set_bv, cells_agg, decide_true, decide_false, Int.reduceNe, ne_eq, not_true_eq_false, not_false_eq_true, blen16, wz16, Int.reduceTDiv, Nat.reduceSub, Nat.reduceMod, Int.cast_ofNat_Int, hz, isB_bv, bytesOf_bv, isul_ul, ulv_ul, sNeed, sLen64, lit_ul0, lit_ul1, nrmC, List.map_cons, List.map_nil, nrm_ul, nrm_u4, nrm_nil, nrm_int, nrm_bool, nrm_string, nrm_ro, nrm_agg, nrm_rptr, isU_u4, uv_u4, true_and, and_true, and_self, n_add_zero, Nat.zero_add, Nat.zero_mod, n_sub_zero]; rfl); (focus (first | (with_reducible rfl) | (simp only [closed, closedL, closed_ul, closed_u4, closedL_bv, closedL_cl, Bool.and_self, Bool.and_true, closedL_wr, closed_uw, closed_sv, closed_tp]; done))); (focus (first | (with_reducible rfl) | (simp only [closed, closedL, closed_ul, closed_u4, closedL_bv, closedL_cl, Bool.and_self, Bool.and_true, closedL_wr, closed_uw, closed_sv, closed_tp]; done))); (focus ((repeat' apply And.intro) <;> first | exact True.intro | omega | (with_reducible rfl) | assumption | (simp only [lns]; first | done | omega) | (simp only [one_bv, cells_bv, one_bv1, List.length_cons, List.length_nil, List.all_cons, List.all_nil, Bool.and_self]; done) | (simp only [cells_agg, one_bv, lns, and_self, true_and, Nat.le_refl, Nat.reduceAdd, Nat.zero_add]; done) | exact one_bv _ | exact ⟨_, rfl⟩ | (simp [PV.one, one_bv, PV.cells, Value.cells, Value.oneCell']; done))))
        | (refine kOps_bin (b := .quo) (pre := ?_) (val := ?_) rfl rfl rfl rfl rfl ?_ ?_ ?_; rotate_left 2; (intro L; simp only [splice_one, cells_bv, getD_bv, set_bv, cells_agg, decide_true, decide_false, Int.reduceNe, ne_eq, not_true_eq_false, not_false_eq_true, blen16, wz16, Int.reduceTDiv, Nat.reduceSub, Nat.reduceMod, Int.cast_ofNat_Int, hz, lit_ul0, lit_ul1, binF_quo, Int.reduceAdd, Int.reduceSub, Int.reduceMul, Int.reduceNeg, Int.sub_zero, Int.reduceLT, Int.reduceLE, Int.reduceEq, Nat.reduceLT, ty3]; (first | (rw [wrap_i64] <;> first | omega | rfl) | (rw [wrap_u8] <;> first | omega | rfl) | (rw [wrap_u16] <;> first | omega | rfl) | (rw [wrap_u32] <;> first | omega | rfl) | rfl)); (focus ((repeat' apply And.intro) <;> first | exact True.intro | omega | (with_reducible rfl) | assumption | (simp only [lns]; first | done | omega) | (simp only [one_bv, cells_bv, one_bv1, List.length_cons, List.length_nil, List.all_cons, List.all_nil, Bool.and_self]; done) | (simp only [cells_agg, one_bv, lns, and_self, true_and, Nat.le_refl, Nat.reduceAdd, Nat.zero_add]; done) | exact one_bv _ | exact ⟨_, rfl⟩ | (simp [PV.one, one_bv, PV.cells, Value.cells, Value.oneCell']; done))))
        | (refine kOps_mv rfl rfl rfl rfl ?_)
        | (refine kOps_bin (b := .neq) (pre := ?_) (val := ?_) rfl rfl rfl rfl rfl ?_ ?_ ?_; rotate_left 2; (intro L; simp only [splice_one, cells_bv, getD_bv, set_bv, cells_agg, decide_true, decide_false, Int.reduceNe, ne_eq, not_true_eq_false, not_false_eq_true, blen16, wz16, Int.reduceTDiv, Nat.reduceSub, Nat.reduceMod, Int.cast_ofNat_Int, hz, lit_ul0, lit_ul1, neq_ul, binF_neq, binF_sneq, Int.reduceAdd, Int.reduceSub, Int.reduceMul, Int.reduceNeg, Int.sub_zero, Int.reduceLT, Int.reduceLE, Int.reduceEq, Nat.reduceLT, ty36]; (first | (rw [wrap_i64] <;> first | omega | rfl) | (rw [wrap_u8] <;> first | omega | rfl) | (rw [wrap_u16] <;> first | omega | rfl) | (rw [wrap_u32] <;> first | omega | rfl) | rfl)); (focus ((repeat' apply And.intro) <;> first | exact True.intro | omega | (with_reducible rfl) | assumption | (simp only [lns]; first | done | omega) | (simp only [one_bv, cells_bv, one_bv1, List.length_cons, List.length_nil, List.all_cons, List.all_nil, Bool.and_self]; done) | (simp only [cells_agg, one_bv, lns, and_self, true_and, Nat.le_refl, Nat.reduceAdd, Nat.zero_add]; done) | exact one_bv _ | exact ⟨_, rfl⟩ | (simp [PV.one, one_bv, PV.cells, Value.cells, Value.oneCell']; done))))
        | (refine kOps_bin (b := .add) (pre := ?_) (val := ?_) rfl rfl rfl rfl rfl ?_ ?_ ?_; rotate_left 2; (intro L; simp only [splice_one, cells_bv, getD_bv, set_bv, cells_agg, decide_true, decide_false, Int.reduceNe, ne_eq, not_true_eq_false, not_false_eq_true, blen16, wz16, Int.reduceTDiv, Nat.reduceSub, Nat.reduceMod, Int.cast_ofNat_Int, hz, lit_ul0, lit_ul1, add_ul, binF_add, Int.reduceAdd, Int.reduceSub, Int.reduceMul, Int.reduceNeg, Int.sub_zero, Int.reduceLT, Int.reduceLE, Int.reduceEq, Nat.reduceLT, ty3]; (first | (rw [wrap_i64] <;> first | omega | rfl) | (rw [wrap_u8] <;> first | omega | rfl) | (rw [wrap_u16] <;> first | omega | rfl) | (rw [wrap_u32] <;> first | omega | rfl) | rfl)); exact trivial)
        | (refine vOps_gundef rfl rfl ?_ ?_; (focus (simp only [lookup_cons, Nat.reduceBEq, cond_true, cond_false]; done)); simp only [putIn])
        | (refine vOps_gpick (t := ?_) (val := ?_) rfl rfl ?_ rfl rfl ?_ ?_ ?_; rotate_left 2; (focus (simp only [lookup_cons, Nat.reduceBEq, cond_true, cond_false]; done)); (simp only [evalIn_tmp, evalIn_const, lookup_cons, Nat.reduceBEq, cond_true, cond_false]; rfl); (simp only [evalIn_tmp, evalIn_const, lookup_cons, Nat.reduceBEq, cond_true, cond_false]; rfl))
        | (refine vOps_pick (t := ?_) (val := ?_) rfl rfl rfl ?_ ?_ ?_; rotate_left 2; (simp only [evalIn_tmp, evalIn_const, lookup_cons, Nat.reduceBEq, cond_true, cond_false]; rfl); (simp only [evalIn_tmp, evalIn_const, lookup_cons, Nat.reduceBEq, cond_true, cond_false]; rfl))
        | (refine vOps_fork (b := ?_) rfl rfl ?_ ?_ ?_; rotate_left 1; (simp only [lookup_cons, Nat.reduceBEq, cond_true, cond_false]; rfl); all_goals (intro hb; simp only [hb]; (try simp only [decide_eq_true_eq, decide_eq_false_iff_not] at hb); try (exfalso; first | omega | exact hb trivial)))
        | (refine vOps_forkp (b := ?_) rfl ?_ ?_ ?_; rotate_left 1; (simp only [evalIn_tmp, lookup_cons, Nat.reduceBEq, cond_true, cond_false]; rfl); all_goals (intro hb; simp only [hb]; (try simp only [decide_eq_true_eq, decide_eq_false_iff_not] at hb); try (exfalso; first | omega | exact hb trivial))))
      refine wC_loopI (ι := {i : Nat // i ≤ 2}) e53_20 (fun i => ([(0, .ro b.length (b.map bv)), (1, .lit (.int .i64 (m : Int))), (7, .lit (.int .i64 2)), (9, .lit (.int .u16 ((rdV b m i.1 : Nat) : Int))), (23, .lit (.int .i64 2)), (24, .lit (.int .i64 (i.1 : Int)))], [])) (fun i => 2 - i.1) ⟨0, by omega⟩ [] ?_ ?_
      · show Weak _ _ _ _ _ _
        refine weak_mk (fun i h => absurd h (Nat.not_lt_zero i)) (by decide) (by simp) ?_ ?_
        · simp only [RenRows, List.nil_append, List.cons_append, List.set_cons_zero, List.set_cons_succ, List.getElem?_cons_zero, List.getElem?_cons_succ, Option.some.injEq, LE.cells.injEq, closedL_bv, closedL_wr, and_true, true_and]
          all_goals (rfl)
        · simp only [RenEnv, lookup_cons, Nat.reduceBEq, cond_true, cond_false]
          (repeat' apply And.intro) <;> first | trivial | exact ren_keep rfl | exact ren_keep (closed_u4 _) | (refine ren_int ?_; omega) | (refine ren_own rfl ?_; first | rfl | omega | (simp; done) | (omega; done)) | (refine ren_int ?_; omega; done) | (refine ren_int ?_; simp; done) | (refine ren_keep ?_; simp only [closed, closedL_bv, closedL_wr]; done) | (refine ren_ptr rfl; done) | exact ren_keep rfl
      · rintro ⟨i, hi⟩
        dsimp only
        have h8i : (8 * (i : Int)).toNat = 8 * i := by omega
        have hai : ((m : Int) + (i : Int)).toNat = m + i := by omega
        by_cases hlt : i < 2
        · have hsh := fun (L : LH) => shl_any (P := Try.prog) (L := L) (t := 29) (k := .u16) (k2 := .i64) (x := (b.getD (m + i) 0).toNat) (i := i) (w := 2) (z := 8 * (i : Int)) (UInt8.toNat_lt _) (by omega) rfl hlt (fun n h => wrapU16 n h)
          have hor := fun (L : LH) => or_any (P := Try.prog) (L := L) (t := 29) (k := .u16) (a := rdV b m i) (b := (b.getD (m + i) 0).toNat * 2 ^ (8 * i)) (rd_lt (w := 2) (by omega)) (part_lt (w := 2) (UInt8.toNat_lt _) hlt) (fun n h => wrapU16 n h)
          have hcv : IntKind.u16.wrap ((b.getD (m + i) 0).toNat : Int) = ((b.getD (m + i) 0).toNat : Int) := by have := (b.getD (m + i) 0).toNat_lt; exact wrapU16 _ (by omega)
          repeat' (first
            | (with_reducible first | apply seqC_normal | apply blockC_normal | apply seqC_exit | apply blockC_hit | apply seqC_ret | apply blockC_ret | apply loopC_ret | apply loopC_exit)
            | ((with_reducible apply blockC_miss); (exact rfl))
            | ((with_reducible apply wC_seq e53_21; apply wC_region e53_22); refine vOps_open (l := _ :: _) rfl ?_)
            | ((with_reducible apply wC_seq e53_23; apply kC_cond e53_24); (exact rfl); all_goals (intro hb; first | (cases hb; done) | cases hb | ((try simp only [decide_eq_true_eq, decide_eq_false_iff_not, Bool.not_eq_true', Bool.not_eq_false'] at hb); try (exfalso; first | omega | exact hb trivial))))
            | ((with_reducible apply wC_skip e53_25))
            | ((with_reducible apply wC_exit e53_26))
            | ((with_reducible apply wC_seq e53_27; apply wC_block e53_28; apply wC_seq e53_29; apply wC_region e53_30); refine vOps_open (l := _ :: _) rfl ?_)
            | ((with_reducible apply wC_region e53_31); refine vOps_open (l := _ :: _) rfl ?_)
            | ((with_reducible apply wC_region e53_32); refine vOps_open (l := _ :: _) rfl ?_)
            | ((with_reducible apply wC_seq e53_33; apply wC_region e53_34); refine vOps_open (l := _ :: _) rfl ?_)
            | ((with_reducible apply wC_ret e53_35))
            | ((with_reducible apply vOps_nil); try (with_reducible refine And.intro (by kernel_rfl) ?_))
            | (refine kOps_gon (g := ?_) (p := ?_) rfl rfl ?_ ?_ ?_ ?_; rotate_left 2; fail; (exact rfl); (with_reducible rfl))
            | (refine kOps_gofft (g := ?_) (p := ?_) rfl rfl ?_ ?_ ?_ ?_; rotate_left 2; fail; (exact rfl); (with_reducible rfl))
            | (refine kOps_gofff (g := ?_) (p := ?_) rfl rfl ?_ ?_ ?_ ?_; rotate_left 2; fail; (exact rfl); (with_reducible rfl))
            | (refine kOps_pickt rfl rfl rfl rfl ?_ rfl ?_; (with_reducible rfl))
            | (refine kOps_pickf rfl rfl rfl rfl ?_ rfl ?_; (with_reducible rfl))
            | (refine kOps_bin (b := .lss) (pre := ?_) (val := ?_) rfl rfl rfl rfl rfl ?_ ?_ ?_; rotate_left 2; (intro L; simp only [splice_one, cells_bv, getD_bv, set_bv, cells_agg, decide_true, decide_false, Int.reduceNe, ne_eq, not_true_eq_false, not_false_eq_true, blen16, wz16, Int.reduceTDiv, Nat.reduceSub, Nat.reduceMod, Int.cast_ofNat_Int, Int.toNat_natCast, elemAt, h8i, hai, hsh, hor, bv_lit, lit_ul0, lit_ul1, lss_ul, binF_lss, Int.reduceAdd, Int.reduceSub, Int.reduceMul, Int.reduceNeg, Int.sub_zero, Int.reduceLT, Int.reduceLE, Int.reduceEq, Nat.reduceLT, ty3]; (first | (rw [wrap_i64] <;> first | omega | rfl) | (rw [wrap_u8] <;> first | omega | rfl) | (rw [wrap_u16] <;> first | omega | rfl) | (rw [wrap_u32] <;> first | omega | rfl) | rfl)); exact trivial)
            | (refine kOps_mv rfl rfl rfl rfl ?_)
            | (refine kOps_as rfl rfl rfl rfl ?_)
            | (refine kOps_bin (b := .add) (pre := ?_) (val := ?_) rfl rfl rfl rfl rfl ?_ ?_ ?_; rotate_left 2; (intro L; simp only [splice_one, cells_bv, getD_bv, set_bv, cells_agg, decide_true, decide_false, Int.reduceNe, ne_eq, not_true_eq_false, not_false_eq_true, blen16, wz16, Int.reduceTDiv, Nat.reduceSub, Nat.reduceMod, Int.cast_ofNat_Int, Int.toNat_natCast, elemAt, h8i, hai, hsh, hor, bv_lit, lit_ul0, lit_ul1, add_ul, binF_add, Int.reduceAdd, Int.reduceSub, Int.reduceMul, Int.reduceNeg, Int.sub_zero, Int.reduceLT, Int.reduceLE, Int.reduceEq, Nat.reduceLT, ty3]; (first | (rw [wrap_i64] <;> first | omega | rfl) | (rw [wrap_u8] <;> first | omega | rfl) | (rw [wrap_u16] <;> first | omega | rfl) | (rw [wrap_u32] <;> first | omega | rfl) | rfl)); exact trivial)
            | ((first | (refine kOps_ixas (off' := ?_) rfl rfl rfl rfl rfl rfl ty22 ty5 ?_ ?_ ?_; rotate_left 1; (simp only [splice_one, cells_bv, getD_bv, set_bv, cells_agg, decide_true, decide_false, Int.reduceNe, ne_eq, not_true_eq_false, not_false_eq_true, blen16, wz16, Int.reduceTDiv, Nat.reduceSub, Nat.reduceMod, Int.cast_ofNat_Int, Int.toNat_natCast, elemAt, h8i, hai, Nat.zero_add, n_add_zero, Nat.mul_one, Nat.one_mul, Int.reduceToNat, Int.toNat_zero, Nat.reduceMul, Nat.reduceAdd]; rfl)) | (refine kOps_ixar (cs' := ?_) rfl rfl rfl rfl rfl ty22 ty5 ?_ ?_ ?_; rotate_left 1; (simp only [splice_one, cells_bv, getD_bv, set_bv, cells_agg, decide_true, decide_false, Int.reduceNe, ne_eq, not_true_eq_false, not_false_eq_true, blen16, wz16, Int.reduceTDiv, Nat.reduceSub, Nat.reduceMod, Int.cast_ofNat_Int, Int.toNat_natCast, elemAt, h8i, hai, isAggD, Bool.false_eq_true, if_false, if_true, reduceIte, take_cl, agg_cl, len_cl, List.drop_zero, Int.reduceToNat, Int.toNat_zero, n_add_zero, Nat.mul_one, Nat.zero_add, Nat.reduceAdd, Nat.reduceMul, take_bytes, List.length_map, List.getD_cons_zero]; rfl))); (focus ((repeat' apply And.intro) <;> first | exact True.intro | omega | (with_reducible rfl) | assumption | (simp only [lns]; first | done | omega) | (simp only [one_bv, cells_bv, one_bv1, List.length_cons, List.length_nil, List.all_cons, List.all_nil, Bool.and_self]; done) | (simp only [cells_agg, one_bv, lns, and_self, true_and, Nat.le_refl, Nat.reduceAdd, Nat.zero_add]; done) | exact one_bv _ | exact ⟨_, rfl⟩ | (simp [PV.one, one_bv, PV.cells, Value.cells, Value.oneCell']; done))))
            | ((first | refine kOps_loadp (pre := ?_) (val := ?_) rfl rfl rfl rfl rfl ty5 ?_ ?_ ?_ | refine kOps_loadr (pre := ?_) (val := ?_) rfl rfl rfl rfl ty5 ?_ ?_ ?_); rotate_left 2; (simp only [splice_one, cells_bv, getD_bv, set_bv, cells_agg, decide_true, decide_false, Int.reduceNe, ne_eq, not_true_eq_false, not_false_eq_true, blen16, wz16, Int.reduceTDiv, Nat.reduceSub, Nat.reduceMod, Int.cast_ofNat_Int, Int.toNat_natCast, elemAt, h8i, hai, partF, isAggD, Bool.false_eq_true, if_false, if_true, reduceIte, take_cl, agg_cl, len_cl, List.drop_zero, Int.reduceToNat, Int.toNat_zero, n_add_zero, Nat.mul_one, Nat.zero_add, Nat.reduceAdd, Nat.reduceMul, take_bytes, List.length_map, List.getD_cons_zero]; rfl); (focus ((repeat' apply And.intro) <;> first | exact True.intro | omega | (with_reducible rfl) | assumption | (simp only [lns]; first | done | omega) | (simp only [one_bv, cells_bv, one_bv1, List.length_cons, List.length_nil, List.all_cons, List.all_nil, Bool.and_self]; done) | (simp only [cells_agg, one_bv, lns, and_self, true_and, Nat.le_refl, Nat.reduceAdd, Nat.zero_add]; done) | exact one_bv _ | exact ⟨_, rfl⟩ | (simp [PV.one, one_bv, PV.cells, Value.cells, Value.oneCell']; done))))
            | (refine kOps_conv (s := 5) (t := 29) (pre := ?_) (val := ?_) rfl rfl rfl rfl ?_ ?_ ?_; rotate_left 2; (intro L; simp only [splice_one, cells_bv, getD_bv, set_bv, cells_agg, decide_true, decide_false, Int.reduceNe, ne_eq, not_true_eq_false, not_false_eq_true, blen16, wz16, Int.reduceTDiv, Nat.reduceSub, Nat.reduceMod, Int.cast_ofNat_Int, Int.toNat_natCast, elemAt, h8i, hai, uw_bw, hcv, cv_5_29, cw_5_29]; first | rfl | (first | (rw [wrap_i64] <;> first | omega | rfl) | (rw [wrap_u8] <;> first | omega | rfl) | (rw [wrap_u16] <;> first | omega | rfl) | (rw [wrap_u32] <;> first | omega | rfl) | rfl)); exact trivial)
            | (refine kOps_bin (b := .mul) (pre := ?_) (val := ?_) rfl rfl rfl rfl rfl ?_ ?_ ?_; rotate_left 2; (intro L; simp only [splice_one, cells_bv, getD_bv, set_bv, cells_agg, decide_true, decide_false, Int.reduceNe, ne_eq, not_true_eq_false, not_false_eq_true, blen16, wz16, Int.reduceTDiv, Nat.reduceSub, Nat.reduceMod, Int.cast_ofNat_Int, Int.toNat_natCast, elemAt, h8i, hai, hsh, hor, bv_lit, lit_ul0, lit_ul1, mul_ul, binF_mul, Int.reduceAdd, Int.reduceSub, Int.reduceMul, Int.reduceNeg, Int.sub_zero, Int.reduceLT, Int.reduceLE, Int.reduceEq, Nat.reduceLT, ty3]; (first | (rw [wrap_i64] <;> first | omega | rfl) | (rw [wrap_u8] <;> first | omega | rfl) | (rw [wrap_u16] <;> first | omega | rfl) | (rw [wrap_u32] <;> first | omega | rfl) | rfl)); exact trivial)
            | (refine kOps_bin (b := .shl) (pre := ?_) (val := ?_) rfl rfl rfl rfl rfl ?_ ?_ ?_; rotate_left 2; (intro L; simp only [splice_one, cells_bv, getD_bv, set_bv, cells_agg, decide_true, decide_false, Int.reduceNe, ne_eq, not_true_eq_false, not_false_eq_true, blen16, wz16, Int.reduceTDiv, Nat.reduceSub, Nat.reduceMod, Int.cast_ofNat_Int, Int.toNat_natCast, elemAt, h8i, hai, hsh, hor, bv_lit, lit_ul0, lit_ul1, shl_z, shl_ul, binF_shl, Int.reduceAdd, Int.reduceSub, Int.reduceMul, Int.reduceNeg, Int.sub_zero, Int.reduceLT, Int.reduceLE, Int.reduceEq, Nat.reduceLT, ty29]; (first | (rw [wrap_i64] <;> first | omega | rfl) | (rw [wrap_u8] <;> first | omega | rfl) | (rw [wrap_u16] <;> first | omega | rfl) | (rw [wrap_u32] <;> first | omega | rfl) | rfl)); (focus ((repeat' apply And.intro) <;> first | exact True.intro | omega | (with_reducible rfl) | assumption | (simp only [lns]; first | done | omega) | (simp only [one_bv, cells_bv, one_bv1, List.length_cons, List.length_nil, List.all_cons, List.all_nil, Bool.and_self]; done) | (simp only [cells_agg, one_bv, lns, and_self, true_and, Nat.le_refl, Nat.reduceAdd, Nat.zero_add]; done) | exact one_bv _ | exact ⟨_, rfl⟩ | (simp [PV.one, one_bv, PV.cells, Value.cells, Value.oneCell']; done))))
            | (refine kOps_bin (b := .or) (pre := ?_) (val := ?_) rfl rfl rfl rfl rfl ?_ ?_ ?_; rotate_left 2; (intro L; simp only [splice_one, cells_bv, getD_bv, set_bv, cells_agg, decide_true, decide_false, Int.reduceNe, ne_eq, not_true_eq_false, not_false_eq_true, blen16, wz16, Int.reduceTDiv, Nat.reduceSub, Nat.reduceMod, Int.cast_ofNat_Int, Int.toNat_natCast, elemAt, h8i, hai, hsh, hor, bv_lit, lit_ul0, lit_ul1, or_ul, binF_or, Int.reduceAdd, Int.reduceSub, Int.reduceMul, Int.reduceNeg, Int.sub_zero, Int.reduceLT, Int.reduceLE, Int.reduceEq, Nat.reduceLT, ty29]; (first | (rw [wrap_i64] <;> first | omega | rfl) | (rw [wrap_u8] <;> first | omega | rfl) | (rw [wrap_u16] <;> first | omega | rfl) | (rw [wrap_u32] <;> first | omega | rfl) | rfl)); exact trivial)
            | (refine vOps_gundef rfl rfl ?_ ?_; (focus (simp only [lookup_cons, Nat.reduceBEq, cond_true, cond_false]; done)); simp only [putIn])
            | (refine vOps_gpick (t := ?_) (val := ?_) rfl rfl ?_ rfl rfl ?_ ?_ ?_; rotate_left 2; (focus (simp only [lookup_cons, Nat.reduceBEq, cond_true, cond_false]; done)); (simp only [evalIn_tmp, evalIn_const, lookup_cons, Nat.reduceBEq, cond_true, cond_false]; rfl); (simp only [evalIn_tmp, evalIn_const, lookup_cons, Nat.reduceBEq, cond_true, cond_false]; rfl))
            | (refine vOps_pick (t := ?_) (val := ?_) rfl rfl rfl ?_ ?_ ?_; rotate_left 2; (simp only [evalIn_tmp, evalIn_const, lookup_cons, Nat.reduceBEq, cond_true, cond_false]; rfl); (simp only [evalIn_tmp, evalIn_const, lookup_cons, Nat.reduceBEq, cond_true, cond_false]; rfl))
            | (refine vOps_fork (b := ?_) rfl rfl ?_ ?_ ?_; rotate_left 1; (simp only [lookup_cons, Nat.reduceBEq, cond_true, cond_false]; rfl); all_goals (intro hb; simp only [hb]; (try simp only [decide_eq_true_eq, decide_eq_false_iff_not] at hb); try (exfalso; first | omega | exact hb trivial)))
            | (refine vOps_forkp (b := ?_) rfl ?_ ?_ ?_; rotate_left 1; (simp only [evalIn_tmp, lookup_cons, Nat.reduceBEq, cond_true, cond_false]; rfl); all_goals (intro hb; simp only [hb]; (try simp only [decide_eq_true_eq, decide_eq_false_iff_not] at hb); try (exfalso; first | omega | exact hb trivial))))
          refine loopC_normal ⟨i + 1, by omega⟩ [] (by show 2 - (i + 1) < 2 - i; omega) ?_
          refine weak_mk (fun i h => absurd h (Nat.not_lt_zero i)) (by decide) (by simp) ?_ ?_
          · simp only [RenRows, List.nil_append, List.cons_append, List.set_cons_zero, List.set_cons_succ, List.getElem?_cons_zero, List.getElem?_cons_succ, Option.some.injEq, LE.cells.injEq, closedL_bv, closedL_wr, and_true, true_and]
            all_goals (rfl)
          · simp only [RenEnv, lookup_cons, Nat.reduceBEq, cond_true, cond_false]
            (repeat' apply And.intro) <;> first | trivial | exact ren_keep rfl | exact ren_keep (closed_u4 _) | (refine ren_int ?_; omega) | (refine ren_own rfl ?_; first | rfl | omega | (simp; done) | (omega; done)) | (refine ren_int ?_; omega; done) | (refine ren_int ?_; simp; done) | (refine ren_keep ?_; simp only [closed, closedL_bv, closedL_wr]; done) | (refine ren_ptr rfl; done) | exact ren_rdq (by omega)
        · obtain rfl : i = 2 := by omega
          repeat' (first
            | (with_reducible first | apply seqC_normal | apply blockC_normal | apply seqC_exit | apply blockC_hit | apply seqC_ret | apply blockC_ret | apply loopC_ret | apply loopC_exit)
            | ((with_reducible apply blockC_miss); (exact rfl))
            | ((with_reducible apply wC_seq e53_21; apply wC_region e53_22); refine vOps_open (l := _ :: _) rfl ?_)
            | ((with_reducible apply wC_seq e53_23; apply kC_cond e53_24); (exact rfl); all_goals (intro hb; first | (cases hb; done) | cases hb | ((try simp only [decide_eq_true_eq, decide_eq_false_iff_not, Bool.not_eq_true', Bool.not_eq_false'] at hb); try (exfalso; first | omega | exact hb trivial))))
            | ((with_reducible apply wC_skip e53_25))
            | ((with_reducible apply wC_exit e53_26))
            | ((with_reducible apply wC_seq e53_27; apply wC_block e53_28; apply wC_seq e53_29; apply wC_region e53_30); refine vOps_open (l := _ :: _) rfl ?_)
            | ((with_reducible apply wC_region e53_31); refine vOps_open (l := _ :: _) rfl ?_)
            | ((with_reducible apply wC_region e53_32); refine vOps_open (l := _ :: _) rfl ?_)
            | ((with_reducible apply wC_seq e53_33; apply wC_region e53_34); refine vOps_open (l := _ :: _) rfl ?_)
            | ((with_reducible apply wC_ret e53_35))
            | ((with_reducible apply vOps_nil); try (with_reducible refine And.intro (by kernel_rfl) ?_))
            | (refine kOps_gon (g := ?_) (p := ?_) rfl rfl ?_ ?_ ?_ ?_; rotate_left 2; fail; (exact rfl); (with_reducible rfl))
            | (refine kOps_gofft (g := ?_) (p := ?_) rfl rfl ?_ ?_ ?_ ?_; rotate_left 2; fail; (exact rfl); (with_reducible rfl))
            | (refine kOps_gofff (g := ?_) (p := ?_) rfl rfl ?_ ?_ ?_ ?_; rotate_left 2; fail; (exact rfl); (with_reducible rfl))
            | (refine kOps_pickt rfl rfl rfl rfl ?_ rfl ?_; (with_reducible rfl))
            | (refine kOps_pickf rfl rfl rfl rfl ?_ rfl ?_; (with_reducible rfl))
            | (refine kOps_bin (b := .lss) (pre := ?_) (val := ?_) rfl rfl rfl rfl rfl ?_ ?_ ?_; rotate_left 2; (intro L; simp only [splice_one, cells_bv, getD_bv, set_bv, cells_agg, decide_true, decide_false, Int.reduceNe, ne_eq, not_true_eq_false, not_false_eq_true, blen16, wz16, Int.reduceTDiv, Nat.reduceSub, Nat.reduceMod, Int.cast_ofNat_Int, Int.toNat_natCast, lit_ul0, lit_ul1, lss_ul, binF_lss, Int.reduceAdd, Int.reduceSub, Int.reduceMul, Int.reduceNeg, Int.sub_zero, Int.reduceLT, Int.reduceLE, Int.reduceEq, Nat.reduceLT, ty3]; (first | (rw [wrap_i64] <;> first | omega | rfl) | (rw [wrap_u8] <;> first | omega | rfl) | (rw [wrap_u16] <;> first | omega | rfl) | (rw [wrap_u32] <;> first | omega | rfl) | rfl)); exact trivial)
            | (refine kOps_mv rfl rfl rfl rfl ?_)
            | (refine kOps_as rfl rfl rfl rfl ?_)
            | (refine kOps_bin (b := .add) (pre := ?_) (val := ?_) rfl rfl rfl rfl rfl ?_ ?_ ?_; rotate_left 2; (intro L; simp only [splice_one, cells_bv, getD_bv, set_bv, cells_agg, decide_true, decide_false, Int.reduceNe, ne_eq, not_true_eq_false, not_false_eq_true, blen16, wz16, Int.reduceTDiv, Nat.reduceSub, Nat.reduceMod, Int.cast_ofNat_Int, Int.toNat_natCast, lit_ul0, lit_ul1, add_ul, binF_add, Int.reduceAdd, Int.reduceSub, Int.reduceMul, Int.reduceNeg, Int.sub_zero, Int.reduceLT, Int.reduceLE, Int.reduceEq, Nat.reduceLT, ty3]; (first | (rw [wrap_i64] <;> first | omega | rfl) | (rw [wrap_u8] <;> first | omega | rfl) | (rw [wrap_u16] <;> first | omega | rfl) | (rw [wrap_u32] <;> first | omega | rfl) | rfl)); exact trivial)
            | ((first | (refine kOps_ixas (off' := ?_) rfl rfl rfl rfl rfl rfl ty22 ty5 ?_ ?_ ?_; rotate_left 1; (simp only [splice_one, cells_bv, getD_bv, set_bv, cells_agg, decide_true, decide_false, Int.reduceNe, ne_eq, not_true_eq_false, not_false_eq_true, blen16, wz16, Int.reduceTDiv, Nat.reduceSub, Nat.reduceMod, Int.cast_ofNat_Int, Int.toNat_natCast, Nat.zero_add, n_add_zero, Nat.mul_one, Nat.one_mul, Int.reduceToNat, Int.toNat_zero, Nat.reduceMul, Nat.reduceAdd]; rfl)) | (refine kOps_ixar (cs' := ?_) rfl rfl rfl rfl rfl ty22 ty5 ?_ ?_ ?_; rotate_left 1; (simp only [splice_one, cells_bv, getD_bv, set_bv, cells_agg, decide_true, decide_false, Int.reduceNe, ne_eq, not_true_eq_false, not_false_eq_true, blen16, wz16, Int.reduceTDiv, Nat.reduceSub, Nat.reduceMod, Int.cast_ofNat_Int, Int.toNat_natCast, elemAt, isAggD, Bool.false_eq_true, if_false, if_true, reduceIte, take_cl, agg_cl, len_cl, List.drop_zero, Int.reduceToNat, Int.toNat_zero, n_add_zero, Nat.mul_one, Nat.zero_add, Nat.reduceAdd, Nat.reduceMul, take_bytes, List.length_map, List.getD_cons_zero]; rfl))); (focus ((repeat' apply And.intro) <;> first | exact True.intro | omega | (with_reducible rfl) | assumption | (simp only [lns]; first | done | omega) | (simp only [one_bv, cells_bv, one_bv1, List.length_cons, List.length_nil, List.all_cons, List.all_nil, Bool.and_self]; done) | (simp only [cells_agg, one_bv, lns, and_self, true_and, Nat.le_refl, Nat.reduceAdd, Nat.zero_add]; done) | exact one_bv _ | exact ⟨_, rfl⟩ | (simp [PV.one, one_bv, PV.cells, Value.cells, Value.oneCell']; done))))
            | ((first | refine kOps_loadp (pre := ?_) (val := ?_) rfl rfl rfl rfl rfl ty5 ?_ ?_ ?_ | refine kOps_loadr (pre := ?_) (val := ?_) rfl rfl rfl rfl ty5 ?_ ?_ ?_); rotate_left 2; (simp only [splice_one, cells_bv, getD_bv, set_bv, cells_agg, decide_true, decide_false, Int.reduceNe, ne_eq, not_true_eq_false, not_false_eq_true, blen16, wz16, Int.reduceTDiv, Nat.reduceSub, Nat.reduceMod, Int.cast_ofNat_Int, Int.toNat_natCast, partF, isAggD, Bool.false_eq_true, if_false, if_true, reduceIte, take_cl, agg_cl, len_cl, List.drop_zero, Int.reduceToNat, Int.toNat_zero, n_add_zero, Nat.mul_one, Nat.zero_add, Nat.reduceAdd, Nat.reduceMul, take_bytes, List.length_map, List.getD_cons_zero]; rfl); (focus ((repeat' apply And.intro) <;> first | exact True.intro | omega | (with_reducible rfl) | assumption | (simp only [lns]; first | done | omega) | (simp only [one_bv, cells_bv, one_bv1, List.length_cons, List.length_nil, List.all_cons, List.all_nil, Bool.and_self]; done) | (simp only [cells_agg, one_bv, lns, and_self, true_and, Nat.le_refl, Nat.reduceAdd, Nat.zero_add]; done) | exact one_bv _ | exact ⟨_, rfl⟩ | (simp [PV.one, one_bv, PV.cells, Value.cells, Value.oneCell']; done))))
            | (refine kOps_conv (s := 5) (t := 29) (pre := ?_) (val := ?_) rfl rfl rfl rfl ?_ ?_ ?_; rotate_left 2; (intro L; simp only [splice_one, cells_bv, getD_bv, set_bv, cells_agg, decide_true, decide_false, Int.reduceNe, ne_eq, not_true_eq_false, not_false_eq_true, blen16, wz16, Int.reduceTDiv, Nat.reduceSub, Nat.reduceMod, Int.cast_ofNat_Int, Int.toNat_natCast, cv_5_29, cw_5_29]; first | rfl | (first | (rw [wrap_i64] <;> first | omega | rfl) | (rw [wrap_u8] <;> first | omega | rfl) | (rw [wrap_u16] <;> first | omega | rfl) | (rw [wrap_u32] <;> first | omega | rfl) | rfl)); exact trivial)
            | (refine kOps_bin (b := .mul) (pre := ?_) (val := ?_) rfl rfl rfl rfl rfl ?_ ?_ ?_; rotate_left 2; (intro L; simp only [splice_one, cells_bv, getD_bv, set_bv, cells_agg, decide_true, decide_false, Int.reduceNe, ne_eq, not_true_eq_false, not_false_eq_true, blen16, wz16, Int.reduceTDiv, Nat.reduceSub, Nat.reduceMod, Int.cast_ofNat_Int, Int.toNat_natCast, lit_ul0, lit_ul1, mul_ul, binF_mul, Int.reduceAdd, Int.reduceSub, Int.reduceMul, Int.reduceNeg, Int.sub_zero, Int.reduceLT, Int.reduceLE, Int.reduceEq, Nat.reduceLT, ty3]; (first | (rw [wrap_i64] <;> first | omega | rfl) | (rw [wrap_u8] <;> first | omega | rfl) | (rw [wrap_u16] <;> first | omega | rfl) | (rw [wrap_u32] <;> first | omega | rfl) | rfl)); exact trivial)
            | (refine kOps_bin (b := .shl) (pre := ?_) (val := ?_) rfl rfl rfl rfl rfl ?_ ?_ ?_; rotate_left 2; (intro L; simp only [splice_one, cells_bv, getD_bv, set_bv, cells_agg, decide_true, decide_false, Int.reduceNe, ne_eq, not_true_eq_false, not_false_eq_true, blen16, wz16, Int.reduceTDiv, Nat.reduceSub, Nat.reduceMod, Int.cast_ofNat_Int, Int.toNat_natCast, lit_ul0, lit_ul1, shl_z, shl_ul, binF_shl, Int.reduceAdd, Int.reduceSub, Int.reduceMul, Int.reduceNeg, Int.sub_zero, Int.reduceLT, Int.reduceLE, Int.reduceEq, Nat.reduceLT, ty29]; (first | (rw [wrap_i64] <;> first | omega | rfl) | (rw [wrap_u8] <;> first | omega | rfl) | (rw [wrap_u16] <;> first | omega | rfl) | (rw [wrap_u32] <;> first | omega | rfl) | rfl)); (focus ((repeat' apply And.intro) <;> first | exact True.intro | omega | (with_reducible rfl) | assumption | (simp only [lns]; first | done | omega) | (simp only [one_bv, cells_bv, one_bv1, List.length_cons, List.length_nil, List.all_cons, List.all_nil, Bool.and_self]; done) | (simp only [cells_agg, one_bv, lns, and_self, true_and, Nat.le_refl, Nat.reduceAdd, Nat.zero_add]; done) | exact one_bv _ | exact ⟨_, rfl⟩ | (simp [PV.one, one_bv, PV.cells, Value.cells, Value.oneCell']; done))))
            | (refine kOps_bin (b := .or) (pre := ?_) (val := ?_) rfl rfl rfl rfl rfl ?_ ?_ ?_; rotate_left 2; (intro L; simp only [splice_one, cells_bv, getD_bv, set_bv, cells_agg, decide_true, decide_false, Int.reduceNe, ne_eq, not_true_eq_false, not_false_eq_true, blen16, wz16, Int.reduceTDiv, Nat.reduceSub, Nat.reduceMod, Int.cast_ofNat_Int, Int.toNat_natCast, lit_ul0, lit_ul1, or_ul, binF_or, Int.reduceAdd, Int.reduceSub, Int.reduceMul, Int.reduceNeg, Int.sub_zero, Int.reduceLT, Int.reduceLE, Int.reduceEq, Nat.reduceLT, ty29]; (first | (rw [wrap_i64] <;> first | omega | rfl) | (rw [wrap_u8] <;> first | omega | rfl) | (rw [wrap_u16] <;> first | omega | rfl) | (rw [wrap_u32] <;> first | omega | rfl) | rfl)); exact trivial)
            | (refine vOps_gundef rfl rfl ?_ ?_; (focus (simp only [lookup_cons, Nat.reduceBEq, cond_true, cond_false]; done)); simp only [putIn])
            | (refine vOps_gpick (t := ?_) (val := ?_) rfl rfl ?_ rfl rfl ?_ ?_ ?_; rotate_left 2; (focus (simp only [lookup_cons, Nat.reduceBEq, cond_true, cond_false]; done)); (simp only [evalIn_tmp, evalIn_const, lookup_cons, Nat.reduceBEq, cond_true, cond_false]; rfl); (simp only [evalIn_tmp, evalIn_const, lookup_cons, Nat.reduceBEq, cond_true, cond_false]; rfl))
            | (refine vOps_pick (t := ?_) (val := ?_) rfl rfl rfl ?_ ?_ ?_; rotate_left 2; (simp only [evalIn_tmp, evalIn_const, lookup_cons, Nat.reduceBEq, cond_true, cond_false]; rfl); (simp only [evalIn_tmp, evalIn_const, lookup_cons, Nat.reduceBEq, cond_true, cond_false]; rfl))
            | (refine vOps_fork (b := ?_) rfl rfl ?_ ?_ ?_; rotate_left 1; (simp only [lookup_cons, Nat.reduceBEq, cond_true, cond_false]; rfl); all_goals (intro hb; simp only [hb]; (try simp only [decide_eq_true_eq, decide_eq_false_iff_not] at hb); try (exfalso; first | omega | exact hb trivial)))
            | (refine vOps_forkp (b := ?_) rfl ?_ ?_ ?_; rotate_left 1; (simp only [evalIn_tmp, lookup_cons, Nat.reduceBEq, cond_true, cond_false]; rfl); all_goals (intro hb; simp only [hb]; (try simp only [decide_eq_true_eq, decide_eq_false_iff_not] at hb); try (exfalso; first | omega | exact hb trivial))))
          refine fin_c (p := ?_) (xs := [.tmp 4, .tmp 5, .tmp 6]) (by simp) rfl ?_ ?_ ?_ ?_
          rotate_left 2
          · simp only [resAll_cons, resAll_nil, resPVl_0, resPVl_1, resPVl_2, resOne_tmp, resOne_cell, List.map_cons, List.map_nil, splice_one, cells_bv, getD_bv, set_bv, cells_agg, decide_true, decide_false, Int.reduceNe, ne_eq, not_true_eq_false, not_false_eq_true, blen16, wz16, Int.reduceTDiv, Nat.reduceSub, Nat.reduceMod, Int.cast_ofNat_Int, Int.toNat_natCast, elemAt, h8i, hai, evalIn_tmp, evalIn_const, evalIn_func, lookup_cons, Nat.reduceBEq, cond_true, cond_false, lit_ul0, lit_ul1, loadF, partF, List.getElem?_cons_zero, List.getElem?_cons_succ, List.set_cons_zero, List.set_cons_succ, List.cons_append, List.nil_append, true_and, and_true, and_self, Nat.le_refl, Nat.reduceLeDiff, isAggD, Bool.false_eq_true, if_false, if_true, reduceIte, take_cl, agg_cl, len_cl, List.drop_zero, Int.reduceToNat, Int.toNat_zero, n_add_zero, Nat.mul_one, Nat.zero_add, Nat.reduceAdd, Nat.reduceMul, take_bytes, List.length_map, List.getD_cons_zero, ty3, ty5, ty22, ty23, ty29, ty36]; try rfl
          · first | (with_reducible rfl) | (simp only [closed, closedL, closed_u4, closed_ul, closed_uw, closed_sv, closedL_bv, closedL_wr, Bool.and_self, Bool.and_true]; done) | (simp only [closed, closedL, closed_u4, closed_ul, closed_uw, closed_sv, closedL_bv, closedL_wr, Bool.and_self, Bool.and_true]; rfl)
          · rfl
          · simp only [resAll_cons, resAll_nil, resPVl_0, resPVl_1, resPVl_2, resOne_tmp, resOne_cell, List.map_cons, List.map_nil, splice_one, cells_bv, getD_bv, set_bv, cells_agg, decide_true, decide_false, Int.reduceNe, ne_eq, not_true_eq_false, not_false_eq_true, blen16, wz16, Int.reduceTDiv, Nat.reduceSub, Nat.reduceMod, Int.cast_ofNat_Int, Int.toNat_natCast, elemAt, h8i, hai, evalIn_tmp, evalIn_const, evalIn_func, lookup_cons, Nat.reduceBEq, cond_true, cond_false, lit_ul0, lit_ul1, loadF, partF, List.getElem?_cons_zero, List.getElem?_cons_succ, List.set_cons_zero, List.set_cons_succ, List.cons_append, List.nil_append, true_and, and_true, and_self, Nat.le_refl, Nat.reduceLeDiff, isAggD, Bool.false_eq_true, if_false, if_true, reduceIte, take_cl, agg_cl, len_cl, List.drop_zero, Int.reduceToNat, Int.toNat_zero, n_add_zero, Nat.mul_one, Nat.zero_add, Nat.reduceAdd, Nat.reduceMul, take_bytes, List.length_map, List.getD_cons_zero, ty3, ty5, ty22, ty23, ty29, ty36]; try trivial
    · rw [if_neg hz]
      have hn0 : (needE b.length a 2 = 0) = False := eq_false hz
      repeat' (first
        | (with_reducible first | apply seqC_normal | apply blockC_normal | apply seqC_exit | apply blockC_hit | apply seqC_ret | apply blockC_ret | apply loopC_ret | apply loopC_exit)
        | ((with_reducible apply blockC_miss); (exact rfl))
        | ((with_reducible apply wC_seq e53_0; apply wC_region e53_1); refine vOps_open (l := _ :: _) rfl ?_)
        | ((with_reducible apply wC_seq e53_2; apply wC_region e53_3); refine vOps_open (l := _ :: _) rfl ?_)
        | ((with_reducible apply wC_seq e53_4; apply wC_seq e53_5; apply wC_region e53_6); refine vOps_open (l := _ :: _) rfl ?_)
        | ((with_reducible apply wC_seq e53_7; apply wC_region e53_8); refine vOps_open (l := _ :: _) rfl ?_)
        | ((with_reducible apply kC_cond e53_9); (exact rfl); all_goals (intro hb; first | (cases hb; done) | cases hb | ((try simp only [decide_eq_true_eq, decide_eq_false_iff_not, Bool.not_eq_true', Bool.not_eq_false'] at hb); try (exfalso; first | omega | exact hb trivial))))
        | ((with_reducible apply wC_seq e53_10; apply wC_region e53_11); refine vOps_open (l := _ :: _) rfl ?_)
        | ((with_reducible apply wC_ret e53_12))
        | ((with_reducible apply wC_skip e53_13))
        | ((with_reducible apply wC_seq e53_14; apply wC_region e53_15); refine vOps_open (l := _ :: _) rfl ?_)
        | ((with_reducible apply wC_seq e53_16; apply wC_seq e53_17; apply wC_region e53_18); refine vOps_open (l := _ :: _) rfl ?_)
        | ((with_reducible apply wC_block e53_19))
        | ((with_reducible apply wC_seq e53_33; apply wC_region e53_34); refine vOps_open (l := _ :: _) rfl ?_)
        | ((with_reducible apply wC_ret e53_35))
        | ((with_reducible apply vOps_nil); try (with_reducible refine And.intro (by kernel_rfl) ?_))
        | (refine kOps_gon (g := ?_) (p := ?_) rfl rfl ?_ ?_ ?_ ?_; rotate_left 2; fail; (exact rfl); (with_reducible rfl))
        | (refine kOps_gofft (g := ?_) (p := ?_) rfl rfl ?_ ?_ ?_ ?_; rotate_left 2; fail; (exact rfl); (with_reducible rfl))
        | (refine kOps_gofff (g := ?_) (p := ?_) rfl rfl ?_ ?_ ?_ ?_; rotate_left 2; fail; (exact rfl); (with_reducible rfl))
        | (refine kOps_pickt rfl rfl rfl rfl ?_ rfl ?_; (with_reducible rfl))
        | (refine kOps_pickf rfl rfl rfl rfl ?_ rfl ?_; (with_reducible rfl))
        | (refine kOps_as rfl rfl rfl rfl ?_)
        | (refine kOps_conv (s := 3) (t := 29) (pre := ?_) (val := ?_) rfl rfl rfl rfl ?_ ?_ ?_; rotate_left 2; (intro L; simp only [splice_one, cells_bv, getD_bv, set_bv, cells_agg, decide_true, decide_false, Int.reduceNe, ne_eq, not_true_eq_false, not_false_eq_true, blen16, wz16, Int.reduceTDiv, Nat.reduceSub, Nat.reduceMod, Int.cast_ofNat_Int, hz, hn0, w_16, cv_3_29]; first | rfl | (first | (rw [wrap_i64] <;> first | omega | rfl) | (rw [wrap_u8] <;> first | omega | rfl) | (rw [wrap_u16] <;> first | omega | rfl) | (rw [wrap_u32] <;> first | omega | rfl) | rfl)); exact trivial)
        | (refine kOps_un (b := .xor) (pre := ?_) (val := ?_) rfl rfl rfl rfl ?_ ?_ ?_; rotate_left 2; (intro L; simp only [splice_one, cells_bv, getD_bv, set_bv, cells_agg, decide_true, decide_false, Int.reduceNe, ne_eq, not_true_eq_false, not_false_eq_true, blen16, wz16, Int.reduceTDiv, Nat.reduceSub, Nat.reduceMod, Int.cast_ofNat_Int, hz, hn0, not_16, not_ul, not_uw, unF_not, unF_neg]; (first | (rw [wrap_i64] <;> first | omega | rfl) | (rw [wrap_u8] <;> first | omega | rfl) | (rw [wrap_u16] <;> first | omega | rfl) | (rw [wrap_u32] <;> first | omega | rfl) | rfl)); exact trivial)
        | (refine kOps_conv (s := 29) (t := 23) (pre := ?_) (val := ?_) rfl rfl rfl rfl ?_ ?_ ?_; rotate_left 2; (intro L; simp only [splice_one, cells_bv, getD_bv, set_bv, cells_agg, decide_true, decide_false, Int.reduceNe, ne_eq, not_true_eq_false, not_false_eq_true, blen16, wz16, Int.reduceTDiv, Nat.reduceSub, Nat.reduceMod, Int.cast_ofNat_Int, hz, hn0, w_16, cv_29_23]; first | rfl | (first | (rw [wrap_i64] <;> first | omega | rfl) | (rw [wrap_u8] <;> first | omega | rfl) | (rw [wrap_u16] <;> first | omega | rfl) | (rw [wrap_u32] <;> first | omega | rfl) | rfl)); exact trivial)
        | (refine kOps_callc (pre := ?_) (val := ?_) rfl rfl rfl rfl rfl ?_ ?_ ?_ ?_ ?_; rotate_left 2; (simp only [splice_one, cells_bv, getD_bv, set_bv, cells_agg, decide_true, decide_false, Int.reduceNe, ne_eq, not_true_eq_false, not_false_eq_true, blen16, wz16, Int.reduceTDiv, Nat.reduceSub, Nat.reduceMod, Int.cast_ofNat_Int, hz, hn0, isB_bv, bytesOf_bv, isul_ul, ulv_ul, sNeed, sLen64, lit_ul0, lit_ul1, nrmC, List.map_cons, List.map_nil, nrm_ul, nrm_u4, nrm_nil, nrm_int, nrm_bool, nrm_string, nrm_ro, nrm_agg, nrm_rptr, isU_u4, uv_u4, true_and, and_true, and_self, n_add_zero, Nat.zero_add, Nat.zero_mod, n_sub_zero]; rfl); (focus (first | (with_reducible rfl) | (simp only [closed, closedL, closed_ul, closed_u4, closedL_bv, closedL_cl, Bool.and_self, Bool.and_true, closedL_wr, closed_uw, closed_sv, closed_tp]; done))); (focus (first | (with_reducible rfl) | (simp only [closed, closedL, closed_ul, closed_u4, closedL_bv, closedL_cl, Bool.and_self, Bool.and_true, closedL_wr, closed_uw, closed_sv, closed_tp]; done))); (focus ((repeat' apply And.intro) <;> first | exact True.intro | omega | (with_reducible rfl) | assumption | (simp only [lns]; first | done | omega) | (simp only [one_bv, cells_bv, one_bv1, List.length_cons, List.length_nil, List.all_cons, List.all_nil, Bool.and_self]; done) | (simp only [cells_agg, one_bv, lns, and_self, true_and, Nat.le_refl, Nat.reduceAdd, Nat.zero_add]; done) | exact one_bv _ | exact ⟨_, rfl⟩ | (simp [PV.one, one_bv, PV.cells, Value.cells, Value.oneCell']; done))))
        | (refine kOps_bin (b := .quo) (pre := ?_) (val := ?_) rfl rfl rfl rfl rfl ?_ ?_ ?_; rotate_left 2; (intro L; simp only [splice_one, cells_bv, getD_bv, set_bv, cells_agg, decide_true, decide_false, Int.reduceNe, ne_eq, not_true_eq_false, not_false_eq_true, blen16, wz16, Int.reduceTDiv, Nat.reduceSub, Nat.reduceMod, Int.cast_ofNat_Int, hz, hn0, lit_ul0, lit_ul1, binF_quo, Int.reduceAdd, Int.reduceSub, Int.reduceMul, Int.reduceNeg, Int.sub_zero, Int.reduceLT, Int.reduceLE, Int.reduceEq, Nat.reduceLT, ty3]; (first | (rw [wrap_i64] <;> first | omega | rfl) | (rw [wrap_u8] <;> first | omega | rfl) | (rw [wrap_u16] <;> first | omega | rfl) | (rw [wrap_u32] <;> first | omega | rfl) | rfl)); (focus ((repeat' apply And.intro) <;> first | exact True.intro | omega | (with_reducible rfl) | assumption | (simp only [lns]; first | done | omega) | (simp only [one_bv, cells_bv, one_bv1, List.length_cons, List.length_nil, List.all_cons, List.all_nil, Bool.and_self]; done) | (simp only [cells_agg, one_bv, lns, and_self, true_and, Nat.le_refl, Nat.reduceAdd, Nat.zero_add]; done) | exact one_bv _ | exact ⟨_, rfl⟩ | (simp [PV.one, one_bv, PV.cells, Value.cells, Value.oneCell']; done))))
        | (refine kOps_mv rfl rfl rfl rfl ?_)
        | (refine kOps_bin (b := .neq) (pre := ?_) (val := ?_) rfl rfl rfl rfl rfl ?_ ?_ ?_; rotate_left 2; (intro L; simp only [splice_one, cells_bv, getD_bv, set_bv, cells_agg, decide_true, decide_false, Int.reduceNe, ne_eq, not_true_eq_false, not_false_eq_true, blen16, wz16, Int.reduceTDiv, Nat.reduceSub, Nat.reduceMod, Int.cast_ofNat_Int, hz, hn0, lit_ul0, lit_ul1, neq_ul, binF_neq, binF_sneq, Int.reduceAdd, Int.reduceSub, Int.reduceMul, Int.reduceNeg, Int.sub_zero, Int.reduceLT, Int.reduceLE, Int.reduceEq, Nat.reduceLT, ty36]; (first | (rw [wrap_i64] <;> first | omega | rfl) | (rw [wrap_u8] <;> first | omega | rfl) | (rw [wrap_u16] <;> first | omega | rfl) | (rw [wrap_u32] <;> first | omega | rfl) | rfl)); (focus ((repeat' apply And.intro) <;> first | exact True.intro | omega | (with_reducible rfl) | assumption | (simp only [lns]; first | done | omega) | (simp only [one_bv, cells_bv, one_bv1, List.length_cons, List.length_nil, List.all_cons, List.all_nil, Bool.and_self]; done) | (simp only [cells_agg, one_bv, lns, and_self, true_and, Nat.le_refl, Nat.reduceAdd, Nat.zero_add]; done) | exact one_bv _ | exact ⟨_, rfl⟩ | (simp [PV.one, one_bv, PV.cells, Value.cells, Value.oneCell']; done))))
        | (refine kOps_bin (b := .add) (pre := ?_) (val := ?_) rfl rfl rfl rfl rfl ?_ ?_ ?_; rotate_left 2; (intro L; simp only [splice_one, cells_bv, getD_bv, set_bv, cells_agg, decide_true, decide_false, Int.reduceNe, ne_eq, not_true_eq_false, not_false_eq_true, blen16, wz16, Int.reduceTDiv, Nat.reduceSub, Nat.reduceMod, Int.cast_ofNat_Int, hz, hn0, lit_ul0, lit_ul1, add_ul, binF_add, Int.reduceAdd, Int.reduceSub, Int.reduceMul, Int.reduceNeg, Int.sub_zero, Int.reduceLT, Int.reduceLE, Int.reduceEq, Nat.reduceLT, ty3]; (first | (rw [wrap_i64] <;> first | omega | rfl) | (rw [wrap_u8] <;> first | omega | rfl) | (rw [wrap_u16] <;> first | omega | rfl) | (rw [wrap_u32] <;> first | omega | rfl) | rfl)); exact trivial)
        | (refine vOps_gundef rfl rfl ?_ ?_; (focus (simp only [lookup_cons, Nat.reduceBEq, cond_true, cond_false]; done)); simp only [putIn])
        | (refine vOps_gpick (t := ?_) (val := ?_) rfl rfl ?_ rfl rfl ?_ ?_ ?_; rotate_left 2; (focus (simp only [lookup_cons, Nat.reduceBEq, cond_true, cond_false]; done)); (simp only [evalIn_tmp, evalIn_const, lookup_cons, Nat.reduceBEq, cond_true, cond_false]; rfl); (simp only [evalIn_tmp, evalIn_const, lookup_cons, Nat.reduceBEq, cond_true, cond_false]; rfl))
        | (refine vOps_pick (t := ?_) (val := ?_) rfl rfl rfl ?_ ?_ ?_; rotate_left 2; (simp only [evalIn_tmp, evalIn_const, lookup_cons, Nat.reduceBEq, cond_true, cond_false]; rfl); (simp only [evalIn_tmp, evalIn_const, lookup_cons, Nat.reduceBEq, cond_true, cond_false]; rfl))
        | (refine vOps_fork (b := ?_) rfl rfl ?_ ?_ ?_; rotate_left 1; (simp only [lookup_cons, Nat.reduceBEq, cond_true, cond_false]; rfl); all_goals (intro hb; simp only [hb]; (try simp only [decide_eq_true_eq, decide_eq_false_iff_not] at hb); try (exfalso; first | omega | exact hb trivial)))
        | (refine vOps_forkp (b := ?_) rfl ?_ ?_ ?_; rotate_left 1; (simp only [evalIn_tmp, lookup_cons, Nat.reduceBEq, cond_true, cond_false]; rfl); all_goals (intro hb; simp only [hb]; (try simp only [decide_eq_true_eq, decide_eq_false_iff_not] at hb); try (exfalso; first | omega | exact hb trivial))))
      refine fin_c (p := ?_) (xs := [.tmp 4, .tmp 5, .tmp 6]) (by simp) rfl ?_ ?_ ?_ ?_
      rotate_left 2
      · simp only [resAll_cons, resAll_nil, resPVl_0, resPVl_1, resPVl_2, resOne_tmp, resOne_cell, List.map_cons, List.map_nil, splice_one, cells_bv, getD_bv, set_bv, cells_agg, decide_true, decide_false, Int.reduceNe, ne_eq, not_true_eq_false, not_false_eq_true, blen16, wz16, Int.reduceTDiv, Nat.reduceSub, Nat.reduceMod, Int.cast_ofNat_Int, hz, hn0, evalIn_tmp, evalIn_const, evalIn_func, lookup_cons, Nat.reduceBEq, cond_true, cond_false, lit_ul0, lit_ul1, loadF, partF, List.getElem?_cons_zero, List.getElem?_cons_succ, List.set_cons_zero, List.set_cons_succ, List.cons_append, List.nil_append, true_and, and_true, and_self, Nat.le_refl, Nat.reduceLeDiff, isAggD, Bool.false_eq_true, if_false, if_true, reduceIte, take_cl, agg_cl, len_cl, List.drop_zero, Int.toNat_natCast, Int.reduceToNat, Int.toNat_zero, n_add_zero, Nat.mul_one, Nat.zero_add, Nat.reduceAdd, Nat.reduceMul, take_bytes, List.length_map, List.getD_cons_zero, ty3, ty5, ty22, ty23, ty29, ty36]; try rfl
      · first | (with_reducible rfl) | (simp only [closed, closedL, closed_u4, closed_ul, closed_uw, closed_sv, closedL_bv, closedL_wr, Bool.and_self, Bool.and_true]; done) | (simp only [closed, closedL, closed_u4, closed_ul, closed_uw, closed_sv, closedL_bv, closedL_wr, Bool.and_self, Bool.and_true]; rfl)
      · rfl
      · simp only [resAll_cons, resAll_nil, resPVl_0, resPVl_1, resPVl_2, resOne_tmp, resOne_cell, List.map_cons, List.map_nil, splice_one, cells_bv, getD_bv, set_bv, cells_agg, decide_true, decide_false, Int.reduceNe, ne_eq, not_true_eq_false, not_false_eq_true, blen16, wz16, Int.reduceTDiv, Nat.reduceSub, Nat.reduceMod, Int.cast_ofNat_Int, hz, hn0, evalIn_tmp, evalIn_const, evalIn_func, lookup_cons, Nat.reduceBEq, cond_true, cond_false, lit_ul0, lit_ul1, loadF, partF, List.getElem?_cons_zero, List.getElem?_cons_succ, List.set_cons_zero, List.set_cons_succ, List.cons_append, List.nil_append, true_and, and_true, and_self, Nat.le_refl, Nat.reduceLeDiff, isAggD, Bool.false_eq_true, if_false, if_true, reduceIte, take_cl, agg_cl, len_cl, List.drop_zero, Int.toNat_natCast, Int.reduceToNat, Int.toNat_zero, n_add_zero, Nat.mul_one, Nat.zero_add, Nat.reduceAdd, Nat.reduceMul, take_bytes, List.length_map, List.getD_cons_zero, ty3, ty5, ty22, ty23, ty29, ty36]; try trivial
  · exact hS.elim
end Go.Ab
