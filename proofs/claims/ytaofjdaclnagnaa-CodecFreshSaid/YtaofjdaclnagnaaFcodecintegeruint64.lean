import Derived.Test.YtaofjdaclnagnaaMG
import Derived.Test.YtaofjdaclnagnaaTY
import Derived.Test.YtaofjdaclnagnaaFcodecneed
import Derived.Test.YtaofjdaclnagnaaFbitsLen64
namespace Go.Ab
open Go Go.Proofs
set_option linter.unusedVariables false
set_option linter.unusedSimpArgs false
set_option maxRecDepth 8000
set_option maxHeartbeats 4000000

noncomputable def B55 : Code := bodyOf Try.f55
theorem B55_eq : Try.f55.body = some B55 := by kernel_rfl
noncomputable def n55_0 : Code := B55
noncomputable def n55_1 : Code := codeAt B55 [0]
noncomputable def n55_2 : Code := codeAt B55 [1]
noncomputable def n55_3 : Code := codeAt B55 [1,0]
noncomputable def n55_4 : Code := codeAt B55 [1,1]
noncomputable def n55_5 : Code := codeAt B55 [1,1,0]
noncomputable def n55_6 : Code := codeAt B55 [1,1,0,0]
noncomputable def n55_7 : Code := codeAt B55 [1,1,0,1]
noncomputable def n55_8 : Code := codeAt B55 [1,1,0,1,0]
noncomputable def n55_9 : Code := codeAt B55 [1,1,0,1,1]
noncomputable def n55_10 : Code := codeAt B55 [1,1,0,1,1,0]
noncomputable def n55_11 : Code := codeAt B55 [1,1,0,1,1,0,0]
noncomputable def n55_12 : Code := codeAt B55 [1,1,0,1,1,0,1]
noncomputable def n55_13 : Code := codeAt B55 [1,1,0,1,1,1]
noncomputable def n55_14 : Code := codeAt B55 [1,1,1]
noncomputable def n55_15 : Code := codeAt B55 [1,1,1,0]
noncomputable def n55_16 : Code := codeAt B55 [1,1,1,1]
noncomputable def n55_17 : Code := codeAt B55 [1,1,1,1,0]
noncomputable def n55_18 : Code := codeAt B55 [1,1,1,1,0,0]
noncomputable def n55_19 : Code := codeAt B55 [1,1,1,1,0,1]
noncomputable def n55_20 : Code := codeAt B55 [1,1,1,1,0,1,0]
noncomputable def n55_21 : Code := codeAt B55 [1,1,1,1,0,1,0,0]
noncomputable def n55_22 : Code := codeAt B55 [1,1,1,1,0,1,0,0,0]
noncomputable def n55_23 : Code := codeAt B55 [1,1,1,1,0,1,0,0,1]
noncomputable def n55_24 : Code := codeAt B55 [1,1,1,1,0,1,0,0,1,0]
noncomputable def n55_25 : Code := codeAt B55 [1,1,1,1,0,1,0,0,1,0,0]
noncomputable def n55_26 : Code := codeAt B55 [1,1,1,1,0,1,0,0,1,0,1]
noncomputable def n55_27 : Code := codeAt B55 [1,1,1,1,0,1,0,0,1,1]
noncomputable def n55_28 : Code := codeAt B55 [1,1,1,1,0,1,0,0,1,1,0]
noncomputable def n55_29 : Code := codeAt B55 [1,1,1,1,0,1,0,0,1,1,0,0]
noncomputable def n55_30 : Code := codeAt B55 [1,1,1,1,0,1,0,0,1,1,0,0,0]
noncomputable def n55_31 : Code := codeAt B55 [1,1,1,1,0,1,0,0,1,1,0,0,1]
noncomputable def n55_32 : Code := codeAt B55 [1,1,1,1,0,1,0,0,1,1,1]
noncomputable def n55_33 : Code := codeAt B55 [1,1,1,1,1]
noncomputable def n55_34 : Code := codeAt B55 [1,1,1,1,1,0]
noncomputable def n55_35 : Code := codeAt B55 [1,1,1,1,1,1]
theorem e55_0 : n55_0 = .seq n55_1 n55_2 := rfl
noncomputable def r55_1 := opsAt n55_1
theorem e55_1 : n55_1 = .region 0 (r55_1).toArray false := rfl
theorem e55_2 : n55_2 = .seq n55_3 n55_4 := rfl
noncomputable def r55_3 := opsAt n55_3
theorem e55_3 : n55_3 = .region 1 (r55_3).toArray false := rfl
theorem e55_4 : n55_4 = .seq n55_5 n55_14 := rfl
theorem e55_5 : n55_5 = .seq n55_6 n55_7 := rfl
noncomputable def r55_6 := opsAt n55_6
theorem e55_6 : n55_6 = .region 2 (r55_6).toArray false := rfl
theorem e55_7 : n55_7 = .seq n55_8 n55_9 := rfl
noncomputable def r55_8 := opsAt n55_8
theorem e55_8 : n55_8 = .region 3 (r55_8).toArray false := rfl
theorem e55_9 : n55_9 = .cond (.tmp 20) n55_10 n55_13 := rfl
theorem e55_10 : n55_10 = .seq n55_11 n55_12 := rfl
noncomputable def r55_11 := opsAt n55_11
theorem e55_11 : n55_11 = .region 4 (r55_11).toArray false := rfl
theorem e55_12 : n55_12 = .ret := rfl
theorem e55_13 : n55_13 = .skip := rfl
theorem e55_14 : n55_14 = .seq n55_15 n55_16 := rfl
noncomputable def r55_15 := opsAt n55_15
theorem e55_15 : n55_15 = .region 5 (r55_15).toArray false := rfl
theorem e55_16 : n55_16 = .seq n55_17 n55_33 := rfl
theorem e55_17 : n55_17 = .seq n55_18 n55_19 := rfl
noncomputable def r55_18 := opsAt n55_18
theorem e55_18 : n55_18 = .region 6 (r55_18).toArray false := rfl
theorem e55_19 : n55_19 = .block 0 n55_20 := rfl
theorem e55_20 : n55_20 = .loop n55_21 := rfl
theorem e55_21 : n55_21 = .seq n55_22 n55_23 := rfl
noncomputable def r55_22 := opsAt n55_22
theorem e55_22 : n55_22 = .region 7 (r55_22).toArray false := rfl
theorem e55_23 : n55_23 = .seq n55_24 n55_27 := rfl
theorem e55_24 : n55_24 = .cond (.tmp 24) n55_25 n55_26 := rfl
theorem e55_25 : n55_25 = .skip := rfl
theorem e55_26 : n55_26 = .exit 0 := rfl
theorem e55_27 : n55_27 = .seq n55_28 n55_32 := rfl
theorem e55_28 : n55_28 = .block 1 n55_29 := rfl
theorem e55_29 : n55_29 = .seq n55_30 n55_31 := rfl
noncomputable def r55_30 := opsAt n55_30
theorem e55_30 : n55_30 = .region 8 (r55_30).toArray false := rfl
noncomputable def r55_31 := opsAt n55_31
theorem e55_31 : n55_31 = .region 9 (r55_31).toArray false := rfl
noncomputable def r55_32 := opsAt n55_32
theorem e55_32 : n55_32 = .region 10 (r55_32).toArray false := rfl
theorem e55_33 : n55_33 = .seq n55_34 n55_35 := rfl
noncomputable def r55_34 := opsAt n55_34
theorem e55_34 : n55_34 = .region 11 (r55_34).toArray false := rfl
theorem e55_35 : n55_35 = .ret := rfl
theorem f_codec_integer_uint64 : PureOk Try.prog 55 sInt64 := by
  refine pureOk_of (c := n55_0) (Γ := conOf [(56, .pure sNeed), (62, .pure sLen64)]) (conOf_ok (conOf_one (S := .pure sNeed) f_codec_need (conOf_one (S := .pure sLen64) f_bits_Len64 (conOf_end)))) mixed Try.func55 B55_eq (by decide +kernel) Try.call55 ?_
  intro args hS
  unfold sInt64 at hS ⊢
  split at hS
  · refine ⟨by rw [Try.ntmps55]; simp, vC_sound ?_⟩
    rename_i n cs a
    obtain ⟨hB, hn, ha0, ha1⟩ := hS
    obtain ⟨b, rfl, rfl⟩ := isB_out hB
    simp only [bytesOf_bv]
    clear hB
    simp only [entry_cons, entry_nil, Nat.reduceAdd]
    by_cases hz : needE b.length a 8 = 0
    · rw [if_pos hz]
      have hok := need_ok hz
      obtain ⟨m, rfl⟩ := Int.eq_ofNat_of_zero_le (show 0 ≤ a by omega)
      repeat' (first
        | (with_reducible first | apply seqC_normal | apply blockC_normal | apply seqC_exit | apply blockC_hit | apply seqC_ret | apply blockC_ret | apply loopC_ret | apply loopC_exit)
        | ((with_reducible apply blockC_miss); (exact rfl))
        | ((with_reducible apply wC_seq e55_0; apply wC_region e55_1); refine vOps_open (l := _ :: _) rfl ?_)
        | ((with_reducible apply wC_seq e55_2; apply wC_region e55_3); refine vOps_open (l := _ :: _) rfl ?_)
        | ((with_reducible apply wC_seq e55_4; apply wC_seq e55_5; apply wC_region e55_6); refine vOps_open (l := _ :: _) rfl ?_)
        | ((with_reducible apply wC_seq e55_7; apply wC_region e55_8); refine vOps_open (l := _ :: _) rfl ?_)
        | ((with_reducible apply kC_cond e55_9); (exact rfl); all_goals (intro hb; first | (cases hb; done) | cases hb | ((try simp only [decide_eq_true_eq, decide_eq_false_iff_not, Bool.not_eq_true', Bool.not_eq_false'] at hb); try (exfalso; first | omega | exact hb trivial))))
        | ((with_reducible apply wC_seq e55_10; apply wC_region e55_11); refine vOps_open (l := _ :: _) rfl ?_)
        | ((with_reducible apply wC_ret e55_12))
        | ((with_reducible apply wC_skip e55_13))
        | ((with_reducible apply wC_seq e55_14; apply wC_region e55_15); refine vOps_open (l := _ :: _) rfl ?_)
        | ((with_reducible apply wC_seq e55_16; apply wC_seq e55_17; apply wC_region e55_18); refine vOps_open (l := _ :: _) rfl ?_)
        | ((with_reducible apply wC_block e55_19))
        | ((with_reducible apply wC_seq e55_33; apply wC_region e55_34); refine vOps_open (l := _ :: _) rfl ?_)
        | ((with_reducible apply wC_ret e55_35))
        | ((with_reducible apply vOps_nil); try (with_reducible refine And.intro (by kernel_rfl) ?_))
        | (refine kOps_gon (g := ?_) (p := ?_) rfl rfl ?_ ?_ ?_ ?_; rotate_left 2; fail; (exact rfl); (with_reducible rfl))
        | (refine kOps_gofft (g := ?_) (p := ?_) rfl rfl ?_ ?_ ?_ ?_; rotate_left 2; fail; (exact rfl); (with_reducible rfl))
        | (refine kOps_gofff (g := ?_) (p := ?_) rfl rfl ?_ ?_ ?_ ?_; rotate_left 2; fail; (exact rfl); (with_reducible rfl))
        | (refine kOps_pickt rfl rfl rfl rfl ?_ rfl ?_; (with_reducible rfl))
        | (refine kOps_pickf rfl rfl rfl rfl ?_ rfl ?_; (with_reducible rfl))
        | (refine kOps_asc rfl rfl rfl lit_ul0 ?_)
        | (refine kOps_as rfl rfl rfl rfl ?_)
        | (refine kOps_conv (s := 3) (t := 23) (pre := ?_) (val := ?_) rfl rfl rfl rfl ?_ ?_ ?_; rotate_left 2; (intro L; simp only [splice_one, cells_bv, getD_bv, set_bv, cells_agg, decide_true, decide_false, Int.reduceNe, ne_eq, not_true_eq_false, not_false_eq_true, blen64, Int.reduceTDiv, Nat.reduceSub, Nat.reduceMod, Int.cast_ofNat_Int, hz, conv0 ty3 ty23, cw_3_23]; first | rfl | (first | (rw [wrap_i64] <;> first | omega | rfl) | (rw [wrap_u8] <;> first | omega | rfl) | (rw [wrap_u16] <;> first | omega | rfl) | (rw [wrap_u32] <;> first | omega | rfl) | rfl)); exact trivial)
        | (refine kOps_un (b := .xor) (pre := ?_) (val := ?_) rfl rfl rfl rfl ?_ ?_ ?_; rotate_left 2; (intro L; simp only [splice_one, cells_bv, getD_bv, set_bv, cells_agg, decide_true, decide_false, Int.reduceNe, ne_eq, not_true_eq_false, not_false_eq_true, blen64, Int.reduceTDiv, Nat.reduceSub, Nat.reduceMod, Int.cast_ofNat_Int, hz, not_ul, not_uw, unF_not, unF_neg]; (first | (rw [wrap_i64] <;> first | omega | rfl) | (rw [wrap_u8] <;> first | omega | rfl) | (rw [wrap_u16] <;> first | omega | rfl) | (rw [wrap_u32] <;> first | omega | rfl) | rfl)); exact trivial)
        | (refine kOps_callc (pre := ?_) (val := ?_) rfl rfl rfl rfl rfl ?_ ?_ ?_ ?_ ?_; rotate_left 2; (simp only [splice_one, cells_bv, getD_bv, set_bv, cells_agg, decide_true, decide_false, Int.reduceNe, ne_eq, not_true_eq_false, not_false_eq_true, blen64, Int.reduceTDiv, Nat.reduceSub, Nat.reduceMod, Int.cast_ofNat_Int, hz, isB_bv, bytesOf_bv, isul_ul, ulv_ul, sNeed, sLen64, lit_ul0, lit_ul1, nrmC, List.map_cons, List.map_nil, nrm_ul, nrm_u4, nrm_nil, nrm_int, nrm_bool, nrm_string, nrm_ro, nrm_agg, nrm_rptr, isU_u4, uv_u4, true_and, and_true, and_self, n_add_zero, Nat.zero_add, Nat.zero_mod, n_sub_zero]; rfl); (focus (first | (with_reducible rfl) | (simp only [closed, closedL, closed_ul, closed_u4, closedL_bv, closedL_cl, Bool.and_self, Bool.and_true, closedL_wr, closed_uw, closed_sv, closed_tp]; done))); (focus (first | (with_reducible rfl) | (simp only [closed, closedL, closed_ul, closed_u4, closedL_bv, closedL_cl, Bool.and_self, Bool.and_true, closedL_wr, closed_uw, closed_sv, closed_tp]; done))); (focus ((repeat' apply And.intro) <;> first | exact True.intro | omega | (with_reducible rfl) | assumption | (simp only [lns]; first | done | omega) | (simp only [one_bv, cells_bv, one_bv1, List.length_cons, List.length_nil, List.all_cons, List.all_nil, Bool.and_self]; done) | (simp only [cells_agg, one_bv, lns, and_self, true_and, Nat.le_refl, Nat.reduceAdd, Nat.zero_add]; done) | exact one_bv _ | exact ⟨_, rfl⟩ | (simp [PV.one, one_bv, PV.cells, Value.cells, Value.oneCell']; done))))
        | (refine kOps_bin (b := .quo) (pre := ?_) (val := ?_) rfl rfl rfl rfl rfl ?_ ?_ ?_; rotate_left 2; (intro L; simp only [splice_one, cells_bv, getD_bv, set_bv, cells_agg, decide_true, decide_false, Int.reduceNe, ne_eq, not_true_eq_false, not_false_eq_true, blen64, Int.reduceTDiv, Nat.reduceSub, Nat.reduceMod, Int.cast_ofNat_Int, hz, lit_ul0, lit_ul1, binF_quo, Int.reduceAdd, Int.reduceSub, Int.reduceMul, Int.reduceNeg, Int.sub_zero, Int.reduceLT, Int.reduceLE, Int.reduceEq, Nat.reduceLT, ty3]; (first | (rw [wrap_i64] <;> first | omega | rfl) | (rw [wrap_u8] <;> first | omega | rfl) | (rw [wrap_u16] <;> first | omega | rfl) | (rw [wrap_u32] <;> first | omega | rfl) | rfl)); (focus ((repeat' apply And.intro) <;> first | exact True.intro | omega | (with_reducible rfl) | assumption | (simp only [lns]; first | done | omega) | (simp only [one_bv, cells_bv, one_bv1, List.length_cons, List.length_nil, List.all_cons, List.all_nil, Bool.and_self]; done) | (simp only [cells_agg, one_bv, lns, and_self, true_and, Nat.le_refl, Nat.reduceAdd, Nat.zero_add]; done) | exact one_bv _ | exact ⟨_, rfl⟩ | (simp [PV.one, one_bv, PV.cells, Value.cells, Value.oneCell']; done))))
        | (refine kOps_mv rfl rfl rfl rfl ?_)
        | (refine kOps_bin (b := .neq) (pre := ?_) (val := ?_) rfl rfl rfl rfl rfl ?_ ?_ ?_; rotate_left 2; (intro L; simp only [splice_one, cells_bv, getD_bv, set_bv, cells_agg, decide_true, decide_false, Int.reduceNe, ne_eq, not_true_eq_false, not_false_eq_true, blen64, Int.reduceTDiv, Nat.reduceSub, Nat.reduceMod, Int.cast_ofNat_Int, hz, lit_ul0, lit_ul1, neq_ul, binF_neq, binF_sneq, Int.reduceAdd, Int.reduceSub, Int.reduceMul, Int.reduceNeg, Int.sub_zero, Int.reduceLT, Int.reduceLE, Int.reduceEq, Nat.reduceLT, ty36]; (first | (rw [wrap_i64] <;> first | omega | rfl) | (rw [wrap_u8] <;> first | omega | rfl) | (rw [wrap_u16] <;> first | omega | rfl) | (rw [wrap_u32] <;> first | omega | rfl) | rfl)); (focus ((repeat' apply And.intro) <;> first | exact True.intro | omega | (with_reducible rfl) | assumption | (simp only [lns]; first | done | omega) | (simp only [one_bv, cells_bv, one_bv1, List.length_cons, List.length_nil, List.all_cons, List.all_nil, Bool.and_self]; done) | (simp only [cells_agg, one_bv, lns, and_self, true_and, Nat.le_refl, Nat.reduceAdd, Nat.zero_add]; done) | exact one_bv _ | exact ⟨_, rfl⟩ | (simp [PV.one, one_bv, PV.cells, Value.cells, Value.oneCell']; done))))
        | (refine kOps_bin (b := .add) (pre := ?_) (val := ?_) rfl rfl rfl rfl rfl ?_ ?_ ?_; rotate_left 2; (intro L; simp only [splice_one, cells_bv, getD_bv, set_bv, cells_agg, decide_true, decide_false, Int.reduceNe, ne_eq, not_true_eq_false, not_false_eq_true, blen64, Int.reduceTDiv, Nat.reduceSub, Nat.reduceMod, Int.cast_ofNat_Int, hz, lit_ul0, lit_ul1, add_ul, binF_add, Int.reduceAdd, Int.reduceSub, Int.reduceMul, Int.reduceNeg, Int.sub_zero, Int.reduceLT, Int.reduceLE, Int.reduceEq, Nat.reduceLT, ty3]; (first | (rw [wrap_i64] <;> first | omega | rfl) | (rw [wrap_u8] <;> first | omega | rfl) | (rw [wrap_u16] <;> first | omega | rfl) | (rw [wrap_u32] <;> first | omega | rfl) | rfl)); exact trivial)
        | (refine vOps_gundef rfl rfl ?_ ?_; (focus (simp only [lookup_cons, Nat.reduceBEq, cond_true, cond_false]; done)); simp only [putIn])
        | (refine vOps_gpick (t := ?_) (val := ?_) rfl rfl ?_ rfl rfl ?_ ?_ ?_; rotate_left 2; (focus (simp only [lookup_cons, Nat.reduceBEq, cond_true, cond_false]; done)); (simp only [evalIn_tmp, evalIn_const, lookup_cons, Nat.reduceBEq, cond_true, cond_false]; rfl); (simp only [evalIn_tmp, evalIn_const, lookup_cons, Nat.reduceBEq, cond_true, cond_false]; rfl))
        | (refine vOps_pick (t := ?_) (val := ?_) rfl rfl rfl ?_ ?_ ?_; rotate_left 2; (simp only [evalIn_tmp, evalIn_const, lookup_cons, Nat.reduceBEq, cond_true, cond_false]; rfl); (simp only [evalIn_tmp, evalIn_const, lookup_cons, Nat.reduceBEq, cond_true, cond_false]; rfl))
        | (refine vOps_fork (b := ?_) rfl rfl ?_ ?_ ?_; rotate_left 1; (simp only [lookup_cons, Nat.reduceBEq, cond_true, cond_false]; rfl); all_goals (intro hb; simp only [hb]; (try simp only [decide_eq_true_eq, decide_eq_false_iff_not] at hb); try (exfalso; first | omega | exact hb trivial)))
        | (refine vOps_forkp (b := ?_) rfl ?_ ?_ ?_; rotate_left 1; (simp only [evalIn_tmp, lookup_cons, Nat.reduceBEq, cond_true, cond_false]; rfl); all_goals (intro hb; simp only [hb]; (try simp only [decide_eq_true_eq, decide_eq_false_iff_not] at hb); try (exfalso; first | omega | exact hb trivial))))
      refine wC_loopI (ι := {i : Nat // i ≤ 8}) e55_20 (fun i => ([(0, .ro b.length (b.map bv)), (1, .lit (.int .i64 (m : Int))), (7, .lit (.int .i64 8)), (9, ul (rdV b m i.1)), (22, .lit (.int .i64 8)), (23, .lit (.int .i64 (i.1 : Int)))], [])) (fun i => 8 - i.1) ⟨0, by omega⟩ [] ?_ ?_
      · show Weak _ _ _ _ _ _
        refine weak_mk (fun i h => absurd h (Nat.not_lt_zero i)) (by decide) (by simp) ?_ ?_
        · simp only [RenRows, List.nil_append, List.cons_append, List.set_cons_zero, List.set_cons_succ, List.getElem?_cons_zero, List.getElem?_cons_succ, Option.some.injEq, LE.cells.injEq, closedL_bv, closedL_wr, and_true, true_and]
          all_goals (rfl)
        · simp only [RenEnv, lookup_cons, Nat.reduceBEq, cond_true, cond_false]
          (repeat' apply And.intro) <;> first | trivial | exact ren_keep rfl | exact ren_keep (closed_u4 _) | (refine ren_int ?_; omega) | (refine ren_own rfl ?_; first | rfl | omega | (simp; done) | (omega; done)) | (refine ren_int ?_; omega; done) | (refine ren_int ?_; simp; done) | (refine ren_keep ?_; simp only [closed, closedL_bv, closedL_wr]; done) | (refine ren_ptr rfl; done)
      · rintro ⟨i, hi⟩
        dsimp only
        have h8i : (8 * (i : Int)).toNat = 8 * i := by omega
        have hai : ((m : Int) + (i : Int)).toNat = m + i := by omega
        repeat' (first
          | (with_reducible first | apply seqC_normal | apply blockC_normal | apply seqC_exit | apply blockC_hit | apply seqC_ret | apply blockC_ret | apply loopC_ret | apply loopC_exit)
          | ((with_reducible apply blockC_miss); (exact rfl))
          | ((with_reducible apply wC_seq e55_21; apply wC_region e55_22); refine vOps_open (l := _ :: _) rfl ?_)
          | ((with_reducible apply wC_seq e55_23; apply kC_cond e55_24); (exact rfl); all_goals (intro hb; first | (cases hb; done) | cases hb | ((try simp only [decide_eq_true_eq, decide_eq_false_iff_not, Bool.not_eq_true', Bool.not_eq_false'] at hb); try (exfalso; first | omega | exact hb trivial))))
          | ((with_reducible apply wC_skip e55_25))
          | ((with_reducible apply wC_exit e55_26))
          | ((with_reducible apply wC_seq e55_27; apply wC_block e55_28; apply wC_seq e55_29; apply wC_region e55_30); refine vOps_open (l := _ :: _) rfl ?_)
          | ((with_reducible apply wC_region e55_31); refine vOps_open (l := _ :: _) rfl ?_)
          | ((with_reducible apply wC_region e55_32); refine vOps_open (l := _ :: _) rfl ?_)
          | ((with_reducible apply wC_seq e55_33; apply wC_region e55_34); refine vOps_open (l := _ :: _) rfl ?_)
          | ((with_reducible apply wC_ret e55_35))
          | ((with_reducible apply vOps_nil); try (with_reducible refine And.intro (by kernel_rfl) ?_))
          | (refine kOps_gon (g := ?_) (p := ?_) rfl rfl ?_ ?_ ?_ ?_; rotate_left 2; fail; (exact rfl); (with_reducible rfl))
          | (refine kOps_gofft (g := ?_) (p := ?_) rfl rfl ?_ ?_ ?_ ?_; rotate_left 2; fail; (exact rfl); (with_reducible rfl))
          | (refine kOps_gofff (g := ?_) (p := ?_) rfl rfl ?_ ?_ ?_ ?_; rotate_left 2; fail; (exact rfl); (with_reducible rfl))
          | (refine kOps_pickt rfl rfl rfl rfl ?_ rfl ?_; (with_reducible rfl))
          | (refine kOps_pickf rfl rfl rfl rfl ?_ rfl ?_; (with_reducible rfl))
          | (refine kOps_bin (b := .lss) (pre := ?_) (val := ?_) rfl rfl rfl rfl rfl ?_ ?_ ?_; rotate_left 2; (intro L; simp only [splice_one, cells_bv, getD_bv, set_bv, cells_agg, decide_true, decide_false, Int.reduceNe, ne_eq, not_true_eq_false, not_false_eq_true, blen64, Int.reduceTDiv, Nat.reduceSub, Nat.reduceMod, Int.cast_ofNat_Int, Int.toNat_natCast, elemAt, h8i, hai, lit_ul0, lit_ul1, lss_ul, binF_lss, Int.reduceAdd, Int.reduceSub, Int.reduceMul, Int.reduceNeg, Int.sub_zero, Int.reduceLT, Int.reduceLE, Int.reduceEq, Nat.reduceLT, ty3]; (first | (rw [wrap_i64] <;> first | omega | rfl) | (rw [wrap_u8] <;> first | omega | rfl) | (rw [wrap_u16] <;> first | omega | rfl) | (rw [wrap_u32] <;> first | omega | rfl) | rfl)); exact trivial)
          | (refine kOps_mv rfl rfl rfl rfl ?_)
          | (refine kOps_as rfl rfl rfl rfl ?_)
          | (refine kOps_bin (b := .add) (pre := ?_) (val := ?_) rfl rfl rfl rfl rfl ?_ ?_ ?_; rotate_left 2; (intro L; simp only [splice_one, cells_bv, getD_bv, set_bv, cells_agg, decide_true, decide_false, Int.reduceNe, ne_eq, not_true_eq_false, not_false_eq_true, blen64, Int.reduceTDiv, Nat.reduceSub, Nat.reduceMod, Int.cast_ofNat_Int, Int.toNat_natCast, elemAt, h8i, hai, lit_ul0, lit_ul1, add_ul, binF_add, Int.reduceAdd, Int.reduceSub, Int.reduceMul, Int.reduceNeg, Int.sub_zero, Int.reduceLT, Int.reduceLE, Int.reduceEq, Nat.reduceLT, ty3]; (first | (rw [wrap_i64] <;> first | omega | rfl) | (rw [wrap_u8] <;> first | omega | rfl) | (rw [wrap_u16] <;> first | omega | rfl) | (rw [wrap_u32] <;> first | omega | rfl) | rfl)); exact trivial)
          | ((first | (refine kOps_ixas (off' := ?_) rfl rfl rfl rfl rfl rfl ty22 ty5 ?_ ?_ ?_; rotate_left 1; (simp only [splice_one, cells_bv, getD_bv, set_bv, cells_agg, decide_true, decide_false, Int.reduceNe, ne_eq, not_true_eq_false, not_false_eq_true, blen64, Int.reduceTDiv, Nat.reduceSub, Nat.reduceMod, Int.cast_ofNat_Int, Int.toNat_natCast, elemAt, h8i, hai, Nat.zero_add, n_add_zero, Nat.mul_one, Nat.one_mul, Int.reduceToNat, Int.toNat_zero, Nat.reduceMul, Nat.reduceAdd]; rfl)) | (refine kOps_ixar (cs' := ?_) rfl rfl rfl rfl rfl ty22 ty5 ?_ ?_ ?_; rotate_left 1; (simp only [splice_one, cells_bv, getD_bv, set_bv, cells_agg, decide_true, decide_false, Int.reduceNe, ne_eq, not_true_eq_false, not_false_eq_true, blen64, Int.reduceTDiv, Nat.reduceSub, Nat.reduceMod, Int.cast_ofNat_Int, Int.toNat_natCast, elemAt, h8i, hai, isAggD, Bool.false_eq_true, if_false, if_true, reduceIte, take_cl, agg_cl, len_cl, List.drop_zero, Int.reduceToNat, Int.toNat_zero, n_add_zero, Nat.mul_one, Nat.zero_add, Nat.reduceAdd, Nat.reduceMul, take_bytes, List.length_map, List.getD_cons_zero]; rfl))); (focus ((repeat' apply And.intro) <;> first | exact True.intro | omega | (with_reducible rfl) | assumption | (simp only [lns]; first | done | omega) | (simp only [one_bv, cells_bv, one_bv1, List.length_cons, List.length_nil, List.all_cons, List.all_nil, Bool.and_self]; done) | (simp only [cells_agg, one_bv, lns, and_self, true_and, Nat.le_refl, Nat.reduceAdd, Nat.zero_add]; done) | exact one_bv _ | exact ⟨_, rfl⟩ | (simp [PV.one, one_bv, PV.cells, Value.cells, Value.oneCell']; done))))
          | ((first | refine kOps_loadp (pre := ?_) (val := ?_) rfl rfl rfl rfl rfl ty5 ?_ ?_ ?_ | refine kOps_loadr (pre := ?_) (val := ?_) rfl rfl rfl rfl ty5 ?_ ?_ ?_); rotate_left 2; (simp only [splice_one, cells_bv, getD_bv, set_bv, cells_agg, decide_true, decide_false, Int.reduceNe, ne_eq, not_true_eq_false, not_false_eq_true, blen64, Int.reduceTDiv, Nat.reduceSub, Nat.reduceMod, Int.cast_ofNat_Int, Int.toNat_natCast, elemAt, h8i, hai, partF, isAggD, Bool.false_eq_true, if_false, if_true, reduceIte, take_cl, agg_cl, len_cl, List.drop_zero, Int.reduceToNat, Int.toNat_zero, n_add_zero, Nat.mul_one, Nat.zero_add, Nat.reduceAdd, Nat.reduceMul, take_bytes, List.length_map, List.getD_cons_zero]; rfl); (focus ((repeat' apply And.intro) <;> first | exact True.intro | omega | (with_reducible rfl) | assumption | (simp only [lns]; first | done | omega) | (simp only [one_bv, cells_bv, one_bv1, List.length_cons, List.length_nil, List.all_cons, List.all_nil, Bool.and_self]; done) | (simp only [cells_agg, one_bv, lns, and_self, true_and, Nat.le_refl, Nat.reduceAdd, Nat.zero_add]; done) | exact one_bv _ | exact ⟨_, rfl⟩ | (simp [PV.one, one_bv, PV.cells, Value.cells, Value.oneCell']; done))))
          | (refine kOps_conv (s := 5) (t := 23) (pre := ?_) (val := ?_) rfl rfl rfl rfl ?_ ?_ ?_; rotate_left 2; (intro L; simp only [splice_one, cells_bv, getD_bv, set_bv, cells_agg, decide_true, decide_false, Int.reduceNe, ne_eq, not_true_eq_false, not_false_eq_true, blen64, Int.reduceTDiv, Nat.reduceSub, Nat.reduceMod, Int.cast_ofNat_Int, Int.toNat_natCast, elemAt, h8i, hai, cv_5_23, cw_5_23]; first | rfl | (first | (rw [wrap_i64] <;> first | omega | rfl) | (rw [wrap_u8] <;> first | omega | rfl) | (rw [wrap_u16] <;> first | omega | rfl) | (rw [wrap_u32] <;> first | omega | rfl) | rfl)); exact trivial)
          | (refine kOps_bin (b := .mul) (pre := ?_) (val := ?_) rfl rfl rfl rfl rfl ?_ ?_ ?_; rotate_left 2; (intro L; simp only [splice_one, cells_bv, getD_bv, set_bv, cells_agg, decide_true, decide_false, Int.reduceNe, ne_eq, not_true_eq_false, not_false_eq_true, blen64, Int.reduceTDiv, Nat.reduceSub, Nat.reduceMod, Int.cast_ofNat_Int, Int.toNat_natCast, elemAt, h8i, hai, lit_ul0, lit_ul1, mul_ul, binF_mul, Int.reduceAdd, Int.reduceSub, Int.reduceMul, Int.reduceNeg, Int.sub_zero, Int.reduceLT, Int.reduceLE, Int.reduceEq, Nat.reduceLT, ty3]; (first | (rw [wrap_i64] <;> first | omega | rfl) | (rw [wrap_u8] <;> first | omega | rfl) | (rw [wrap_u16] <;> first | omega | rfl) | (rw [wrap_u32] <;> first | omega | rfl) | rfl)); exact trivial)
          | (refine kOps_bin (b := .shl) (pre := ?_) (val := ?_) rfl rfl rfl rfl rfl ?_ ?_ ?_; rotate_left 2; (intro L; simp only [splice_one, cells_bv, getD_bv, set_bv, cells_agg, decide_true, decide_false, Int.reduceNe, ne_eq, not_true_eq_false, not_false_eq_true, blen64, Int.reduceTDiv, Nat.reduceSub, Nat.reduceMod, Int.cast_ofNat_Int, Int.toNat_natCast, elemAt, h8i, hai, lit_ul0, lit_ul1, shl_z, shl_ul, binF_shl, Int.reduceAdd, Int.reduceSub, Int.reduceMul, Int.reduceNeg, Int.sub_zero, Int.reduceLT, Int.reduceLE, Int.reduceEq, Nat.reduceLT, ty23]; (first | (rw [wrap_i64] <;> first | omega | rfl) | (rw [wrap_u8] <;> first | omega | rfl) | (rw [wrap_u16] <;> first | omega | rfl) | (rw [wrap_u32] <;> first | omega | rfl) | rfl)); (focus ((repeat' apply And.intro) <;> first | exact True.intro | omega | (with_reducible rfl) | assumption | (simp only [lns]; first | done | omega) | (simp only [one_bv, cells_bv, one_bv1, List.length_cons, List.length_nil, List.all_cons, List.all_nil, Bool.and_self]; done) | (simp only [cells_agg, one_bv, lns, and_self, true_and, Nat.le_refl, Nat.reduceAdd, Nat.zero_add]; done) | exact one_bv _ | exact ⟨_, rfl⟩ | (simp [PV.one, one_bv, PV.cells, Value.cells, Value.oneCell']; done))))
          | (refine kOps_bin (b := .or) (pre := ?_) (val := ?_) rfl rfl rfl rfl rfl ?_ ?_ ?_; rotate_left 2; (intro L; simp only [splice_one, cells_bv, getD_bv, set_bv, cells_agg, decide_true, decide_false, Int.reduceNe, ne_eq, not_true_eq_false, not_false_eq_true, blen64, Int.reduceTDiv, Nat.reduceSub, Nat.reduceMod, Int.cast_ofNat_Int, Int.toNat_natCast, elemAt, h8i, hai, lit_ul0, lit_ul1, or_ul, binF_or, Int.reduceAdd, Int.reduceSub, Int.reduceMul, Int.reduceNeg, Int.sub_zero, Int.reduceLT, Int.reduceLE, Int.reduceEq, Nat.reduceLT, ty23]; (first | (rw [wrap_i64] <;> first | omega | rfl) | (rw [wrap_u8] <;> first | omega | rfl) | (rw [wrap_u16] <;> first | omega | rfl) | (rw [wrap_u32] <;> first | omega | rfl) | rfl)); exact trivial)
          | (refine vOps_gundef rfl rfl ?_ ?_; (focus (simp only [lookup_cons, Nat.reduceBEq, cond_true, cond_false]; done)); simp only [putIn])
          | (refine vOps_gpick (t := ?_) (val := ?_) rfl rfl ?_ rfl rfl ?_ ?_ ?_; rotate_left 2; (focus (simp only [lookup_cons, Nat.reduceBEq, cond_true, cond_false]; done)); (simp only [evalIn_tmp, evalIn_const, lookup_cons, Nat.reduceBEq, cond_true, cond_false]; rfl); (simp only [evalIn_tmp, evalIn_const, lookup_cons, Nat.reduceBEq, cond_true, cond_false]; rfl))
          | (refine vOps_pick (t := ?_) (val := ?_) rfl rfl rfl ?_ ?_ ?_; rotate_left 2; (simp only [evalIn_tmp, evalIn_const, lookup_cons, Nat.reduceBEq, cond_true, cond_false]; rfl); (simp only [evalIn_tmp, evalIn_const, lookup_cons, Nat.reduceBEq, cond_true, cond_false]; rfl))
          | (refine vOps_fork (b := ?_) rfl rfl ?_ ?_ ?_; rotate_left 1; (simp only [lookup_cons, Nat.reduceBEq, cond_true, cond_false]; rfl); all_goals (intro hb; simp only [hb]; (try simp only [decide_eq_true_eq, decide_eq_false_iff_not] at hb); try (exfalso; first | omega | exact hb trivial)))
          | (refine vOps_forkp (b := ?_) rfl ?_ ?_ ?_; rotate_left 1; (simp only [evalIn_tmp, lookup_cons, Nat.reduceBEq, cond_true, cond_false]; rfl); all_goals (intro hb; simp only [hb]; (try simp only [decide_eq_true_eq, decide_eq_false_iff_not] at hb); try (exfalso; first | omega | exact hb trivial))))
        · refine loopC_normal ⟨i + 1, by omega⟩ [] (by show 8 - (i + 1) < 8 - i; omega) ?_
          refine weak_mk (fun i h => absurd h (Nat.not_lt_zero i)) (by decide) (by simp) ?_ ?_
          · simp only [RenRows, List.nil_append, List.cons_append, List.set_cons_zero, List.set_cons_succ, List.getElem?_cons_zero, List.getElem?_cons_succ, Option.some.injEq, LE.cells.injEq, closedL_bv, closedL_wr, and_true, true_and]
            all_goals (rfl)
          · simp only [RenEnv, lookup_cons, Nat.reduceBEq, cond_true, cond_false]
            (repeat' apply And.intro) <;> first | trivial | exact ren_keep rfl | exact ren_keep (closed_u4 _) | (refine ren_int ?_; omega) | (refine ren_own rfl ?_; first | rfl | omega | (simp; done) | (omega; done)) | (refine ren_int ?_; omega; done) | (refine ren_int ?_; simp; done) | (refine ren_keep ?_; simp only [closed, closedL_bv, closedL_wr]; done) | (refine ren_ptr rfl; done) | exact ren_rd (by omega)
        · obtain rfl : i = 8 := by omega
          refine fin_c (p := ?_) (xs := [.tmp 4, .tmp 5, .tmp 6]) (by simp) rfl ?_ ?_ ?_ ?_
          rotate_left 2
          · simp only [resAll_cons, resAll_nil, resPVl_0, resPVl_1, resPVl_2, resOne_tmp, resOne_cell, List.map_cons, List.map_nil, splice_one, cells_bv, getD_bv, set_bv, cells_agg, decide_true, decide_false, Int.reduceNe, ne_eq, not_true_eq_false, not_false_eq_true, blen64, Int.reduceTDiv, Nat.reduceSub, Nat.reduceMod, Int.cast_ofNat_Int, Int.toNat_natCast, elemAt, h8i, hai, evalIn_tmp, evalIn_const, evalIn_func, lookup_cons, Nat.reduceBEq, cond_true, cond_false, lit_ul0, lit_ul1, loadF, partF, List.getElem?_cons_zero, List.getElem?_cons_succ, List.set_cons_zero, List.set_cons_succ, List.cons_append, List.nil_append, true_and, and_true, and_self, Nat.le_refl, Nat.reduceLeDiff, isAggD, Bool.false_eq_true, if_false, if_true, reduceIte, take_cl, agg_cl, len_cl, List.drop_zero, Int.reduceToNat, Int.toNat_zero, n_add_zero, Nat.mul_one, Nat.zero_add, Nat.reduceAdd, Nat.reduceMul, take_bytes, List.length_map, List.getD_cons_zero, ty3, ty5, ty22, ty23, ty36]; try rfl
          · first | (with_reducible rfl) | (simp only [closed, closedL, closed_u4, closed_ul, closed_uw, closed_sv, closedL_bv, closedL_wr, Bool.and_self, Bool.and_true]; done) | (simp only [closed, closedL, closed_u4, closed_ul, closed_uw, closed_sv, closedL_bv, closedL_wr, Bool.and_self, Bool.and_true]; rfl)
          · rfl
          · simp only [resAll_cons, resAll_nil, resPVl_0, resPVl_1, resPVl_2, resOne_tmp, resOne_cell, List.map_cons, List.map_nil, splice_one, cells_bv, getD_bv, set_bv, cells_agg, decide_true, decide_false, Int.reduceNe, ne_eq, not_true_eq_false, not_false_eq_true, blen64, Int.reduceTDiv, Nat.reduceSub, Nat.reduceMod, Int.cast_ofNat_Int, Int.toNat_natCast, elemAt, h8i, hai, evalIn_tmp, evalIn_const, evalIn_func, lookup_cons, Nat.reduceBEq, cond_true, cond_false, lit_ul0, lit_ul1, loadF, partF, List.getElem?_cons_zero, List.getElem?_cons_succ, List.set_cons_zero, List.set_cons_succ, List.cons_append, List.nil_append, true_and, and_true, and_self, Nat.le_refl, Nat.reduceLeDiff, isAggD, Bool.false_eq_true, if_false, if_true, reduceIte, take_cl, agg_cl, len_cl, List.drop_zero, Int.reduceToNat, Int.toNat_zero, n_add_zero, Nat.mul_one, Nat.zero_add, Nat.reduceAdd, Nat.reduceMul, take_bytes, List.length_map, List.getD_cons_zero, ty3, ty5, ty22, ty23, ty36]; try trivial
    · rw [if_neg hz]
      have hn0 : (needE b.length a 8 = 0) = False := eq_false hz
      repeat' (first
        | (with_reducible first | apply seqC_normal | apply blockC_normal | apply seqC_exit | apply blockC_hit | apply seqC_ret | apply blockC_ret | apply loopC_ret | apply loopC_exit)
        | ((with_reducible apply blockC_miss); (exact rfl))
        | ((with_reducible apply wC_seq e55_0; apply wC_region e55_1); refine vOps_open (l := _ :: _) rfl ?_)
        | ((with_reducible apply wC_seq e55_2; apply wC_region e55_3); refine vOps_open (l := _ :: _) rfl ?_)
        | ((with_reducible apply wC_seq e55_4; apply wC_seq e55_5; apply wC_region e55_6); refine vOps_open (l := _ :: _) rfl ?_)
        | ((with_reducible apply wC_seq e55_7; apply wC_region e55_8); refine vOps_open (l := _ :: _) rfl ?_)
        | ((with_reducible apply kC_cond e55_9); (exact rfl); all_goals (intro hb; first | (cases hb; done) | cases hb | ((try simp only [decide_eq_true_eq, decide_eq_false_iff_not, Bool.not_eq_true', Bool.not_eq_false'] at hb); try (exfalso; first | omega | exact hb trivial))))
        | ((with_reducible apply wC_seq e55_10; apply wC_region e55_11); refine vOps_open (l := _ :: _) rfl ?_)
        | ((with_reducible apply wC_ret e55_12))
        | ((with_reducible apply wC_skip e55_13))
        | ((with_reducible apply wC_seq e55_14; apply wC_region e55_15); refine vOps_open (l := _ :: _) rfl ?_)
        | ((with_reducible apply wC_seq e55_16; apply wC_seq e55_17; apply wC_region e55_18); refine vOps_open (l := _ :: _) rfl ?_)
        | ((with_reducible apply wC_block e55_19))
        | ((with_reducible apply wC_seq e55_33; apply wC_region e55_34); refine vOps_open (l := _ :: _) rfl ?_)
        | ((with_reducible apply wC_ret e55_35))
        | ((with_reducible apply vOps_nil); try (with_reducible refine And.intro (by kernel_rfl) ?_))
        | (refine kOps_gon (g := ?_) (p := ?_) rfl rfl ?_ ?_ ?_ ?_; rotate_left 2; fail; (exact rfl); (with_reducible rfl))
        | (refine kOps_gofft (g := ?_) (p := ?_) rfl rfl ?_ ?_ ?_ ?_; rotate_left 2; fail; (exact rfl); (with_reducible rfl))
        | (refine kOps_gofff (g := ?_) (p := ?_) rfl rfl ?_ ?_ ?_ ?_; rotate_left 2; fail; (exact rfl); (with_reducible rfl))
        | (refine kOps_pickt rfl rfl rfl rfl ?_ rfl ?_; (with_reducible rfl))
        | (refine kOps_pickf rfl rfl rfl rfl ?_ rfl ?_; (with_reducible rfl))
        | (refine kOps_asc rfl rfl rfl lit_ul0 ?_)
        | (refine kOps_as rfl rfl rfl rfl ?_)
        | (refine kOps_conv (s := 3) (t := 23) (pre := ?_) (val := ?_) rfl rfl rfl rfl ?_ ?_ ?_; rotate_left 2; (intro L; simp only [splice_one, cells_bv, getD_bv, set_bv, cells_agg, decide_true, decide_false, Int.reduceNe, ne_eq, not_true_eq_false, not_false_eq_true, blen64, Int.reduceTDiv, Nat.reduceSub, Nat.reduceMod, Int.cast_ofNat_Int, hz, hn0, conv0 ty3 ty23, cw_3_23]; first | rfl | (first | (rw [wrap_i64] <;> first | omega | rfl) | (rw [wrap_u8] <;> first | omega | rfl) | (rw [wrap_u16] <;> first | omega | rfl) | (rw [wrap_u32] <;> first | omega | rfl) | rfl)); exact trivial)
        | (refine kOps_un (b := .xor) (pre := ?_) (val := ?_) rfl rfl rfl rfl ?_ ?_ ?_; rotate_left 2; (intro L; simp only [splice_one, cells_bv, getD_bv, set_bv, cells_agg, decide_true, decide_false, Int.reduceNe, ne_eq, not_true_eq_false, not_false_eq_true, blen64, Int.reduceTDiv, Nat.reduceSub, Nat.reduceMod, Int.cast_ofNat_Int, hz, hn0, not_ul, not_uw, unF_not, unF_neg]; (first | (rw [wrap_i64] <;> first | omega | rfl) | (rw [wrap_u8] <;> first | omega | rfl) | (rw [wrap_u16] <;> first | omega | rfl) | (rw [wrap_u32] <;> first | omega | rfl) | rfl)); exact trivial)
        | (refine kOps_callc (pre := ?_) (val := ?_) rfl rfl rfl rfl rfl ?_ ?_ ?_ ?_ ?_; rotate_left 2; (simp only [splice_one, cells_bv, getD_bv, set_bv, cells_agg, decide_true, decide_false, Int.reduceNe, ne_eq, not_true_eq_false, not_false_eq_true, blen64, Int.reduceTDiv, Nat.reduceSub, Nat.reduceMod, Int.cast_ofNat_Int, hz, hn0, isB_bv, bytesOf_bv, isul_ul, ulv_ul, sNeed, sLen64, lit_ul0, lit_ul1, nrmC, List.map_cons, List.map_nil, nrm_ul, nrm_u4, nrm_nil, nrm_int, nrm_bool, nrm_string, nrm_ro, nrm_agg, nrm_rptr, isU_u4, uv_u4, true_and, and_true, and_self, n_add_zero, Nat.zero_add, Nat.zero_mod, n_sub_zero]; rfl); (focus (first | (with_reducible rfl) | (simp only [closed, closedL, closed_ul, closed_u4, closedL_bv, closedL_cl, Bool.and_self, Bool.and_true, closedL_wr, closed_uw, closed_sv, closed_tp]; done))); (focus (first | (with_reducible rfl) | (simp only [closed, closedL, closed_ul, closed_u4, closedL_bv, closedL_cl, Bool.and_self, Bool.and_true, closedL_wr, closed_uw, closed_sv, closed_tp]; done))); (focus ((repeat' apply And.intro) <;> first | exact True.intro | omega | (with_reducible rfl) | assumption | (simp only [lns]; first | done | omega) | (simp only [one_bv, cells_bv, one_bv1, List.length_cons, List.length_nil, List.all_cons, List.all_nil, Bool.and_self]; done) | (simp only [cells_agg, one_bv, lns, and_self, true_and, Nat.le_refl, Nat.reduceAdd, Nat.zero_add]; done) | exact one_bv _ | exact ⟨_, rfl⟩ | (simp [PV.one, one_bv, PV.cells, Value.cells, Value.oneCell']; done))))
        | (refine kOps_bin (b := .quo) (pre := ?_) (val := ?_) rfl rfl rfl rfl rfl ?_ ?_ ?_; rotate_left 2; (intro L; simp only [splice_one, cells_bv, getD_bv, set_bv, cells_agg, decide_true, decide_false, Int.reduceNe, ne_eq, not_true_eq_false, not_false_eq_true, blen64, Int.reduceTDiv, Nat.reduceSub, Nat.reduceMod, Int.cast_ofNat_Int, hz, hn0, lit_ul0, lit_ul1, binF_quo, Int.reduceAdd, Int.reduceSub, Int.reduceMul, Int.reduceNeg, Int.sub_zero, Int.reduceLT, Int.reduceLE, Int.reduceEq, Nat.reduceLT, ty3]; (first | (rw [wrap_i64] <;> first | omega | rfl) | (rw [wrap_u8] <;> first | omega | rfl) | (rw [wrap_u16] <;> first | omega | rfl) | (rw [wrap_u32] <;> first | omega | rfl) | rfl)); (focus ((repeat' apply And.intro) <;> first | exact True.intro | omega | (with_reducible rfl) | assumption | (simp only [lns]; first | done | omega) | (simp only [one_bv, cells_bv, one_bv1, List.length_cons, List.length_nil, List.all_cons, List.all_nil, Bool.and_self]; done) | (simp only [cells_agg, one_bv, lns, and_self, true_and, Nat.le_refl, Nat.reduceAdd, Nat.zero_add]; done) | exact one_bv _ | exact ⟨_, rfl⟩ | (simp [PV.one, one_bv, PV.cells, Value.cells, Value.oneCell']; done))))
        | (refine kOps_mv rfl rfl rfl rfl ?_)
        | (refine kOps_bin (b := .neq) (pre := ?_) (val := ?_) rfl rfl rfl rfl rfl ?_ ?_ ?_; rotate_left 2; (intro L; simp only [splice_one, cells_bv, getD_bv, set_bv, cells_agg, decide_true, decide_false, Int.reduceNe, ne_eq, not_true_eq_false, not_false_eq_true, blen64, Int.reduceTDiv, Nat.reduceSub, Nat.reduceMod, Int.cast_ofNat_Int, hz, hn0, lit_ul0, lit_ul1, neq_ul, binF_neq, binF_sneq, Int.reduceAdd, Int.reduceSub, Int.reduceMul, Int.reduceNeg, Int.sub_zero, Int.reduceLT, Int.reduceLE, Int.reduceEq, Nat.reduceLT, ty36]; (first | (rw [wrap_i64] <;> first | omega | rfl) | (rw [wrap_u8] <;> first | omega | rfl) | (rw [wrap_u16] <;> first | omega | rfl) | (rw [wrap_u32] <;> first | omega | rfl) | rfl)); (focus ((repeat' apply And.intro) <;> first | exact True.intro | omega | (with_reducible rfl) | assumption | (simp only [lns]; first | done | omega) | (simp only [one_bv, cells_bv, one_bv1, List.length_cons, List.length_nil, List.all_cons, List.all_nil, Bool.and_self]; done) | (simp only [cells_agg, one_bv, lns, and_self, true_and, Nat.le_refl, Nat.reduceAdd, Nat.zero_add]; done) | exact one_bv _ | exact ⟨_, rfl⟩ | (simp [PV.one, one_bv, PV.cells, Value.cells, Value.oneCell']; done))))
        | (refine kOps_bin (b := .add) (pre := ?_) (val := ?_) rfl rfl rfl rfl rfl ?_ ?_ ?_; rotate_left 2; (intro L; simp only [splice_one, cells_bv, getD_bv, set_bv, cells_agg, decide_true, decide_false, Int.reduceNe, ne_eq, not_true_eq_false, not_false_eq_true, blen64, Int.reduceTDiv, Nat.reduceSub, Nat.reduceMod, Int.cast_ofNat_Int, hz, hn0, lit_ul0, lit_ul1, add_ul, binF_add, Int.reduceAdd, Int.reduceSub, Int.reduceMul, Int.reduceNeg, Int.sub_zero, Int.reduceLT, Int.reduceLE, Int.reduceEq, Nat.reduceLT, ty3]; (first | (rw [wrap_i64] <;> first | omega | rfl) | (rw [wrap_u8] <;> first | omega | rfl) | (rw [wrap_u16] <;> first | omega | rfl) | (rw [wrap_u32] <;> first | omega | rfl) | rfl)); exact trivial)
        | (refine vOps_gundef rfl rfl ?_ ?_; (focus (simp only [lookup_cons, Nat.reduceBEq, cond_true, cond_false]; done)); simp only [putIn])
        | (refine vOps_gpick (t := ?_) (val := ?_) rfl rfl ?_ rfl rfl ?_ ?_ ?_; rotate_left 2; (focus (simp only [lookup_cons, Nat.reduceBEq, cond_true, cond_false]; done)); (simp only [evalIn_tmp, evalIn_const, lookup_cons, Nat.reduceBEq, cond_true, cond_false]; rfl); (simp only [evalIn_tmp, evalIn_const, lookup_cons, Nat.reduceBEq, cond_true, cond_false]; rfl))
        | (refine vOps_pick (t := ?_) (val := ?_) rfl rfl rfl ?_ ?_ ?_; rotate_left 2; (simp only [evalIn_tmp, evalIn_const, lookup_cons, Nat.reduceBEq, cond_true, cond_false]; rfl); (simp only [evalIn_tmp, evalIn_const, lookup_cons, Nat.reduceBEq, cond_true, cond_false]; rfl))
        | (refine vOps_fork (b := ?_) rfl rfl ?_ ?_ ?_; rotate_left 1; (simp only [lookup_cons, Nat.reduceBEq, cond_true, cond_false]; rfl); all_goals (intro hb; simp only [hb]; (try simp only [decide_eq_true_eq, decide_eq_false_iff_not] at hb); try (exfalso; first | omega | exact hb trivial)))
        | (refine vOps_forkp (b := ?_) rfl ?_ ?_ ?_; rotate_left 1; (simp only [evalIn_tmp, lookup_cons, Nat.reduceBEq, cond_true, cond_false]; rfl); all_goals (intro hb; simp only [hb]; (try simp only [decide_eq_true_eq, decide_eq_false_iff_not] at hb); try (exfalso; first | omega | exact hb trivial))))
      refine fin_c (p := ?_) (xs := [.tmp 4, .tmp 5, .tmp 6]) (by simp) rfl ?_ ?_ ?_ ?_
      rotate_left 2
      · simp only [resAll_cons, resAll_nil, resPVl_0, resPVl_1, resPVl_2, resOne_tmp, resOne_cell, List.map_cons, List.map_nil, splice_one, cells_bv, getD_bv, set_bv, cells_agg, decide_true, decide_false, Int.reduceNe, ne_eq, not_true_eq_false, not_false_eq_true, blen64, Int.reduceTDiv, Nat.reduceSub, Nat.reduceMod, Int.cast_ofNat_Int, hz, hn0, evalIn_tmp, evalIn_const, evalIn_func, lookup_cons, Nat.reduceBEq, cond_true, cond_false, lit_ul0, lit_ul1, loadF, partF, List.getElem?_cons_zero, List.getElem?_cons_succ, List.set_cons_zero, List.set_cons_succ, List.cons_append, List.nil_append, true_and, and_true, and_self, Nat.le_refl, Nat.reduceLeDiff, isAggD, Bool.false_eq_true, if_false, if_true, reduceIte, take_cl, agg_cl, len_cl, List.drop_zero, Int.toNat_natCast, Int.reduceToNat, Int.toNat_zero, n_add_zero, Nat.mul_one, Nat.zero_add, Nat.reduceAdd, Nat.reduceMul, take_bytes, List.length_map, List.getD_cons_zero, ty3, ty5, ty22, ty23, ty36]; try rfl
      · first | (with_reducible rfl) | (simp only [closed, closedL, closed_u4, closed_ul, closed_uw, closed_sv, closedL_bv, closedL_wr, Bool.and_self, Bool.and_true]; done) | (simp only [closed, closedL, closed_u4, closed_ul, closed_uw, closed_sv, closedL_bv, closedL_wr, Bool.and_self, Bool.and_true]; rfl)
      · rfl
      · simp only [resAll_cons, resAll_nil, resPVl_0, resPVl_1, resPVl_2, resOne_tmp, resOne_cell, List.map_cons, List.map_nil, splice_one, cells_bv, getD_bv, set_bv, cells_agg, decide_true, decide_false, Int.reduceNe, ne_eq, not_true_eq_false, not_false_eq_true, blen64, Int.reduceTDiv, Nat.reduceSub, Nat.reduceMod, Int.cast_ofNat_Int, hz, hn0, evalIn_tmp, evalIn_const, evalIn_func, lookup_cons, Nat.reduceBEq, cond_true, cond_false, lit_ul0, lit_ul1, loadF, partF, List.getElem?_cons_zero, List.getElem?_cons_succ, List.set_cons_zero, List.set_cons_succ, List.cons_append, List.nil_append, true_and, and_true, and_self, Nat.le_refl, Nat.reduceLeDiff, isAggD, Bool.false_eq_true, if_false, if_true, reduceIte, take_cl, agg_cl, len_cl, List.drop_zero, Int.toNat_natCast, Int.reduceToNat, Int.toNat_zero, n_add_zero, Nat.mul_one, Nat.zero_add, Nat.reduceAdd, Nat.reduceMul, take_bytes, List.length_map, List.getD_cons_zero, ty3, ty5, ty22, ty23, ty36]; try trivial
  · exact hS.elim
end Go.Ab
