import Derived.Test.YtgknomjgpkpjdaaTY
import Derived.Test.YtgknomjgpkpjdaaME
import Derived.Test.YtgknomjgpkpjdaaFwideSub
namespace Go.Ab
open Go Go.Proofs
open Nat (reduceAdd zero_add reduceMul mul_one)
open List (length_cons length_nil length_map getD_cons_zero drop_zero map_cons set_cons_zero set_cons_succ map_nil take_zero take_succ_cons getD_cons_succ drop_succ_cons length_set)
open Int (reduceToNat toNat_zero)
set_option linter.unusedVariables false
set_option linter.unusedSimpArgs false
set_option maxRecDepth 8000
set_option maxHeartbeats 4000000

noncomputable def B21 : Code := bodyOf Try.f21
theorem B21_eq : Try.f21.body = some B21 := by kernel_rfl
noncomputable def n21_0 := B21
noncomputable def n21_1 := codeAt B21 [0]
noncomputable def n21_2 := codeAt B21 [1]
noncomputable def n21_3 := codeAt B21 [1,0]
noncomputable def n21_4 := codeAt B21 [1,0,0]
noncomputable def n21_5 := codeAt B21 [1,0,1]
noncomputable def n21_6 := codeAt B21 [1,0,1,0]
noncomputable def n21_7 := codeAt B21 [1,0,1,0,0]
noncomputable def n21_8 := codeAt B21 [1,0,1,0,1]
noncomputable def n21_9 := codeAt B21 [1,0,1,1]
noncomputable def n21_10 := codeAt B21 [1,1]
noncomputable def n21_11 := codeAt B21 [1,1,0]
noncomputable def n21_12 := codeAt B21 [1,1,0,0]
noncomputable def n21_13 := codeAt B21 [1,1,0,1]
noncomputable def n21_14 := codeAt B21 [1,1,0,1,0]
noncomputable def n21_15 := codeAt B21 [1,1,0,1,1]
noncomputable def n21_16 := codeAt B21 [1,1,0,1,1,0]
noncomputable def n21_17 := codeAt B21 [1,1,0,1,1,0,0]
noncomputable def n21_18 := codeAt B21 [1,1,0,1,1,0,1]
noncomputable def n21_19 := codeAt B21 [1,1,0,1,1,1]
noncomputable def n21_20 := codeAt B21 [1,1,1]
noncomputable def n21_21 := codeAt B21 [1,1,1,0]
noncomputable def n21_22 := codeAt B21 [1,1,1,1]
theorem e21_0 : n21_0 = .seq n21_1 n21_2 := rfl
noncomputable def r21_1 := opsAt n21_1
theorem e21_1 : n21_1 = .region 0 (r21_1).toArray false := rfl
theorem e21_2 : n21_2 = .seq n21_3 n21_10 := rfl
theorem e21_3 : n21_3 = .seq n21_4 n21_5 := rfl
noncomputable def r21_4 := opsAt n21_4
theorem e21_4 : n21_4 = .region 1 (r21_4).toArray false := rfl
theorem e21_5 : n21_5 = .cond (.tmp 9) n21_6 n21_9 := rfl
theorem e21_6 : n21_6 = .seq n21_7 n21_8 := rfl
noncomputable def r21_7 := opsAt n21_7
theorem e21_7 : n21_7 = .region 2 (r21_7).toArray false := rfl
theorem e21_8 : n21_8 = .ret := rfl
theorem e21_9 : n21_9 = .skip := rfl
theorem e21_10 : n21_10 = .seq n21_11 n21_20 := rfl
theorem e21_11 : n21_11 = .seq n21_12 n21_13 := rfl
noncomputable def r21_12 := opsAt n21_12
theorem e21_12 : n21_12 = .region 3 (r21_12).toArray false := rfl
theorem e21_13 : n21_13 = .seq n21_14 n21_15 := rfl
noncomputable def r21_14 := opsAt n21_14
theorem e21_14 : n21_14 = .region 4 (r21_14).toArray false := rfl
theorem e21_15 : n21_15 = .cond (.tmp 16) n21_16 n21_19 := rfl
theorem e21_16 : n21_16 = .seq n21_17 n21_18 := rfl
noncomputable def r21_17 := opsAt n21_17
theorem e21_17 : n21_17 = .region 5 (r21_17).toArray false := rfl
theorem e21_18 : n21_18 = .ret := rfl
theorem e21_19 : n21_19 = .skip := rfl
theorem e21_20 : n21_20 = .seq n21_21 n21_22 := rfl
noncomputable def r21_21 := opsAt n21_21
theorem e21_21 : n21_21 = .region 6 (r21_21).toArray false := rfl
theorem e21_22 : n21_22 = .ret := rfl
theorem f_wide_Cmp : PureOk Try.prog 21 sCmp := by
  refine pureOk_of (c := n21_0) (Γ := conOf [(27, .pure sSub)]) (conOf_ok (conOf_one (S := .pure sSub) f_wide_Sub (conOf_end))) mixed Try.func21 B21_eq (by decide +kernel) Try.call21 ?_
  intro args hS
  unfold sCmp at hS ⊢
  split at hS
  · refine ⟨by rw [Try.ntmps21]; simp, vC_sound ?_⟩
    rename_i xa xb
    obtain ⟨ha, hb⟩ := hS
    obtain ⟨a, la, rfl⟩ := isU_out ha
    obtain ⟨b, lb, rfl⟩ := isU_out hb
    simp only [uv_u4, Nat.mod_eq_of_lt la, Nat.mod_eq_of_lt lb]
    clear ha hb
    simp only [entry_cons, entry_nil, reduceAdd]
    repeat' (first | (with_reducible first | apply seqC_normal | apply seqC_ret) | ((with_reducible apply wC_seq e21_0; apply wC_region e21_1); refine vOps_open (l := _ :: _) rfl ?_) | ((with_reducible apply wC_seq e21_2; apply wC_seq e21_3; apply wC_region e21_4); refine vOps_open (l := _ :: _) rfl ?_) | ((with_reducible apply kC_cond e21_5); (exact rfl); all_goals (intro hb; first | (cases hb; done) | cases hb | ((try simp only [dxe] at hb); try (exfalso; first | omega | exact hb trivial)))) | ((with_reducible apply wC_seq e21_6; apply wC_region e21_7); refine vOps_open (l := _ :: _) rfl ?_) | ((with_reducible apply wC_ret e21_8)) | ((with_reducible apply wC_skip e21_9)) | ((with_reducible apply wC_seq e21_10; apply wC_seq e21_11; apply wC_region e21_12); refine vOps_open (l := _ :: _) rfl ?_) | ((with_reducible apply wC_seq e21_13; apply wC_region e21_14); refine vOps_open (l := _ :: _) rfl ?_) | ((with_reducible apply kC_cond e21_15); (exact rfl); all_goals (intro hb; first | (cases hb; done) | cases hb | ((try simp only [dxe] at hb); try (exfalso; first | omega | exact hb trivial)))) | ((with_reducible apply wC_seq e21_16; apply wC_region e21_17); refine vOps_open (l := _ :: _) rfl ?_) | ((with_reducible apply wC_ret e21_18)) | ((with_reducible apply wC_skip e21_19)) | ((with_reducible apply wC_seq e21_20; apply wC_region e21_21); refine vOps_open (l := _ :: _) rfl ?_) | ((with_reducible apply wC_ret e21_22)) | ((with_reducible apply vOps_nil); try (with_reducible refine And.intro (by kernel_rfl) ?_)) | (refine kOps_gon (g := ?_) (p := ?_) rfl rfl ?_ ?_ ?_ ?_; rotate_left 2; fail; (exact rfl); (with_reducible rfl)) | (refine kOps_gofft (g := ?_) (p := ?_) rfl rfl ?_ ?_ ?_ ?_; rotate_left 2; fail; (exact rfl); (with_reducible rfl)) | (refine kOps_gofff (g := ?_) (p := ?_) rfl rfl ?_ ?_ ?_ ?_; rotate_left 2; fail; (exact rfl); (with_reducible rfl)) | (refine kOps_pickt rfl rfl rfl rfl ?_ rfl ?_; (with_reducible rfl)) | (refine kOps_pickf rfl rfl rfl rfl ?_ rfl ?_; (with_reducible rfl)) | (refine kOps_box (row := ?_) (n := ?_) rfl rfl rfl rfl rfl ?_ ?_ ?_ ?_; rotate_left 2; (simp only [↓List.length_append, ↓length_set, ↓length_cons, length_nil, reduceAdd, zero_add]; rfl); (simp only [cells_ul, cells_u4, cells_agg, cells_int, cells_bool, cells_string, cells_slice, cells_ro, cells_rptr]; rfl); (focus (first | rfl | exact one_cl _ _ | exact one_bv _ | (simp only [one_cl, one_ul, List.all_cons, List.all_nil, Bool.and_self, PV.one]; done) | (simp [PV.one, one_ul, one_cl, one_bv, Value.oneCell']; done)))) | (refine kOps_as rfl rfl rfl rfl ?_) | ((first | refine kOps_loadp (pre := ?_) (val := ?_) rfl rfl rfl rfl rfl ty26 ?_ ?_ ?_ | refine kOps_loadr (pre := ?_) (val := ?_) rfl rfl rfl rfl ty26 ?_ ?_ ?_); rotate_left 2; (simp only [partF, isAggD, Bool.false_eq_true, if_false, List.getElem?_cons_zero, List.getElem?_cons_succ, getD_cons_zero, getD_cons_succ, drop_zero, drop_succ_cons, take_succ_cons, take_zero, length_cons, length_nil, set_cons_zero, set_cons_succ, zero_add, n_add_zero, mul_one, reduceAdd, reduceMul, Int.toNat_natCast, reduceToNat, toNat_zero, take_cl, agg_cl, len_cl]; rfl); (focus ((repeat' apply And.intro) <;> first | exact True.intro | omega | (with_reducible rfl) | assumption | exact ⟨_, rfl⟩ | (simp only [sda]; done) | (simp only [len_cl]; omega) | (simp [Value.cells, Value.oneCell']; done)))) | (refine kOps_bin (b := .eql) (pre := ?_) (val := ?_) rfl rfl rfl rfl rfl ?_ ?_ ?_; rotate_left 2; (intro L; simp only [eql_u4 ty26 ty22, neq_u4 ty26 ty22, lit_ul0, lit_ul1, eql_ul, binF_eql, binF_seql, Int.reduceAdd, Int.reduceSub, Int.reduceMul, Int.reduceNeg, Int.sub_zero, Int.cast_ofNat_Int, ne_eq, Int.reduceLT, Int.reduceLE, Int.reduceEq, Nat.reduceMod, Nat.reduceLT, decide_true, decide_false, ty26, ty22]; (first | (rw [wrap_i64] <;> first | omega | rfl) | (rw [wrap_u8] <;> first | omega | rfl) | (rw [wrap_u16] <;> first | omega | rfl) | (rw [wrap_u32] <;> first | omega | rfl) | rfl)); (focus ((repeat' apply And.intro) <;> first | exact True.intro | omega | (with_reducible rfl) | assumption | exact ⟨_, rfl⟩ | (simp only [sda]; done) | (simp only [len_cl]; omega) | (simp [Value.cells, Value.oneCell']; done)))) | (refine kOps_callc (pre := ?_) (val := ?_) rfl rfl rfl rfl rfl ?_ ?_ ?_ ?_ ?_; rotate_left 2; (simp only [sSub, lit_ul0, lit_ul1, nrmC, map_cons, map_nil, nrm_ul, nrm_u4, nrm_nil, nrm_int, nrm_bool, nrm_string, nrm_ro, nrm_agg, nrm_rptr, isul_ul, ulv_ul, isU_u4, uv_u4, bytesOf_bv, isB_bv, true_and, and_true, and_self, n_add_zero, zero_add, Nat.zero_mod, n_sub_zero]; rfl); (focus (first | rfl | (simp only [closed, closedL, closed_ul, closed_u4, closedL_bv, closedL_cl, Bool.and_self, Bool.and_true]; done))); (focus (first | rfl | (simp only [closed, closedL, closed_ul, closed_u4, closedL_bv, closedL_cl, Bool.and_self, Bool.and_true]; done))); (focus ((repeat' apply And.intro) <;> first | exact True.intro | omega | (with_reducible rfl) | assumption | exact ⟨_, rfl⟩ | (simp only [sda]; done) | (simp only [len_cl]; omega) | (simp [Value.cells, Value.oneCell']; done)))) | (refine kOps_mv rfl rfl rfl rfl ?_) | (refine kOps_ext rfl rfl rfl rfl rfl ?_) | (refine kOps_alloc (row := ?_) (n := ?_) rfl rfl rfl rfl ty26 ?_ ?_ ?_ ?_; rotate_left 2; (simp only [↓List.length_append, ↓length_set, ↓length_cons, length_nil, reduceAdd, zero_add]; rfl); (simp only [Value.cells, map_cons, map_nil, List.toList_toArray, zero_cl4, zero_cl8, lit_ul0]; rfl); (focus (first | (simp only [Value.cells, List.toList_toArray, List.forall_mem_cons, List.forall_mem_nil, Value.oneCell', and_self]; done) | (simp [Value.cells, Value.oneCell']; done)))) | (refine kOps_store (cs' := ?_) rfl rfl rfl rfl rfl rfl rfl ty26 ?_ ?_ ?_; rotate_left 1; (simp only [lit_ul0, lit_ul1, splice, cells_ul, cells_u4, cells_agg, cells_int, cells_bool, cells_string, cells_slice, cells_ro, cells_rptr, isAggD, Bool.false_eq_true, if_false, List.getElem?_cons_zero, List.getElem?_cons_succ, getD_cons_zero, getD_cons_succ, drop_zero, drop_succ_cons, take_succ_cons, take_zero, length_cons, length_nil, set_cons_zero, set_cons_succ, zero_add, n_add_zero, mul_one, reduceAdd, reduceMul, Int.toNat_natCast, reduceToNat, toNat_zero, take_cl, agg_cl, len_cl]; rfl); (focus (first | (simp only [lit_ul0, lit_ul1, cells_ul, cells_u4, cells_agg, cells_int, cells_bool, cells_string, cells_slice, cells_ro, cells_rptr, length_cons, length_nil, len_cl, length_set, length_map, reduceAdd, zero_add, List.all_cons, List.all_nil, one_ul, one_cl, one_bv, PV.one, Value.oneCell', Bool.and_self, Nat.reduceLeDiff, Nat.le_refl, and_self, true_and, and_true]; done) | ((try simp only [lit_ul0, lit_ul1, cells_ul, cells_u4, cells_agg, cells_int, cells_bool, cells_string, cells_slice, cells_ro, cells_rptr]); (focus ((repeat' apply And.intro) <;> first | exact True.intro | omega | (with_reducible rfl) | assumption | exact ⟨_, rfl⟩ | (simp only [sda]; done) | (simp only [len_cl]; omega) | (simp [Value.cells, Value.oneCell']; done))))))) | (refine vOps_gundef rfl rfl ?_ ?_; (focus (simp only [lookup_cons, Nat.reduceBEq, cond_true, cond_false]; done)); simp only [putIn]) | (refine vOps_gpick (t := ?_) (val := ?_) rfl rfl ?_ rfl rfl ?_ ?_ ?_; rotate_left 2; (focus (simp only [lookup_cons, Nat.reduceBEq, cond_true, cond_false]; done)); (simp only [evalIn_tmp, evalIn_const, lookup_cons, Nat.reduceBEq, cond_true, cond_false]; rfl); (simp only [evalIn_tmp, evalIn_const, lookup_cons, Nat.reduceBEq, cond_true, cond_false]; rfl)) | (refine vOps_pick (t := ?_) (val := ?_) rfl rfl rfl ?_ ?_ ?_; rotate_left 2; (simp only [evalIn_tmp, evalIn_const, lookup_cons, Nat.reduceBEq, cond_true, cond_false]; rfl); (simp only [evalIn_tmp, evalIn_const, lookup_cons, Nat.reduceBEq, cond_true, cond_false]; rfl)) | (refine vOps_fork (b := ?_) rfl rfl ?_ ?_ ?_; rotate_left 1; (simp only [lookup_cons, Nat.reduceBEq, cond_true, cond_false]; rfl); all_goals (intro hb; simp only [hb]; (try simp only [decide_eq_true_eq, decide_eq_false_iff_not] at hb); try (exfalso; first | omega | exact hb trivial))) | (refine vOps_forkp (b := ?_) rfl ?_ ?_ ?_; rotate_left 1; (simp only [evalIn_tmp, lookup_cons, Nat.reduceBEq, cond_true, cond_false]; rfl); all_goals (intro hb; simp only [hb]; (try simp only [decide_eq_true_eq, decide_eq_false_iff_not] at hb); try (exfalso; first | omega | exact hb trivial))))
    all_goals (
    refine fin_c (p := ?_) (xs := [.tmp 4]) (by simp) rfl ?_ ?_ ?_ ?_
    rotate_left 2
    · simp only [rsx, map_cons, map_nil, evalIn_tmp, evalIn_const, evalIn_func, lookup_cons, Nat.reduceBEq, cond_true, cond_false, lit_ul0, lit_ul1, loadF, partF, Int.cast_ofNat_Int, Nat.min_self, drop_succ_cons, Int.reduceSub, List.getElem?_cons_zero, List.getElem?_cons_succ, getD_cons_zero, getD_cons_succ, List.getD_nil, drop_zero, take_succ_cons, take_zero, List.take_nil, length_cons, length_nil, set_cons_zero, set_cons_succ, zero_add, n_add_zero, mul_one, Nat.one_mul, reduceAdd, reduceMul, Nat.reduceSub, Nat.reduceLeDiff, Nat.reduceEqDiff, Int.toNat_natCast, reduceToNat, toNat_zero, reduceIte, if_true, if_false, Bool.false_eq_true, isAggD, len_cl, take_cl, agg_cl, getD_bv, take_bytes, length_map, List.cons_append, List.nil_append, true_and, and_true, and_self, ty22, ty26]; try rfl
    · first | rfl | (simp only [closed, closedL, closed_u4, closed_ul, closedL_cl, closedL_bv, Bool.and_self, Bool.and_true]; first | done | rfl)
    · refine int_eq ?_
      unfold cmpN
      (repeat' split) <;> omega
    · simp only [rsx, map_cons, map_nil, evalIn_tmp, evalIn_const, evalIn_func, lookup_cons, Nat.reduceBEq, cond_true, cond_false, lit_ul0, lit_ul1, loadF, partF, Int.cast_ofNat_Int, Nat.min_self, drop_succ_cons, Int.reduceSub, List.getElem?_cons_zero, List.getElem?_cons_succ, getD_cons_zero, getD_cons_succ, List.getD_nil, drop_zero, take_succ_cons, take_zero, List.take_nil, length_cons, length_nil, set_cons_zero, set_cons_succ, zero_add, n_add_zero, mul_one, Nat.one_mul, reduceAdd, reduceMul, Nat.reduceSub, Nat.reduceLeDiff, Nat.reduceEqDiff, Int.toNat_natCast, reduceToNat, toNat_zero, reduceIte, if_true, if_false, Bool.false_eq_true, isAggD, len_cl, take_cl, agg_cl, getD_bv, take_bytes, length_map, List.cons_append, List.nil_append, true_and, and_true, and_self, ty22, ty26]; try trivial)
  · exact hS.elim
end Go.Ab
