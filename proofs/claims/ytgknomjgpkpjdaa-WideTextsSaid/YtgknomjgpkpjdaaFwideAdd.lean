import Derived.Test.YtgknomjgpkpjdaaTY
import Derived.Test.YtgknomjgpkpjdaaME
import Derived.Test.YtgknomjgpkpjdaaFbitsAdd64
namespace Go.Ab
open Go Go.Proofs
open Nat (reduceAdd zero_add reduceMul mul_one one_mul)
open List (length_cons length_nil all_nil all_cons length_map getD_cons_zero drop_zero map_cons set_cons_zero set_cons_succ getElem?_cons_zero getElem?_cons_succ map_nil take_zero take_succ_cons getD_cons_succ drop_succ_cons length_set)
open Int (toNat_natCast reduceToNat toNat_zero cast_ofNat_Int)
set_option linter.unusedVariables false
set_option linter.unusedSimpArgs false
set_option maxRecDepth 8000
set_option maxHeartbeats 4000000

noncomputable def B25 : Code := bodyOf Try.f25
theorem B25_eq : Try.f25.body = some B25 := by kernel_rfl
noncomputable def n25_0 := B25
noncomputable def n25_1 := codeAt B25 [0]
noncomputable def n25_2 := codeAt B25 [1]
noncomputable def n25_3 := codeAt B25 [1,0]
noncomputable def n25_4 := codeAt B25 [1,1]
noncomputable def n25_5 := codeAt B25 [1,1,0]
noncomputable def n25_6 := codeAt B25 [1,1,1]
noncomputable def n25_7 := codeAt B25 [1,1,1,0]
noncomputable def n25_8 := codeAt B25 [1,1,1,0,0]
noncomputable def n25_9 := codeAt B25 [1,1,1,0,1]
noncomputable def n25_10 := codeAt B25 [1,1,1,0,1,0]
noncomputable def n25_11 := codeAt B25 [1,1,1,0,1,0,0]
noncomputable def n25_12 := codeAt B25 [1,1,1,0,1,0,0,0]
noncomputable def n25_13 := codeAt B25 [1,1,1,0,1,0,0,1]
noncomputable def n25_14 := codeAt B25 [1,1,1,0,1,0,0,1,0]
noncomputable def n25_15 := codeAt B25 [1,1,1,0,1,0,0,1,0,0]
noncomputable def n25_16 := codeAt B25 [1,1,1,0,1,0,0,1,0,1]
noncomputable def n25_17 := codeAt B25 [1,1,1,0,1,0,0,1,1]
noncomputable def n25_18 := codeAt B25 [1,1,1,0,1,0,0,1,1,0]
noncomputable def n25_19 := codeAt B25 [1,1,1,0,1,0,0,1,1,0,0]
noncomputable def n25_20 := codeAt B25 [1,1,1,0,1,0,0,1,1,0,0,0]
noncomputable def n25_21 := codeAt B25 [1,1,1,0,1,0,0,1,1,0,0,1]
noncomputable def n25_22 := codeAt B25 [1,1,1,0,1,0,0,1,1,1]
noncomputable def n25_23 := codeAt B25 [1,1,1,1]
noncomputable def n25_24 := codeAt B25 [1,1,1,1,0]
noncomputable def n25_25 := codeAt B25 [1,1,1,1,1]
theorem e25_0 : n25_0 = .seq n25_1 n25_2 := rfl
noncomputable def r25_1 := opsAt n25_1
theorem e25_1 : n25_1 = .region 0 (r25_1).toArray false := rfl
theorem e25_2 : n25_2 = .seq n25_3 n25_4 := rfl
noncomputable def r25_3 := opsAt n25_3
theorem e25_3 : n25_3 = .region 1 (r25_3).toArray false := rfl
theorem e25_4 : n25_4 = .seq n25_5 n25_6 := rfl
noncomputable def r25_5 := opsAt n25_5
theorem e25_5 : n25_5 = .region 2 (r25_5).toArray false := rfl
theorem e25_6 : n25_6 = .seq n25_7 n25_23 := rfl
theorem e25_7 : n25_7 = .seq n25_8 n25_9 := rfl
noncomputable def r25_8 := opsAt n25_8
theorem e25_8 : n25_8 = .region 3 (r25_8).toArray false := rfl
theorem e25_9 : n25_9 = .block 0 n25_10 := rfl
theorem e25_10 : n25_10 = .loop n25_11 := rfl
theorem e25_11 : n25_11 = .seq n25_12 n25_13 := rfl
noncomputable def r25_12 := opsAt n25_12
theorem e25_12 : n25_12 = .region 4 (r25_12).toArray false := rfl
theorem e25_13 : n25_13 = .seq n25_14 n25_17 := rfl
theorem e25_14 : n25_14 = .cond (.tmp 10) n25_15 n25_16 := rfl
theorem e25_15 : n25_15 = .skip := rfl
theorem e25_16 : n25_16 = .exit 0 := rfl
theorem e25_17 : n25_17 = .seq n25_18 n25_22 := rfl
theorem e25_18 : n25_18 = .block 1 n25_19 := rfl
theorem e25_19 : n25_19 = .seq n25_20 n25_21 := rfl
noncomputable def r25_20 := opsAt n25_20
theorem e25_20 : n25_20 = .region 5 (r25_20).toArray false := rfl
noncomputable def r25_21 := opsAt n25_21
theorem e25_21 : n25_21 = .region 6 (r25_21).toArray true := rfl
theorem a25_21 : anyOk r25_21 = true := by decide +kernel
noncomputable def r25_22 := opsAt n25_22
theorem e25_22 : n25_22 = .region 7 (r25_22).toArray false := rfl
theorem e25_23 : n25_23 = .seq n25_24 n25_25 := rfl
noncomputable def r25_24 := opsAt n25_24
theorem e25_24 : n25_24 = .region 8 (r25_24).toArray false := rfl
theorem e25_25 : n25_25 = .ret := rfl
theorem f_wide_Add : PureOk Try.prog 25 sAdd := by
  refine pureOk_of (c := n25_0) (Γ := conOf [(53, .ext sAdd64)]) (conOf_ok (conOf_one (S := .ext sAdd64) f_bits_Add64 (conOf_end))) mixed Try.func25 B25_eq (by decide +kernel) Try.call25 ?_
  intro args hS
  unfold sAdd at hS ⊢
  split at hS
  · refine ⟨by rw [Try.ntmps25]; simp, vC_sound ?_⟩
    rename_i xa xb
    obtain ⟨ha, hb⟩ := hS
    obtain ⟨a, la, rfl⟩ := isU_out ha
    obtain ⟨b, lb, rfl⟩ := isU_out hb
    simp only [uv_u4, Nat.mod_eq_of_lt la, Nat.mod_eq_of_lt lb]
    clear ha hb
    simp only [entry_cons, entry_nil, reduceAdd]
    repeat' (first | (with_reducible first | apply seqC_normal | apply wunrC_normal | apply blockC_normal | apply seqC_exit | apply blockC_hit | apply wunrC_exit | apply seqC_ret | apply blockC_ret | apply wunrC_ret | apply loopC_ret | apply loopC_exit) | ((with_reducible apply blockC_miss); (exact rfl)) | ((with_reducible apply wC_seq e25_0; apply wC_region e25_1); refine vOps_open (l := _ :: _) rfl ?_) | ((with_reducible apply wC_seq e25_2; apply wC_region e25_3); refine vOps_open (l := _ :: _) rfl ?_) | ((with_reducible apply wC_seq e25_4; apply wC_region e25_5); refine vOps_open (l := _ :: _) rfl ?_) | ((with_reducible apply wC_seq e25_6; apply wC_seq e25_7; apply wC_region e25_8); refine vOps_open (l := _ :: _) rfl ?_) | ((with_reducible apply wC_block e25_9; apply kC_unroll [2, 3, 4, 6, 7, 9] e25_10); (exact rfl); (exact rfl); (with_reducible apply wC_seq e25_11; apply wC_region e25_12); refine vOps_open (l := _ :: _) rfl ?_) | ((with_reducible apply kC_unroll [2, 3, 4, 6, 7, 9] e25_10); (exact rfl); (exact rfl); (with_reducible apply wC_seq e25_11; apply wC_region e25_12); refine vOps_open (l := _ :: _) rfl ?_) | ((with_reducible apply wC_seq e25_13; apply kC_cond e25_14); (exact rfl); all_goals (intro hb; first | (cases hb; done) | cases hb | ((try simp only [dxe] at hb); try (exfalso; first | omega | exact hb trivial)))) | ((with_reducible apply wC_skip e25_15)) | ((with_reducible apply wC_exit e25_16)) | ((with_reducible apply wC_seq e25_17; apply wC_block e25_18; apply wC_seq e25_19; apply wC_region e25_20); refine vOps_open (l := _ :: _) rfl ?_) | ((with_reducible apply wC_any e25_21 a25_21); refine vOps_open (l := _ :: _) rfl ?_) | ((with_reducible apply wC_region e25_22); refine vOps_open (l := _ :: _) rfl ?_) | ((with_reducible apply wC_seq e25_23; apply wC_region e25_24); refine vOps_open (l := _ :: _) rfl ?_) | ((with_reducible apply wC_ret e25_25)) | ((with_reducible apply vOps_nil); try (with_reducible refine And.intro (by kernel_rfl) ?_)) | (refine kOps_gon (g := ?_) (p := ?_) rfl rfl ?_ ?_ ?_ ?_; rotate_left 2; fail; (exact rfl); (with_reducible rfl)) | (refine kOps_gofft (g := ?_) (p := ?_) rfl rfl ?_ ?_ ?_ ?_; rotate_left 2; fail; (exact rfl); (with_reducible rfl)) | (refine kOps_gofff (g := ?_) (p := ?_) rfl rfl ?_ ?_ ?_ ?_; rotate_left 2; fail; (exact rfl); (with_reducible rfl)) | (refine kOps_pickt rfl rfl rfl rfl ?_ rfl ?_; (with_reducible rfl)) | (refine kOps_pickf rfl rfl rfl rfl ?_ rfl ?_; (with_reducible rfl)) | (refine kOps_box (row := ?_) (n := ?_) rfl rfl rfl rfl rfl ?_ ?_ ?_ ?_; rotate_left 2; (simp only [↓List.length_append, ↓length_set, ↓length_cons, length_nil, reduceAdd, zero_add]; rfl); (simp only [cl4, cells_ul, cells_u4, cells_agg, cells_int, cells_bool, cells_string, cells_slice, cells_ro, cells_rptr]; rfl); (focus (first | rfl | exact one_cl _ _ | exact one_bv _ | (simp only [one_cl, one_ul, all_cons, all_nil, Bool.and_self, PV.one]; done) | (simp [PV.one, one_ul, one_cl, one_bv, Value.oneCell']; done)))) | (refine kOps_alloc (row := ?_) (n := ?_) rfl rfl rfl rfl ty26 ?_ ?_ ?_ ?_; rotate_left 2; (simp only [↓List.length_append, ↓length_set, ↓length_cons, length_nil, reduceAdd, zero_add]; rfl); (simp only [cl4, Value.cells, map_cons, map_nil, List.toList_toArray, zero_cl4, zero_cl8, lit_ul0]; rfl); (focus (first | (simp only [Value.cells, List.toList_toArray, List.forall_mem_cons, List.forall_mem_nil, Value.oneCell', and_self]; done) | (simp [Value.cells, Value.oneCell']; done)))) | (refine kOps_as rfl rfl rfl rfl ?_) | (refine kOps_asc rfl rfl rfl lit_ul0 ?_) | (refine kOps_mv rfl rfl rfl rfl ?_) | (refine kOps_bin (b := .lss) (pre := ?_) (val := ?_) rfl rfl rfl rfl rfl ?_ ?_ ?_; rotate_left 2; (intro L; simp only [cl4, eql_u4 ty26 ty22, neq_u4 ty26 ty22, lit_ul0, lit_ul1, lss_ul, binF_lss, Int.reduceAdd, Int.reduceSub, Int.reduceMul, Int.reduceNeg, Int.sub_zero, cast_ofNat_Int, ne_eq, Int.reduceLT, Int.reduceLE, Int.reduceEq, Nat.reduceMod, Nat.reduceLT, decide_true, decide_false, ty3]; (first | (rw [wrap_i64] <;> first | omega | rfl) | (rw [wrap_u8] <;> first | omega | rfl) | (rw [wrap_u16] <;> first | omega | rfl) | (rw [wrap_u32] <;> first | omega | rfl) | rfl)); exact trivial) | ((first | (refine kOps_ixap (off' := ?_) rfl rfl rfl rfl rfl rfl ty26 ty22 ?_ ?_ ?_; rotate_left 1; (simp only [cl4, zero_add, n_add_zero, mul_one, one_mul, toNat_natCast, reduceToNat, toNat_zero, reduceMul, reduceAdd]; rfl)) | (refine kOps_ixaq (cs' := ?_) rfl rfl rfl rfl rfl ty26 ty22 ?_ ?_ ?_; rotate_left 1; (simp only [cl4, elemAt, isAggD, Bool.false_eq_true, if_false, getElem?_cons_zero, getElem?_cons_succ, getD_cons_zero, getD_cons_succ, drop_zero, drop_succ_cons, take_succ_cons, take_zero, length_cons, length_nil, set_cons_zero, set_cons_succ, zero_add, n_add_zero, mul_one, reduceAdd, reduceMul, toNat_natCast, reduceToNat, toNat_zero, take_cl, agg_cl, len_cl]; rfl))); (focus ((repeat' apply And.intro) <;> first | exact True.intro | omega | (with_reducible rfl) | assumption | exact ⟨_, rfl⟩ | (simp only [sda]; done) | (simp only [len_cl]; omega) | (simp [Value.cells, Value.oneCell']; done)))) | ((first | refine kOps_loadp (pre := ?_) (val := ?_) rfl rfl rfl rfl rfl ty22 ?_ ?_ ?_ | refine kOps_loadr (pre := ?_) (val := ?_) rfl rfl rfl rfl ty22 ?_ ?_ ?_); rotate_left 2; (simp only [cl4, partF, isAggD, Bool.false_eq_true, if_false, getElem?_cons_zero, getElem?_cons_succ, getD_cons_zero, getD_cons_succ, drop_zero, drop_succ_cons, take_succ_cons, take_zero, length_cons, length_nil, set_cons_zero, set_cons_succ, zero_add, n_add_zero, mul_one, reduceAdd, reduceMul, toNat_natCast, reduceToNat, toNat_zero, take_cl, agg_cl, len_cl]; rfl); (focus ((repeat' apply And.intro) <;> first | exact True.intro | omega | (with_reducible rfl) | assumption | exact ⟨_, rfl⟩ | (simp only [sda]; done) | (simp only [len_cl]; omega) | (simp [Value.cells, Value.oneCell']; done)))) | (refine kOps_calle (pre := ?_) (val := ?_) rfl rfl rfl rfl rfl ?_ ?_ ?_; rotate_left 2; (simp only [cl4, addd0, addd1, addc1, addd2, addc2, addd3, addc3, Nat.zero_mod, sAdd64, lit_ul0, lit_ul1, nrmC, map_cons, map_nil, nrm_ul, nrm_u4, nrm_nil, nrm_int, nrm_bool, nrm_string, nrm_ro, nrm_agg, nrm_rptr, isul_ul, ulv_ul, isU_u4, uv_u4, bytesOf_bv, isB_bv, true_and, and_true, and_self, n_add_zero, zero_add, n_sub_zero]; rfl); (focus ((repeat' apply And.intro) <;> first | exact True.intro | omega | (with_reducible rfl) | assumption | exact ⟨_, rfl⟩ | (simp only [sda]; done) | (simp only [len_cl]; omega) | (simp [Value.cells, Value.oneCell']; done)))) | (refine kOps_ext rfl rfl rfl rfl rfl ?_) | (refine kOps_store (cs' := ?_) rfl rfl rfl rfl rfl rfl rfl ty22 ?_ ?_ ?_; rotate_left 1; (simp only [cl4, lit_ul0, lit_ul1, splice, cells_ul, cells_u4, cells_agg, cells_int, cells_bool, cells_string, cells_slice, cells_ro, cells_rptr, isAggD, Bool.false_eq_true, if_false, getElem?_cons_zero, getElem?_cons_succ, getD_cons_zero, getD_cons_succ, drop_zero, drop_succ_cons, take_succ_cons, take_zero, length_cons, length_nil, set_cons_zero, set_cons_succ, zero_add, n_add_zero, mul_one, reduceAdd, reduceMul, toNat_natCast, reduceToNat, toNat_zero, take_cl, agg_cl, len_cl]; rfl); (focus (first | (simp only [lit_ul0, lit_ul1, cells_ul, cells_u4, cells_agg, cells_int, cells_bool, cells_string, cells_slice, cells_ro, cells_rptr, length_cons, length_nil, len_cl, length_set, length_map, reduceAdd, zero_add, all_cons, all_nil, one_ul, one_cl, one_bv, PV.one, Value.oneCell', Bool.and_self, Nat.reduceLeDiff, Nat.le_refl, and_self, true_and, and_true]; done) | ((try simp only [lit_ul0, lit_ul1, cells_ul, cells_u4, cells_agg, cells_int, cells_bool, cells_string, cells_slice, cells_ro, cells_rptr]); (focus ((repeat' apply And.intro) <;> first | exact True.intro | omega | (with_reducible rfl) | assumption | exact ⟨_, rfl⟩ | (simp only [sda]; done) | (simp only [len_cl]; omega) | (simp [Value.cells, Value.oneCell']; done))))))) | (refine kOps_bin (b := .add) (pre := ?_) (val := ?_) rfl rfl rfl rfl rfl ?_ ?_ ?_; rotate_left 2; (intro L; simp only [cl4, eql_u4 ty26 ty22, neq_u4 ty26 ty22, lit_ul0, lit_ul1, add_ul, binF_add, Int.reduceAdd, Int.reduceSub, Int.reduceMul, Int.reduceNeg, Int.sub_zero, cast_ofNat_Int, ne_eq, Int.reduceLT, Int.reduceLE, Int.reduceEq, Nat.reduceMod, Nat.reduceLT, decide_true, decide_false, ty3]; (first | (rw [wrap_i64] <;> first | omega | rfl) | (rw [wrap_u8] <;> first | omega | rfl) | (rw [wrap_u16] <;> first | omega | rfl) | (rw [wrap_u32] <;> first | omega | rfl) | rfl)); exact trivial) | ((first | refine kOps_loadp (pre := ?_) (val := ?_) rfl rfl rfl rfl rfl ty26 ?_ ?_ ?_ | refine kOps_loadr (pre := ?_) (val := ?_) rfl rfl rfl rfl ty26 ?_ ?_ ?_); rotate_left 2; (simp only [cl4, partF, isAggD, Bool.false_eq_true, if_false, getElem?_cons_zero, getElem?_cons_succ, getD_cons_zero, getD_cons_succ, drop_zero, drop_succ_cons, take_succ_cons, take_zero, length_cons, length_nil, set_cons_zero, set_cons_succ, zero_add, n_add_zero, mul_one, reduceAdd, reduceMul, toNat_natCast, reduceToNat, toNat_zero, take_cl, agg_cl, len_cl]; rfl); (focus ((repeat' apply And.intro) <;> first | exact True.intro | omega | (with_reducible rfl) | assumption | exact ⟨_, rfl⟩ | (simp only [sda]; done) | (simp only [len_cl]; omega) | (simp [Value.cells, Value.oneCell']; done)))) | (refine kOps_bin (b := .neq) (pre := ?_) (val := ?_) rfl rfl rfl rfl rfl ?_ ?_ ?_; rotate_left 2; (intro L; simp only [cl4, eql_u4 ty26 ty22, neq_u4 ty26 ty22, lit_ul0, lit_ul1, neq_ul, binF_neq, binF_sneq, Int.reduceAdd, Int.reduceSub, Int.reduceMul, Int.reduceNeg, Int.sub_zero, cast_ofNat_Int, ne_eq, Int.reduceLT, Int.reduceLE, Int.reduceEq, Nat.reduceMod, Nat.reduceLT, decide_true, decide_false, ty22]; (first | (rw [wrap_i64] <;> first | omega | rfl) | (rw [wrap_u8] <;> first | omega | rfl) | (rw [wrap_u16] <;> first | omega | rfl) | (rw [wrap_u32] <;> first | omega | rfl) | rfl)); (focus ((repeat' apply And.intro) <;> first | exact True.intro | omega | (with_reducible rfl) | assumption | exact ⟨_, rfl⟩ | (simp only [sda]; done) | (simp only [len_cl]; omega) | (simp [Value.cells, Value.oneCell']; done)))) | (refine kOps_store (cs' := ?_) rfl rfl rfl rfl rfl rfl rfl ty26 ?_ ?_ ?_; rotate_left 1; (simp only [cl4, lit_ul0, lit_ul1, splice, cells_ul, cells_u4, cells_agg, cells_int, cells_bool, cells_string, cells_slice, cells_ro, cells_rptr, isAggD, Bool.false_eq_true, if_false, getElem?_cons_zero, getElem?_cons_succ, getD_cons_zero, getD_cons_succ, drop_zero, drop_succ_cons, take_succ_cons, take_zero, length_cons, length_nil, set_cons_zero, set_cons_succ, zero_add, n_add_zero, mul_one, reduceAdd, reduceMul, toNat_natCast, reduceToNat, toNat_zero, take_cl, agg_cl, len_cl]; rfl); (focus (first | (simp only [lit_ul0, lit_ul1, cells_ul, cells_u4, cells_agg, cells_int, cells_bool, cells_string, cells_slice, cells_ro, cells_rptr, length_cons, length_nil, len_cl, length_set, length_map, reduceAdd, zero_add, all_cons, all_nil, one_ul, one_cl, one_bv, PV.one, Value.oneCell', Bool.and_self, Nat.reduceLeDiff, Nat.le_refl, and_self, true_and, and_true]; done) | ((try simp only [lit_ul0, lit_ul1, cells_ul, cells_u4, cells_agg, cells_int, cells_bool, cells_string, cells_slice, cells_ro, cells_rptr]); (focus ((repeat' apply And.intro) <;> first | exact True.intro | omega | (with_reducible rfl) | assumption | exact ⟨_, rfl⟩ | (simp only [sda]; done) | (simp only [len_cl]; omega) | (simp [Value.cells, Value.oneCell']; done))))))) | (refine vOps_gundef rfl rfl ?_ ?_; (focus (simp only [lookup_cons, Nat.reduceBEq, cond_true, cond_false]; done)); simp only [putIn]) | (refine vOps_gpick (t := ?_) (val := ?_) rfl rfl ?_ rfl rfl ?_ ?_ ?_; rotate_left 2; (focus (simp only [lookup_cons, Nat.reduceBEq, cond_true, cond_false]; done)); (simp only [evalIn_tmp, evalIn_const, lookup_cons, Nat.reduceBEq, cond_true, cond_false]; rfl); (simp only [evalIn_tmp, evalIn_const, lookup_cons, Nat.reduceBEq, cond_true, cond_false]; rfl)) | (refine vOps_pick (t := ?_) (val := ?_) rfl rfl rfl ?_ ?_ ?_; rotate_left 2; (simp only [evalIn_tmp, evalIn_const, lookup_cons, Nat.reduceBEq, cond_true, cond_false]; rfl); (simp only [evalIn_tmp, evalIn_const, lookup_cons, Nat.reduceBEq, cond_true, cond_false]; rfl)) | (refine vOps_fork (b := ?_) rfl rfl ?_ ?_ ?_; rotate_left 1; (simp only [lookup_cons, Nat.reduceBEq, cond_true, cond_false]; rfl); all_goals (intro hb; simp only [hb]; (try simp only [decide_eq_true_eq, decide_eq_false_iff_not] at hb); try (exfalso; first | omega | exact hb trivial))) | (refine vOps_forkp (b := ?_) rfl ?_ ?_ ?_; rotate_left 1; (simp only [evalIn_tmp, lookup_cons, Nat.reduceBEq, cond_true, cond_false]; rfl); all_goals (intro hb; simp only [hb]; (try simp only [decide_eq_true_eq, decide_eq_false_iff_not] at hb); try (exfalso; first | omega | exact hb trivial))))
    refine fin_c (p := ?_) (xs := [.cell 4 26, .tmp 5]) (by simp) rfl ?_ ?_ ?_ ?_
    rotate_left 2
    · simp only [rsx, map_cons, map_nil, cl4, evalIn_tmp, evalIn_const, evalIn_func, lookup_cons, Nat.reduceBEq, cond_true, cond_false, lit_ul0, lit_ul1, loadF, partF, cast_ofNat_Int, Nat.min_self, drop_succ_cons, Int.reduceSub, getElem?_cons_zero, getElem?_cons_succ, getD_cons_zero, getD_cons_succ, List.getD_nil, drop_zero, take_succ_cons, take_zero, List.take_nil, length_cons, length_nil, set_cons_zero, set_cons_succ, zero_add, n_add_zero, mul_one, one_mul, reduceAdd, reduceMul, Nat.reduceSub, Nat.reduceLeDiff, Nat.reduceEqDiff, toNat_natCast, reduceToNat, toNat_zero, reduceIte, if_true, if_false, Bool.false_eq_true, isAggD, len_cl, take_cl, agg_cl, getD_bv, take_bytes, length_map, List.cons_append, List.nil_append, true_and, and_true, and_self, ty3, ty22, ty26]; try rfl
    · first | rfl | (simp only [closed, closedL, closed_u4, closed_ul, closedL_cl, closedL_bv, Bool.and_self, Bool.and_true]; first | done | rfl)
    · try simp only [← cl4, agg_cl]
      exact tup2 rfl (bool_eq (by omega))
    · simp only [rsx, map_cons, map_nil, cl4, evalIn_tmp, evalIn_const, evalIn_func, lookup_cons, Nat.reduceBEq, cond_true, cond_false, lit_ul0, lit_ul1, loadF, partF, cast_ofNat_Int, Nat.min_self, drop_succ_cons, Int.reduceSub, getElem?_cons_zero, getElem?_cons_succ, getD_cons_zero, getD_cons_succ, List.getD_nil, drop_zero, take_succ_cons, take_zero, List.take_nil, length_cons, length_nil, set_cons_zero, set_cons_succ, zero_add, n_add_zero, mul_one, one_mul, reduceAdd, reduceMul, Nat.reduceSub, Nat.reduceLeDiff, Nat.reduceEqDiff, toNat_natCast, reduceToNat, toNat_zero, reduceIte, if_true, if_false, Bool.false_eq_true, isAggD, len_cl, take_cl, agg_cl, getD_bv, take_bytes, length_map, List.cons_append, List.nil_append, true_and, and_true, and_self, ty3, ty22, ty26]; try trivial
  · exact hS.elim
end Go.Ab
