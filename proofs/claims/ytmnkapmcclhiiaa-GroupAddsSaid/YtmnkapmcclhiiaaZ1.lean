import Derived.Test.YtmnkapmcclhiiaaQZ
import Derived.Test.YtmnkapmcclhiiaaME
import Derived.Test.YtmnkapmcclhiiaaTY
import Derived.Test.YtmnkapmcclhiiaaZ0
import Derived.Test.YtmnkapmcclhiiaaMV
import Derived.Test.YtmnkapmcclhiiaaMY
namespace Go.Ab
open Go Go.Proofs
open Nat (reduceAdd mod_eq_of_lt zero_add reduceMul reduceLeDiff reduceMod reduceLT zero_mod reduceSub reduceEqDiff reduceDiv one_mul)
open List (length_cons length_nil all_nil all_cons length_map length_set length_append)
open Int (toNat_natCast reduceToNat cast_ofNat_Int)
set_option linter.unusedVariables false
set_option linter.unusedSimpArgs false
set_option maxRecDepth 8000
set_option maxHeartbeats 4000000
noncomputable def B39 : Code := bodyOf Try.f39
theorem B39_eq : Try.f39.body = some B39 := by kernel_rfl
noncomputable def n39_0 := B39
noncomputable def n39_1 := codeAt B39 [0]
noncomputable def n39_2 := codeAt B39 [1]
noncomputable def n39_3 := codeAt B39 [1,0]
noncomputable def n39_4 := codeAt B39 [1,1]
theorem e39_0 : n39_0 = .seq n39_1 n39_2 := rfl
noncomputable def r39_1 := opsAt n39_1
theorem e39_1 : n39_1 = .region 0 (r39_1).toArray false := rfl
theorem e39_2 : n39_2 = .seq n39_3 n39_4 := rfl
noncomputable def r39_3 := opsAt n39_3
theorem e39_3 : n39_3 = .region 1 (r39_3).toArray false := rfl
theorem e39_4 : n39_4 = .ret := rfl
theorem f_wide_FromUint : PureOk Try.prog 39 sFromUint := by
  refine pureOk_of (c := n39_0) (Γ := conOf []) (conOf_ok (conOf_end)) mixed Try.func39 B39_eq (by decide +kernel) Try.call39 ?_
  intro args hS
  unfold sFromUint at hS ⊢
  split at hS
  · refine ⟨by rw [Try.ntmps39]; simp, vC_sound ?_⟩
    rename_i xa
    have ha := hS
    obtain ⟨a, la, rfl⟩ := isul_out ha
    simp only [ulv_ul, mod_eq_of_lt la]
    clear ha
    simp only [qz26, reduceAdd]
    repeat' (first | (with_reducible first | apply seqC_normal | apply seqC_ret) | ((with_reducible apply wC_seq e39_0; apply wC_region e39_1); refine vOps_open (l := _ :: _) rfl ?_; refine kOps_alloc (row := ?_) (n := ?_) rfl rfl rfl rfl ty24 ?_ ?_ ?_ ?_; rotate_left 2; (simp only [↓length_append, ↓length_set, ↓length_cons, length_nil, reduceAdd, zero_add]; rfl); (simp only [cl4, Value.cells, qz9, List.toList_toArray, zero_cl4, zero_cl8, lit_ul0]; rfl); (focus (first | (simp only [Value.cells, List.toList_toArray, qz23, Value.oneCell', and_self]; done) | (simp [Value.cells, Value.oneCell']; done))); refine vOps_nil ?_; (with_reducible apply seqC_normal; apply wC_seq e39_2; apply wC_region e39_3); refine vOps_open (l := _ :: _) rfl ?_; refine kOps_mv rfl rfl rfl rfl ?_; refine kOps_build (pre := ?_) (val := ?_) rfl rfl rfl rfl ?_ ?_ ?_; rotate_left 2; (intro L; simp only [cl4, buildF, fillB, zeroCells, splice, Value.cells, qz9, List.toList_toArray, zero_cl4, lit_ul0, qz14, qz17, cast_ofNat_Int, qz22, qz10, Int.reduceSub, qz3, qz0, length_cons, length_nil, qz6, zero_add, n_add_zero, qz4, one_mul, reduceAdd, reduceMul, reduceSub, reduceLeDiff, reduceEqDiff, toNat_natCast, reduceToNat, reduceIte, if_true, if_false, isAggD, len_cl, agg_cl, qz15, length_map, qz16, qz12, and_self, ty24, ty22]; rfl); (focus ((repeat' apply And.intro) <;> first | exact True.intro | omega | (with_reducible rfl) | assumption | exact ⟨_, rfl⟩ | (simp only [sda]; done) | (simp only [len_cl]; omega) | (simp [Value.cells, Value.oneCell']; done))); refine kOps_store (cs' := ?_) rfl rfl rfl rfl rfl rfl rfl ty24 ?_ ?_ ?_; rotate_left 1; (simp only [cl4, splice, qz14, qz17, isAggD, qz0, if_false, qz3, qz10, length_cons, length_nil, qz6, zero_add, n_add_zero, qz4, reduceAdd, reduceMul, toNat_natCast, reduceToNat, agg_cl, len_cl]; rfl); (focus (first | (simp only [qz14, qz17, length_cons, length_nil, len_cl, length_set, length_map, reduceAdd, zero_add, all_cons, all_nil, qz19, one_bv, PV.one, Value.oneCell', Bool.and_self, reduceLeDiff, Nat.le_refl, and_self, qz12]; done) | ((try simp only [qz14, qz17]); (focus ((repeat' apply And.intro) <;> first | exact True.intro | omega | (with_reducible rfl) | assumption | exact ⟨_, rfl⟩ | (simp only [sda]; done) | (simp only [len_cl]; omega) | (simp [Value.cells, Value.oneCell']; done)))))); refine vOps_nil ?_; (with_reducible apply seqC_normal; apply wC_ret e39_4)))
    refine fin_c (p := ?_) (xs := [.cell 2 24]) (by simp) rfl ?_ ?_ ?_ ?_
    rotate_left 2
    · simp only [rsx, qz9, cl4, evalIn_tmp, evalIn_const, evalIn_func, qz7, Nat.reduceBEq, lit_ul0, lit_ul1, loadF, partF, cast_ofNat_Int, qz22, qz10, Int.reduceSub, qz3, qz0, length_cons, length_nil, qz6, zero_add, n_add_zero, qz4, one_mul, reduceAdd, reduceMul, reduceSub, reduceLeDiff, reduceEqDiff, toNat_natCast, reduceToNat, reduceIte, if_true, if_false, isAggD, len_cl, agg_cl, qz15, length_map, qz16, qz12, and_self, ty22, ty24]; try rfl
    · first | rfl | (simp only [closed, closedL, qz18, closedL_cl, closedL_bv, Bool.and_self, Bool.and_true]; first | done | rfl)
    · try simp only [← cl4, agg_cl]
      exact agg4 (by omega)
    · simp only [rsx, qz9, cl4, evalIn_tmp, evalIn_const, evalIn_func, qz7, Nat.reduceBEq, lit_ul0, lit_ul1, loadF, partF, cast_ofNat_Int, qz22, qz10, Int.reduceSub, qz3, qz0, length_cons, length_nil, qz6, zero_add, n_add_zero, qz4, one_mul, reduceAdd, reduceMul, reduceSub, reduceLeDiff, reduceEqDiff, toNat_natCast, reduceToNat, reduceIte, if_true, if_false, isAggD, len_cl, agg_cl, qz15, length_map, qz16, qz12, and_self, ty22, ty24]; try trivial
  · exact hS.elim
noncomputable def B60 : Code := bodyOf Try.f60
theorem B60_eq : Try.f60.body = some B60 := by kernel_rfl
noncomputable def n60_0 := B60
noncomputable def n60_1 := codeAt B60 [0]
noncomputable def n60_2 := codeAt B60 [1]
noncomputable def n60_3 := codeAt B60 [1,0]
noncomputable def n60_4 := codeAt B60 [1,1]
noncomputable def n60_5 := codeAt B60 [1,1,0]
noncomputable def n60_6 := codeAt B60 [1,1,1]
noncomputable def n60_7 := codeAt B60 [1,1,1,0]
noncomputable def n60_8 := codeAt B60 [1,1,1,0,0]
noncomputable def n60_9 := codeAt B60 [1,1,1,0,1]
noncomputable def n60_10 := codeAt B60 [1,1,1,0,1,0]
noncomputable def n60_11 := codeAt B60 [1,1,1,0,1,0,0]
noncomputable def n60_12 := codeAt B60 [1,1,1,0,1,0,0,0]
noncomputable def n60_13 := codeAt B60 [1,1,1,0,1,0,0,1]
noncomputable def n60_14 := codeAt B60 [1,1,1,0,1,0,0,1,0]
noncomputable def n60_15 := codeAt B60 [1,1,1,0,1,0,0,1,0,0]
noncomputable def n60_16 := codeAt B60 [1,1,1,0,1,0,0,1,0,1]
noncomputable def n60_17 := codeAt B60 [1,1,1,0,1,0,0,1,1]
noncomputable def n60_18 := codeAt B60 [1,1,1,0,1,0,0,1,1,0]
noncomputable def n60_19 := codeAt B60 [1,1,1,0,1,0,0,1,1,0,0]
noncomputable def n60_20 := codeAt B60 [1,1,1,0,1,0,0,1,1,0,0,0]
noncomputable def n60_21 := codeAt B60 [1,1,1,0,1,0,0,1,1,0,0,1]
noncomputable def n60_22 := codeAt B60 [1,1,1,0,1,0,0,1,1,1]
noncomputable def n60_23 := codeAt B60 [1,1,1,1]
noncomputable def n60_24 := codeAt B60 [1,1,1,1,0]
noncomputable def n60_25 := codeAt B60 [1,1,1,1,1]
theorem e60_0 : n60_0 = .seq n60_1 n60_2 := rfl
noncomputable def r60_1 := opsAt n60_1
theorem e60_1 : n60_1 = .region 0 (r60_1).toArray false := rfl
theorem e60_2 : n60_2 = .seq n60_3 n60_4 := rfl
noncomputable def r60_3 := opsAt n60_3
theorem e60_3 : n60_3 = .region 1 (r60_3).toArray false := rfl
theorem e60_4 : n60_4 = .seq n60_5 n60_6 := rfl
noncomputable def r60_5 := opsAt n60_5
theorem e60_5 : n60_5 = .region 2 (r60_5).toArray false := rfl
theorem e60_6 : n60_6 = .seq n60_7 n60_23 := rfl
theorem e60_7 : n60_7 = .seq n60_8 n60_9 := rfl
noncomputable def r60_8 := opsAt n60_8
theorem e60_8 : n60_8 = .region 3 (r60_8).toArray false := rfl
theorem e60_9 : n60_9 = .block 0 n60_10 := rfl
theorem e60_10 : n60_10 = .loop n60_11 := rfl
theorem e60_11 : n60_11 = .seq n60_12 n60_13 := rfl
noncomputable def r60_12 := opsAt n60_12
theorem e60_12 : n60_12 = .region 4 (r60_12).toArray false := rfl
theorem e60_13 : n60_13 = .seq n60_14 n60_17 := rfl
theorem e60_14 : n60_14 = .cond (.tmp 10) n60_15 n60_16 := rfl
theorem e60_15 : n60_15 = .skip := rfl
theorem e60_16 : n60_16 = .exit 0 := rfl
theorem e60_17 : n60_17 = .seq n60_18 n60_22 := rfl
theorem e60_18 : n60_18 = .block 1 n60_19 := rfl
theorem e60_19 : n60_19 = .seq n60_20 n60_21 := rfl
noncomputable def r60_20 := opsAt n60_20
theorem e60_20 : n60_20 = .region 5 (r60_20).toArray false := rfl
noncomputable def r60_21 := opsAt n60_21
theorem e60_21 : n60_21 = .region 6 (r60_21).toArray true := rfl
theorem a60_21 : anyOk r60_21 = true := by decide +kernel
noncomputable def r60_22 := opsAt n60_22
theorem e60_22 : n60_22 = .region 7 (r60_22).toArray false := rfl
theorem e60_23 : n60_23 = .seq n60_24 n60_25 := rfl
noncomputable def r60_24 := opsAt n60_24
theorem e60_24 : n60_24 = .region 8 (r60_24).toArray false := rfl
theorem e60_25 : n60_25 = .ret := rfl
theorem f_wide_Add : PureOk Try.prog 60 sAdd := by
  refine pureOk_of (c := n60_0) (Γ := conOf [(66, .ext sAdd64)]) (conOf_ok (conOf_one (S := .ext sAdd64) f_bits_Add64 (conOf_end))) mixed Try.func60 B60_eq (by decide +kernel) Try.call60 ?_
  intro args hS
  unfold sAdd at hS ⊢
  split at hS
  · refine ⟨by rw [Try.ntmps60]; simp, vC_sound ?_⟩
    rename_i xa xb
    obtain ⟨ha, hb⟩ := hS
    obtain ⟨a, la, rfl⟩ := isU_out ha
    obtain ⟨b, lb, rfl⟩ := isU_out hb
    simp only [uv_u4, mod_eq_of_lt la, mod_eq_of_lt lb]
    clear ha hb
    simp only [qz26, reduceAdd]
    repeat' (first | (with_reducible first | apply seqC_normal | apply wunrC_normal | apply blockC_normal | apply seqC_exit | apply blockC_hit | apply wunrC_exit | apply seqC_ret | apply blockC_ret | apply wunrC_ret | apply loopC_ret | apply loopC_exit) | ((with_reducible apply blockC_miss); (exact rfl)) | ((with_reducible apply wC_seq e60_0; apply wC_region e60_1); refine vOps_open (l := _ :: _) rfl ?_) | ((with_reducible apply wC_seq e60_2; apply wC_region e60_3); refine vOps_open (l := _ :: _) rfl ?_) | ((with_reducible apply wC_seq e60_4; apply wC_region e60_5); refine vOps_open (l := _ :: _) rfl ?_) | ((with_reducible apply wC_seq e60_6; apply wC_seq e60_7; apply wC_region e60_8); refine vOps_open (l := _ :: _) rfl ?_) | ((with_reducible apply wC_block e60_9; apply kC_unroll [2, 3, 4, 6, 7, 9] e60_10); (exact rfl); (exact rfl); (with_reducible apply wC_seq e60_11; apply wC_region e60_12); refine vOps_open (l := _ :: _) rfl ?_) | ((with_reducible apply kC_unroll [2, 3, 4, 6, 7, 9] e60_10); (exact rfl); (exact rfl); (with_reducible apply wC_seq e60_11; apply wC_region e60_12); refine vOps_open (l := _ :: _) rfl ?_) | ((with_reducible apply wC_seq e60_13; apply kC_cond e60_14); (exact rfl); all_goals (intro hb; first | (cases hb; done) | cases hb | ((try simp only [dxe] at hb); try (exfalso; first | omega | exact hb trivial)))) | ((with_reducible apply wC_skip e60_15)) | ((with_reducible apply wC_exit e60_16)) | ((with_reducible apply wC_seq e60_17; apply wC_block e60_18; apply wC_seq e60_19; apply wC_region e60_20); refine vOps_open (l := _ :: _) rfl ?_) | ((with_reducible apply wC_any e60_21 a60_21); refine vOps_open (l := _ :: _) rfl ?_) | ((with_reducible apply wC_region e60_22); refine vOps_open (l := _ :: _) rfl ?_) | ((with_reducible apply wC_seq e60_23; apply wC_region e60_24); refine vOps_open (l := _ :: _) rfl ?_) | ((with_reducible apply wC_ret e60_25)) | ((with_reducible apply vOps_nil); try (with_reducible refine And.intro (by kernel_rfl) ?_)) | (refine kOps_box (row := ?_) (n := ?_) rfl rfl rfl rfl rfl ?_ ?_ ?_ ?_; rotate_left 2; (simp only [↓length_append, ↓length_set, ↓length_cons, length_nil, reduceAdd, zero_add]; rfl); (simp only [cl4, qz14, qz17]; rfl); (focus (first | rfl | exact one_cl _ _ | exact one_bv _ | (simp only [qz19, all_cons, all_nil, Bool.and_self, PV.one]; done) | (simp [PV.one, qz19, one_bv, Value.oneCell']; done)))) | (refine kOps_alloc (row := ?_) (n := ?_) rfl rfl rfl rfl ty24 ?_ ?_ ?_ ?_; rotate_left 2; (simp only [↓length_append, ↓length_set, ↓length_cons, length_nil, reduceAdd, zero_add]; rfl); (simp only [cl4, Value.cells, qz9, List.toList_toArray, zero_cl4, zero_cl8, lit_ul0]; rfl); (focus (first | (simp only [Value.cells, List.toList_toArray, qz23, Value.oneCell', and_self]; done) | (simp [Value.cells, Value.oneCell']; done)))) | (refine kOps_as rfl rfl rfl rfl ?_) | (refine kOps_asc rfl rfl rfl lit_ul0 ?_) | (refine kOps_mv rfl rfl rfl rfl ?_) | (refine kOps_bin (b := .lss) (pre := ?_) (val := ?_) rfl rfl rfl rfl rfl ?_ ?_ ?_; rotate_left 2; (intro L; simp only [cl4, eql_u4 ty24 ty22, neq_u4 ty24 ty22, lit_ul0, lit_ul1, qz35, Int.reduceAdd, Int.reduceSub, Int.reduceMul, Int.reduceNeg, Int.sub_zero, cast_ofNat_Int, ne_eq, Int.reduceLT, Int.reduceLE, Int.reduceEq, reduceMod, reduceLT, qz5, ty3]; (first | (rw [wrap_i64] <;> first | omega | rfl) | (rw [wrap_u8] <;> first | omega | rfl) | (rw [wrap_u16] <;> first | omega | rfl) | (rw [wrap_u32] <;> first | omega | rfl) | rfl)); exact trivial) | ((first | (refine kOps_ixap (off' := ?_) rfl rfl rfl rfl rfl rfl ty24 ty22 ?_ ?_ ?_; rotate_left 1; (simp only [cl4, zero_add, n_add_zero, qz4, one_mul, toNat_natCast, reduceToNat, reduceMul, reduceAdd]; rfl)) | (refine kOps_ixaq (cs' := ?_) rfl rfl rfl rfl rfl ty24 ty22 ?_ ?_ ?_; rotate_left 1; (simp only [cl4, elemAt, isAggD, qz0, if_false, qz3, qz10, length_cons, length_nil, qz6, zero_add, n_add_zero, qz4, reduceAdd, reduceMul, toNat_natCast, reduceToNat, agg_cl, len_cl]; rfl))); (focus ((repeat' apply And.intro) <;> first | exact True.intro | omega | (with_reducible rfl) | assumption | exact ⟨_, rfl⟩ | (simp only [sda]; done) | (simp only [len_cl]; omega) | (simp [Value.cells, Value.oneCell']; done)))) | ((first | refine kOps_loadp (pre := ?_) (val := ?_) rfl rfl rfl rfl rfl ty22 ?_ ?_ ?_ | refine kOps_loadr (pre := ?_) (val := ?_) rfl rfl rfl rfl ty22 ?_ ?_ ?_); rotate_left 2; (simp only [cl4, partF, isAggD, qz0, if_false, qz3, qz10, length_cons, length_nil, qz6, zero_add, n_add_zero, qz4, reduceAdd, reduceMul, toNat_natCast, reduceToNat, agg_cl, len_cl]; rfl); (focus ((repeat' apply And.intro) <;> first | exact True.intro | omega | (with_reducible rfl) | assumption | exact ⟨_, rfl⟩ | (simp only [sda]; done) | (simp only [len_cl]; omega) | (simp [Value.cells, Value.oneCell']; done)))) | (refine kOps_calle (pre := ?_) (val := ?_) rfl rfl rfl rfl rfl ?_ ?_ ?_; rotate_left 2; (simp only [cl4, addd0, addd1, addc1, addd2, addc2, addd3, addc3, zero_mod, sAdd64, lit_ul0, lit_ul1, nrmC, qz9, qz8, qz25, ulv_ul, uv_u4, qz12, and_self, n_add_zero, zero_add, n_sub_zero]; rfl); (focus ((repeat' apply And.intro) <;> first | exact True.intro | omega | (with_reducible rfl) | assumption | exact ⟨_, rfl⟩ | (simp only [sda]; done) | (simp only [len_cl]; omega) | (simp [Value.cells, Value.oneCell']; done)))) | (refine kOps_ext rfl rfl rfl rfl rfl ?_) | (refine kOps_store (cs' := ?_) rfl rfl rfl rfl rfl rfl rfl ty22 ?_ ?_ ?_; rotate_left 1; (simp only [cl4, lit_ul0, lit_ul1, splice, qz14, qz17, isAggD, qz0, if_false, qz3, qz10, length_cons, length_nil, qz6, zero_add, n_add_zero, qz4, reduceAdd, reduceMul, toNat_natCast, reduceToNat, agg_cl, len_cl]; rfl); (focus (first | (simp only [lit_ul0, lit_ul1, qz14, qz17, length_cons, length_nil, len_cl, length_set, length_map, reduceAdd, zero_add, all_cons, all_nil, qz19, one_bv, PV.one, Value.oneCell', Bool.and_self, reduceLeDiff, Nat.le_refl, and_self, qz12]; done) | ((try simp only [lit_ul0, lit_ul1, qz14, qz17]); (focus ((repeat' apply And.intro) <;> first | exact True.intro | omega | (with_reducible rfl) | assumption | exact ⟨_, rfl⟩ | (simp only [sda]; done) | (simp only [len_cl]; omega) | (simp [Value.cells, Value.oneCell']; done))))))) | (refine kOps_bin (b := .add) (pre := ?_) (val := ?_) rfl rfl rfl rfl rfl ?_ ?_ ?_; rotate_left 2; (intro L; simp only [cl4, eql_u4 ty24 ty22, neq_u4 ty24 ty22, lit_ul0, lit_ul1, qz34, Int.reduceAdd, Int.reduceSub, Int.reduceMul, Int.reduceNeg, Int.sub_zero, cast_ofNat_Int, ne_eq, Int.reduceLT, Int.reduceLE, Int.reduceEq, reduceMod, reduceLT, qz5, ty3]; (first | (rw [wrap_i64] <;> first | omega | rfl) | (rw [wrap_u8] <;> first | omega | rfl) | (rw [wrap_u16] <;> first | omega | rfl) | (rw [wrap_u32] <;> first | omega | rfl) | rfl)); exact trivial) | ((first | refine kOps_loadp (pre := ?_) (val := ?_) rfl rfl rfl rfl rfl ty24 ?_ ?_ ?_ | refine kOps_loadr (pre := ?_) (val := ?_) rfl rfl rfl rfl ty24 ?_ ?_ ?_); rotate_left 2; (simp only [cl4, partF, isAggD, qz0, if_false, qz3, qz10, length_cons, length_nil, qz6, zero_add, n_add_zero, qz4, reduceAdd, reduceMul, toNat_natCast, reduceToNat, agg_cl, len_cl]; rfl); (focus ((repeat' apply And.intro) <;> first | exact True.intro | omega | (with_reducible rfl) | assumption | exact ⟨_, rfl⟩ | (simp only [sda]; done) | (simp only [len_cl]; omega) | (simp [Value.cells, Value.oneCell']; done)))) | (refine kOps_bin (b := .neq) (pre := ?_) (val := ?_) rfl rfl rfl rfl rfl ?_ ?_ ?_; rotate_left 2; (intro L; simp only [cl4, eql_u4 ty24 ty22, neq_u4 ty24 ty22, lit_ul0, lit_ul1, qz37, Int.reduceAdd, Int.reduceSub, Int.reduceMul, Int.reduceNeg, Int.sub_zero, cast_ofNat_Int, ne_eq, Int.reduceLT, Int.reduceLE, Int.reduceEq, reduceMod, reduceLT, qz5, ty22]; (first | (rw [wrap_i64] <;> first | omega | rfl) | (rw [wrap_u8] <;> first | omega | rfl) | (rw [wrap_u16] <;> first | omega | rfl) | (rw [wrap_u32] <;> first | omega | rfl) | rfl)); (focus ((repeat' apply And.intro) <;> first | exact True.intro | omega | (with_reducible rfl) | assumption | exact ⟨_, rfl⟩ | (simp only [sda]; done) | (simp only [len_cl]; omega) | (simp [Value.cells, Value.oneCell']; done)))) | (refine kOps_store (cs' := ?_) rfl rfl rfl rfl rfl rfl rfl ty24 ?_ ?_ ?_; rotate_left 1; (simp only [cl4, lit_ul0, lit_ul1, splice, qz14, qz17, isAggD, qz0, if_false, qz3, qz10, length_cons, length_nil, qz6, zero_add, n_add_zero, qz4, reduceAdd, reduceMul, toNat_natCast, reduceToNat, agg_cl, len_cl]; rfl); (focus (first | (simp only [lit_ul0, lit_ul1, qz14, qz17, length_cons, length_nil, len_cl, length_set, length_map, reduceAdd, zero_add, all_cons, all_nil, qz19, one_bv, PV.one, Value.oneCell', Bool.and_self, reduceLeDiff, Nat.le_refl, and_self, qz12]; done) | ((try simp only [lit_ul0, lit_ul1, qz14, qz17]); (focus ((repeat' apply And.intro) <;> first | exact True.intro | omega | (with_reducible rfl) | assumption | exact ⟨_, rfl⟩ | (simp only [sda]; done) | (simp only [len_cl]; omega) | (simp [Value.cells, Value.oneCell']; done))))))))
    refine fin_c (p := ?_) (xs := [.cell 4 24, .tmp 5]) (by simp) rfl ?_ ?_ ?_ ?_
    rotate_left 2
    · simp only [rsx, qz9, cl4, evalIn_tmp, evalIn_const, evalIn_func, qz7, Nat.reduceBEq, lit_ul0, lit_ul1, loadF, partF, cast_ofNat_Int, qz22, qz10, Int.reduceSub, qz3, qz0, length_cons, length_nil, qz6, zero_add, n_add_zero, qz4, one_mul, reduceAdd, reduceMul, reduceSub, reduceLeDiff, reduceEqDiff, toNat_natCast, reduceToNat, reduceIte, if_true, if_false, isAggD, len_cl, agg_cl, qz15, length_map, qz16, qz12, and_self, ty3, ty22, ty24]; try rfl
    · first | rfl | (simp only [closed, closedL, qz18, closedL_cl, closedL_bv, Bool.and_self, Bool.and_true]; first | done | rfl)
    · try simp only [← cl4, agg_cl]
      exact tup2 rfl (bool_eq (by omega))
    · simp only [rsx, qz9, cl4, evalIn_tmp, evalIn_const, evalIn_func, qz7, Nat.reduceBEq, lit_ul0, lit_ul1, loadF, partF, cast_ofNat_Int, qz22, qz10, Int.reduceSub, qz3, qz0, length_cons, length_nil, qz6, zero_add, n_add_zero, qz4, one_mul, reduceAdd, reduceMul, reduceSub, reduceLeDiff, reduceEqDiff, toNat_natCast, reduceToNat, reduceIte, if_true, if_false, isAggD, len_cl, agg_cl, qz15, length_map, qz16, qz12, and_self, ty3, ty22, ty24]; try trivial
  · exact hS.elim
noncomputable def B44 : Code := bodyOf Try.f44
theorem B44_eq : Try.f44.body = some B44 := by kernel_rfl
noncomputable def n44_0 := B44
noncomputable def n44_1 := codeAt B44 [0]
noncomputable def n44_2 := codeAt B44 [1]
noncomputable def n44_3 := codeAt B44 [1,0]
noncomputable def n44_4 := codeAt B44 [1,1]
noncomputable def n44_5 := codeAt B44 [1,1,0]
noncomputable def n44_6 := codeAt B44 [1,1,1]
noncomputable def n44_7 := codeAt B44 [1,1,1,0]
noncomputable def n44_8 := codeAt B44 [1,1,1,0,0]
noncomputable def n44_9 := codeAt B44 [1,1,1,0,1]
noncomputable def n44_10 := codeAt B44 [1,1,1,0,1,0]
noncomputable def n44_11 := codeAt B44 [1,1,1,0,1,1]
noncomputable def n44_12 := codeAt B44 [1,1,1,1]
noncomputable def n44_13 := codeAt B44 [1,1,1,1,0]
noncomputable def n44_14 := codeAt B44 [1,1,1,1,1]
theorem e44_0 : n44_0 = .seq n44_1 n44_2 := rfl
noncomputable def r44_1 := opsAt n44_1
theorem e44_1 : n44_1 = .region 0 (r44_1).toArray false := rfl
theorem e44_2 : n44_2 = .seq n44_3 n44_4 := rfl
noncomputable def r44_3 := opsAt n44_3
theorem e44_3 : n44_3 = .region 1 (r44_3).toArray true := rfl
noncomputable def r44_3a := ver1 6 7 r44_3
theorem a44_3a : anyOk r44_3a = true := by decide +kernel
noncomputable def r44_3b := ver2 6 7 r44_3
theorem a44_3b : anyOk r44_3b = true := by decide +kernel
theorem e44_4 : n44_4 = .seq n44_5 n44_6 := rfl
noncomputable def r44_5 := opsAt n44_5
theorem e44_5 : n44_5 = .region 2 (r44_5).toArray false := rfl
theorem e44_6 : n44_6 = .seq n44_7 n44_12 := rfl
theorem e44_7 : n44_7 = .seq n44_8 n44_9 := rfl
noncomputable def r44_8 := opsAt n44_8
theorem e44_8 : n44_8 = .region 3 (r44_8).toArray false := rfl
theorem e44_9 : n44_9 = .cond (.tmp 22) n44_10 n44_11 := rfl
noncomputable def r44_10 := opsAt n44_10
theorem e44_10 : n44_10 = .region 4 (r44_10).toArray true := rfl
theorem a44_10 : anyOk r44_10 = true := by decide +kernel
theorem e44_11 : n44_11 = .skip := rfl
theorem e44_12 : n44_12 = .seq n44_13 n44_14 := rfl
noncomputable def r44_13 := opsAt n44_13
theorem e44_13 : n44_13 = .region 5 (r44_13).toArray true := rfl
theorem a44_13 : anyOk r44_13 = true := by decide +kernel
theorem e44_14 : n44_14 = .ret := rfl
theorem f_group_fold : PureOk Try.prog 44 sGFold := by
  refine pureOk_of (c := n44_0) (Γ := conOf [(39, .pure sFromUint), (43, .pure sMul), (60, .pure sAdd)]) (conOf_ok (conOf_one (S := .pure sFromUint) f_wide_FromUint (conOf_one (S := .pure sMul) f_wide_Mul (conOf_one (S := .pure sAdd) f_wide_Add (conOf_end))))) mixed Try.func44 B44_eq (by decide +kernel) Try.call44 ?_
  intro args hS
  unfold sGFold at hS ⊢
  split at hS
  · refine ⟨by rw [Try.ntmps44]; simp, vC_sound ?_⟩
    rename_i xh xl
    obtain ⟨hh, hl⟩ := hS
    obtain ⟨h, lh, rfl⟩ := isU_out hh
    obtain ⟨l, ll, rfl⟩ := isU_out hl
    simp only [uv_u4, mod_eq_of_lt lh, mod_eq_of_lt ll]
    clear hh hl
    simp only [qz26, reduceAdd]
    repeat' (first | (with_reducible first | apply seqC_normal | apply seqC_ret) | ((with_reducible apply wC_seq e44_0; apply wC_region e44_1); refine vOps_open (l := _ :: _) rfl ?_) | ((with_reducible apply wC_seq e44_2; apply wC_two 6 7 e44_3 (l1 := r44_3a) (l2 := r44_3b) rfl rfl (by decide +kernel) a44_3a a44_3b); refine vOps_open (l := [_, _, _, _, _, _, _, _, _, _]) rfl ?_; (repeat' (first | ((first | refine kOps_loadp (pre := ?_) (val := ?_) rfl rfl rfl rfl rfl ty24 ?_ ?_ ?_ | refine kOps_loadr (pre := ?_) (val := ?_) rfl rfl rfl rfl ty24 ?_ ?_ ?_); rotate_left 2; (simp only [qz1, splice_cl, splice_one, len_cl, reduceMod, reduceAdd, reduceSub, reduceMul, reduceDiv, reduceLT, reduceLeDiff, reduceEqDiff, qz5, eq_self, if_false, if_true, reduceIte, zero_mod, qz11, cl_one, mod_eq_of_lt (fold_hi lh ll), qz2, zero_add, mod_eq_of_lt lh, mod_eq_of_lt ll, partF, isAggD, qz0, agg_cl, toNat_natCast, reduceToNat, qz4, n_add_zero, qz15, length_map]; rfl); (focus ((repeat' apply And.intro) <;> first | exact True.intro | omega | (with_reducible rfl) | assumption | exact ⟨_, rfl⟩ | (simp only [sda]; done) | (simp only [len_cl]; omega) | (simp [Value.cells, Value.oneCell']; done)))) | (refine kOps_callc (pre := ?_) (val := ?_) rfl rfl rfl rfl rfl ?_ ?_ ?_ ?_ ?_; rotate_left 2; (simp only [qz1, splice_cl, splice_one, len_cl, reduceMod, reduceAdd, reduceSub, reduceMul, reduceDiv, reduceLT, reduceLeDiff, reduceEqDiff, qz5, eq_self, if_false, if_true, reduceIte, zero_mod, qz11, cl_one, mod_eq_of_lt (fold_hi lh ll), qz2, zero_add, mod_eq_of_lt lh, mod_eq_of_lt ll, sFromUint, sMul, sAdd, lit_ul0, lit_ul1, lc_36113, nrmC, qz9, qz8, qz25, ulv_ul, uv_u4, qz12, and_self, n_add_zero, n_sub_zero]; rfl); (focus (first | rfl | (simp only [closed, closedL, qz18, closedL_bv, closedL_cl, Bool.and_self, Bool.and_true]; done))); (focus (first | rfl | (simp only [closed, closedL, qz18, closedL_bv, closedL_cl, Bool.and_self, Bool.and_true]; done))); (focus ((repeat' apply And.intro) <;> first | exact True.intro | omega | (with_reducible rfl) | assumption | exact ⟨_, rfl⟩ | (simp only [sda]; done) | (simp only [len_cl]; omega) | (simp [Value.cells, Value.oneCell']; done)))) | (refine kOps_mv rfl rfl rfl rfl ?_) | (refine kOps_ext rfl rfl rfl rfl rfl ?_) | (refine kOps_alloc (row := ?_) (n := ?_) rfl rfl rfl rfl ty24 ?_ ?_ ?_ ?_; rotate_left 2; (simp only [↓length_append, ↓length_set, ↓length_cons, length_nil, reduceAdd, zero_add]; rfl); (simp only [qz1, splice_cl, splice_one, len_cl, reduceMod, reduceAdd, reduceSub, reduceMul, reduceDiv, reduceLT, reduceLeDiff, reduceEqDiff, qz5, eq_self, if_false, if_true, reduceIte, zero_mod, qz11, cl_one, mod_eq_of_lt (fold_hi lh ll), qz2, zero_add, mod_eq_of_lt lh, mod_eq_of_lt ll, Value.cells, qz9, List.toList_toArray, zero_cl4, zero_cl8, lit_ul0]; rfl); (focus (first | (simp only [Value.cells, List.toList_toArray, qz23, Value.oneCell', and_self]; done) | (simp [Value.cells, Value.oneCell']; done)))) | (refine kOps_store (cs' := ?_) rfl rfl rfl rfl rfl rfl rfl ty24 ?_ ?_ ?_; rotate_left 1; (simp only [qz1, splice_cl, splice_one, len_cl, reduceMod, reduceAdd, reduceSub, reduceMul, reduceDiv, reduceLT, reduceLeDiff, reduceEqDiff, qz5, eq_self, if_false, if_true, reduceIte, zero_mod, qz11, cl_one, mod_eq_of_lt (fold_hi lh ll), qz2, zero_add, mod_eq_of_lt lh, mod_eq_of_lt ll, lit_ul0, lit_ul1, lc_36113, qz14, isAggD, qz0, agg_cl, toNat_natCast, reduceToNat, qz4, n_add_zero, qz15, length_map]; rfl); (focus (first | (simp only [lit_ul0, lit_ul1, lc_36113, qz14, length_cons, length_nil, len_cl, length_set, length_map, reduceAdd, zero_add, all_cons, all_nil, qz19, one_bv, PV.one, Value.oneCell', Bool.and_self, reduceLeDiff, Nat.le_refl, and_self, qz12]; done) | ((try simp only [lit_ul0, lit_ul1, lc_36113, qz14]); (focus ((repeat' apply And.intro) <;> first | exact True.intro | omega | (with_reducible rfl) | assumption | exact ⟨_, rfl⟩ | (simp only [sda]; done) | (simp only [len_cl]; omega) | (simp [Value.cells, Value.oneCell']; done))))))) | (refine vOps_nil ?_; refine And.intro (by kernel_rfl) ⟨[0, 1, 2, 3, 5, 4], ?_⟩; (refine weak_mk (fun i h => absurd h (Nat.not_lt_zero i)) (by decide) (by simp) ?_ ?_; (focus (simp only [RenRows, qz16, qz6, qz3, qz28, closedL_bv, closedL_cl, closedL_hl, qz12])); (focus (simp only [RenEnv, qz7, Nat.reduceBEq]; (repeat' apply And.intro) <;> first | trivial | (refine ren_ptr rfl; done) | exact ren_keep rfl | exact ren_keep (closed_u4 _) | exact ren_keep (closed_h32 _) | (refine ren_keep ?_; simp only [closed, closedL, qz18, closedL_cl, closed_h32, Bool.and_self]; done))))) | (refine vOps_nil ?_; refine And.intro (by kernel_rfl) (And.intro ?_ ?_); refine vOps_open (l := [_, _, _, _, _, _, _, _, _, _]) rfl ?_)))) | ((with_reducible apply wC_seq e44_4; apply wC_region e44_5); refine vOps_open (l := _ :: _) rfl ?_) | ((with_reducible apply wC_seq e44_6; apply wC_seq e44_7; apply wC_region e44_8); refine vOps_open (l := _ :: _) rfl ?_) | ((with_reducible apply kC_cond e44_9); (exact rfl); all_goals (intro hb; first | (cases hb; done) | cases hb | ((try simp only [dxe] at hb); try (exfalso; first | omega | exact hb trivial)))) | ((with_reducible apply wC_any e44_10 a44_10); refine vOps_open (l := _ :: _) rfl ?_) | ((with_reducible apply wC_skip e44_11)) | ((with_reducible apply wC_seq e44_12; apply wC_any e44_13 a44_13); refine vOps_open (l := _ :: _) rfl ?_) | ((with_reducible apply wC_ret e44_14)) | ((with_reducible apply vOps_nil); try (with_reducible refine And.intro (by kernel_rfl) ?_)) | (refine kOps_box (row := ?_) (n := ?_) rfl rfl rfl rfl rfl ?_ ?_ ?_ ?_; rotate_left 2; (simp only [↓length_append, ↓length_set, ↓length_cons, length_nil, reduceAdd, zero_add]; rfl); (simp only [qz1, splice_cl, splice_one, len_cl, reduceMod, reduceAdd, reduceSub, reduceMul, reduceDiv, reduceLT, reduceLeDiff, reduceEqDiff, qz5, eq_self, if_false, if_true, reduceIte, zero_mod, qz11, cl_one, mod_eq_of_lt (fold_hi lh ll), qz2, zero_add, mod_eq_of_lt lh, mod_eq_of_lt ll, qz14]; rfl); (focus (first | rfl | exact one_cl _ _ | exact one_bv _ | (simp only [qz19, all_cons, all_nil, Bool.and_self, PV.one]; done) | (simp [PV.one, qz19, one_bv, Value.oneCell']; done)))) | (refine kOps_alloc (row := ?_) (n := ?_) rfl rfl rfl rfl ty24 ?_ ?_ ?_ ?_; rotate_left 2; (simp only [↓length_append, ↓length_set, ↓length_cons, length_nil, reduceAdd, zero_add]; rfl); (simp only [qz1, splice_cl, splice_one, len_cl, reduceMod, reduceAdd, reduceSub, reduceMul, reduceDiv, reduceLT, reduceLeDiff, reduceEqDiff, qz5, eq_self, if_false, if_true, reduceIte, zero_mod, qz11, cl_one, mod_eq_of_lt (fold_hi lh ll), qz2, zero_add, mod_eq_of_lt lh, mod_eq_of_lt ll, Value.cells, qz9, List.toList_toArray, zero_cl4, zero_cl8, lit_ul0]; rfl); (focus (first | (simp only [Value.cells, List.toList_toArray, qz23, Value.oneCell', and_self]; done) | (simp [Value.cells, Value.oneCell']; done)))) | ((first | refine kOps_loadp (pre := ?_) (val := ?_) rfl rfl rfl rfl rfl ty24 ?_ ?_ ?_ | refine kOps_loadr (pre := ?_) (val := ?_) rfl rfl rfl rfl ty24 ?_ ?_ ?_); rotate_left 2; (simp only [qz1, splice_cl, splice_one, len_cl, reduceMod, reduceAdd, reduceSub, reduceMul, reduceDiv, reduceLT, reduceLeDiff, reduceEqDiff, qz5, eq_self, if_false, if_true, reduceIte, zero_mod, qz11, cl_one, mod_eq_of_lt (fold_hi lh ll), qz2, zero_add, mod_eq_of_lt lh, mod_eq_of_lt ll, partF, isAggD, qz0, agg_cl, toNat_natCast, reduceToNat, qz4, n_add_zero, qz15, length_map]; rfl); (focus ((repeat' apply And.intro) <;> first | exact True.intro | omega | (with_reducible rfl) | assumption | exact ⟨_, rfl⟩ | (simp only [sda]; done) | (simp only [len_cl]; omega) | (simp [Value.cells, Value.oneCell']; done)))) | (refine kOps_callc (pre := ?_) (val := ?_) rfl rfl rfl rfl rfl ?_ ?_ ?_ ?_ ?_; rotate_left 2; (simp only [qz1, splice_cl, splice_one, len_cl, reduceMod, reduceAdd, reduceSub, reduceMul, reduceDiv, reduceLT, reduceLeDiff, reduceEqDiff, qz5, eq_self, if_false, if_true, reduceIte, zero_mod, qz11, cl_one, mod_eq_of_lt (fold_hi lh ll), qz2, zero_add, mod_eq_of_lt lh, mod_eq_of_lt ll, sFromUint, sMul, sAdd, lit_ul0, lit_ul1, lc_36113, nrmC, qz9, qz8, qz25, ulv_ul, uv_u4, qz12, and_self, n_add_zero, n_sub_zero]; rfl); (focus (first | rfl | (simp only [closed, closedL, qz18, closedL_bv, closedL_cl, Bool.and_self, Bool.and_true]; done))); (focus (first | rfl | (simp only [closed, closedL, qz18, closedL_bv, closedL_cl, Bool.and_self, Bool.and_true]; done))); (focus ((repeat' apply And.intro) <;> first | exact True.intro | omega | (with_reducible rfl) | assumption | exact ⟨_, rfl⟩ | (simp only [sda]; done) | (simp only [len_cl]; omega) | (simp [Value.cells, Value.oneCell']; done)))) | (refine kOps_mv rfl rfl rfl rfl ?_) | (refine kOps_ext rfl rfl rfl rfl rfl ?_) | (refine kOps_store (cs' := ?_) rfl rfl rfl rfl rfl rfl rfl ty24 ?_ ?_ ?_; rotate_left 1; (simp only [qz1, splice_cl, splice_one, len_cl, reduceMod, reduceAdd, reduceSub, reduceMul, reduceDiv, reduceLT, reduceLeDiff, reduceEqDiff, qz5, eq_self, if_false, if_true, reduceIte, zero_mod, qz11, cl_one, mod_eq_of_lt (fold_hi lh ll), qz2, zero_add, mod_eq_of_lt lh, mod_eq_of_lt ll, lit_ul0, lit_ul1, lc_36113, qz14, isAggD, qz0, agg_cl, toNat_natCast, reduceToNat, qz4, n_add_zero, qz15, length_map]; rfl); (focus (first | (simp only [lit_ul0, lit_ul1, lc_36113, qz14, length_cons, length_nil, len_cl, length_set, length_map, reduceAdd, zero_add, all_cons, all_nil, qz19, one_bv, PV.one, Value.oneCell', Bool.and_self, reduceLeDiff, Nat.le_refl, and_self, qz12]; done) | ((try simp only [lit_ul0, lit_ul1, lc_36113, qz14]); (focus ((repeat' apply And.intro) <;> first | exact True.intro | omega | (with_reducible rfl) | assumption | exact ⟨_, rfl⟩ | (simp only [sda]; done) | (simp only [len_cl]; omega) | (simp [Value.cells, Value.oneCell']; done))))))) | (refine kOps_as rfl rfl rfl rfl ?_))
    all_goals (
    refine fin_c (p := ?_) (xs := [.cell 4 24, .cell 5 24]) (by simp) rfl ?_ ?_ ?_ ?_
    rotate_left 2
    · simp only [rsx, qz9, qz1, splice_cl, splice_one, len_cl, reduceMod, reduceAdd, reduceSub, reduceMul, reduceDiv, reduceLT, reduceLeDiff, reduceEqDiff, qz5, eq_self, if_false, if_true, reduceIte, zero_mod, qz11, cl_one, mod_eq_of_lt (fold_hi lh ll), qz2, zero_add, mod_eq_of_lt lh, mod_eq_of_lt ll, evalIn_tmp, evalIn_const, evalIn_func, qz7, Nat.reduceBEq, lit_ul0, lit_ul1, loadF, partF, qz3, qz6, qz16, qz12, and_self, Nat.le_refl, isAggD, qz0, agg_cl, toNat_natCast, reduceToNat, qz4, n_add_zero, qz15, length_map, ty22, ty24]; try rfl
    · first | rfl | (simp only [closed, closedL, qz18, closedL_cl, closedL_bv, Bool.and_self, Bool.and_true]; first | done | rfl)
    · try simp only [← cl4, agg_cl]
      first
      | (have hd : (h * 36113 + l) / 115792089237316195423570985008687907853269984665640564039457584007913129639936 = h * 36113 / 115792089237316195423570985008687907853269984665640564039457584007913129639936 := by omega
         rw [hd]
         exact tup2 (u4_congr (by omega)) (u4_congr (by omega)))
      | (have hd : (h * 36113 + l) / 115792089237316195423570985008687907853269984665640564039457584007913129639936 = h * 36113 / 115792089237316195423570985008687907853269984665640564039457584007913129639936 + 1 := by omega
         rw [hd]
         exact tup2 (u4_congr (by omega)) (u4_congr (by omega)))
    · simp only [rsx, qz9, qz1, splice_cl, splice_one, len_cl, reduceMod, reduceAdd, reduceSub, reduceMul, reduceDiv, reduceLT, reduceLeDiff, reduceEqDiff, qz5, eq_self, if_false, if_true, reduceIte, zero_mod, qz11, cl_one, mod_eq_of_lt (fold_hi lh ll), qz2, zero_add, mod_eq_of_lt lh, mod_eq_of_lt ll, evalIn_tmp, evalIn_const, evalIn_func, qz7, Nat.reduceBEq, lit_ul0, lit_ul1, loadF, partF, qz3, qz6, qz16, qz12, and_self, Nat.le_refl, isAggD, qz0, agg_cl, toNat_natCast, reduceToNat, qz4, n_add_zero, qz15, length_map, ty22, ty24]; try trivial)
  · exact hS.elim
theorem f_bits_Sub64 : ExtOk Try.prog 57 sSub64 := sub64_ext Try.func57 (by kernel_rfl) (by kernel_rfl) (by kernel_rfl) (by kernel_rfl)
noncomputable def B49 : Code := bodyOf Try.f49
theorem B49_eq : Try.f49.body = some B49 := by kernel_rfl
noncomputable def n49_0 := B49
noncomputable def n49_1 := codeAt B49 [0]
noncomputable def n49_2 := codeAt B49 [1]
noncomputable def n49_3 := codeAt B49 [1,0]
noncomputable def n49_4 := codeAt B49 [1,1]
noncomputable def n49_5 := codeAt B49 [1,1,0]
noncomputable def n49_6 := codeAt B49 [1,1,1]
noncomputable def n49_7 := codeAt B49 [1,1,1,0]
noncomputable def n49_8 := codeAt B49 [1,1,1,0,0]
noncomputable def n49_9 := codeAt B49 [1,1,1,0,1]
noncomputable def n49_10 := codeAt B49 [1,1,1,0,1,0]
noncomputable def n49_11 := codeAt B49 [1,1,1,0,1,0,0]
noncomputable def n49_12 := codeAt B49 [1,1,1,0,1,0,0,0]
noncomputable def n49_13 := codeAt B49 [1,1,1,0,1,0,0,1]
noncomputable def n49_14 := codeAt B49 [1,1,1,0,1,0,0,1,0]
noncomputable def n49_15 := codeAt B49 [1,1,1,0,1,0,0,1,0,0]
noncomputable def n49_16 := codeAt B49 [1,1,1,0,1,0,0,1,0,1]
noncomputable def n49_17 := codeAt B49 [1,1,1,0,1,0,0,1,1]
noncomputable def n49_18 := codeAt B49 [1,1,1,0,1,0,0,1,1,0]
noncomputable def n49_19 := codeAt B49 [1,1,1,0,1,0,0,1,1,0,0]
noncomputable def n49_20 := codeAt B49 [1,1,1,0,1,0,0,1,1,0,0,0]
noncomputable def n49_21 := codeAt B49 [1,1,1,0,1,0,0,1,1,0,0,1]
noncomputable def n49_22 := codeAt B49 [1,1,1,0,1,0,0,1,1,1]
noncomputable def n49_23 := codeAt B49 [1,1,1,1]
noncomputable def n49_24 := codeAt B49 [1,1,1,1,0]
noncomputable def n49_25 := codeAt B49 [1,1,1,1,1]
theorem e49_0 : n49_0 = .seq n49_1 n49_2 := rfl
noncomputable def r49_1 := opsAt n49_1
theorem e49_1 : n49_1 = .region 0 (r49_1).toArray false := rfl
theorem e49_2 : n49_2 = .seq n49_3 n49_4 := rfl
noncomputable def r49_3 := opsAt n49_3
theorem e49_3 : n49_3 = .region 1 (r49_3).toArray false := rfl
theorem e49_4 : n49_4 = .seq n49_5 n49_6 := rfl
noncomputable def r49_5 := opsAt n49_5
theorem e49_5 : n49_5 = .region 2 (r49_5).toArray false := rfl
theorem e49_6 : n49_6 = .seq n49_7 n49_23 := rfl
theorem e49_7 : n49_7 = .seq n49_8 n49_9 := rfl
noncomputable def r49_8 := opsAt n49_8
theorem e49_8 : n49_8 = .region 3 (r49_8).toArray false := rfl
theorem e49_9 : n49_9 = .block 0 n49_10 := rfl
theorem e49_10 : n49_10 = .loop n49_11 := rfl
theorem e49_11 : n49_11 = .seq n49_12 n49_13 := rfl
noncomputable def r49_12 := opsAt n49_12
theorem e49_12 : n49_12 = .region 4 (r49_12).toArray false := rfl
theorem e49_13 : n49_13 = .seq n49_14 n49_17 := rfl
theorem e49_14 : n49_14 = .cond (.tmp 10) n49_15 n49_16 := rfl
theorem e49_15 : n49_15 = .skip := rfl
theorem e49_16 : n49_16 = .exit 0 := rfl
theorem e49_17 : n49_17 = .seq n49_18 n49_22 := rfl
theorem e49_18 : n49_18 = .block 1 n49_19 := rfl
theorem e49_19 : n49_19 = .seq n49_20 n49_21 := rfl
noncomputable def r49_20 := opsAt n49_20
theorem e49_20 : n49_20 = .region 5 (r49_20).toArray false := rfl
noncomputable def r49_21 := opsAt n49_21
theorem e49_21 : n49_21 = .region 6 (r49_21).toArray true := rfl
theorem a49_21 : anyOk r49_21 = true := by decide +kernel
noncomputable def r49_22 := opsAt n49_22
theorem e49_22 : n49_22 = .region 7 (r49_22).toArray false := rfl
theorem e49_23 : n49_23 = .seq n49_24 n49_25 := rfl
noncomputable def r49_24 := opsAt n49_24
theorem e49_24 : n49_24 = .region 8 (r49_24).toArray false := rfl
theorem e49_25 : n49_25 = .ret := rfl
theorem f_wide_Sub : PureOk Try.prog 49 sSub := by
  refine pureOk_of (c := n49_0) (Γ := conOf [(57, .ext sSub64)]) (conOf_ok (conOf_one (S := .ext sSub64) f_bits_Sub64 (conOf_end))) mixed Try.func49 B49_eq (by decide +kernel) Try.call49 ?_
  intro args hS
  unfold sSub at hS ⊢
  split at hS
  · refine ⟨by rw [Try.ntmps49]; simp, vC_sound ?_⟩
    rename_i xa xb
    obtain ⟨ha, hb⟩ := hS
    obtain ⟨a, la, rfl⟩ := isU_out ha
    obtain ⟨b, lb, rfl⟩ := isU_out hb
    simp only [uv_u4, mod_eq_of_lt la, mod_eq_of_lt lb]
    clear ha hb
    simp only [qz26, reduceAdd]
    repeat' (first | (with_reducible first | apply seqC_normal | apply wunrC_normal | apply blockC_normal | apply seqC_exit | apply blockC_hit | apply wunrC_exit | apply seqC_ret | apply blockC_ret | apply wunrC_ret | apply loopC_ret | apply loopC_exit) | ((with_reducible apply blockC_miss); (exact rfl)) | ((with_reducible apply wC_seq e49_0; apply wC_region e49_1); refine vOps_open (l := _ :: _) rfl ?_) | ((with_reducible apply wC_seq e49_2; apply wC_region e49_3); refine vOps_open (l := _ :: _) rfl ?_) | ((with_reducible apply wC_seq e49_4; apply wC_region e49_5); refine vOps_open (l := _ :: _) rfl ?_) | ((with_reducible apply wC_seq e49_6; apply wC_seq e49_7; apply wC_region e49_8); refine vOps_open (l := _ :: _) rfl ?_) | ((with_reducible apply wC_block e49_9; apply kC_unroll [2, 3, 4, 6, 7, 9] e49_10); (exact rfl); (exact rfl); (with_reducible apply wC_seq e49_11; apply wC_region e49_12); refine vOps_open (l := _ :: _) rfl ?_) | ((with_reducible apply kC_unroll [2, 3, 4, 6, 7, 9] e49_10); (exact rfl); (exact rfl); (with_reducible apply wC_seq e49_11; apply wC_region e49_12); refine vOps_open (l := _ :: _) rfl ?_) | ((with_reducible apply wC_seq e49_13; apply kC_cond e49_14); (exact rfl); all_goals (intro hb; first | (cases hb; done) | cases hb | ((try simp only [dxe] at hb); try (exfalso; first | omega | exact hb trivial)))) | ((with_reducible apply wC_skip e49_15)) | ((with_reducible apply wC_exit e49_16)) | ((with_reducible apply wC_seq e49_17; apply wC_block e49_18; apply wC_seq e49_19; apply wC_region e49_20); refine vOps_open (l := _ :: _) rfl ?_) | ((with_reducible apply wC_any e49_21 a49_21); refine vOps_open (l := _ :: _) rfl ?_) | ((with_reducible apply wC_region e49_22); refine vOps_open (l := _ :: _) rfl ?_) | ((with_reducible apply wC_seq e49_23; apply wC_region e49_24); refine vOps_open (l := _ :: _) rfl ?_) | ((with_reducible apply wC_ret e49_25)) | ((with_reducible apply vOps_nil); try (with_reducible refine And.intro (by kernel_rfl) ?_)) | (refine kOps_box (row := ?_) (n := ?_) rfl rfl rfl rfl rfl ?_ ?_ ?_ ?_; rotate_left 2; (simp only [↓length_append, ↓length_set, ↓length_cons, length_nil, reduceAdd, zero_add]; rfl); (simp only [cl4, qz14, qz17]; rfl); (focus (first | rfl | exact one_cl _ _ | exact one_bv _ | (simp only [qz19, all_cons, all_nil, Bool.and_self, PV.one]; done) | (simp [PV.one, qz19, one_bv, Value.oneCell']; done)))) | (refine kOps_alloc (row := ?_) (n := ?_) rfl rfl rfl rfl ty24 ?_ ?_ ?_ ?_; rotate_left 2; (simp only [↓length_append, ↓length_set, ↓length_cons, length_nil, reduceAdd, zero_add]; rfl); (simp only [cl4, Value.cells, qz9, List.toList_toArray, zero_cl4, zero_cl8, lit_ul0]; rfl); (focus (first | (simp only [Value.cells, List.toList_toArray, qz23, Value.oneCell', and_self]; done) | (simp [Value.cells, Value.oneCell']; done)))) | (refine kOps_as rfl rfl rfl rfl ?_) | (refine kOps_asc rfl rfl rfl lit_ul0 ?_) | (refine kOps_mv rfl rfl rfl rfl ?_) | (refine kOps_bin (b := .lss) (pre := ?_) (val := ?_) rfl rfl rfl rfl rfl ?_ ?_ ?_; rotate_left 2; (intro L; simp only [cl4, eql_u4 ty24 ty22, neq_u4 ty24 ty22, lit_ul0, lit_ul1, qz35, Int.reduceAdd, Int.reduceSub, Int.reduceMul, Int.reduceNeg, Int.sub_zero, cast_ofNat_Int, ne_eq, Int.reduceLT, Int.reduceLE, Int.reduceEq, reduceMod, reduceLT, qz5, ty3]; (first | (rw [wrap_i64] <;> first | omega | rfl) | (rw [wrap_u8] <;> first | omega | rfl) | (rw [wrap_u16] <;> first | omega | rfl) | (rw [wrap_u32] <;> first | omega | rfl) | rfl)); exact trivial) | ((first | (refine kOps_ixap (off' := ?_) rfl rfl rfl rfl rfl rfl ty24 ty22 ?_ ?_ ?_; rotate_left 1; (simp only [cl4, zero_add, n_add_zero, qz4, one_mul, toNat_natCast, reduceToNat, reduceMul, reduceAdd]; rfl)) | (refine kOps_ixaq (cs' := ?_) rfl rfl rfl rfl rfl ty24 ty22 ?_ ?_ ?_; rotate_left 1; (simp only [cl4, elemAt, isAggD, qz0, if_false, qz3, qz10, length_cons, length_nil, qz6, zero_add, n_add_zero, qz4, reduceAdd, reduceMul, toNat_natCast, reduceToNat, agg_cl, len_cl]; rfl))); (focus ((repeat' apply And.intro) <;> first | exact True.intro | omega | (with_reducible rfl) | assumption | exact ⟨_, rfl⟩ | (simp only [sda]; done) | (simp only [len_cl]; omega) | (simp [Value.cells, Value.oneCell']; done)))) | ((first | refine kOps_loadp (pre := ?_) (val := ?_) rfl rfl rfl rfl rfl ty22 ?_ ?_ ?_ | refine kOps_loadr (pre := ?_) (val := ?_) rfl rfl rfl rfl ty22 ?_ ?_ ?_); rotate_left 2; (simp only [cl4, partF, isAggD, qz0, if_false, qz3, qz10, length_cons, length_nil, qz6, zero_add, n_add_zero, qz4, reduceAdd, reduceMul, toNat_natCast, reduceToNat, agg_cl, len_cl]; rfl); (focus ((repeat' apply And.intro) <;> first | exact True.intro | omega | (with_reducible rfl) | assumption | exact ⟨_, rfl⟩ | (simp only [sda]; done) | (simp only [len_cl]; omega) | (simp [Value.cells, Value.oneCell']; done)))) | (refine kOps_calle (pre := ?_) (val := ?_) rfl rfl rfl rfl rfl ?_ ?_ ?_; rotate_left 2; (simp only [cl4, subd0, subd1, subc1, subd2, subc2, subd3, subc3, zero_mod, n_sub_zero, sSub64, lit_ul0, lit_ul1, nrmC, qz9, qz8, qz25, ulv_ul, uv_u4, qz12, and_self, n_add_zero, zero_add]; rfl); (focus ((repeat' apply And.intro) <;> first | exact True.intro | omega | (with_reducible rfl) | assumption | exact ⟨_, rfl⟩ | (simp only [sda]; done) | (simp only [len_cl]; omega) | (simp [Value.cells, Value.oneCell']; done)))) | (refine kOps_ext rfl rfl rfl rfl rfl ?_) | (refine kOps_store (cs' := ?_) rfl rfl rfl rfl rfl rfl rfl ty22 ?_ ?_ ?_; rotate_left 1; (simp only [cl4, lit_ul0, lit_ul1, splice, qz14, qz17, isAggD, qz0, if_false, qz3, qz10, length_cons, length_nil, qz6, zero_add, n_add_zero, qz4, reduceAdd, reduceMul, toNat_natCast, reduceToNat, agg_cl, len_cl]; rfl); (focus (first | (simp only [lit_ul0, lit_ul1, qz14, qz17, length_cons, length_nil, len_cl, length_set, length_map, reduceAdd, zero_add, all_cons, all_nil, qz19, one_bv, PV.one, Value.oneCell', Bool.and_self, reduceLeDiff, Nat.le_refl, and_self, qz12]; done) | ((try simp only [lit_ul0, lit_ul1, qz14, qz17]); (focus ((repeat' apply And.intro) <;> first | exact True.intro | omega | (with_reducible rfl) | assumption | exact ⟨_, rfl⟩ | (simp only [sda]; done) | (simp only [len_cl]; omega) | (simp [Value.cells, Value.oneCell']; done))))))) | (refine kOps_bin (b := .add) (pre := ?_) (val := ?_) rfl rfl rfl rfl rfl ?_ ?_ ?_; rotate_left 2; (intro L; simp only [cl4, eql_u4 ty24 ty22, neq_u4 ty24 ty22, lit_ul0, lit_ul1, qz34, Int.reduceAdd, Int.reduceSub, Int.reduceMul, Int.reduceNeg, Int.sub_zero, cast_ofNat_Int, ne_eq, Int.reduceLT, Int.reduceLE, Int.reduceEq, reduceMod, reduceLT, qz5, ty3]; (first | (rw [wrap_i64] <;> first | omega | rfl) | (rw [wrap_u8] <;> first | omega | rfl) | (rw [wrap_u16] <;> first | omega | rfl) | (rw [wrap_u32] <;> first | omega | rfl) | rfl)); exact trivial) | ((first | refine kOps_loadp (pre := ?_) (val := ?_) rfl rfl rfl rfl rfl ty24 ?_ ?_ ?_ | refine kOps_loadr (pre := ?_) (val := ?_) rfl rfl rfl rfl ty24 ?_ ?_ ?_); rotate_left 2; (simp only [cl4, partF, isAggD, qz0, if_false, qz3, qz10, length_cons, length_nil, qz6, zero_add, n_add_zero, qz4, reduceAdd, reduceMul, toNat_natCast, reduceToNat, agg_cl, len_cl]; rfl); (focus ((repeat' apply And.intro) <;> first | exact True.intro | omega | (with_reducible rfl) | assumption | exact ⟨_, rfl⟩ | (simp only [sda]; done) | (simp only [len_cl]; omega) | (simp [Value.cells, Value.oneCell']; done)))) | (refine kOps_bin (b := .neq) (pre := ?_) (val := ?_) rfl rfl rfl rfl rfl ?_ ?_ ?_; rotate_left 2; (intro L; simp only [cl4, eql_u4 ty24 ty22, neq_u4 ty24 ty22, lit_ul0, lit_ul1, qz37, Int.reduceAdd, Int.reduceSub, Int.reduceMul, Int.reduceNeg, Int.sub_zero, cast_ofNat_Int, ne_eq, Int.reduceLT, Int.reduceLE, Int.reduceEq, reduceMod, reduceLT, qz5, ty22]; (first | (rw [wrap_i64] <;> first | omega | rfl) | (rw [wrap_u8] <;> first | omega | rfl) | (rw [wrap_u16] <;> first | omega | rfl) | (rw [wrap_u32] <;> first | omega | rfl) | rfl)); (focus ((repeat' apply And.intro) <;> first | exact True.intro | omega | (with_reducible rfl) | assumption | exact ⟨_, rfl⟩ | (simp only [sda]; done) | (simp only [len_cl]; omega) | (simp [Value.cells, Value.oneCell']; done)))) | (refine kOps_store (cs' := ?_) rfl rfl rfl rfl rfl rfl rfl ty24 ?_ ?_ ?_; rotate_left 1; (simp only [cl4, lit_ul0, lit_ul1, splice, qz14, qz17, isAggD, qz0, if_false, qz3, qz10, length_cons, length_nil, qz6, zero_add, n_add_zero, qz4, reduceAdd, reduceMul, toNat_natCast, reduceToNat, agg_cl, len_cl]; rfl); (focus (first | (simp only [lit_ul0, lit_ul1, qz14, qz17, length_cons, length_nil, len_cl, length_set, length_map, reduceAdd, zero_add, all_cons, all_nil, qz19, one_bv, PV.one, Value.oneCell', Bool.and_self, reduceLeDiff, Nat.le_refl, and_self, qz12]; done) | ((try simp only [lit_ul0, lit_ul1, qz14, qz17]); (focus ((repeat' apply And.intro) <;> first | exact True.intro | omega | (with_reducible rfl) | assumption | exact ⟨_, rfl⟩ | (simp only [sda]; done) | (simp only [len_cl]; omega) | (simp [Value.cells, Value.oneCell']; done))))))))
    refine fin_c (p := ?_) (xs := [.cell 4 24, .tmp 5]) (by simp) rfl ?_ ?_ ?_ ?_
    rotate_left 2
    · simp only [rsx, qz9, cl4, evalIn_tmp, evalIn_const, evalIn_func, qz7, Nat.reduceBEq, lit_ul0, lit_ul1, loadF, partF, cast_ofNat_Int, qz22, qz10, Int.reduceSub, qz3, qz0, length_cons, length_nil, qz6, zero_add, n_add_zero, qz4, one_mul, reduceAdd, reduceMul, reduceSub, reduceLeDiff, reduceEqDiff, toNat_natCast, reduceToNat, reduceIte, if_true, if_false, isAggD, len_cl, agg_cl, qz15, length_map, qz16, qz12, and_self, ty3, ty22, ty24]; try rfl
    · first | rfl | (simp only [closed, closedL, qz18, closedL_cl, closedL_bv, Bool.and_self, Bool.and_true]; first | done | rfl)
    · try simp only [← cl4, agg_cl]
      exact tup2 (u4_congr (by omega)) (bool_eq (by omega))
    · simp only [rsx, qz9, cl4, evalIn_tmp, evalIn_const, evalIn_func, qz7, Nat.reduceBEq, lit_ul0, lit_ul1, loadF, partF, cast_ofNat_Int, qz22, qz10, Int.reduceSub, qz3, qz0, length_cons, length_nil, qz6, zero_add, n_add_zero, qz4, one_mul, reduceAdd, reduceMul, reduceSub, reduceLeDiff, reduceEqDiff, toNat_natCast, reduceToNat, reduceIte, if_true, if_false, isAggD, len_cl, agg_cl, qz15, length_map, qz16, qz12, and_self, ty3, ty22, ty24]; try trivial
  · exact hS.elim
end Go.Ab
