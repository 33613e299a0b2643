import Derived.Test.YtmnkapmcclhiiaaQZ
import Derived.Test.YtmnkapmcclhiiaaME
import Derived.Test.YtmnkapmcclhiiaaTY
import Derived.Test.YtmnkapmcclhiiaaMV
import Derived.Test.YtmnkapmcclhiiaaMY
namespace Go.Ab
open Go Go.Proofs
open Nat (reduceAdd mod_eq_of_lt zero_add reduceMul reduceLeDiff reduceMod reduceLT zero_mod reduceSub reduceEqDiff reduceDiv one_mul)
open List (length_cons length_nil all_nil all_cons length_map length_set length_append)
open Int (toNat_natCast reduceToNat cast_ofNat_Int)
set_option linter.unusedVariables false
set_option linter.unusedSimpArgs false
set_option maxRecDepth 8000
set_option maxHeartbeats 4000000
noncomputable def B12 : Code := bodyOf Try.f12
theorem B12_eq : Try.f12.body = some B12 := by kernel_rfl
noncomputable def n12_0 := B12
noncomputable def n12_1 := codeAt B12 [0]
noncomputable def n12_2 := codeAt B12 [1]
noncomputable def n12_3 := codeAt B12 [1,0]
noncomputable def n12_4 := codeAt B12 [1,1]
theorem e12_0 : n12_0 = .seq n12_1 n12_2 := rfl
noncomputable def r12_1 := opsAt n12_1
theorem e12_1 : n12_1 = .region 0 (r12_1).toArray false := rfl
theorem e12_2 : n12_2 = .seq n12_3 n12_4 := rfl
noncomputable def r12_3 := opsAt n12_3
theorem e12_3 : n12_3 = .region 1 (r12_3).toArray false := rfl
theorem e12_4 : n12_4 = .ret := rfl
theorem f_group_Order : PureOk Try.prog 12 sGOrd := by
  refine pureOk_of (c := n12_0) (Γ := conOf []) (conOf_ok (conOf_end)) mixed Try.func12 B12_eq (by decide +kernel) Try.call12 ?_
  intro args hS
  unfold sGOrd at hS ⊢
  split at hS
  · refine ⟨by rw [Try.ntmps12]; simp, vC_sound ?_⟩

    simp only [qz26, reduceAdd]
    repeat' (first | (with_reducible first | apply seqC_normal | apply seqC_ret) | ((with_reducible apply wC_seq e12_0; apply wC_region e12_1); refine vOps_open (l := _ :: _) rfl ?_; refine kOps_alloc (row := ?_) (n := ?_) rfl rfl rfl rfl ty24 ?_ ?_ ?_ ?_; rotate_left 2; (simp only [↓length_append, ↓length_set, ↓length_cons, length_nil, reduceAdd, zero_add]; rfl); (simp only [cl4, qz2, zero_add, Value.cells, qz9, List.toList_toArray, zero_cl4, zero_cl8, lit_ul0]; rfl); (focus (first | (simp only [Value.cells, List.toList_toArray, qz23, Value.oneCell', and_self]; done) | (simp [Value.cells, Value.oneCell']; done))); refine vOps_nil ?_; (with_reducible apply seqC_normal; apply wC_seq e12_2; apply wC_region e12_3); refine vOps_open (l := _ :: _) rfl ?_; refine kOps_build (pre := ?_) (val := ?_) rfl rfl rfl rfl ?_ ?_ ?_; rotate_left 2; (intro L; simp only [cl4, qz2, zero_add, lc_18446744073709533559, lc_18446744073709551615, lc_9223372036854775807, buildF, fillB, zeroCells, splice, Value.cells, qz9, List.toList_toArray, zero_cl4, lit_ul0, qz14, qz17, cast_ofNat_Int, qz22, qz10, Int.reduceSub, qz3, qz0, length_cons, length_nil, qz6, n_add_zero, qz4, one_mul, reduceAdd, reduceMul, reduceSub, reduceLeDiff, reduceEqDiff, toNat_natCast, reduceToNat, reduceIte, if_true, if_false, isAggD, len_cl, agg_cl, qz15, length_map, qz16, qz12, and_self, ty24, ty22]; rfl); (focus ((repeat' apply And.intro) <;> first | exact True.intro | omega | (with_reducible rfl) | assumption | exact ⟨_, rfl⟩ | (simp only [sda]; done) | (simp only [len_cl]; omega) | (simp [Value.cells, Value.oneCell']; done))); refine kOps_store (cs' := ?_) rfl rfl rfl rfl rfl rfl rfl ty24 ?_ ?_ ?_; rotate_left 1; (simp only [cl4, qz2, zero_add, splice, qz14, qz17, isAggD, qz0, if_false, qz3, qz10, length_cons, length_nil, qz6, n_add_zero, qz4, reduceAdd, reduceMul, toNat_natCast, reduceToNat, agg_cl, len_cl]; rfl); (focus (first | (simp only [qz14, qz17, length_cons, length_nil, len_cl, length_set, length_map, reduceAdd, zero_add, all_cons, all_nil, qz19, one_bv, PV.one, Value.oneCell', Bool.and_self, reduceLeDiff, Nat.le_refl, and_self, qz12]; done) | ((try simp only [qz14, qz17]); (focus ((repeat' apply And.intro) <;> first | exact True.intro | omega | (with_reducible rfl) | assumption | exact ⟨_, rfl⟩ | (simp only [sda]; done) | (simp only [len_cl]; omega) | (simp [Value.cells, Value.oneCell']; done)))))); refine vOps_nil ?_; (with_reducible apply seqC_normal; apply wC_ret e12_4)))
    all_goals (
    refine fin_c (p := ?_) (xs := [.cell 0 24]) (by simp) rfl ?_ ?_ ?_ ?_
    rotate_left 2
    · simp only [rsx, qz9, cl4, qz2, zero_add, evalIn_tmp, evalIn_const, evalIn_func, qz7, Nat.reduceBEq, lit_ul0, lit_ul1, lc_9223372036854775807, lc_18446744073709533559, lc_18446744073709551615, loadF, partF, cast_ofNat_Int, qz22, qz10, Int.reduceSub, qz3, qz0, length_cons, length_nil, qz6, n_add_zero, qz4, one_mul, reduceAdd, reduceMul, reduceSub, reduceLeDiff, reduceEqDiff, toNat_natCast, reduceToNat, reduceIte, if_true, if_false, isAggD, len_cl, agg_cl, qz15, length_map, qz16, qz12, and_self, ty22, ty24]; try rfl
    · first | rfl | (simp only [closed, closedL, qz18, closedL_cl, closedL_bv, Bool.and_self, Bool.and_true]; first | done | rfl)
    · have hp := pPv
      have hq := qPv
      first | ((simp only [← cl4, agg_cl]; done)) | ((try simp only [← cl4, agg_cl]); first | done | exact u4_congr (by omega) | exact agg4 (by omega) | rfl)
    · simp only [rsx, qz9, cl4, qz2, zero_add, evalIn_tmp, evalIn_const, evalIn_func, qz7, Nat.reduceBEq, lit_ul0, lit_ul1, lc_9223372036854775807, lc_18446744073709533559, lc_18446744073709551615, loadF, partF, cast_ofNat_Int, qz22, qz10, Int.reduceSub, qz3, qz0, length_cons, length_nil, qz6, n_add_zero, qz4, one_mul, reduceAdd, reduceMul, reduceSub, reduceLeDiff, reduceEqDiff, toNat_natCast, reduceToNat, reduceIte, if_true, if_false, isAggD, len_cl, agg_cl, qz15, length_map, qz16, qz12, and_self, ty22, ty24]; try trivial)
  · exact hS.elim
noncomputable def B10 : Code := bodyOf Try.f10
theorem B10_eq : Try.f10.body = some B10 := by kernel_rfl
noncomputable def n10_0 := B10
noncomputable def n10_1 := codeAt B10 [0]
noncomputable def n10_2 := codeAt B10 [1]
noncomputable def n10_3 := codeAt B10 [1,0]
noncomputable def n10_4 := codeAt B10 [1,1]
theorem e10_0 : n10_0 = .seq n10_1 n10_2 := rfl
noncomputable def r10_1 := opsAt n10_1
theorem e10_1 : n10_1 = .region 0 (r10_1).toArray false := rfl
theorem e10_2 : n10_2 = .seq n10_3 n10_4 := rfl
noncomputable def r10_3 := opsAt n10_3
theorem e10_3 : n10_3 = .region 1 (r10_3).toArray false := rfl
theorem e10_4 : n10_4 = .ret := rfl
theorem f_group_Modulus : PureOk Try.prog 10 sGMod := by
  refine pureOk_of (c := n10_0) (Γ := conOf []) (conOf_ok (conOf_end)) mixed Try.func10 B10_eq (by decide +kernel) Try.call10 ?_
  intro args hS
  unfold sGMod at hS ⊢
  split at hS
  · refine ⟨by rw [Try.ntmps10]; simp, vC_sound ?_⟩

    simp only [qz26, reduceAdd]
    repeat' (first | (with_reducible first | apply seqC_normal | apply seqC_ret) | ((with_reducible apply wC_seq e10_0; apply wC_region e10_1); refine vOps_open (l := _ :: _) rfl ?_; refine kOps_alloc (row := ?_) (n := ?_) rfl rfl rfl rfl ty24 ?_ ?_ ?_ ?_; rotate_left 2; (simp only [↓length_append, ↓length_set, ↓length_cons, length_nil, reduceAdd, zero_add]; rfl); (simp only [cl4, qz2, zero_add, Value.cells, qz9, List.toList_toArray, zero_cl4, zero_cl8, lit_ul0]; rfl); (focus (first | (simp only [Value.cells, List.toList_toArray, qz23, Value.oneCell', and_self]; done) | (simp [Value.cells, Value.oneCell']; done))); refine vOps_nil ?_; (with_reducible apply seqC_normal; apply wC_seq e10_2; apply wC_region e10_3); refine vOps_open (l := _ :: _) rfl ?_; refine kOps_build (pre := ?_) (val := ?_) rfl rfl rfl rfl ?_ ?_ ?_; rotate_left 2; (intro L; simp only [cl4, qz2, zero_add, lc_18446744073709515503, lc_18446744073709551615, buildF, fillB, zeroCells, splice, Value.cells, qz9, List.toList_toArray, zero_cl4, lit_ul0, qz14, qz17, cast_ofNat_Int, qz22, qz10, Int.reduceSub, qz3, qz0, length_cons, length_nil, qz6, n_add_zero, qz4, one_mul, reduceAdd, reduceMul, reduceSub, reduceLeDiff, reduceEqDiff, toNat_natCast, reduceToNat, reduceIte, if_true, if_false, isAggD, len_cl, agg_cl, qz15, length_map, qz16, qz12, and_self, ty24, ty22]; rfl); (focus ((repeat' apply And.intro) <;> first | exact True.intro | omega | (with_reducible rfl) | assumption | exact ⟨_, rfl⟩ | (simp only [sda]; done) | (simp only [len_cl]; omega) | (simp [Value.cells, Value.oneCell']; done))); refine kOps_store (cs' := ?_) rfl rfl rfl rfl rfl rfl rfl ty24 ?_ ?_ ?_; rotate_left 1; (simp only [cl4, qz2, zero_add, splice, qz14, qz17, isAggD, qz0, if_false, qz3, qz10, length_cons, length_nil, qz6, n_add_zero, qz4, reduceAdd, reduceMul, toNat_natCast, reduceToNat, agg_cl, len_cl]; rfl); (focus (first | (simp only [qz14, qz17, length_cons, length_nil, len_cl, length_set, length_map, reduceAdd, zero_add, all_cons, all_nil, qz19, one_bv, PV.one, Value.oneCell', Bool.and_self, reduceLeDiff, Nat.le_refl, and_self, qz12]; done) | ((try simp only [qz14, qz17]); (focus ((repeat' apply And.intro) <;> first | exact True.intro | omega | (with_reducible rfl) | assumption | exact ⟨_, rfl⟩ | (simp only [sda]; done) | (simp only [len_cl]; omega) | (simp [Value.cells, Value.oneCell']; done)))))); refine vOps_nil ?_; (with_reducible apply seqC_normal; apply wC_ret e10_4)))
    all_goals (
    refine fin_c (p := ?_) (xs := [.cell 0 24]) (by simp) rfl ?_ ?_ ?_ ?_
    rotate_left 2
    · simp only [rsx, qz9, cl4, qz2, zero_add, evalIn_tmp, evalIn_const, evalIn_func, qz7, Nat.reduceBEq, lit_ul0, lit_ul1, lc_18446744073709515503, lc_18446744073709551615, loadF, partF, cast_ofNat_Int, qz22, qz10, Int.reduceSub, qz3, qz0, length_cons, length_nil, qz6, n_add_zero, qz4, one_mul, reduceAdd, reduceMul, reduceSub, reduceLeDiff, reduceEqDiff, toNat_natCast, reduceToNat, reduceIte, if_true, if_false, isAggD, len_cl, agg_cl, qz15, length_map, qz16, qz12, and_self, ty22, ty24]; try rfl
    · first | rfl | (simp only [closed, closedL, qz18, closedL_cl, closedL_bv, Bool.and_self, Bool.and_true]; first | done | rfl)
    · have hp := pPv
      have hq := qPv
      first | ((simp only [← cl4, agg_cl]; done)) | ((try simp only [← cl4, agg_cl]); first | done | exact u4_congr (by omega) | exact agg4 (by omega) | rfl)
    · simp only [rsx, qz9, cl4, qz2, zero_add, evalIn_tmp, evalIn_const, evalIn_func, qz7, Nat.reduceBEq, lit_ul0, lit_ul1, lc_18446744073709515503, lc_18446744073709551615, loadF, partF, cast_ofNat_Int, qz22, qz10, Int.reduceSub, qz3, qz0, length_cons, length_nil, qz6, n_add_zero, qz4, one_mul, reduceAdd, reduceMul, reduceSub, reduceLeDiff, reduceEqDiff, toNat_natCast, reduceToNat, reduceIte, if_true, if_false, isAggD, len_cl, agg_cl, qz15, length_map, qz16, qz12, and_self, ty22, ty24]; try trivial)
  · exact hS.elim
theorem f_bits_Add64 : ExtOk Try.prog 66 sAdd64 := add64_ext Try.func66 (by kernel_rfl) (by kernel_rfl) (by kernel_rfl) (by kernel_rfl)
noncomputable def B67 : Code := bodyOf Try.f67
theorem B67_eq : Try.f67.body = some B67 := by kernel_rfl
noncomputable def n67_0 := B67
noncomputable def n67_1 := codeAt B67 [0]
noncomputable def n67_2 := codeAt B67 [1]
noncomputable def n67_3 := codeAt B67 [1,0]
noncomputable def n67_4 := codeAt B67 [1,1]
noncomputable def n67_5 := codeAt B67 [1,1,0]
noncomputable def n67_6 := codeAt B67 [1,1,1]
noncomputable def n67_7 := codeAt B67 [1,1,1,0]
noncomputable def n67_8 := codeAt B67 [1,1,1,1]
noncomputable def n67_9 := codeAt B67 [1,1,1,1,0]
noncomputable def n67_10 := codeAt B67 [1,1,1,1,1]
noncomputable def n67_11 := codeAt B67 [1,1,1,1,1,0]
noncomputable def n67_12 := codeAt B67 [1,1,1,1,1,1]
noncomputable def n67_13 := codeAt B67 [1,1,1,1,1,1,0]
noncomputable def n67_14 := codeAt B67 [1,1,1,1,1,1,1]
noncomputable def n67_15 := codeAt B67 [1,1,1,1,1,1,1,0]
noncomputable def n67_16 := codeAt B67 [1,1,1,1,1,1,1,1]
noncomputable def n67_17 := codeAt B67 [1,1,1,1,1,1,1,1,0]
noncomputable def n67_18 := codeAt B67 [1,1,1,1,1,1,1,1,1]
noncomputable def n67_19 := codeAt B67 [1,1,1,1,1,1,1,1,1,0]
noncomputable def n67_20 := codeAt B67 [1,1,1,1,1,1,1,1,1,1]
noncomputable def n67_21 := codeAt B67 [1,1,1,1,1,1,1,1,1,1,0]
noncomputable def n67_22 := codeAt B67 [1,1,1,1,1,1,1,1,1,1,1]
noncomputable def n67_23 := codeAt B67 [1,1,1,1,1,1,1,1,1,1,1,0]
noncomputable def n67_24 := codeAt B67 [1,1,1,1,1,1,1,1,1,1,1,1]
theorem e67_0 : n67_0 = .seq n67_1 n67_2 := rfl
noncomputable def r67_1 := opsAt n67_1
theorem e67_1 : n67_1 = .region 0 (r67_1).toArray false := rfl
theorem e67_2 : n67_2 = .seq n67_3 n67_4 := rfl
noncomputable def r67_3 := opsAt n67_3
theorem e67_3 : n67_3 = .region 1 (r67_3).toArray false := rfl
theorem e67_4 : n67_4 = .seq n67_5 n67_6 := rfl
noncomputable def r67_5 := opsAt n67_5
theorem e67_5 : n67_5 = .region 2 (r67_5).toArray false := rfl
theorem e67_6 : n67_6 = .seq n67_7 n67_8 := rfl
noncomputable def r67_7 := opsAt n67_7
theorem e67_7 : n67_7 = .region 3 (r67_7).toArray false := rfl
theorem e67_8 : n67_8 = .seq n67_9 n67_10 := rfl
noncomputable def r67_9 := opsAt n67_9
theorem e67_9 : n67_9 = .region 4 (r67_9).toArray false := rfl
theorem e67_10 : n67_10 = .seq n67_11 n67_12 := rfl
noncomputable def r67_11 := opsAt n67_11
theorem e67_11 : n67_11 = .region 5 (r67_11).toArray false := rfl
theorem e67_12 : n67_12 = .seq n67_13 n67_14 := rfl
noncomputable def r67_13 := opsAt n67_13
theorem e67_13 : n67_13 = .region 6 (r67_13).toArray false := rfl
theorem e67_14 : n67_14 = .seq n67_15 n67_16 := rfl
noncomputable def r67_15 := opsAt n67_15
theorem e67_15 : n67_15 = .region 7 (r67_15).toArray false := rfl
theorem e67_16 : n67_16 = .seq n67_17 n67_18 := rfl
noncomputable def r67_17 := opsAt n67_17
theorem e67_17 : n67_17 = .region 8 (r67_17).toArray false := rfl
theorem e67_18 : n67_18 = .seq n67_19 n67_20 := rfl
noncomputable def r67_19 := opsAt n67_19
theorem e67_19 : n67_19 = .region 9 (r67_19).toArray false := rfl
theorem e67_20 : n67_20 = .seq n67_21 n67_22 := rfl
noncomputable def r67_21 := opsAt n67_21
theorem e67_21 : n67_21 = .region 10 (r67_21).toArray false := rfl
theorem e67_22 : n67_22 = .seq n67_23 n67_24 := rfl
noncomputable def r67_23 := opsAt n67_23
theorem e67_23 : n67_23 = .region 11 (r67_23).toArray false := rfl
theorem e67_24 : n67_24 = .ret := rfl
theorem f_bits_Mul64 : PureOk Try.prog 67 sMul64 := by
  refine pureOk_of (c := n67_0) (Γ := conOf []) (conOf_ok (conOf_end)) mixed Try.func67 B67_eq (by decide +kernel) Try.call67 ?_
  intro args hS
  unfold sMul64 at hS ⊢
  split at hS
  · refine ⟨by rw [Try.ntmps67]; simp, vC_sound ?_⟩
    rename_i xa xb
    obtain ⟨ha, hb⟩ := hS
    obtain ⟨a, la, rfl⟩ := isul_out ha
    obtain ⟨b, lb, rfl⟩ := isul_out hb
    simp only [ulv_ul, mod_eq_of_lt la, mod_eq_of_lt lb]
    clear ha hb
    simp only [qz26, reduceAdd]
    repeat' (first | (with_reducible first | apply seqC_normal | apply seqC_ret) | ((with_reducible apply wC_seq e67_0; apply wC_region e67_1); refine vOps_open (l := _ :: _) rfl ?_) | ((with_reducible apply wC_seq e67_2; apply wC_region e67_3); refine vOps_open (l := _ :: _) rfl ?_) | ((with_reducible apply wC_seq e67_4; apply wC_region e67_5); refine vOps_open (l := _ :: _) rfl ?_) | ((with_reducible apply wC_seq e67_6; apply wC_region e67_7); refine vOps_open (l := _ :: _) rfl ?_) | ((with_reducible apply wC_seq e67_8; apply wC_region e67_9); refine vOps_open (l := _ :: _) rfl ?_) | ((with_reducible apply wC_seq e67_10; apply wC_region e67_11); refine vOps_open (l := _ :: _) rfl ?_) | ((with_reducible apply wC_seq e67_12; apply wC_region e67_13); refine vOps_open (l := _ :: _) rfl ?_) | ((with_reducible apply wC_seq e67_14; apply wC_region e67_15); refine vOps_open (l := _ :: _) rfl ?_) | ((with_reducible apply wC_seq e67_16; apply wC_region e67_17); refine vOps_open (l := _ :: _) rfl ?_) | ((with_reducible apply wC_seq e67_18; apply wC_region e67_19); refine vOps_open (l := _ :: _) rfl ?_) | ((with_reducible apply wC_seq e67_20; apply wC_region e67_21); refine vOps_open (l := _ :: _) rfl ?_) | ((with_reducible apply wC_seq e67_22; apply wC_region e67_23); refine vOps_open (l := _ :: _) rfl ?_) | ((with_reducible apply wC_ret e67_24)) | ((with_reducible apply vOps_nil); try (with_reducible refine And.intro (by kernel_rfl) ?_)) | (refine kOps_asc rfl rfl rfl lit_ul0 ?_) | (refine kOps_mv rfl rfl rfl rfl ?_) | (refine kOps_bin (b := .and) (pre := ?_) (val := ?_) rfl rfl rfl rfl rfl ?_ ?_ ?_; rotate_left 2; (intro L; simp only [qz42, Nat.reducePow, reduceMod, reduceDiv, lit_ul0, lit_ul1, lc_32, and_ul, binF_and, Int.reduceAdd, Int.reduceSub, Int.reduceMul, Int.reduceNeg, Int.sub_zero, cast_ofNat_Int, ne_eq, Int.reduceLT, Int.reduceLE, Int.reduceEq, reduceLT, qz5, ty22]; (first | (rw [wrap_i64] <;> first | omega | rfl) | (rw [wrap_u8] <;> first | omega | rfl) | (rw [wrap_u16] <;> first | omega | rfl) | (rw [wrap_u32] <;> first | omega | rfl) | rfl)); exact trivial) | (refine kOps_as rfl rfl rfl rfl ?_) | (refine kOps_bin (b := .shr) (pre := ?_) (val := ?_) rfl rfl rfl rfl rfl ?_ ?_ ?_; rotate_left 2; (intro L; simp only [qz42, Nat.reducePow, reduceMod, reduceDiv, lit_ul0, lit_ul1, lc_32, qz41, Int.reduceAdd, Int.reduceSub, Int.reduceMul, Int.reduceNeg, Int.sub_zero, cast_ofNat_Int, ne_eq, Int.reduceLT, Int.reduceLE, Int.reduceEq, reduceLT, qz5, ty22]; (first | (rw [wrap_i64] <;> first | omega | rfl) | (rw [wrap_u8] <;> first | omega | rfl) | (rw [wrap_u16] <;> first | omega | rfl) | (rw [wrap_u32] <;> first | omega | rfl) | rfl)); (focus ((repeat' apply And.intro) <;> first | exact True.intro | omega | (with_reducible rfl) | assumption | exact ⟨_, rfl⟩ | (simp only [sda]; done) | (simp only [len_cl]; omega) | (simp [Value.cells, Value.oneCell']; done)))) | (refine kOps_bin (b := .mul) (pre := ?_) (val := ?_) rfl rfl rfl rfl rfl ?_ ?_ ?_; rotate_left 2; (intro L; simp only [qz42, Nat.reducePow, reduceMod, reduceDiv, lit_ul0, lit_ul1, lc_32, mul_ul, binF_mul, Int.reduceAdd, Int.reduceSub, Int.reduceMul, Int.reduceNeg, Int.sub_zero, cast_ofNat_Int, ne_eq, Int.reduceLT, Int.reduceLE, Int.reduceEq, reduceLT, qz5, ty22]; (first | (rw [wrap_i64] <;> first | omega | rfl) | (rw [wrap_u8] <;> first | omega | rfl) | (rw [wrap_u16] <;> first | omega | rfl) | (rw [wrap_u32] <;> first | omega | rfl) | rfl)); exact trivial) | (refine kOps_bin (b := .add) (pre := ?_) (val := ?_) rfl rfl rfl rfl rfl ?_ ?_ ?_; rotate_left 2; (intro L; simp only [qz42, Nat.reducePow, reduceMod, reduceDiv, lit_ul0, lit_ul1, lc_32, qz34, Int.reduceAdd, Int.reduceSub, Int.reduceMul, Int.reduceNeg, Int.sub_zero, cast_ofNat_Int, ne_eq, Int.reduceLT, Int.reduceLE, Int.reduceEq, reduceLT, qz5, ty22]; (first | (rw [wrap_i64] <;> first | omega | rfl) | (rw [wrap_u8] <;> first | omega | rfl) | (rw [wrap_u16] <;> first | omega | rfl) | (rw [wrap_u32] <;> first | omega | rfl) | rfl)); exact trivial))
    refine fin_c (p := ?_) (xs := [.tmp 4, .tmp 5]) (by simp) rfl ?_ ?_ ?_ ?_
    rotate_left 2
    · simp only [rsx, qz9, qz42, Nat.reducePow, reduceMod, reduceDiv, evalIn_tmp, evalIn_const, evalIn_func, qz7, Nat.reduceBEq, lit_ul0, lit_ul1, lc_32, loadF, partF, cast_ofNat_Int, qz22, qz10, Int.reduceSub, qz3, qz0, length_cons, length_nil, qz6, zero_add, n_add_zero, qz4, one_mul, reduceAdd, reduceMul, reduceSub, reduceLeDiff, reduceEqDiff, toNat_natCast, reduceToNat, reduceIte, if_true, if_false, isAggD, len_cl, agg_cl, qz15, length_map, qz16, qz12, and_self, ty22]; try rfl
    · first | rfl | (simp only [closed, closedL, qz18, closedL_cl, closedL_bv, Bool.and_self, Bool.and_true]; first | done | rfl)
    · exact tup2 (ul_congr (mul64_hi2 la lb)) rfl
    · simp only [rsx, qz9, qz42, Nat.reducePow, reduceMod, reduceDiv, evalIn_tmp, evalIn_const, evalIn_func, qz7, Nat.reduceBEq, lit_ul0, lit_ul1, lc_32, loadF, partF, cast_ofNat_Int, qz22, qz10, Int.reduceSub, qz3, qz0, length_cons, length_nil, qz6, zero_add, n_add_zero, qz4, one_mul, reduceAdd, reduceMul, reduceSub, reduceLeDiff, reduceEqDiff, toNat_natCast, reduceToNat, reduceIte, if_true, if_false, isAggD, len_cl, agg_cl, qz15, length_map, qz16, qz12, and_self, ty22]; try trivial
  · exact hS.elim
noncomputable def B59 : Code := bodyOf Try.f59
theorem B59_eq : Try.f59.body = some B59 := by kernel_rfl
noncomputable def n59_0 := B59
noncomputable def n59_1 := codeAt B59 [0]
noncomputable def n59_2 := codeAt B59 [1]
noncomputable def n59_3 := codeAt B59 [1,0]
noncomputable def n59_4 := codeAt B59 [1,1]
noncomputable def n59_5 := codeAt B59 [1,1,0]
noncomputable def n59_6 := codeAt B59 [1,1,1]
noncomputable def n59_7 := codeAt B59 [1,1,1,0]
noncomputable def n59_8 := codeAt B59 [1,1,1,1]
noncomputable def n59_9 := codeAt B59 [1,1,1,1,0]
noncomputable def n59_10 := codeAt B59 [1,1,1,1,1]
noncomputable def n59_11 := codeAt B59 [1,1,1,1,1,0]
noncomputable def n59_12 := codeAt B59 [1,1,1,1,1,1]
theorem e59_0 : n59_0 = .seq n59_1 n59_2 := rfl
noncomputable def r59_1 := opsAt n59_1
theorem e59_1 : n59_1 = .region 0 (r59_1).toArray false := rfl
theorem e59_2 : n59_2 = .seq n59_3 n59_4 := rfl
noncomputable def r59_3 := opsAt n59_3
theorem e59_3 : n59_3 = .region 1 (r59_3).toArray false := rfl
theorem e59_4 : n59_4 = .seq n59_5 n59_6 := rfl
noncomputable def r59_5 := opsAt n59_5
theorem e59_5 : n59_5 = .region 2 (r59_5).toArray false := rfl
theorem e59_6 : n59_6 = .seq n59_7 n59_8 := rfl
noncomputable def r59_7 := opsAt n59_7
theorem e59_7 : n59_7 = .region 3 (r59_7).toArray false := rfl
theorem e59_8 : n59_8 = .seq n59_9 n59_10 := rfl
noncomputable def r59_9 := opsAt n59_9
theorem e59_9 : n59_9 = .region 4 (r59_9).toArray false := rfl
theorem e59_10 : n59_10 = .seq n59_11 n59_12 := rfl
noncomputable def r59_11 := opsAt n59_11
theorem e59_11 : n59_11 = .region 5 (r59_11).toArray false := rfl
theorem e59_12 : n59_12 = .ret := rfl
theorem f_wide_multiplyAdd : PureOk Try.prog 59 sMulAdd := by
  refine pureOk_of (c := n59_0) (Γ := conOf [(66, .ext sAdd64), (67, .pure sMul64)]) (conOf_ok (conOf_one (S := .ext sAdd64) f_bits_Add64 (conOf_one (S := .pure sMul64) f_bits_Mul64 (conOf_end)))) mixed Try.func59 B59_eq (by decide +kernel) Try.call59 ?_
  intro args hS
  unfold sMulAdd at hS ⊢
  split at hS
  · refine ⟨by rw [Try.ntmps59]; simp, vC_sound ?_⟩
    rename_i xa xb xc xd
    obtain ⟨ha, hb, hc, hd⟩ := hS
    obtain ⟨a, la, rfl⟩ := isul_out ha
    obtain ⟨b, lb, rfl⟩ := isul_out hb
    obtain ⟨c, lc, rfl⟩ := isul_out hc
    obtain ⟨d, ld, rfl⟩ := isul_out hd
    simp only [ulv_ul, mod_eq_of_lt la, mod_eq_of_lt lb, mod_eq_of_lt lc, mod_eq_of_lt ld]
    clear ha hb hc hd
    simp only [qz26, reduceAdd]
    have hab : a * b ≤ 18446744073709551615 * 18446744073709551615 := Nat.mul_le_mul (by omega) (by omega)
    repeat' (first | (with_reducible first | apply seqC_normal | apply seqC_ret) | ((with_reducible apply wC_seq e59_0; apply wC_region e59_1); refine vOps_open (l := _ :: _) rfl ?_; refine kOps_asc rfl rfl rfl lit_ul0 ?_; refine kOps_asc rfl rfl rfl lit_ul0 ?_; refine vOps_nil ?_; (with_reducible apply seqC_normal; apply wC_seq e59_2; apply wC_region e59_3); refine vOps_open (l := _ :: _) rfl ?_; refine kOps_mv rfl rfl rfl rfl ?_; refine kOps_mv rfl rfl rfl rfl ?_; refine kOps_callc (pre := ?_) (val := ?_) rfl rfl rfl rfl rfl ?_ ?_ ?_ ?_ ?_; rotate_left 2; (simp only [zero_mod, mod_eq_of_lt la, mod_eq_of_lt lb, mod_eq_of_lt lc, mod_eq_of_lt ld, sAdd64, sMul64, nrmC, qz9, qz8, qz25, ulv_ul, uv_u4, qz12, and_self, n_add_zero, zero_add, n_sub_zero]; rfl); (focus (first | rfl | (simp only [closed, closedL, qz18, closedL_bv, closedL_cl, Bool.and_self, Bool.and_true]; done))); (focus (first | rfl | (simp only [closed, closedL, qz18, closedL_bv, closedL_cl, Bool.and_self, Bool.and_true]; done))); (focus ((repeat' apply And.intro) <;> first | exact True.intro | omega | (with_reducible rfl) | assumption | exact ⟨_, rfl⟩ | (simp only [sda]; done) | (simp only [len_cl]; omega) | (simp [Value.cells, Value.oneCell']; done))); refine kOps_mv rfl rfl rfl rfl ?_; refine kOps_ext rfl rfl rfl rfl rfl ?_; refine kOps_ext rfl rfl rfl rfl rfl ?_; refine kOps_as rfl rfl rfl rfl ?_; refine kOps_as rfl rfl rfl rfl ?_; refine vOps_nil ?_; (with_reducible apply seqC_normal; apply wC_seq e59_4; apply wC_region e59_5); refine vOps_open (l := _ :: _) rfl ?_; refine kOps_mv rfl rfl rfl rfl ?_; refine kOps_mv rfl rfl rfl rfl ?_; refine kOps_calle (pre := ?_) (val := ?_) rfl rfl rfl rfl rfl ?_ ?_ ?_; rotate_left 2; (simp only [zero_mod, mod_eq_of_lt la, mod_eq_of_lt lb, mod_eq_of_lt lc, mod_eq_of_lt ld, sAdd64, sMul64, lit_ul0, nrmC, qz9, qz8, qz25, ulv_ul, uv_u4, qz12, and_self, n_add_zero, zero_add, n_sub_zero]; rfl); (focus ((repeat' apply And.intro) <;> first | exact True.intro | omega | (with_reducible rfl) | assumption | exact ⟨_, rfl⟩ | (simp only [sda]; done) | (simp only [len_cl]; omega) | (simp [Value.cells, Value.oneCell']; done))); refine kOps_mv rfl rfl rfl rfl ?_; refine kOps_ext rfl rfl rfl rfl rfl ?_; refine kOps_ext rfl rfl rfl rfl rfl ?_; refine kOps_as rfl rfl rfl rfl ?_; refine kOps_as rfl rfl rfl rfl ?_; refine vOps_nil ?_; (with_reducible apply seqC_normal; apply wC_seq e59_6; apply wC_region e59_7); refine vOps_open (l := _ :: _) rfl ?_; refine kOps_mv rfl rfl rfl rfl ?_; refine kOps_mv rfl rfl rfl rfl ?_; refine kOps_bin (b := .add) (pre := ?_) (val := ?_) rfl rfl rfl rfl rfl ?_ ?_ ?_; rotate_left 2; (intro L; simp only [zero_mod, mod_eq_of_lt la, mod_eq_of_lt lb, mod_eq_of_lt lc, mod_eq_of_lt ld, qz34, Int.reduceAdd, Int.reduceSub, Int.reduceMul, Int.reduceNeg, Int.sub_zero, cast_ofNat_Int, ne_eq, Int.reduceLT, Int.reduceLE, Int.reduceEq, reduceMod, reduceLT, qz5, ty22]; (first | (rw [wrap_i64] <;> first | omega | rfl) | (rw [wrap_u8] <;> first | omega | rfl) | (rw [wrap_u16] <;> first | omega | rfl) | (rw [wrap_u32] <;> first | omega | rfl) | rfl)); exact trivial; refine kOps_as rfl rfl rfl rfl ?_; refine vOps_nil ?_; (with_reducible apply seqC_normal; apply wC_seq e59_8; apply wC_region e59_9); refine vOps_open (l := _ :: _) rfl ?_; refine kOps_mv rfl rfl rfl rfl ?_; refine kOps_mv rfl rfl rfl rfl ?_; refine kOps_calle (pre := ?_) (val := ?_) rfl rfl rfl rfl rfl ?_ ?_ ?_; rotate_left 2; (simp only [zero_mod, mod_eq_of_lt la, mod_eq_of_lt lb, mod_eq_of_lt lc, mod_eq_of_lt ld, sAdd64, sMul64, lit_ul0, nrmC, qz9, qz8, qz25, ulv_ul, uv_u4, qz12, and_self, n_add_zero, zero_add, n_sub_zero]; rfl); (focus ((repeat' apply And.intro) <;> first | exact True.intro | omega | (with_reducible rfl) | assumption | exact ⟨_, rfl⟩ | (simp only [sda]; done) | (simp only [len_cl]; omega) | (simp [Value.cells, Value.oneCell']; done))); refine kOps_mv rfl rfl rfl rfl ?_; refine kOps_ext rfl rfl rfl rfl rfl ?_; refine kOps_ext rfl rfl rfl rfl rfl ?_; refine kOps_as rfl rfl rfl rfl ?_; refine kOps_as rfl rfl rfl rfl ?_; refine vOps_nil ?_; (with_reducible apply seqC_normal; apply wC_seq e59_10; apply wC_region e59_11); refine vOps_open (l := _ :: _) rfl ?_; refine kOps_mv rfl rfl rfl rfl ?_; refine kOps_mv rfl rfl rfl rfl ?_; refine kOps_mv rfl rfl rfl rfl ?_; refine kOps_bin (b := .add) (pre := ?_) (val := ?_) rfl rfl rfl rfl rfl ?_ ?_ ?_; rotate_left 2; (intro L; simp only [zero_mod, mod_eq_of_lt la, mod_eq_of_lt lb, mod_eq_of_lt lc, mod_eq_of_lt ld, qz34, Int.reduceAdd, Int.reduceSub, Int.reduceMul, Int.reduceNeg, Int.sub_zero, cast_ofNat_Int, ne_eq, Int.reduceLT, Int.reduceLE, Int.reduceEq, reduceMod, reduceLT, qz5, ty22]; (first | (rw [wrap_i64] <;> first | omega | rfl) | (rw [wrap_u8] <;> first | omega | rfl) | (rw [wrap_u16] <;> first | omega | rfl) | (rw [wrap_u32] <;> first | omega | rfl) | rfl)); exact trivial; refine kOps_as rfl rfl rfl rfl ?_; refine kOps_as rfl rfl rfl rfl ?_; refine vOps_nil ?_; (with_reducible apply seqC_normal; apply wC_ret e59_12)))
    refine fin_c (p := ?_) (xs := [.tmp 8, .tmp 9]) (by simp) rfl ?_ ?_ ?_ ?_
    rotate_left 2
    · simp only [rsx, qz9, zero_mod, mod_eq_of_lt la, mod_eq_of_lt lb, mod_eq_of_lt lc, mod_eq_of_lt ld, evalIn_tmp, evalIn_const, evalIn_func, qz7, Nat.reduceBEq, lit_ul0, lit_ul1, loadF, partF, cast_ofNat_Int, qz22, qz10, Int.reduceSub, qz3, qz0, length_cons, length_nil, qz6, zero_add, n_add_zero, qz4, one_mul, reduceAdd, reduceMul, reduceSub, reduceLeDiff, reduceEqDiff, toNat_natCast, reduceToNat, reduceIte, if_true, if_false, isAggD, len_cl, agg_cl, qz15, length_map, qz16, qz12, and_self, ty22]; try rfl
    · first | rfl | (simp only [closed, closedL, qz18, closedL_cl, closedL_bv, Bool.and_self, Bool.and_true]; first | done | rfl)
    · generalize a * b = q at *
      exact tup2 (ul_congr (by omega)) (ul_congr (by omega))
    · simp only [rsx, qz9, zero_mod, mod_eq_of_lt la, mod_eq_of_lt lb, mod_eq_of_lt lc, mod_eq_of_lt ld, evalIn_tmp, evalIn_const, evalIn_func, qz7, Nat.reduceBEq, lit_ul0, lit_ul1, loadF, partF, cast_ofNat_Int, qz22, qz10, Int.reduceSub, qz3, qz0, length_cons, length_nil, qz6, zero_add, n_add_zero, qz4, one_mul, reduceAdd, reduceMul, reduceSub, reduceLeDiff, reduceEqDiff, toNat_natCast, reduceToNat, reduceIte, if_true, if_false, isAggD, len_cl, agg_cl, qz15, length_map, qz16, qz12, and_self, ty22]; try trivial
  · exact hS.elim
noncomputable def B43 : Code := bodyOf Try.f43
theorem B43_eq : Try.f43.body = some B43 := by kernel_rfl
noncomputable def n43_0 := B43
noncomputable def n43_1 := codeAt B43 [0]
noncomputable def n43_2 := codeAt B43 [1]
noncomputable def n43_3 := codeAt B43 [1,0]
noncomputable def n43_4 := codeAt B43 [1,1]
noncomputable def n43_5 := codeAt B43 [1,1,0]
noncomputable def n43_6 := codeAt B43 [1,1,0,0]
noncomputable def n43_7 := codeAt B43 [1,1,0,1]
noncomputable def n43_8 := codeAt B43 [1,1,0,1,0]
noncomputable def n43_9 := codeAt B43 [1,1,0,1,0,0]
noncomputable def n43_10 := codeAt B43 [1,1,0,1,0,0,0]
noncomputable def n43_11 := codeAt B43 [1,1,0,1,0,0,1]
noncomputable def n43_12 := codeAt B43 [1,1,0,1,0,0,1,0]
noncomputable def n43_13 := codeAt B43 [1,1,0,1,0,0,1,0,0]
noncomputable def n43_14 := codeAt B43 [1,1,0,1,0,0,1,0,1]
noncomputable def n43_15 := codeAt B43 [1,1,0,1,0,0,1,1]
noncomputable def n43_16 := codeAt B43 [1,1,0,1,0,0,1,1,0]
noncomputable def n43_17 := codeAt B43 [1,1,0,1,0,0,1,1,0,0]
noncomputable def n43_18 := codeAt B43 [1,1,0,1,0,0,1,1,0,0,0]
noncomputable def n43_19 := codeAt B43 [1,1,0,1,0,0,1,1,0,0,1]
noncomputable def n43_20 := codeAt B43 [1,1,0,1,0,0,1,1,0,0,1,0]
noncomputable def n43_21 := codeAt B43 [1,1,0,1,0,0,1,1,0,0,1,1]
noncomputable def n43_22 := codeAt B43 [1,1,0,1,0,0,1,1,0,0,1,1,0]
noncomputable def n43_23 := codeAt B43 [1,1,0,1,0,0,1,1,0,0,1,1,0,0]
noncomputable def n43_24 := codeAt B43 [1,1,0,1,0,0,1,1,0,0,1,1,0,1]
noncomputable def n43_25 := codeAt B43 [1,1,0,1,0,0,1,1,0,0,1,1,0,1,0]
noncomputable def n43_26 := codeAt B43 [1,1,0,1,0,0,1,1,0,0,1,1,0,1,0,0]
noncomputable def n43_27 := codeAt B43 [1,1,0,1,0,0,1,1,0,0,1,1,0,1,0,0,0]
noncomputable def n43_28 := codeAt B43 [1,1,0,1,0,0,1,1,0,0,1,1,0,1,0,0,1]
noncomputable def n43_29 := codeAt B43 [1,1,0,1,0,0,1,1,0,0,1,1,0,1,0,0,1,0]
noncomputable def n43_30 := codeAt B43 [1,1,0,1,0,0,1,1,0,0,1,1,0,1,0,0,1,0,0]
noncomputable def n43_31 := codeAt B43 [1,1,0,1,0,0,1,1,0,0,1,1,0,1,0,0,1,0,1]
noncomputable def n43_32 := codeAt B43 [1,1,0,1,0,0,1,1,0,0,1,1,0,1,0,0,1,1]
noncomputable def n43_33 := codeAt B43 [1,1,0,1,0,0,1,1,0,0,1,1,0,1,0,0,1,1,0]
noncomputable def n43_34 := codeAt B43 [1,1,0,1,0,0,1,1,0,0,1,1,0,1,0,0,1,1,0,0]
noncomputable def n43_35 := codeAt B43 [1,1,0,1,0,0,1,1,0,0,1,1,0,1,0,0,1,1,0,0,0]
noncomputable def n43_36 := codeAt B43 [1,1,0,1,0,0,1,1,0,0,1,1,0,1,0,0,1,1,0,0,1]
noncomputable def n43_37 := codeAt B43 [1,1,0,1,0,0,1,1,0,0,1,1,0,1,0,0,1,1,1]
noncomputable def n43_38 := codeAt B43 [1,1,0,1,0,0,1,1,0,0,1,1,1]
noncomputable def n43_39 := codeAt B43 [1,1,0,1,0,0,1,1,1]
noncomputable def n43_40 := codeAt B43 [1,1,1]
noncomputable def n43_41 := codeAt B43 [1,1,1,0]
noncomputable def n43_42 := codeAt B43 [1,1,1,1]
noncomputable def n43_43 := codeAt B43 [1,1,1,1,0]
noncomputable def n43_44 := codeAt B43 [1,1,1,1,1]
noncomputable def n43_45 := codeAt B43 [1,1,1,1,1,0]
noncomputable def n43_46 := codeAt B43 [1,1,1,1,1,1]
theorem e43_0 : n43_0 = .seq n43_1 n43_2 := rfl
noncomputable def r43_1 := opsAt n43_1
theorem e43_1 : n43_1 = .region 0 (r43_1).toArray false := rfl
theorem e43_2 : n43_2 = .seq n43_3 n43_4 := rfl
noncomputable def r43_3 := opsAt n43_3
theorem e43_3 : n43_3 = .region 1 (r43_3).toArray false := rfl
theorem e43_4 : n43_4 = .seq n43_5 n43_40 := rfl
theorem e43_5 : n43_5 = .seq n43_6 n43_7 := rfl
noncomputable def r43_6 := opsAt n43_6
theorem e43_6 : n43_6 = .region 2 (r43_6).toArray false := rfl
theorem e43_7 : n43_7 = .block 0 n43_8 := rfl
theorem e43_8 : n43_8 = .loop n43_9 := rfl
theorem e43_9 : n43_9 = .seq n43_10 n43_11 := rfl
noncomputable def r43_10 := opsAt n43_10
theorem e43_10 : n43_10 = .region 3 (r43_10).toArray false := rfl
theorem e43_11 : n43_11 = .seq n43_12 n43_15 := rfl
theorem e43_12 : n43_12 = .cond (.tmp 14) n43_13 n43_14 := rfl
theorem e43_13 : n43_13 = .skip := rfl
theorem e43_14 : n43_14 = .exit 0 := rfl
theorem e43_15 : n43_15 = .seq n43_16 n43_39 := rfl
theorem e43_16 : n43_16 = .block 1 n43_17 := rfl
theorem e43_17 : n43_17 = .seq n43_18 n43_19 := rfl
noncomputable def r43_18 := opsAt n43_18
theorem e43_18 : n43_18 = .region 4 (r43_18).toArray false := rfl
theorem e43_19 : n43_19 = .seq n43_20 n43_21 := rfl
noncomputable def r43_20 := opsAt n43_20
theorem e43_20 : n43_20 = .region 5 (r43_20).toArray false := rfl
theorem e43_21 : n43_21 = .seq n43_22 n43_38 := rfl
theorem e43_22 : n43_22 = .seq n43_23 n43_24 := rfl
noncomputable def r43_23 := opsAt n43_23
theorem e43_23 : n43_23 = .region 6 (r43_23).toArray false := rfl
theorem e43_24 : n43_24 = .block 2 n43_25 := rfl
theorem e43_25 : n43_25 = .loop n43_26 := rfl
theorem e43_26 : n43_26 = .seq n43_27 n43_28 := rfl
noncomputable def r43_27 := opsAt n43_27
theorem e43_27 : n43_27 = .region 7 (r43_27).toArray false := rfl
theorem e43_28 : n43_28 = .seq n43_29 n43_32 := rfl
theorem e43_29 : n43_29 = .cond (.tmp 19) n43_30 n43_31 := rfl
theorem e43_30 : n43_30 = .skip := rfl
theorem e43_31 : n43_31 = .exit 2 := rfl
theorem e43_32 : n43_32 = .seq n43_33 n43_37 := rfl
theorem e43_33 : n43_33 = .block 3 n43_34 := rfl
theorem e43_34 : n43_34 = .seq n43_35 n43_36 := rfl
noncomputable def r43_35 := opsAt n43_35
theorem e43_35 : n43_35 = .region 8 (r43_35).toArray false := rfl
noncomputable def r43_36 := opsAt n43_36
theorem e43_36 : n43_36 = .region 9 (r43_36).toArray false := rfl
noncomputable def r43_37 := opsAt n43_37
theorem e43_37 : n43_37 = .region 10 (r43_37).toArray false := rfl
noncomputable def r43_38 := opsAt n43_38
theorem e43_38 : n43_38 = .region 11 (r43_38).toArray false := rfl
noncomputable def r43_39 := opsAt n43_39
theorem e43_39 : n43_39 = .region 12 (r43_39).toArray false := rfl
theorem e43_40 : n43_40 = .seq n43_41 n43_42 := rfl
noncomputable def r43_41 := opsAt n43_41
theorem e43_41 : n43_41 = .region 13 (r43_41).toArray true := rfl
theorem a43_41 : anyOk r43_41 = true := by decide +kernel
theorem e43_42 : n43_42 = .seq n43_43 n43_44 := rfl
noncomputable def r43_43 := opsAt n43_43
theorem e43_43 : n43_43 = .region 14 (r43_43).toArray true := rfl
theorem a43_43 : anyOk r43_43 = true := by decide +kernel
theorem e43_44 : n43_44 = .seq n43_45 n43_46 := rfl
noncomputable def r43_45 := opsAt n43_45
theorem e43_45 : n43_45 = .region 15 (r43_45).toArray false := rfl
theorem e43_46 : n43_46 = .ret := rfl
theorem f_wide_Mul : PureOk Try.prog 43 sMul := by
  refine pureOk_of (c := n43_0) (Γ := conOf [(59, .pure sMulAdd)]) (conOf_ok (conOf_one (S := .pure sMulAdd) f_wide_multiplyAdd (conOf_end))) mixed Try.func43 B43_eq (by decide +kernel) Try.call43 ?_
  intro args hS
  unfold sMul at hS ⊢
  split at hS
  · refine ⟨by rw [Try.ntmps43]; simp, vC_sound ?_⟩
    rename_i xa xb
    obtain ⟨ha, hb⟩ := hS
    obtain ⟨a, la, rfl⟩ := isU_out ha
    obtain ⟨b, lb, rfl⟩ := isU_out hb
    simp only [uv_u4, mod_eq_of_lt la, mod_eq_of_lt lb]
    clear ha hb
    simp only [qz26, reduceAdd]
    repeat' (first | (with_reducible first | apply seqC_normal | apply wunrC_normal | apply blockC_normal | apply seqC_exit | apply blockC_hit | apply wunrC_exit | apply seqC_ret | apply blockC_ret | apply wunrC_ret | apply loopC_ret | apply loopC_exit) | ((with_reducible apply blockC_miss); (exact rfl)) | ((with_reducible apply wC_seq e43_0; apply wC_region e43_1); refine vOps_open (l := _ :: _) rfl ?_) | ((with_reducible apply wC_seq e43_2; apply wC_region e43_3); refine vOps_open (l := _ :: _) rfl ?_) | ((with_reducible apply wC_seq e43_4; apply wC_seq e43_5; apply wC_region e43_6); refine vOps_open (l := _ :: _) rfl ?_) | ((with_reducible apply wC_block e43_7; apply kC_unroll [3, 4, 5, 6, 12, 13] e43_8); (exact rfl); (exact rfl); (with_reducible apply wC_seq e43_9; apply wC_region e43_10); refine vOps_open (l := _ :: _) rfl ?_) | ((with_reducible apply kC_unroll [3, 4, 5, 6, 12, 13] e43_8); (exact rfl); (exact rfl); (with_reducible apply wC_seq e43_9; apply wC_region e43_10); refine vOps_open (l := _ :: _) rfl ?_) | ((with_reducible apply wC_seq e43_11; apply kC_cond e43_12); (exact rfl); all_goals (intro hb; first | (cases hb; done) | cases hb | ((try simp only [dxe] at hb); try (exfalso; first | omega | exact hb trivial)))) | ((with_reducible apply wC_skip e43_13)) | ((with_reducible apply wC_exit e43_14)) | ((with_reducible apply wC_seq e43_15; apply wC_block e43_16; apply wC_seq e43_17; apply wC_region e43_18); refine vOps_open (l := _ :: _) rfl ?_) | ((with_reducible apply wC_seq e43_19; apply wC_region e43_20); refine vOps_open (l := _ :: _) rfl ?_) | ((with_reducible apply wC_seq e43_21; apply wC_seq e43_22; apply wC_region e43_23); refine vOps_open (l := _ :: _) rfl ?_) | ((with_reducible apply wC_block e43_24; apply kC_unroll [3, 4, 5, 6, 7, 8, 9, 12, 13, 17, 18] e43_25); (exact rfl); (exact rfl); (with_reducible apply wC_seq e43_26; apply wC_region e43_27); refine vOps_open (l := _ :: _) rfl ?_) | ((with_reducible apply kC_unroll [3, 4, 5, 6, 7, 8, 9, 12, 13, 17, 18] e43_25); (exact rfl); (exact rfl); (with_reducible apply wC_seq e43_26; apply wC_region e43_27); refine vOps_open (l := _ :: _) rfl ?_) | ((with_reducible apply wC_seq e43_28; apply kC_cond e43_29); (exact rfl); all_goals (intro hb; first | (cases hb; done) | cases hb | ((try simp only [dxe] at hb); try (exfalso; first | omega | exact hb trivial)))) | ((with_reducible apply wC_skip e43_30)) | ((with_reducible apply wC_exit e43_31)) | ((with_reducible apply wC_seq e43_32; apply wC_block e43_33; apply wC_seq e43_34; apply wC_region e43_35); refine vOps_open (l := _ :: _) rfl ?_) | ((with_reducible apply wC_region e43_36); refine vOps_open (l := _ :: _) rfl ?_) | ((with_reducible apply wC_region e43_37); refine vOps_open (l := _ :: _) rfl ?_) | ((with_reducible apply wC_region e43_38); refine vOps_open (l := _ :: _) rfl ?_) | ((with_reducible apply wC_region e43_39); refine vOps_open (l := _ :: _) rfl ?_) | ((with_reducible apply wC_seq e43_40; apply wC_any e43_41 a43_41); refine vOps_open (l := _ :: _) rfl ?_) | ((with_reducible apply wC_seq e43_42; apply wC_any e43_43 a43_43); refine vOps_open (l := _ :: _) rfl ?_) | ((with_reducible apply wC_seq e43_44; apply wC_region e43_45); refine vOps_open (l := _ :: _) rfl ?_) | ((with_reducible apply wC_ret e43_46)) | ((with_reducible apply vOps_nil); try (with_reducible refine And.intro (by kernel_rfl) ?_)) | (refine kOps_box (row := ?_) (n := ?_) rfl rfl rfl rfl rfl ?_ ?_ ?_ ?_; rotate_left 2; (simp only [↓length_append, ↓length_set, ↓length_cons, length_nil, reduceAdd, zero_add]; rfl); (simp only [cl4, qz21, mulc03 a b lb, mulc13 a b lb, mulc23 a b lb, mulc33 a b lb, zero_mod, zero_cl8, qz14, qz17]; rfl); (focus (first | rfl | exact one_cl _ _ | exact one_bv _ | (simp only [qz19, all_cons, all_nil, Bool.and_self, PV.one]; done) | (simp [PV.one, qz19, one_bv, Value.oneCell']; done)))) | (refine kOps_alloc (row := ?_) (n := ?_) rfl rfl rfl rfl ty24 ?_ ?_ ?_ ?_; rotate_left 2; (simp only [↓length_append, ↓length_set, ↓length_cons, length_nil, reduceAdd, zero_add]; rfl); (simp only [cl4, qz21, mulc03 a b lb, mulc13 a b lb, mulc23 a b lb, mulc33 a b lb, zero_mod, zero_cl8, Value.cells, qz9, List.toList_toArray, zero_cl4, lit_ul0]; rfl); (focus (first | (simp only [Value.cells, List.toList_toArray, qz23, Value.oneCell', and_self]; done) | (simp [Value.cells, Value.oneCell']; done)))) | (refine kOps_alloc (row := ?_) (n := ?_) rfl rfl rfl rfl ty48 ?_ ?_ ?_ ?_; rotate_left 2; (simp only [↓length_append, ↓length_set, ↓length_cons, length_nil, reduceAdd, zero_add]; rfl); (simp only [cl4, qz21, mulc03 a b lb, mulc13 a b lb, mulc23 a b lb, mulc33 a b lb, zero_mod, zero_cl8, Value.cells, qz9, List.toList_toArray, zero_cl4, lit_ul0]; rfl); (focus (first | (simp only [Value.cells, List.toList_toArray, qz23, Value.oneCell', and_self]; done) | (simp [Value.cells, Value.oneCell']; done)))) | ((first | refine kOps_loadp (pre := ?_) (val := ?_) rfl rfl rfl rfl rfl ty24 ?_ ?_ ?_ | refine kOps_loadr (pre := ?_) (val := ?_) rfl rfl rfl rfl ty24 ?_ ?_ ?_); rotate_left 2; (simp only [cl4, qz21, mulc03 a b lb, mulc13 a b lb, mulc23 a b lb, mulc33 a b lb, zero_mod, zero_cl8, partF, isAggD, qz0, if_false, qz3, qz10, length_cons, length_nil, qz6, zero_add, n_add_zero, qz4, reduceAdd, reduceMul, toNat_natCast, reduceToNat, agg_cl, len_cl]; rfl); (focus ((repeat' apply And.intro) <;> first | exact True.intro | omega | (with_reducible rfl) | assumption | exact ⟨_, rfl⟩ | (simp only [sda]; done) | (simp only [len_cl]; omega) | (simp [Value.cells, Value.oneCell']; done)))) | (refine kOps_mv rfl rfl rfl rfl ?_) | (refine kOps_bin (b := .lss) (pre := ?_) (val := ?_) rfl rfl rfl rfl rfl ?_ ?_ ?_; rotate_left 2; (intro L; simp only [cl4, qz21, mulc03 a b lb, mulc13 a b lb, mulc23 a b lb, mulc33 a b lb, zero_mod, zero_cl8, eql_u4 ty24 ty22, neq_u4 ty24 ty22, lit_ul0, lit_ul1, qz35, Int.reduceAdd, Int.reduceSub, Int.reduceMul, Int.reduceNeg, Int.sub_zero, cast_ofNat_Int, ne_eq, Int.reduceLT, Int.reduceLE, Int.reduceEq, reduceMod, reduceLT, qz5, ty3]; (first | (rw [wrap_i64] <;> first | omega | rfl) | (rw [wrap_u8] <;> first | omega | rfl) | (rw [wrap_u16] <;> first | omega | rfl) | (rw [wrap_u32] <;> first | omega | rfl) | rfl)); exact trivial) | (refine kOps_ix (pre := ?_) (val := ?_) rfl rfl rfl rfl rfl ?_ ?_ ?_; rotate_left 2; (intro L; simp only [cl4, qz21, mulc03 a b lb, mulc13 a b lb, mulc23 a b lb, mulc33 a b lb, zero_mod, zero_cl8, index_u4 ty24 ty22, indexF, partF, cast_ofNat_Int, qz22, qz10, Int.reduceSub, qz3, qz0, length_cons, length_nil, qz6, zero_add, n_add_zero, qz4, one_mul, reduceAdd, reduceMul, reduceSub, reduceLeDiff, reduceEqDiff, toNat_natCast, reduceToNat, reduceIte, if_true, if_false, isAggD, len_cl, agg_cl, qz15, length_map, qz16, qz12, and_self, ty24, ty22]; rfl); (focus ((repeat' apply And.intro) <;> first | exact True.intro | omega | (with_reducible rfl) | assumption | exact ⟨_, rfl⟩ | (simp only [sda]; done) | (simp only [len_cl]; omega) | (simp [Value.cells, Value.oneCell']; done)))) | (refine kOps_as rfl rfl rfl rfl ?_) | (refine kOps_asc rfl rfl rfl lit_ul0 ?_) | (refine kOps_bin (b := .add) (pre := ?_) (val := ?_) rfl rfl rfl rfl rfl ?_ ?_ ?_; rotate_left 2; (intro L; simp only [cl4, qz21, mulc03 a b lb, mulc13 a b lb, mulc23 a b lb, mulc33 a b lb, zero_mod, zero_cl8, eql_u4 ty24 ty22, neq_u4 ty24 ty22, lit_ul0, lit_ul1, qz34, Int.reduceAdd, Int.reduceSub, Int.reduceMul, Int.reduceNeg, Int.sub_zero, cast_ofNat_Int, ne_eq, Int.reduceLT, Int.reduceLE, Int.reduceEq, reduceMod, reduceLT, qz5, ty3]; (first | (rw [wrap_i64] <;> first | omega | rfl) | (rw [wrap_u8] <;> first | omega | rfl) | (rw [wrap_u16] <;> first | omega | rfl) | (rw [wrap_u32] <;> first | omega | rfl) | rfl)); exact trivial) | ((first | (refine kOps_ixap (off' := ?_) rfl rfl rfl rfl rfl rfl ty48 ty22 ?_ ?_ ?_; rotate_left 1; (simp only [cl4, qz21, mulc03 a b lb, mulc13 a b lb, mulc23 a b lb, mulc33 a b lb, zero_mod, zero_cl8, zero_add, n_add_zero, qz4, one_mul, toNat_natCast, reduceToNat, reduceMul, reduceAdd]; rfl)) | (refine kOps_ixaq (cs' := ?_) rfl rfl rfl rfl rfl ty48 ty22 ?_ ?_ ?_; rotate_left 1; (simp only [cl4, qz21, mulc03 a b lb, mulc13 a b lb, mulc23 a b lb, mulc33 a b lb, zero_mod, zero_cl8, elemAt, isAggD, qz0, if_false, qz3, qz10, length_cons, length_nil, qz6, zero_add, n_add_zero, qz4, reduceAdd, reduceMul, toNat_natCast, reduceToNat, agg_cl, len_cl]; rfl))); (focus ((repeat' apply And.intro) <;> first | exact True.intro | omega | (with_reducible rfl) | assumption | exact ⟨_, rfl⟩ | (simp only [sda]; done) | (simp only [len_cl]; omega) | (simp [Value.cells, Value.oneCell']; done)))) | ((first | refine kOps_loadp (pre := ?_) (val := ?_) rfl rfl rfl rfl rfl ty22 ?_ ?_ ?_ | refine kOps_loadr (pre := ?_) (val := ?_) rfl rfl rfl rfl ty22 ?_ ?_ ?_); rotate_left 2; (simp only [cl4, qz21, mulc03 a b lb, mulc13 a b lb, mulc23 a b lb, mulc33 a b lb, zero_mod, zero_cl8, partF, isAggD, qz0, if_false, qz3, qz10, length_cons, length_nil, qz6, zero_add, n_add_zero, qz4, reduceAdd, reduceMul, toNat_natCast, reduceToNat, agg_cl, len_cl]; rfl); (focus ((repeat' apply And.intro) <;> first | exact True.intro | omega | (with_reducible rfl) | assumption | exact ⟨_, rfl⟩ | (simp only [sda]; done) | (simp only [len_cl]; omega) | (simp [Value.cells, Value.oneCell']; done)))) | (refine kOps_callc (pre := ?_) (val := ?_) rfl rfl rfl rfl rfl ?_ ?_ ?_ ?_ ?_; rotate_left 2; (simp only [cl4, qz21, mulc03 a b lb, mulc13 a b lb, mulc23 a b lb, mulc33 a b lb, zero_mod, zero_cl8, sMulAdd, lit_ul0, lit_ul1, nrmC, qz9, qz8, qz25, ulv_ul, uv_u4, qz12, and_self, n_add_zero, zero_add, n_sub_zero]; rfl); (focus (first | rfl | (simp only [closed, closedL, qz18, closedL_bv, closedL_cl, Bool.and_self, Bool.and_true]; done))); (focus (first | rfl | (simp only [closed, closedL, qz18, closedL_bv, closedL_cl, Bool.and_self, Bool.and_true]; done))); (focus ((repeat' apply And.intro) <;> first | exact True.intro | omega | (with_reducible rfl) | assumption | exact ⟨_, rfl⟩ | (simp only [sda]; done) | (simp only [len_cl]; omega) | (simp [Value.cells, Value.oneCell']; done)))) | (refine kOps_ext rfl rfl rfl rfl rfl ?_) | (refine kOps_store (cs' := ?_) rfl rfl rfl rfl rfl rfl rfl ty22 ?_ ?_ ?_; rotate_left 1; (simp only [cl4, qz21, mulc03 a b lb, mulc13 a b lb, mulc23 a b lb, mulc33 a b lb, zero_mod, zero_cl8, lit_ul0, lit_ul1, splice, qz14, qz17, isAggD, qz0, if_false, qz3, qz10, length_cons, length_nil, qz6, zero_add, n_add_zero, qz4, reduceAdd, reduceMul, toNat_natCast, reduceToNat, agg_cl, len_cl]; rfl); (focus (first | (simp only [lit_ul0, lit_ul1, qz14, qz17, length_cons, length_nil, len_cl, length_set, length_map, reduceAdd, zero_add, all_cons, all_nil, qz19, one_bv, PV.one, Value.oneCell', Bool.and_self, reduceLeDiff, Nat.le_refl, and_self, qz12]; done) | ((try simp only [lit_ul0, lit_ul1, qz14, qz17]); (focus ((repeat' apply And.intro) <;> first | exact True.intro | omega | (with_reducible rfl) | assumption | exact ⟨_, rfl⟩ | (simp only [sda]; done) | (simp only [len_cl]; omega) | (simp [Value.cells, Value.oneCell']; done))))))) | (refine vOps_slice (pre := ?_) (val := ?_) (L' := ?_) rfl rfl rfl ?_ ?_ ?_; rotate_left 3; (simp only [cl4, qz21, mulc03 a b lb, mulc13 a b lb, mulc23 a b lb, mulc33 a b lb, zero_mod, zero_cl8, evalIn_tmp, evalIn_const, evalIn_func, qz7, Nat.reduceBEq, lit_ul0, lit_ul1, sliceF, ints?, Option.map_some, Option.map_none, Int.sub_zero, Int.reduceSub, cast_ofNat_Int, qz22, qz10, qz3, qz0, length_cons, length_nil, qz6, zero_add, n_add_zero, qz4, one_mul, reduceAdd, reduceMul, reduceSub, reduceLeDiff, reduceEqDiff, toNat_natCast, reduceToNat, reduceIte, if_true, if_false, isAggD, len_cl, agg_cl, qz15, length_map, qz16, qz12, and_self, ty3, ty22, ty24, ty48, ty50]; (first | (rw [wrap_i64] <;> first | omega | rfl) | (rw [wrap_u8] <;> first | omega | rfl) | (rw [wrap_u16] <;> first | omega | rfl) | (rw [wrap_u32] <;> first | omega | rfl) | rfl)); (focus ((repeat' apply And.intro) <;> first | exact True.intro | omega | (with_reducible rfl) | assumption | exact ⟨_, rfl⟩ | (simp only [sda]; done) | (simp only [len_cl]; omega) | (simp [Value.cells, Value.oneCell']; done)))) | (refine kOps_store (cs' := ?_) rfl rfl rfl rfl rfl rfl rfl ty24 ?_ ?_ ?_; rotate_left 1; (simp only [cl4, qz21, mulc03 a b lb, mulc13 a b lb, mulc23 a b lb, mulc33 a b lb, zero_mod, zero_cl8, lit_ul0, lit_ul1, splice, qz14, qz17, isAggD, qz0, if_false, qz3, qz10, length_cons, length_nil, qz6, zero_add, n_add_zero, qz4, reduceAdd, reduceMul, toNat_natCast, reduceToNat, agg_cl, len_cl]; rfl); (focus (first | (simp only [lit_ul0, lit_ul1, qz14, qz17, length_cons, length_nil, len_cl, length_set, length_map, reduceAdd, zero_add, all_cons, all_nil, qz19, one_bv, PV.one, Value.oneCell', Bool.and_self, reduceLeDiff, Nat.le_refl, and_self, qz12]; done) | ((try simp only [lit_ul0, lit_ul1, qz14, qz17]); (focus ((repeat' apply And.intro) <;> first | exact True.intro | omega | (with_reducible rfl) | assumption | exact ⟨_, rfl⟩ | (simp only [sda]; done) | (simp only [len_cl]; omega) | (simp [Value.cells, Value.oneCell']; done))))))) | (refine vOps_op (pre := ?_) (val := ?_) (L' := ?_) rfl rfl rfl ?_ ?_ ?_; rotate_left 3; (simp only [cl4, qz21, mulc03 a b lb, mulc13 a b lb, mulc23 a b lb, mulc33 a b lb, zero_mod, zero_cl8, eql_u4 ty24 ty22, neq_u4 ty24 ty22, index_u4 ty24 ty22, sMulAdd, cast_ofNat_Int, qz22, qz10, opF, dm, md, cls, isW, qz11, evalIn_tmp, evalIn_const, evalIn_func, qz7, Nat.reduceBEq, dro_bv, droOk_bv, bytesOf_u8, ByteArray.toList_mk, qz34, qz36, binF_mul, binF_quo, binF_rem, qz35, binF_leq, binF_gtr, qz33, qz31, qz37, binF_and, qz43, binF_xor, qz40, qz41, qz38, lenF, capF, makeF, appF, news, kill, qz15, qz0, length_map, qz4, zero_add, one_mul, List.reduceReplicate, sliceF, ints?, indexAddrF, elemAt, loadF, partF, isAggD, storeF, splice, boxF, allocF, buildSliceF, buildF, fillA, fillB, zeroCells, fieldF, fieldAddrF, indexF, extractF, copyF, fresh_own, fresh_ro, Int.sub_zero, Int.reduceSub, Int.reduceAdd, Int.reduceMul, Int.reduceNeg, rep_zero, rep_u8, rep_slice, reduceLeDiff, Value.cells, bv, qz3, length_cons, length_nil, reduceAdd, reduceSub, reduceMul, qz6, qz16, Option.map_some, Option.map_none, toNat_natCast, if_true, if_false, reduceEqDiff, reduceIte, IntKind.bits, qz9, List.toList_toArray, reduceToNat, callF, pureF, conOf, tabOf_cons, nrmC, adopt_closed, adopt_new, adopt_tnew, borrow, borrowOk, closed, closedL, closedL_bv, closedL_rows, dro, droOk, flat, flatL, flatL_bv, qz23, newB, qz8, bytesOf_one, isB_one, isRows, rowsOf, List.flatten_cons, List.flatten_nil, List.append_nil, all_nil, Bool.and_true, Bool.true_and, Bool.and_self, true_or, or_true, or_false, false_or, qz12, and_self, clr, n_add_zero, and_false, false_and, qz17, slc_ro, slc_nil', slc_own', lit_ul0, lit_ul1, mul_ul, leq_ul, gtr_ul, and_ul, xor_ul, qz14, qz19, qz18, flat_ul, borrow_ul, qz25, ulv_ul, len_cl, closedL_cl, flatL_cl, agg_cl, flat_u4, borrow_u4, uv_u4, zero_cl4, ty3, ty22, ty24, ty48, ty50]; (first | (rw [wrap_i64] <;> first | omega | rfl) | (rw [wrap_u8] <;> first | omega | rfl) | (rw [wrap_u16] <;> first | omega | rfl) | (rw [wrap_u32] <;> first | omega | rfl) | rfl)); (focus ((repeat' apply And.intro) <;> first | exact True.intro | omega | (with_reducible rfl) | assumption | exact ⟨_, rfl⟩ | (simp only [sda]; done) | (simp only [len_cl]; omega) | (simp [Value.cells, Value.oneCell']; done)))))
    refine fin_c (p := ?_) (xs := [.cell 4 24, .cell 5 24]) (by simp) rfl ?_ ?_ ?_ ?_
    rotate_left 2
    · simp only [rsx, qz9, cl4, qz21, mulc03 a b lb, mulc13 a b lb, mulc23 a b lb, mulc33 a b lb, zero_mod, zero_cl8, evalIn_tmp, evalIn_const, evalIn_func, qz7, Nat.reduceBEq, lit_ul0, lit_ul1, loadF, partF, cast_ofNat_Int, qz22, qz10, Int.reduceSub, qz3, qz0, length_cons, length_nil, qz6, zero_add, n_add_zero, qz4, one_mul, reduceAdd, reduceMul, reduceSub, reduceLeDiff, reduceEqDiff, toNat_natCast, reduceToNat, reduceIte, if_true, if_false, isAggD, len_cl, agg_cl, qz15, length_map, qz16, qz12, and_self, ty3, ty22, ty24, ty48, ty50]; try rfl
    · first | rfl | (simp only [closed, closedL, qz18, closedL_cl, closedL_bv, Bool.and_self, Bool.and_true]; first | done | rfl)
    · try simp only [← cl4, agg_cl]
      have e : PV.agg [ul (a % 18446744073709551616 * b), ul (a % 340282366920938463463374607431768211456 * b / 18446744073709551616), ul (a % 6277101735386680763835789423207666416102355444464034512896 * b / 340282366920938463463374607431768211456), ul (a % 115792089237316195423570985008687907853269984665640564039457584007913129639936 * b / 6277101735386680763835789423207666416102355444464034512896)] = u4 (a * b) := by
        rw [u4, cl4, ul_congr (mullo0 a b), ul_congr (mullo1 a b), ul_congr (mullo2 a b), mod_eq_of_lt la]
      refine tup2 ?_ ?_
      · rw [mod_eq_of_lt la]
        refine agg4 ?_
        generalize a * b = z
        omega
      · exact e
    · simp only [rsx, qz9, cl4, qz21, mulc03 a b lb, mulc13 a b lb, mulc23 a b lb, mulc33 a b lb, zero_mod, zero_cl8, evalIn_tmp, evalIn_const, evalIn_func, qz7, Nat.reduceBEq, lit_ul0, lit_ul1, loadF, partF, cast_ofNat_Int, qz22, qz10, Int.reduceSub, qz3, qz0, length_cons, length_nil, qz6, zero_add, n_add_zero, qz4, one_mul, reduceAdd, reduceMul, reduceSub, reduceLeDiff, reduceEqDiff, toNat_natCast, reduceToNat, reduceIte, if_true, if_false, isAggD, len_cl, agg_cl, qz15, length_map, qz16, qz12, and_self, ty3, ty22, ty24, ty48, ty50]; try trivial
  · exact hS.elim
end Go.Ab
