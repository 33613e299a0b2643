import Derived.Test.YtmnkapmcclhiiaaQZ
import Derived.Test.YtmnkapmcclhiiaaME
import Derived.Test.YtmnkapmcclhiiaaTY
import Derived.Test.YtmnkapmcclhiiaaZ1
import Derived.Test.YtmnkapmcclhiiaaZ3
import Derived.Test.YtmnkapmcclhiiaaZ4
namespace Go.Ab
open Go Go.Proofs
open Nat (reduceAdd zero_add reduceMul reduceLeDiff reduceMod reduceLT reduceSub reduceEqDiff reduceDiv one_mul)
open List (length_cons length_nil all_nil all_cons length_map length_set)
open Int (toNat_natCast reduceToNat cast_ofNat_Int)
set_option linter.unusedVariables false
set_option linter.unusedSimpArgs false
set_option maxRecDepth 8000
set_option maxHeartbeats 4000000
noncomputable def B70 : Code := bodyOf Try.f70
theorem B70_eq : Try.f70.body = some B70 := by kernel_rfl
noncomputable def n70_0 := B70
noncomputable def n70_1 := codeAt B70 [0]
noncomputable def n70_2 := codeAt B70 [1]
noncomputable def n70_3 := codeAt B70 [1,0]
noncomputable def n70_4 := codeAt B70 [1,1]
noncomputable def n70_5 := codeAt B70 [1,1,0]
noncomputable def n70_6 := codeAt B70 [1,1,1]
noncomputable def n70_7 := codeAt B70 [1,1,1,0]
noncomputable def n70_8 := codeAt B70 [1,1,1,1]
noncomputable def n70_9 := codeAt B70 [1,1,1,1,0]
noncomputable def n70_10 := codeAt B70 [1,1,1,1,1]
noncomputable def n70_11 := codeAt B70 [1,1,1,1,1,0]
noncomputable def n70_12 := codeAt B70 [1,1,1,1,1,0,0]
noncomputable def n70_13 := codeAt B70 [1,1,1,1,1,0,1]
noncomputable def n70_14 := codeAt B70 [1,1,1,1,1,0,1,0]
noncomputable def n70_15 := codeAt B70 [1,1,1,1,1,0,1,0,0]
noncomputable def n70_16 := codeAt B70 [1,1,1,1,1,0,1,0,1]
noncomputable def n70_17 := codeAt B70 [1,1,1,1,1,0,1,1]
noncomputable def n70_18 := codeAt B70 [1,1,1,1,1,1]
noncomputable def n70_19 := codeAt B70 [1,1,1,1,1,1,0]
noncomputable def n70_20 := codeAt B70 [1,1,1,1,1,1,1]
noncomputable def n70_21 := codeAt B70 [1,1,1,1,1,1,1,0]
noncomputable def n70_22 := codeAt B70 [1,1,1,1,1,1,1,1]
theorem e70_0 : n70_0 = .seq n70_1 n70_2 := rfl
noncomputable def r70_1 := opsAt n70_1
theorem e70_1 : n70_1 = .region 0 (r70_1).toArray false := rfl
theorem e70_2 : n70_2 = .seq n70_3 n70_4 := rfl
noncomputable def r70_3 := opsAt n70_3
theorem e70_3 : n70_3 = .region 1 (r70_3).toArray true := rfl
theorem a70_3 : anyOk r70_3 = true := by decide +kernel
theorem e70_4 : n70_4 = .seq n70_5 n70_6 := rfl
noncomputable def r70_5 := opsAt n70_5
theorem e70_5 : n70_5 = .region 2 (r70_5).toArray true := rfl
theorem a70_5 : anyOk r70_5 = true := by decide +kernel
theorem e70_6 : n70_6 = .seq n70_7 n70_8 := rfl
noncomputable def r70_7 := opsAt n70_7
theorem e70_7 : n70_7 = .region 3 (r70_7).toArray true := rfl
theorem a70_7 : anyOk r70_7 = true := by decide +kernel
theorem e70_8 : n70_8 = .seq n70_9 n70_10 := rfl
noncomputable def r70_9 := opsAt n70_9
theorem e70_9 : n70_9 = .region 4 (r70_9).toArray true := rfl
theorem a70_9 : anyOk r70_9 = true := by decide +kernel
theorem e70_10 : n70_10 = .seq n70_11 n70_18 := rfl
theorem e70_11 : n70_11 = .seq n70_12 n70_13 := rfl
noncomputable def r70_12 := opsAt n70_12
theorem e70_12 : n70_12 = .region 5 (r70_12).toArray false := rfl
theorem e70_13 : n70_13 = .cond (.tmp 65) n70_14 n70_17 := rfl
theorem e70_14 : n70_14 = .seq n70_15 n70_16 := rfl
noncomputable def r70_15 := opsAt n70_15
theorem e70_15 : n70_15 = .region 6 (r70_15).toArray false := rfl
theorem e70_16 : n70_16 = .ret := rfl
theorem e70_17 : n70_17 = .skip := rfl
theorem e70_18 : n70_18 = .seq n70_19 n70_20 := rfl
noncomputable def r70_19 := opsAt n70_19
theorem e70_19 : n70_19 = .region 7 (r70_19).toArray true := rfl
theorem a70_19 : anyOk r70_19 = true := by decide +kernel
theorem e70_20 : n70_20 = .seq n70_21 n70_22 := rfl
noncomputable def r70_21 := opsAt n70_21
theorem e70_21 : n70_21 = .region 8 (r70_21).toArray false := rfl
theorem e70_22 : n70_22 = .ret := rfl
theorem f_wide_takeOff : StOk Try.prog 70 tTakeOff := by
  refine stOk_of (c := n70_0) (tab := tabOf [(57, .ext sSub64)]) (tabOf_ok (conOf_one (S := .ext sSub64) f_bits_Sub64 (conOf_end))) mixed Try.func70 B70_eq (by decide +kernel) Try.call70 ?_
  intro args L hS
  unfold tTakeOff at hS ⊢
  split at hS
  rotate_left 1
  · exact hS.elim
  rename_i i j x
  obtain ⟨hLC, hr, hr2, hij, hx, hle⟩ := hS
  obtain ⟨a, la, hL, en⟩ := rowU_out hr
  obtain ⟨b, lb, hL2, en2⟩ := rowU_out hr2
  obtain ⟨x, lx, rfl⟩ := isul_out hx
  simp only [ulv_ul, Nat.mod_eq_of_lt lx] at hle
  dsimp only
  simp only [en, en2, ulv_ul, Nat.mod_eq_of_lt lx]
  clear hr hr2 hx en en2
  refine ⟨by rw [Try.ntmps70]; simp, by simp, vC_sound ?_⟩
  simp only [qz26, reduceAdd]
  repeat' (first | (with_reducible first | apply seqC_normal | apply seqC_ret) | ((with_reducible apply wC_seq e70_0; apply wC_region e70_1); refine vOps_open (l := _ :: _) rfl ?_) | ((with_reducible apply wC_seq e70_2; apply wC_any e70_3 a70_3); refine vOps_open (l := _ :: _) rfl ?_) | ((with_reducible apply wC_seq e70_4; apply wC_any e70_5 a70_5); refine vOps_open (l := _ :: _) rfl ?_) | ((with_reducible apply wC_seq e70_6; apply wC_any e70_7 a70_7); refine vOps_open (l := _ :: _) rfl ?_) | ((with_reducible apply wC_seq e70_8; apply wC_any e70_9 a70_9); refine vOps_open (l := _ :: _) rfl ?_) | ((with_reducible apply wC_seq e70_10; apply wC_seq e70_11; apply wC_region e70_12); refine vOps_open (l := _ :: _) rfl ?_) | ((with_reducible apply kC_cond e70_13); (exact rfl); all_goals (intro hb; first | (cases hb; done) | cases hb | ((try simp only [dxe] at hb); try (exfalso; first | omega | exact hb trivial)))) | ((with_reducible apply wC_seq e70_14; apply wC_region e70_15); refine vOps_open (l := _ :: _) rfl ?_) | ((with_reducible apply wC_ret e70_16)) | ((with_reducible apply wC_skip e70_17)) | ((with_reducible apply wC_seq e70_18; apply wC_any e70_19 a70_19); refine vOps_open (l := _ :: _) rfl ?_) | ((with_reducible apply wC_seq e70_20; apply wC_region e70_21); refine vOps_open (l := _ :: _) rfl ?_) | ((with_reducible apply wC_ret e70_22)) | ((with_reducible apply vOps_nil); try (with_reducible refine And.intro (by kernel_rfl) ?_)) | (refine kOps_as rfl rfl rfl rfl ?_) | (refine kOps_mv rfl rfl rfl rfl ?_) | (refine kOps_nilp (cs := ?_) rfl rfl rfl rfl ?_ ?_; rotate_left 1; (focus (first | rfl | exact hL | exact hL2 | exact set_get hL | exact (set_get_ne hij).trans hL2 | exact set_get (set_get hL)))) | ((first | (refine kOps_ixap (cs := ?_) (off' := ?_) rfl rfl rfl rfl rfl ?_ ty24 ty22 ?_ ?_ ?_; rotate_left 2; (focus (first | rfl | exact hL | exact hL2 | exact set_get hL | exact (set_get_ne hij).trans hL2 | exact set_get (set_get hL))); rotate_right 1; rotate_left 1; (simp only [cl4, Nat.reducePow, reduceMod, reduceDiv, zero_add, n_add_zero, qz4, one_mul, toNat_natCast, reduceToNat, reduceMul, reduceAdd]; rfl)) | (refine kOps_ixaq (cs' := ?_) rfl rfl rfl rfl rfl ty24 ty22 ?_ ?_ ?_; rotate_left 1; (simp only [cl4, Nat.reducePow, reduceMod, reduceDiv, elemAt, cast_ofNat_Int, qz22, qz10, Int.reduceSub, qz3, qz0, length_cons, length_nil, qz6, zero_add, n_add_zero, qz4, one_mul, reduceAdd, reduceMul, reduceSub, reduceLeDiff, reduceEqDiff, toNat_natCast, reduceToNat, reduceIte, if_true, if_false, isAggD, len_cl, agg_cl, qz15, length_map, qz16, qz12, and_self]; rfl))); (focus ((repeat' apply And.intro) <;> first | exact True.intro | omega | (with_reducible rfl) | assumption | exact ⟨_, rfl⟩ | (simp only [sda, sdb, Value.oneCell', and_self]; done) | exact (isByte_bv _).2 trivial | exact one_bv _ | (simp [Value.oneCell', PV.one, one_bv, closedL_bv, flatL_bv, closedL, closed, isByte_bv, Value.cells, PV.cells, sda]; first | done | omega)))) | ((first | (refine kOps_loadp (cs := ?_) (pre := ?_) (val := ?_) rfl rfl rfl rfl ?_ ty22 ?_ ?_ ?_; rotate_left 3; (focus (first | rfl | exact hL | exact hL2 | exact set_get hL | exact (set_get_ne hij).trans hL2 | exact set_get (set_get hL))); rotate_right 2) | refine kOps_loadr (pre := ?_) (val := ?_) rfl rfl rfl rfl ty22 ?_ ?_ ?_); rotate_left 2; (simp only [cl4, Nat.reducePow, reduceMod, reduceDiv, partF, cast_ofNat_Int, qz22, qz10, Int.reduceSub, qz3, qz0, length_cons, length_nil, qz6, zero_add, n_add_zero, qz4, one_mul, reduceAdd, reduceMul, reduceSub, reduceLeDiff, reduceEqDiff, toNat_natCast, reduceToNat, reduceIte, if_true, if_false, isAggD, len_cl, agg_cl, qz15, length_map, qz16, qz12, and_self]; rfl); (focus ((repeat' apply And.intro) <;> first | exact True.intro | omega | (with_reducible rfl) | assumption | exact ⟨_, rfl⟩ | (simp only [sda, sdb, Value.oneCell', and_self]; done) | exact (isByte_bv _).2 trivial | exact one_bv _ | (simp [Value.oneCell', PV.one, one_bv, closedL_bv, flatL_bv, closedL, closed, isByte_bv, Value.cells, PV.cells, sda]; first | done | omega)))) | (refine kOps_calle (pre := ?_) (val := ?_) rfl rfl rfl rfl rfl ?_ ?_ ?_; rotate_left 2; (simp only [cl4, Nat.reducePow, reduceMod, reduceDiv, subd0, subd1, subc1, subd2, subc2, subd3, subc3, Nat.zero_mod, n_sub_zero, sSub64, lit_ul0, lit_ul1, nrmC, qz9, qz8, qz25, ulv_ul, uv_u4, qz12, and_self, n_add_zero, zero_add]; rfl); (focus ((repeat' apply And.intro) <;> first | exact True.intro | omega | (with_reducible rfl) | assumption | exact ⟨_, rfl⟩ | (simp only [sda, sdb, Value.oneCell', and_self]; done) | exact (isByte_bv _).2 trivial | exact one_bv _ | (simp [Value.oneCell', PV.one, one_bv, closedL_bv, flatL_bv, closedL, closed, isByte_bv, Value.cells, PV.cells, sda]; first | done | omega)))) | (refine kOps_ext rfl rfl rfl rfl rfl ?_) | (refine kOps_bin (b := .gtr) (pre := ?_) (val := ?_) rfl rfl rfl rfl rfl ?_ ?_ ?_; rotate_left 2; (intro L; simp only [cl4, Nat.reducePow, reduceMod, reduceDiv, eql_u4 ty24 ty22, neq_u4 ty24 ty22, lit_ul0, lit_ul1, gtr_ul, binF_gtr, Int.reduceAdd, Int.reduceSub, Int.reduceMul, Int.reduceNeg, Int.sub_zero, cast_ofNat_Int, ne_eq, Int.reduceLT, Int.reduceLE, Int.reduceEq, reduceLT, qz5, ty22]; (first | (rw [wrap_i64] <;> first | omega | rfl) | (rw [wrap_u8] <;> first | omega | rfl) | (rw [wrap_u16] <;> first | omega | rfl) | (rw [wrap_u32] <;> first | omega | rfl) | rfl)); exact trivial) | (refine kOps_storeS (cs := ?_) (cs' := ?_) (L2 := ?_) rfl rfl rfl rfl rfl rfl ?_ ty22 ?_ ?_ ?_ ?_; rotate_left 3; (focus (first | rfl | exact hL | exact hL2 | exact set_get hL | exact (set_get_ne hij).trans hL2 | exact set_get (set_get hL))); (simp only [cl4, Nat.reducePow, reduceMod, reduceDiv, lit_ul0, lit_ul1, splice, qz14, qz17, cast_ofNat_Int, qz22, qz10, Int.reduceSub, qz3, qz0, length_cons, length_nil, qz6, zero_add, n_add_zero, qz4, one_mul, reduceAdd, reduceMul, reduceSub, reduceLeDiff, reduceEqDiff, toNat_natCast, reduceToNat, reduceIte, if_true, if_false, isAggD, len_cl, agg_cl, qz15, length_map, qz16, qz12, and_self]; rfl); (first | exact set_set' | (simp only [qz6]; rfl) | rfl); (focus (first | (simp only [lit_ul0, lit_ul1, qz14, qz17, length_cons, length_nil, len_cl, length_set, length_map, reduceAdd, zero_add, all_cons, all_nil, qz19, one_bv, PV.one, Value.oneCell', Bool.and_self, reduceLeDiff, Nat.le_refl, and_self, qz12]; done) | ((try simp only [lit_ul0, lit_ul1, qz14, qz17]); (focus ((repeat' apply And.intro) <;> first | exact True.intro | omega | (with_reducible rfl) | assumption | exact ⟨_, rfl⟩ | (simp only [sda, sdb, Value.oneCell', and_self]; done) | exact (isByte_bv _).2 trivial | exact one_bv _ | (simp [Value.oneCell', PV.one, one_bv, closedL_bv, flatL_bv, closedL, closed, isByte_bv, Value.cells, PV.cells, sda]; first | done | omega))))))))
  · refine fin_s (p := ?_) (xs := [.tmp 6]) (by simp) rfl ?_ ?_ ?_ ?_ ?_ ?_
    rotate_left 2
    · simp only [rsx, qz9, cl4, Nat.reducePow, reduceMod, reduceDiv, evalIn_tmp, evalIn_const, evalIn_func, qz7, Nat.reduceBEq, lit_ul0, lit_ul1, loadF, partF, cast_ofNat_Int, qz22, qz10, Int.reduceSub, qz3, qz0, length_cons, length_nil, qz6, zero_add, n_add_zero, qz4, one_mul, reduceAdd, reduceMul, reduceSub, reduceLeDiff, reduceEqDiff, toNat_natCast, reduceToNat, reduceIte, if_true, if_false, isAggD, len_cl, agg_cl, qz15, length_map, qz16, qz12, and_self, ty22, ty24]; try rfl
    · first | rfl | (simp only [closed, closedL, qz18, closedL_cl, closedL_bv, Bool.and_self, Bool.and_true]; first | done | rfl)
    · exact bool_ff (by omega)
    · rw [if_neg (by omega), set_same hL]; exact take_same
    · exact LC_set (closedL_cl _ _) hLC
    · simp only [rsx, qz9, cl4, Nat.reducePow, reduceMod, reduceDiv, evalIn_tmp, evalIn_const, evalIn_func, qz7, Nat.reduceBEq, lit_ul0, lit_ul1, loadF, partF, cast_ofNat_Int, qz22, qz10, Int.reduceSub, qz3, qz0, length_cons, length_nil, qz6, zero_add, n_add_zero, qz4, one_mul, reduceAdd, reduceMul, reduceSub, reduceLeDiff, reduceEqDiff, toNat_natCast, reduceToNat, reduceIte, if_true, if_false, isAggD, len_cl, agg_cl, qz15, length_map, qz16, qz12, and_self, ty22, ty24]; try trivial
  · refine fin_s (p := ?_) (xs := [.tmp 6]) (by simp) rfl ?_ ?_ ?_ ?_ ?_ ?_
    rotate_left 2
    · simp only [rsx, qz9, cl4, Nat.reducePow, reduceMod, reduceDiv, evalIn_tmp, evalIn_const, evalIn_func, qz7, Nat.reduceBEq, lit_ul0, lit_ul1, loadF, partF, cast_ofNat_Int, qz22, qz10, Int.reduceSub, qz3, qz0, length_cons, length_nil, qz6, zero_add, n_add_zero, qz4, one_mul, reduceAdd, reduceMul, reduceSub, reduceLeDiff, reduceEqDiff, toNat_natCast, reduceToNat, reduceIte, if_true, if_false, isAggD, len_cl, agg_cl, qz15, length_map, qz16, qz12, and_self, ty22, ty24]; try rfl
    · first | rfl | (simp only [closed, closedL, qz18, closedL_cl, closedL_bv, Bool.and_self, Bool.and_true]; first | done | rfl)
    · exact bool_tt (by omega)
    · rw [if_pos (by omega), list4 (n := a + 115792089237316195423570985008687907853269984665640564039457584007913129639936 - b) (by omega)]; exact take_same
    · exact LC_set (closedL_cl _ _) hLC
    · simp only [rsx, qz9, cl4, Nat.reducePow, reduceMod, reduceDiv, evalIn_tmp, evalIn_const, evalIn_func, qz7, Nat.reduceBEq, lit_ul0, lit_ul1, loadF, partF, cast_ofNat_Int, qz22, qz10, Int.reduceSub, qz3, qz0, length_cons, length_nil, qz6, zero_add, n_add_zero, qz4, one_mul, reduceAdd, reduceMul, reduceSub, reduceLeDiff, reduceEqDiff, toNat_natCast, reduceToNat, reduceIte, if_true, if_false, isAggD, len_cl, agg_cl, qz15, length_map, qz16, qz12, and_self, ty22, ty24]; try trivial
noncomputable def B68 : Code := bodyOf Try.f68
theorem B68_eq : Try.f68.body = some B68 := by kernel_rfl
noncomputable def n68_0 := B68
noncomputable def n68_1 := codeAt B68 [0]
noncomputable def n68_2 := codeAt B68 [1]
noncomputable def n68_3 := codeAt B68 [1,0]
noncomputable def n68_4 := codeAt B68 [1,0,0]
noncomputable def n68_5 := codeAt B68 [1,0,0,0]
noncomputable def n68_6 := codeAt B68 [1,0,0,1]
noncomputable def n68_7 := codeAt B68 [1,0,0,1,0]
noncomputable def n68_8 := codeAt B68 [1,0,0,1,0,0]
noncomputable def n68_9 := codeAt B68 [1,0,0,1,0,1]
noncomputable def n68_10 := codeAt B68 [1,0,0,1,1]
noncomputable def n68_11 := codeAt B68 [1,0,1]
noncomputable def n68_12 := codeAt B68 [1,0,1,0]
noncomputable def n68_13 := codeAt B68 [1,0,1,1]
noncomputable def n68_14 := codeAt B68 [1,0,1,1,0]
noncomputable def n68_15 := codeAt B68 [1,0,1,1,1]
noncomputable def n68_16 := codeAt B68 [1,0,1,1,1,0]
noncomputable def n68_17 := codeAt B68 [1,0,1,1,1,0,0]
noncomputable def n68_18 := codeAt B68 [1,0,1,1,1,0,1]
noncomputable def n68_19 := codeAt B68 [1,0,1,1,1,0,1,0]
noncomputable def n68_20 := codeAt B68 [1,0,1,1,1,0,1,0,0]
noncomputable def n68_21 := codeAt B68 [1,0,1,1,1,0,1,0,0,0]
noncomputable def n68_22 := codeAt B68 [1,0,1,1,1,0,1,0,0,0,0]
noncomputable def n68_23 := codeAt B68 [1,0,1,1,1,0,1,0,0,0,1]
noncomputable def n68_24 := codeAt B68 [1,0,1,1,1,0,1,0,0,0,1,0]
noncomputable def n68_25 := codeAt B68 [1,0,1,1,1,0,1,0,0,0,1,1]
noncomputable def n68_26 := codeAt B68 [1,0,1,1,1,0,1,0,0,1]
noncomputable def n68_27 := codeAt B68 [1,0,1,1,1,0,1,0,0,1,0]
noncomputable def n68_28 := codeAt B68 [1,0,1,1,1,0,1,0,0,1,0,0]
noncomputable def n68_29 := codeAt B68 [1,0,1,1,1,0,1,0,0,1,0,0,0]
noncomputable def n68_30 := codeAt B68 [1,0,1,1,1,0,1,0,0,1,0,0,1]
noncomputable def n68_31 := codeAt B68 [1,0,1,1,1,0,1,0,0,1,0,0,1,0]
noncomputable def n68_32 := codeAt B68 [1,0,1,1,1,0,1,0,0,1,0,0,1,0,0]
noncomputable def n68_33 := codeAt B68 [1,0,1,1,1,0,1,0,0,1,0,0,1,0,0,0]
noncomputable def n68_34 := codeAt B68 [1,0,1,1,1,0,1,0,0,1,0,0,1,0,0,0,0]
noncomputable def n68_35 := codeAt B68 [1,0,1,1,1,0,1,0,0,1,0,0,1,0,0,0,1]
noncomputable def n68_36 := codeAt B68 [1,0,1,1,1,0,1,0,0,1,0,0,1,0,0,0,1,0]
noncomputable def n68_37 := codeAt B68 [1,0,1,1,1,0,1,0,0,1,0,0,1,0,0,0,1,1]
noncomputable def n68_38 := codeAt B68 [1,0,1,1,1,0,1,0,0,1,0,0,1,0,0,1]
noncomputable def n68_39 := codeAt B68 [1,0,1,1,1,0,1,0,0,1,0,0,1,0,0,1,0]
noncomputable def n68_40 := codeAt B68 [1,0,1,1,1,0,1,0,0,1,0,0,1,0,0,1,0,0]
noncomputable def n68_41 := codeAt B68 [1,0,1,1,1,0,1,0,0,1,0,0,1,0,0,1,0,0,0]
noncomputable def n68_42 := codeAt B68 [1,0,1,1,1,0,1,0,0,1,0,0,1,0,0,1,0,0,0,0]
noncomputable def n68_43 := codeAt B68 [1,0,1,1,1,0,1,0,0,1,0,0,1,0,0,1,0,0,0,1]
noncomputable def n68_44 := codeAt B68 [1,0,1,1,1,0,1,0,0,1,0,0,1,0,0,1,0,0,0,1,0]
noncomputable def n68_45 := codeAt B68 [1,0,1,1,1,0,1,0,0,1,0,0,1,0,0,1,0,0,0,1,1]
noncomputable def n68_46 := codeAt B68 [1,0,1,1,1,0,1,0,0,1,0,0,1,0,0,1,0,0,1]
noncomputable def n68_47 := codeAt B68 [1,0,1,1,1,0,1,0,0,1,0,0,1,0,0,1,0,0,1,0]
noncomputable def n68_48 := codeAt B68 [1,0,1,1,1,0,1,0,0,1,0,0,1,0,0,1,0,0,1,1]
noncomputable def n68_49 := codeAt B68 [1,0,1,1,1,0,1,0,0,1,0,0,1,0,0,1,0,0,1,1,0]
noncomputable def n68_50 := codeAt B68 [1,0,1,1,1,0,1,0,0,1,0,0,1,0,0,1,0,0,1,1,1]
noncomputable def n68_51 := codeAt B68 [1,0,1,1,1,0,1,0,0,1,0,0,1,0,0,1,0,0,1,1,1,0]
noncomputable def n68_52 := codeAt B68 [1,0,1,1,1,0,1,0,0,1,0,0,1,0,0,1,0,0,1,1,1,1]
noncomputable def n68_53 := codeAt B68 [1,0,1,1,1,0,1,0,0,1,0,0,1,0,0,1,0,0,1,1,1,1,0]
noncomputable def n68_54 := codeAt B68 [1,0,1,1,1,0,1,0,0,1,0,0,1,0,0,1,0,0,1,1,1,1,1]
noncomputable def n68_55 := codeAt B68 [1,0,1,1,1,0,1,0,0,1,0,0,1,0,0,1,0,0,1,1,1,1,1,0]
noncomputable def n68_56 := codeAt B68 [1,0,1,1,1,0,1,0,0,1,0,0,1,0,0,1,0,0,1,1,1,1,1,1]
noncomputable def n68_57 := codeAt B68 [1,0,1,1,1,0,1,0,0,1,0,0,1,0,0,1,1]
noncomputable def n68_58 := codeAt B68 [1,0,1,1,1,0,1,0,0,1,1]
noncomputable def n68_59 := codeAt B68 [1,0,1,1,1,1]
noncomputable def n68_60 := codeAt B68 [1,0,1,1,1,1,0]
noncomputable def n68_61 := codeAt B68 [1,0,1,1,1,1,1]
theorem e68_0 : n68_0 = .seq n68_1 n68_2 := rfl
noncomputable def r68_1 := opsAt n68_1
theorem e68_1 : n68_1 = .region 0 (r68_1).toArray false := rfl
theorem e68_2 : n68_2 = .scope n68_3 := rfl
theorem e68_3 : n68_3 = .seq n68_4 n68_11 := rfl
theorem e68_4 : n68_4 = .seq n68_5 n68_6 := rfl
noncomputable def r68_5 := opsAt n68_5
theorem e68_5 : n68_5 = .region 1 (r68_5).toArray false := rfl
theorem e68_6 : n68_6 = .cond (.tmp 16) n68_7 n68_10 := rfl
theorem e68_7 : n68_7 = .seq n68_8 n68_9 := rfl
noncomputable def r68_8 := opsAt n68_8
theorem e68_8 : n68_8 = .region 2 (r68_8).toArray false := rfl
theorem e68_9 : n68_9 = .ret := rfl
theorem e68_10 : n68_10 = .skip := rfl
theorem e68_11 : n68_11 = .seq n68_12 n68_13 := rfl
noncomputable def r68_12 := opsAt n68_12
theorem e68_12 : n68_12 = .region 3 (r68_12).toArray false := rfl
theorem e68_13 : n68_13 = .seq n68_14 n68_15 := rfl
theorem e68_14 : n68_14 = .label 0 := rfl
theorem e68_15 : n68_15 = .seq n68_16 n68_59 := rfl
theorem e68_16 : n68_16 = .seq n68_17 n68_18 := rfl
noncomputable def r68_17 := opsAt n68_17
theorem e68_17 : n68_17 = .region 4 (r68_17).toArray false := rfl
theorem e68_18 : n68_18 = .block 0 n68_19 := rfl
theorem e68_19 : n68_19 = .loop n68_20 := rfl
theorem e68_20 : n68_20 = .seq n68_21 n68_26 := rfl
theorem e68_21 : n68_21 = .seq n68_22 n68_23 := rfl
noncomputable def r68_22 := opsAt n68_22
theorem e68_22 : n68_22 = .region 5 (r68_22).toArray false := rfl
theorem e68_23 : n68_23 = .cond (.tmp 21) n68_24 n68_25 := rfl
theorem e68_24 : n68_24 = .skip := rfl
theorem e68_25 : n68_25 = .exit 0 := rfl
theorem e68_26 : n68_26 = .seq n68_27 n68_58 := rfl
theorem e68_27 : n68_27 = .block 1 n68_28 := rfl
theorem e68_28 : n68_28 = .seq n68_29 n68_30 := rfl
noncomputable def r68_29 := opsAt n68_29
theorem e68_29 : n68_29 = .region 7 (r68_29).toArray false := rfl
theorem e68_30 : n68_30 = .block 2 n68_31 := rfl
theorem e68_31 : n68_31 = .loop n68_32 := rfl
theorem e68_32 : n68_32 = .seq n68_33 n68_38 := rfl
theorem e68_33 : n68_33 = .seq n68_34 n68_35 := rfl
noncomputable def r68_34 := opsAt n68_34
theorem e68_34 : n68_34 = .region 8 (r68_34).toArray false := rfl
theorem e68_35 : n68_35 = .cond (.tmp 25) n68_36 n68_37 := rfl
theorem e68_36 : n68_36 = .skip := rfl
theorem e68_37 : n68_37 = .exit 2 := rfl
theorem e68_38 : n68_38 = .seq n68_39 n68_57 := rfl
theorem e68_39 : n68_39 = .block 3 n68_40 := rfl
theorem e68_40 : n68_40 = .seq n68_41 n68_46 := rfl
theorem e68_41 : n68_41 = .seq n68_42 n68_43 := rfl
noncomputable def r68_42 := opsAt n68_42
theorem e68_42 : n68_42 = .region 10 (r68_42).toArray false := rfl
theorem g68_42_3 : (r68_42[3]?).bind (·.dst) = some 31 := by decide +kernel
theorem e68_43 : n68_43 = .cond (.tmp 35) n68_44 n68_45 := rfl
theorem e68_44 : n68_44 = .exit 0 := rfl
theorem e68_45 : n68_45 = .skip := rfl
theorem e68_46 : n68_46 = .seq n68_47 n68_48 := rfl
noncomputable def r68_47 := opsAt n68_47
theorem e68_47 : n68_47 = .region 11 (r68_47).toArray false := rfl
theorem e68_48 : n68_48 = .seq n68_49 n68_50 := rfl
noncomputable def r68_49 := opsAt n68_49
theorem e68_49 : n68_49 = .region 12 (r68_49).toArray true := rfl
theorem a68_49 : anyOk r68_49 = true := by decide +kernel
theorem e68_50 : n68_50 = .seq n68_51 n68_52 := rfl
noncomputable def r68_51 := opsAt n68_51
theorem e68_51 : n68_51 = .region 13 (r68_51).toArray false := rfl
theorem e68_52 : n68_52 = .seq n68_53 n68_54 := rfl
noncomputable def r68_53 := opsAt n68_53
theorem e68_53 : n68_53 = .region 14 (r68_53).toArray false := rfl
theorem e68_54 : n68_54 = .cond (.tmp 53) n68_55 n68_56 := rfl
noncomputable def r68_55 := opsAt n68_55
theorem e68_55 : n68_55 = .region 15 (r68_55).toArray true := rfl
theorem a68_55 : anyOk r68_55 = true := by decide +kernel
theorem e68_56 : n68_56 = .skip := rfl
noncomputable def r68_57 := opsAt n68_57
theorem e68_57 : n68_57 = .region 9 (r68_57).toArray false := rfl
noncomputable def r68_58 := opsAt n68_58
theorem e68_58 : n68_58 = .region 6 (r68_58).toArray false := rfl
theorem e68_59 : n68_59 = .seq n68_60 n68_61 := rfl
noncomputable def r68_60 := opsAt n68_60
theorem e68_60 : n68_60 = .region 16 (r68_60).toArray true := rfl
theorem a68_60 : anyOk r68_60 = true := by decide +kernel
theorem e68_61 : n68_61 = .ret := rfl
theorem div_w (v D : Nat) (hv4 : v < 4) (hgl : ∀ (n : Nat) (d : PV), (cl 4 n).getD v d = ul (n / D))
    (hst : ∀ {N b q r lo m : Nat}, m < 64 → DivInv (D * 2 ^ (m + 1)) N b q r lo → lo < 115792089237316195423570985008687907853269984665640564039457584007913129639936 ∧ ∃ d l, lo / D % 18446744073709551616 / 2 ^ m % 2 = d ∧ d ≤ 1 ∧ (cl 4 lo).set v (ul (lo / D ^^^ d * 2 ^ m)) = cl 4 l ∧ (cl 4 q).set v (ul (q / D ||| 2 ^ m)) = cl 4 (q + D * 2 ^ m) ∧
      (2 * r + d < b → DivInv (D * 2 ^ m) N b q (2 * r + d) l) ∧ (b ≤ 2 * r + d → DivInv (D * 2 ^ m) N b (q + D * 2 ^ m) (2 * r + d - b) l))
    {k : Exit → Env → LH → Prop} {hi b N q r lo : Nat} (hb : b < 115792089237316195423570985008687907853269984665640564039457584007913129639936) (h : DivInv (D * 2 ^ 64) N b q r lo)
    (hN : ∀ q r lo, DivInv (D * 2 ^ 0) N b q r lo → k .normal [(4, .ptr 1 0), (5, .ptr 2 0), (6, .ptr 3 0), (7, .ptr 4 0), (9, .lit (.int .i64 (v : Int)))] [.cells (cl 4 hi), .cells (cl 4 lo), .cells (cl 4 b), .cells (cl 4 q), .cells (cl 4 r)])
    (hX : ∀ S q lo, DivInv S N b q 0 0 → k (.exit 0) [(6, .ptr 3 0), (7, .ptr 4 0)] [.cells (cl 4 hi), .cells (cl 4 lo), .cells (cl 4 b), .cells (cl 4 q), .cells (cl 4 0)]) :
    vC Try.prog (conOf [(38, .pure sCmp), (69, .st tDouble), (70, .st tTakeOff)]) n68_30 [(4, .ptr 1 0), (5, .ptr 2 0), (6, .ptr 3 0), (7, .ptr 4 0), (9, .lit (.int .i64 (v : Int))), (10, .lit (.int .i64 63))] [.cells (cl 4 hi), .cells (cl 4 lo), .cells (cl 4 b), .cells (cl 4 q), .cells (cl 4 r)] k := by
  apply wC_block e68_30
  refine wC_loopI (ι := {x : Nat × Nat × Nat × Nat // x.1 ≤ 64 ∧ DivInv (D * 2 ^ x.1) N b x.2.1 x.2.2.1 x.2.2.2}) e68_31 (fun x => ([(4, .ptr 1 0), (5, .ptr 2 0), (6, .ptr 3 0), (7, .ptr 4 0), (9, .lit (.int .i64 (v : Int))), (10, .lit (.int .i64 ((x.1.1 : Int) - 1)))], [.cells (cl 4 hi), .cells (cl 4 x.1.2.2.2), .cells (cl 4 b), .cells (cl 4 x.1.2.1), .cells (cl 4 x.1.2.2.1)])) (fun x => x.1.1) ⟨(64, q, r, lo), Nat.le_refl _, h⟩ [0, 1, 2, 3, 4] ?_ ?_
  · show Weak _ _ _ _ _ _
    refine weak_mk (fun i h => absurd h (Nat.not_lt_zero i)) (by decide) (by simp) ?_ ?_
    · simp only [RenRows, qz16, qz6, qz3, qz28, closedL_bv, closedL_cl, qz12]
      all_goals (trivial)
    · simp only [RenEnv, qz7, Nat.reduceBEq]
      (repeat' apply And.intro) <;> first | trivial | exact ren_keep rfl | exact ren_keep (closed_u4 _) | (refine ren_int ?_; omega) | (refine ren_own rfl ?_; first | rfl | omega | (simp; done) | (omega; done)) | (refine ren_int ?_; omega; done) | (refine ren_int ?_; simp; done) | (refine ren_keep ?_; simp only [closed, closedL_bv, closedL_rows, closedL_cl]; done) | (refine ren_ptr rfl; done)
  · rintro ⟨⟨t, q, r, lo⟩, ht, inv⟩
    dsimp only at ht inv ⊢
    rcases t with _ | m
    · simp only [show ((0 : Nat) : Int) - 1 = -1 from rfl]
      repeat' (first | (with_reducible first | apply seqC_normal | apply blockC_normal | apply seqC_exit | apply blockC_hit | apply seqC_ret | apply blockC_ret | apply scopeC_normal | apply scopeC_ret | apply scopeC_exit | apply loopC_ret | apply loopC_exit) | ((with_reducible apply blockC_miss); (exact rfl)) | ((with_reducible apply wC_seq e68_32; apply wC_seq e68_33; apply wC_region e68_34); refine vOps_open (l := _ :: _) rfl ?_; refine kOps_mv rfl rfl rfl rfl ?_; refine kOps_bin (b := .geq) (pre := ?_) (val := ?_) rfl rfl rfl rfl rfl ?_ ?_ ?_; rotate_left 2; (intro L; simp only [eql_u4 ty24 ty22, neq_u4 ty24 ty22, qz33, Int.reduceAdd, Int.reduceSub, Int.reduceMul, Int.reduceNeg, Int.sub_zero, cast_ofNat_Int, ne_eq, Int.reduceLT, Int.reduceLE, Int.reduceEq, reduceMod, reduceLT, qz5, ty3]; (first | (rw [wrap_i64] <;> first | omega | rfl) | (rw [wrap_u8] <;> first | omega | rfl) | (rw [wrap_u16] <;> first | omega | rfl) | (rw [wrap_u32] <;> first | omega | rfl) | rfl)); exact trivial; refine vOps_nil ?_; (with_reducible apply seqC_normal; apply kC_cond e68_35); (exact rfl); all_goals (intro hb; first | (cases hb; done) | cases hb | ((try simp only [dxe] at hb); try (exfalso; first | omega | exact hb trivial)))) | ((with_reducible apply wC_skip e68_36)) | ((with_reducible apply kC_less [4, 5, 6, 7, 9] (c := n68_37)); (exact rfl); (exact rfl); (with_reducible apply wC_exit e68_37)) | ((with_reducible apply wC_seq e68_38)) | ((with_reducible apply wC_region e68_57); refine vOps_open (l := _ :: _) rfl ?_; refine kOps_mv rfl rfl rfl rfl ?_; refine kOps_bin (b := .sub) (pre := ?_) (val := ?_) rfl rfl rfl rfl rfl ?_ ?_ ?_; rotate_left 2; (intro L; simp only [eql_u4 ty24 ty22, neq_u4 ty24 ty22, qz36, Int.reduceAdd, Int.reduceSub, Int.reduceMul, Int.reduceNeg, Int.sub_zero, cast_ofNat_Int, ne_eq, Int.reduceLT, Int.reduceLE, Int.reduceEq, reduceMod, reduceLT, qz5, ty3]; (first | (rw [wrap_i64] <;> first | omega | rfl) | (rw [wrap_u8] <;> first | omega | rfl) | (rw [wrap_u16] <;> first | omega | rfl) | (rw [wrap_u32] <;> first | omega | rfl) | rfl)); exact trivial; refine kOps_as rfl rfl rfl rfl ?_; refine vOps_nil ?_) | ((with_reducible apply wC_region e68_58); refine vOps_open (l := _ :: _) rfl ?_; refine kOps_mv rfl rfl rfl rfl ?_; refine kOps_bin (b := .sub) (pre := ?_) (val := ?_) rfl rfl rfl rfl rfl ?_ ?_ ?_; rotate_left 2; (intro L; simp only [eql_u4 ty24 ty22, neq_u4 ty24 ty22, qz36, Int.reduceAdd, Int.reduceSub, Int.reduceMul, Int.reduceNeg, Int.sub_zero, cast_ofNat_Int, ne_eq, Int.reduceLT, Int.reduceLE, Int.reduceEq, reduceMod, reduceLT, qz5, ty3]; (first | (rw [wrap_i64] <;> first | omega | rfl) | (rw [wrap_u8] <;> first | omega | rfl) | (rw [wrap_u16] <;> first | omega | rfl) | (rw [wrap_u32] <;> first | omega | rfl) | rfl)); exact trivial; refine kOps_as rfl rfl rfl rfl ?_; refine vOps_nil ?_) | ((with_reducible apply wC_seq e68_59; apply wC_any e68_60 a68_60); refine vOps_open (l := _ :: _) rfl ?_; (first | refine kOps_loadp (pre := ?_) (val := ?_) rfl rfl rfl rfl rfl ty24 ?_ ?_ ?_ | refine kOps_loadr (pre := ?_) (val := ?_) rfl rfl rfl rfl ty24 ?_ ?_ ?_); rotate_left 2; (simp only [partF, isAggD, qz0, if_false, qz3, qz10, length_cons, length_nil, qz6, zero_add, n_add_zero, qz4, reduceAdd, reduceMul, toNat_natCast, reduceToNat, agg_cl, len_cl]; rfl); (focus ((repeat' apply And.intro) <;> first | exact True.intro | omega | (with_reducible rfl) | assumption | ((repeat' first | exact LC_nil | refine LC_cons ?_ ?_ | exact closedL_cl _ _ | assumption); done) | exact ⟨_, rfl⟩ | (simp only [sda]; done) | (simp only [len_cl]; omega) | (simp [Value.cells, Value.oneCell']; done))); (first | refine kOps_loadp (pre := ?_) (val := ?_) rfl rfl rfl rfl rfl ty24 ?_ ?_ ?_ | refine kOps_loadr (pre := ?_) (val := ?_) rfl rfl rfl rfl ty24 ?_ ?_ ?_); rotate_left 2; (simp only [partF, isAggD, qz0, if_false, qz3, qz10, length_cons, length_nil, qz6, zero_add, n_add_zero, qz4, reduceAdd, reduceMul, toNat_natCast, reduceToNat, agg_cl, len_cl]; rfl); (focus ((repeat' apply And.intro) <;> first | exact True.intro | omega | (with_reducible rfl) | assumption | ((repeat' first | exact LC_nil | refine LC_cons ?_ ?_ | exact closedL_cl _ _ | assumption); done) | exact ⟨_, rfl⟩ | (simp only [sda]; done) | (simp only [len_cl]; omega) | (simp [Value.cells, Value.oneCell']; done))); refine kOps_store (cs' := ?_) rfl rfl rfl rfl rfl rfl rfl ty24 ?_ ?_ ?_; rotate_left 1; (simp only [splice, qz14, qz17, isAggD, qz0, if_false, qz3, qz10, length_cons, length_nil, qz6, zero_add, n_add_zero, qz4, reduceAdd, reduceMul, toNat_natCast, reduceToNat, agg_cl, len_cl]; rfl); (focus (first | (simp only [qz14, qz17, length_cons, length_nil, len_cl, length_set, length_map, reduceAdd, zero_add, all_cons, all_nil, qz19, one_bv, PV.one, Value.oneCell', Bool.and_self, reduceLeDiff, Nat.le_refl, and_self, qz12]; done) | ((try simp only [qz14, qz17]); (focus ((repeat' apply And.intro) <;> first | exact True.intro | omega | (with_reducible rfl) | assumption | ((repeat' first | exact LC_nil | refine LC_cons ?_ ?_ | exact closedL_cl _ _ | assumption); done) | exact ⟨_, rfl⟩ | (simp only [sda]; done) | (simp only [len_cl]; omega) | (simp [Value.cells, Value.oneCell']; done)))))); refine kOps_store (cs' := ?_) rfl rfl rfl rfl rfl rfl rfl ty24 ?_ ?_ ?_; rotate_left 1; (simp only [splice, qz14, qz17, isAggD, qz0, if_false, qz3, qz10, length_cons, length_nil, qz6, zero_add, n_add_zero, qz4, reduceAdd, reduceMul, toNat_natCast, reduceToNat, agg_cl, len_cl]; rfl); (focus (first | (simp only [qz14, qz17, length_cons, length_nil, len_cl, length_set, length_map, reduceAdd, zero_add, all_cons, all_nil, qz19, one_bv, PV.one, Value.oneCell', Bool.and_self, reduceLeDiff, Nat.le_refl, and_self, qz12]; done) | ((try simp only [qz14, qz17]); (focus ((repeat' apply And.intro) <;> first | exact True.intro | omega | (with_reducible rfl) | assumption | ((repeat' first | exact LC_nil | refine LC_cons ?_ ?_ | exact closedL_cl _ _ | assumption); done) | exact ⟨_, rfl⟩ | (simp only [sda]; done) | (simp only [len_cl]; omega) | (simp [Value.cells, Value.oneCell']; done)))))); refine kOps_as rfl rfl rfl rfl ?_; refine vOps_nil ?_; refine And.intro (by kernel_rfl) ?_; (with_reducible apply seqC_normal; apply wC_ret e68_61)))
      exact hN _ _ _ inv
    · simp only [show ((m + 1 : Nat) : Int) - 1 = (m : Int) by omega]
      obtain ⟨hll, d, l, hbit, hd1, hrow, hquo, hlow, hhigh⟩ := hst (show m < 64 by omega) inv
      have hlr := inv.lr
      repeat' (first | (with_reducible first | apply seqC_normal | apply blockC_normal | apply seqC_exit | apply blockC_hit | apply seqC_ret | apply blockC_ret | apply scopeC_normal | apply scopeC_ret | apply scopeC_exit | apply loopC_ret | apply loopC_exit) | ((with_reducible apply blockC_miss); (exact rfl)) | ((with_reducible apply wC_seq e68_32; apply wC_seq e68_33; apply wC_region e68_34); refine vOps_open (l := _ :: _) rfl ?_) | ((with_reducible apply kC_cond e68_35); (exact rfl); all_goals (intro hb; first | (cases hb; done) | cases hb | ((try simp only [dxe] at hb); try (exfalso; first | omega | exact hb trivial)))) | ((with_reducible apply wC_skip e68_36)) | ((with_reducible apply kC_less [4, 5, 6, 7, 9] (c := n68_37)); (exact rfl); (exact rfl); (with_reducible apply wC_exit e68_37)) | ((with_reducible apply wC_seq e68_38; apply wC_block e68_39; apply wC_seq e68_40; apply wC_seq e68_41; apply wC_region e68_42); refine vOps_open (l := _ :: _) rfl ?_) | ((with_reducible apply kC_cond e68_43); (exact rfl); all_goals (intro hb; first | (cases hb; done) | cases hb | ((try simp only [dxe] at hb); try (exfalso; first | omega | exact hb trivial)))) | ((with_reducible apply kC_less [6, 7] (c := n68_44)); (exact rfl); (exact rfl); (with_reducible apply wC_exit e68_44)) | ((with_reducible apply wC_skip e68_45)) | ((with_reducible apply wC_seq e68_46; apply wC_region e68_47); refine vOps_open (l := _ :: _) rfl ?_) | ((with_reducible apply wC_seq e68_48; apply wC_any e68_49 a68_49); refine vOps_open (l := _ :: _) rfl ?_) | ((with_reducible apply wC_seq e68_50; apply wC_region e68_51); refine vOps_open (l := _ :: _) rfl ?_) | ((with_reducible apply wC_seq e68_52; apply wC_region e68_53); refine vOps_open (l := _ :: _) rfl ?_) | ((with_reducible apply kC_cond e68_54); (exact rfl); all_goals (intro hb; first | (cases hb; done) | cases hb | ((try simp only [dxe] at hb); try (exfalso; first | omega | exact hb trivial)))) | ((with_reducible apply wC_any e68_55 a68_55); refine vOps_open (l := _ :: _) rfl ?_) | ((with_reducible apply wC_skip e68_56)) | ((with_reducible apply wC_region e68_57); refine vOps_open (l := _ :: _) rfl ?_) | ((with_reducible apply wC_region e68_58); refine vOps_open (l := _ :: _) rfl ?_) | ((with_reducible apply wC_seq e68_59; apply wC_any e68_60 a68_60); refine vOps_open (l := _ :: _) rfl ?_) | ((with_reducible apply wC_ret e68_61)) | ((with_reducible apply vOps_nil); try (with_reducible refine And.intro (by kernel_rfl) ?_)) | (refine kOps_gon (g := ?_) (p := ?_) rfl rfl ?_ ?_ ?_ ?_; rotate_left 2; (with_reducible first | exact g68_42_3); (exact rfl); (with_reducible rfl)) | (refine kOps_gofft (g := ?_) (p := ?_) rfl rfl ?_ ?_ ?_ ?_; rotate_left 2; (with_reducible first | exact g68_42_3); (exact rfl); (with_reducible rfl)) | (refine kOps_gofff (g := ?_) (p := ?_) rfl rfl ?_ ?_ ?_ ?_; rotate_left 2; (with_reducible first | exact g68_42_3); (exact rfl); (with_reducible rfl)) | (refine kOps_pickt rfl rfl rfl rfl ?_ rfl ?_; (with_reducible rfl)) | (refine kOps_pickf rfl rfl rfl rfl ?_ rfl ?_; (with_reducible rfl)) | (refine kOps_mv rfl rfl rfl rfl ?_) | (refine kOps_bin (b := .geq) (pre := ?_) (val := ?_) rfl rfl rfl rfl rfl ?_ ?_ ?_; rotate_left 2; (intro L; simp only [splice_cl, splice_one, len_cl, hgl, and_one', hbit, toNat_natCast, one_mul, eql_u4 ty24 ty22, neq_u4 ty24 ty22, lit_ul0, lit_ul1, qz33, Int.reduceAdd, Int.reduceSub, Int.reduceMul, Int.reduceNeg, Int.sub_zero, cast_ofNat_Int, ne_eq, Int.reduceLT, Int.reduceLE, Int.reduceEq, reduceMod, reduceLT, qz5, ty3]; (first | (rw [wrap_i64] <;> first | omega | rfl) | (rw [wrap_u8] <;> first | omega | rfl) | (rw [wrap_u16] <;> first | omega | rfl) | (rw [wrap_u32] <;> first | omega | rfl) | rfl)); exact trivial) | ((first | refine kOps_loadp (pre := ?_) (val := ?_) rfl rfl rfl rfl rfl ty24 ?_ ?_ ?_ | refine kOps_loadr (pre := ?_) (val := ?_) rfl rfl rfl rfl ty24 ?_ ?_ ?_); rotate_left 2; (simp only [splice_cl, splice_one, len_cl, hgl, partF, isAggD, qz0, if_false, if_true, reduceIte, agg_cl, toNat_natCast, reduceToNat, qz4, n_add_zero, zero_add, reduceAdd, reduceMul, qz15, length_map]; rfl); (focus ((repeat' apply And.intro) <;> first | exact True.intro | omega | (with_reducible rfl) | assumption | ((repeat' first | exact LC_nil | refine LC_cons ?_ ?_ | exact closedL_cl _ _ | assumption); done) | exact ⟨_, rfl⟩ | (simp only [sda]; done) | (simp only [len_cl]; omega) | (simp [Value.cells, Value.oneCell']; done)))) | (refine kOps_build (pre := ?_) (val := ?_) rfl rfl rfl rfl ?_ ?_ ?_; rotate_left 2; (intro L; simp only [splice_cl, splice_one, len_cl, hgl, buildF, fillB, zeroCells, Value.cells, qz9, List.toList_toArray, zero_cl4, lit_ul0, qz14, cast_ofNat_Int, qz22, qz10, Int.reduceSub, qz3, qz0, length_cons, length_nil, qz6, zero_add, n_add_zero, qz4, one_mul, reduceAdd, reduceMul, reduceSub, reduceLeDiff, reduceEqDiff, toNat_natCast, reduceToNat, reduceIte, if_true, if_false, isAggD, agg_cl, qz15, length_map, qz16, qz12, and_self, ty24, ty22]; rfl); (focus ((repeat' apply And.intro) <;> first | exact True.intro | omega | (with_reducible rfl) | assumption | ((repeat' first | exact LC_nil | refine LC_cons ?_ ?_ | exact closedL_cl _ _ | assumption); done) | exact ⟨_, rfl⟩ | (simp only [sda]; done) | (simp only [len_cl]; omega) | (simp [Value.cells, Value.oneCell']; done)))) | (refine kOps_bin (b := .eql) (pre := ?_) (val := ?_) rfl rfl rfl rfl rfl ?_ ?_ ?_; rotate_left 2; (intro L; simp only [splice_cl, splice_one, len_cl, hgl, and_one', hbit, toNat_natCast, one_mul, eql_u4 ty24 ty22, neq_u4 ty24 ty22, lit_ul0, lit_ul1, qz31, Int.reduceAdd, Int.reduceSub, Int.reduceMul, Int.reduceNeg, Int.sub_zero, cast_ofNat_Int, ne_eq, Int.reduceLT, Int.reduceLE, Int.reduceEq, reduceMod, reduceLT, qz5, ty24, ty22]; (first | (rw [wrap_i64] <;> first | omega | rfl) | (rw [wrap_u8] <;> first | omega | rfl) | (rw [wrap_u16] <;> first | omega | rfl) | (rw [wrap_u32] <;> first | omega | rfl) | rfl)); (focus ((repeat' apply And.intro) <;> first | exact True.intro | omega | (with_reducible rfl) | assumption | ((repeat' first | exact LC_nil | refine LC_cons ?_ ?_ | exact closedL_cl _ _ | assumption); done) | exact ⟨_, rfl⟩ | (simp only [sda]; done) | (simp only [len_cl]; omega) | (simp [Value.cells, Value.oneCell']; done)))) | ((first | (refine kOps_ixap (off' := ?_) rfl rfl rfl rfl rfl rfl ty24 ty22 ?_ ?_ ?_; rotate_left 1; (simp only [splice_cl, splice_one, len_cl, hgl, zero_add, n_add_zero, qz4, one_mul, toNat_natCast, reduceToNat, reduceMul, reduceAdd]; rfl)) | (refine kOps_ixaq (cs' := ?_) rfl rfl rfl rfl rfl ty24 ty22 ?_ ?_ ?_; rotate_left 1; (simp only [splice_cl, splice_one, len_cl, hgl, elemAt, isAggD, qz0, if_false, if_true, reduceIte, agg_cl, toNat_natCast, reduceToNat, qz4, n_add_zero, zero_add, reduceAdd, reduceMul, qz15, length_map]; rfl))); (focus ((repeat' apply And.intro) <;> first | exact True.intro | omega | (with_reducible rfl) | assumption | ((repeat' first | exact LC_nil | refine LC_cons ?_ ?_ | exact closedL_cl _ _ | assumption); done) | exact ⟨_, rfl⟩ | (simp only [sda]; done) | (simp only [len_cl]; omega) | (simp [Value.cells, Value.oneCell']; done)))) | ((first | refine kOps_loadp (pre := ?_) (val := ?_) rfl rfl rfl rfl rfl ty22 ?_ ?_ ?_ | refine kOps_loadr (pre := ?_) (val := ?_) rfl rfl rfl rfl ty22 ?_ ?_ ?_); rotate_left 2; (simp only [splice_cl, splice_one, len_cl, hgl, partF, isAggD, qz0, if_false, if_true, reduceIte, agg_cl, toNat_natCast, reduceToNat, qz4, n_add_zero, zero_add, reduceAdd, reduceMul, qz15, length_map]; rfl); (focus ((repeat' apply And.intro) <;> first | exact True.intro | omega | (with_reducible rfl) | assumption | ((repeat' first | exact LC_nil | refine LC_cons ?_ ?_ | exact closedL_cl _ _ | assumption); done) | exact ⟨_, rfl⟩ | (simp only [sda]; done) | (simp only [len_cl]; omega) | (simp [Value.cells, Value.oneCell']; done)))) | (refine kOps_bin (b := .shr) (pre := ?_) (val := ?_) rfl rfl rfl rfl rfl ?_ ?_ ?_; rotate_left 2; (intro L; simp only [splice_cl, splice_one, len_cl, hgl, and_one', hbit, toNat_natCast, one_mul, eql_u4 ty24 ty22, neq_u4 ty24 ty22, lit_ul0, lit_ul1, qz41, Int.reduceAdd, Int.reduceSub, Int.reduceMul, Int.reduceNeg, Int.sub_zero, cast_ofNat_Int, ne_eq, Int.reduceLT, Int.reduceLE, Int.reduceEq, reduceMod, reduceLT, qz5, ty22]; (first | (rw [wrap_i64] <;> first | omega | rfl) | (rw [wrap_u8] <;> first | omega | rfl) | (rw [wrap_u16] <;> first | omega | rfl) | (rw [wrap_u32] <;> first | omega | rfl) | rfl)); (focus ((repeat' apply And.intro) <;> first | exact True.intro | omega | (with_reducible rfl) | assumption | ((repeat' first | exact LC_nil | refine LC_cons ?_ ?_ | exact closedL_cl _ _ | assumption); done) | exact ⟨_, rfl⟩ | (simp only [sda]; done) | (simp only [len_cl]; omega) | (simp [Value.cells, Value.oneCell']; done)))) | (refine kOps_bin (b := .and) (pre := ?_) (val := ?_) rfl rfl rfl rfl rfl ?_ ?_ ?_; rotate_left 2; (intro L; simp only [splice_cl, splice_one, len_cl, hgl, and_one', hbit, toNat_natCast, one_mul, eql_u4 ty24 ty22, neq_u4 ty24 ty22, lit_ul0, lit_ul1, and_ul, binF_and, Int.reduceAdd, Int.reduceSub, Int.reduceMul, Int.reduceNeg, Int.sub_zero, cast_ofNat_Int, ne_eq, Int.reduceLT, Int.reduceLE, Int.reduceEq, reduceMod, reduceLT, qz5, ty22]; (first | (rw [wrap_i64] <;> first | omega | rfl) | (rw [wrap_u8] <;> first | omega | rfl) | (rw [wrap_u16] <;> first | omega | rfl) | (rw [wrap_u32] <;> first | omega | rfl) | rfl)); exact trivial) | (refine kOps_as rfl rfl rfl rfl ?_) | (refine kOps_bin (b := .shl) (pre := ?_) (val := ?_) rfl rfl rfl rfl rfl ?_ ?_ ?_; rotate_left 2; (intro L; simp only [splice_cl, splice_one, len_cl, hgl, and_one', hbit, toNat_natCast, one_mul, eql_u4 ty24 ty22, neq_u4 ty24 ty22, lit_ul0, lit_ul1, qz40, Int.reduceAdd, Int.reduceSub, Int.reduceMul, Int.reduceNeg, Int.sub_zero, cast_ofNat_Int, ne_eq, Int.reduceLT, Int.reduceLE, Int.reduceEq, reduceMod, reduceLT, qz5, ty22]; (first | (rw [wrap_i64] <;> first | omega | rfl) | (rw [wrap_u8] <;> first | omega | rfl) | (rw [wrap_u16] <;> first | omega | rfl) | (rw [wrap_u32] <;> first | omega | rfl) | rfl)); (focus ((repeat' apply And.intro) <;> first | exact True.intro | omega | (with_reducible rfl) | assumption | ((repeat' first | exact LC_nil | refine LC_cons ?_ ?_ | exact closedL_cl _ _ | assumption); done) | exact ⟨_, rfl⟩ | (simp only [sda]; done) | (simp only [len_cl]; omega) | (simp [Value.cells, Value.oneCell']; done)))) | (refine kOps_bin (b := .xor) (pre := ?_) (val := ?_) rfl rfl rfl rfl rfl ?_ ?_ ?_; rotate_left 2; (intro L; simp only [splice_cl, splice_one, len_cl, hgl, and_one', hbit, toNat_natCast, one_mul, eql_u4 ty24 ty22, neq_u4 ty24 ty22, lit_ul0, lit_ul1, xor_ul, binF_xor, Int.reduceAdd, Int.reduceSub, Int.reduceMul, Int.reduceNeg, Int.sub_zero, cast_ofNat_Int, ne_eq, Int.reduceLT, Int.reduceLE, Int.reduceEq, reduceMod, reduceLT, qz5, ty22]; (first | (rw [wrap_i64] <;> first | omega | rfl) | (rw [wrap_u8] <;> first | omega | rfl) | (rw [wrap_u16] <;> first | omega | rfl) | (rw [wrap_u32] <;> first | omega | rfl) | rfl)); exact trivial) | (refine kOps_store (cs' := ?_) rfl rfl rfl rfl rfl rfl rfl ty22 ?_ ?_ ?_; rotate_left 1; (simp only [splice_cl, splice_one, len_cl, hgl, hrow, hquo, lit_ul0, lit_ul1, qz14, isAggD, qz0, if_false, if_true, reduceIte, agg_cl, toNat_natCast, reduceToNat, qz4, n_add_zero, zero_add, reduceAdd, reduceMul, qz15, length_map]; rfl); (focus (first | (simp only [lit_ul0, lit_ul1, qz14, length_cons, length_nil, len_cl, length_set, length_map, reduceAdd, zero_add, all_cons, all_nil, qz19, one_bv, PV.one, Value.oneCell', Bool.and_self, reduceLeDiff, Nat.le_refl, and_self, qz12]; done) | ((try simp only [lit_ul0, lit_ul1, qz14]); (focus ((repeat' apply And.intro) <;> first | exact True.intro | omega | (with_reducible rfl) | assumption | ((repeat' first | exact LC_nil | refine LC_cons ?_ ?_ | exact closedL_cl _ _ | assumption); done) | exact ⟨_, rfl⟩ | (simp only [sda]; done) | (simp only [len_cl]; omega) | (simp [Value.cells, Value.oneCell']; done))))))) | (refine kOps_calls (pre := ?_) (val := ?_) (L' := ?_) rfl rfl rfl rfl rfl rfl ?_ ?_ ?_; rotate_left 3; (simp only [splice_cl, splice_one, len_cl, hgl, rowU, qz25, ulv_ul, agg_cl, uv_u4, sCmp, tDouble, tTakeOff, cast_ofNat_Int, qz22, qz10, Int.reduceSub, qz3, qz0, length_cons, length_nil, qz6, zero_add, n_add_zero, qz4, one_mul, reduceAdd, reduceMul, reduceSub, reduceLeDiff, reduceEqDiff, toNat_natCast, reduceToNat, reduceIte, if_true, if_false, isAggD, qz15, length_map, qz16, qz12, and_self]; rfl); (focus ((repeat' apply And.intro) <;> first | exact True.intro | omega | (with_reducible rfl) | assumption | ((repeat' first | exact LC_nil | refine LC_cons ?_ ?_ | exact closedL_cl _ _ | assumption); done) | exact ⟨_, rfl⟩ | (simp only [sda]; done) | (simp only [len_cl]; omega) | (simp [Value.cells, Value.oneCell']; done)))) | (refine kOps_bin (b := .or) (pre := ?_) (val := ?_) rfl rfl rfl rfl rfl ?_ ?_ ?_; rotate_left 2; (intro L; simp only [splice_cl, splice_one, len_cl, hgl, and_one', hbit, toNat_natCast, one_mul, eql_u4 ty24 ty22, neq_u4 ty24 ty22, lit_ul0, lit_ul1, qz43, Int.reduceAdd, Int.reduceSub, Int.reduceMul, Int.reduceNeg, Int.sub_zero, cast_ofNat_Int, ne_eq, Int.reduceLT, Int.reduceLE, Int.reduceEq, reduceMod, reduceLT, qz5, ty22]; (first | (rw [wrap_i64] <;> first | omega | rfl) | (rw [wrap_u8] <;> first | omega | rfl) | (rw [wrap_u16] <;> first | omega | rfl) | (rw [wrap_u32] <;> first | omega | rfl) | rfl)); exact trivial) | (refine kOps_bin (b := .sub) (pre := ?_) (val := ?_) rfl rfl rfl rfl rfl ?_ ?_ ?_; rotate_left 2; (intro L; simp only [splice_cl, splice_one, len_cl, hgl, and_one', hbit, toNat_natCast, one_mul, eql_u4 ty24 ty22, neq_u4 ty24 ty22, lit_ul0, lit_ul1, qz36, Int.reduceAdd, Int.reduceSub, Int.reduceMul, Int.reduceNeg, Int.sub_zero, cast_ofNat_Int, ne_eq, Int.reduceLT, Int.reduceLE, Int.reduceEq, reduceMod, reduceLT, qz5, ty3]; (first | (rw [wrap_i64] <;> first | omega | rfl) | (rw [wrap_u8] <;> first | omega | rfl) | (rw [wrap_u16] <;> first | omega | rfl) | (rw [wrap_u32] <;> first | omega | rfl) | rfl)); exact trivial) | (refine kOps_store (cs' := ?_) rfl rfl rfl rfl rfl rfl rfl ty24 ?_ ?_ ?_; rotate_left 1; (simp only [splice_cl, splice_one, len_cl, hgl, hrow, hquo, lit_ul0, lit_ul1, qz14, isAggD, qz0, if_false, if_true, reduceIte, agg_cl, toNat_natCast, reduceToNat, qz4, n_add_zero, zero_add, reduceAdd, reduceMul, qz15, length_map]; rfl); (focus (first | (simp only [lit_ul0, lit_ul1, qz14, length_cons, length_nil, len_cl, length_set, length_map, reduceAdd, zero_add, all_cons, all_nil, qz19, one_bv, PV.one, Value.oneCell', Bool.and_self, reduceLeDiff, Nat.le_refl, and_self, qz12]; done) | ((try simp only [lit_ul0, lit_ul1, qz14]); (focus ((repeat' apply And.intro) <;> first | exact True.intro | omega | (with_reducible rfl) | assumption | ((repeat' first | exact LC_nil | refine LC_cons ?_ ?_ | exact closedL_cl _ _ | assumption); done) | exact ⟨_, rfl⟩ | (simp only [sda]; done) | (simp only [len_cl]; omega) | (simp [Value.cells, Value.oneCell']; done))))))) | (refine vOps_gundef rfl rfl ?_ ?_; (focus (simp only [qz7, Nat.reduceBEq]; done)); simp only [putIn]) | (refine vOps_gpick (t := ?_) (val := ?_) rfl rfl ?_ rfl rfl ?_ ?_ ?_; rotate_left 2; (focus (simp only [qz7, Nat.reduceBEq]; done)); (simp only [evalIn_tmp, evalIn_const, qz7, Nat.reduceBEq]; rfl); (simp only [evalIn_tmp, evalIn_const, qz7, Nat.reduceBEq]; rfl)) | (refine vOps_pick (t := ?_) (val := ?_) rfl rfl rfl ?_ ?_ ?_; rotate_left 2; (simp only [evalIn_tmp, evalIn_const, qz7, Nat.reduceBEq]; rfl); (simp only [evalIn_tmp, evalIn_const, qz7, Nat.reduceBEq]; rfl)) | (refine vOps_fork (b := ?_) rfl rfl ?_ ?_ ?_; rotate_left 1; (simp only [qz7, Nat.reduceBEq]; rfl); all_goals (intro hb; simp only [hb]; (try simp only [qz27] at hb); try (exfalso; first | omega | exact hb trivial))) | (refine vOps_forkp (b := ?_) rfl ?_ ?_ ?_; rotate_left 1; (simp only [evalIn_tmp, qz7, Nat.reduceBEq]; rfl); all_goals (intro hb; simp only [hb]; (try simp only [qz27] at hb); try (exfalso; first | omega | exact hb trivial))))
      all_goals first
        | (have hr0 : r = 0 := by omega
           have hl0 : lo = 0 := by omega
           subst hr0 hl0
           exact hX _ _ 0 inv)
        | (have hc : b ≤ 2 * r + d := by omega
           refine loopC_normal ⟨(m, q + D * 2 ^ m, 2 * r + d - b, l), by omega, hhigh hc⟩ [0, 1, 2, 3, 4] (by show m < m + 1; omega) ?_
           refine weak_mk (fun i h => absurd h (Nat.not_lt_zero i)) (by decide) (by simp) ?_ ?_
           · simp only [RenRows, qz16, qz6, qz3, qz28, closedL_bv, closedL_cl, qz12]
             all_goals (rw [if_pos (by omega)]; exact cl4_congr (by omega))
           · simp only [RenEnv, qz7, Nat.reduceBEq]
             (repeat' apply And.intro) <;> first | trivial | exact ren_keep rfl | exact ren_keep (closed_u4 _) | (refine ren_int ?_; omega) | (refine ren_own rfl ?_; first | rfl | omega | (simp; done) | (omega; done)) | (refine ren_int ?_; omega; done) | (refine ren_int ?_; simp; done) | (refine ren_keep ?_; simp only [closed, closedL_bv, closedL_rows, closedL_cl]; done) | (refine ren_ptr rfl; done))
        | (have hc : 2 * r + d < b := by omega
           refine loopC_normal ⟨(m, q, 2 * r + d, l), by omega, hlow hc⟩ [0, 1, 2, 3, 4] (by show m < m + 1; omega) ?_
           refine weak_mk (fun i h => absurd h (Nat.not_lt_zero i)) (by decide) (by simp) ?_ ?_
           · simp only [RenRows, qz16, qz6, qz3, qz28, closedL_bv, closedL_cl, qz12]
             all_goals (rw [if_neg (by omega)]; exact cl4_congr (by omega))
           · simp only [RenEnv, qz7, Nat.reduceBEq]
             (repeat' apply And.intro) <;> first | trivial | exact ren_keep rfl | exact ren_keep (closed_u4 _) | (refine ren_int ?_; omega) | (refine ren_own rfl ?_; first | rfl | omega | (simp; done) | (omega; done)) | (refine ren_int ?_; omega; done) | (refine ren_int ?_; simp; done) | (refine ren_keep ?_; simp only [closed, closedL_bv, closedL_rows, closedL_cl]; done) | (refine ren_ptr rfl; done))
end Go.Ab
