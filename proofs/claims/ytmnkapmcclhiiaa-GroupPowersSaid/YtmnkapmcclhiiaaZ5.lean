import Derived.Test.YtmnkapmcclhiiaaQZ
import Derived.Test.YtmnkapmcclhiiaaME
import Derived.Test.YtmnkapmcclhiiaaTY
import Derived.Test.YtmnkapmcclhiiaaZ4
import Derived.Test.YtmnkapmcclhiiaaMV
import Derived.Test.YtmnkapmcclhiiaaMY
import Derived.Test.YtmnkapmcclhiiaaZ0
import Derived.Test.YtmnkapmcclhiiaaMX
namespace Go.Ab
open Go Go.Proofs
open Nat (reduceAdd mod_eq_of_lt zero_add reduceMul reduceLeDiff reduceMod reduceLT zero_mod reduceSub reduceEqDiff one_mul)
open List (length_cons length_nil all_nil all_cons length_map length_set length_append)
open Int (toNat_natCast reduceToNat cast_ofNat_Int)
set_option linter.unusedVariables false
set_option linter.unusedSimpArgs false
set_option maxRecDepth 8000
set_option maxHeartbeats 4000000
noncomputable def B11 : Code := bodyOf Try.f11
theorem B11_eq : Try.f11.body = some B11 := by kernel_rfl
noncomputable def n11_0 := B11
noncomputable def n11_1 := codeAt B11 [0]
noncomputable def n11_2 := codeAt B11 [1]
noncomputable def n11_3 := codeAt B11 [1,0]
noncomputable def n11_4 := codeAt B11 [1,1]
noncomputable def n11_5 := codeAt B11 [1,1,0]
noncomputable def n11_6 := codeAt B11 [1,1,1]
theorem e11_0 : n11_0 = .seq n11_1 n11_2 := rfl
noncomputable def r11_1 := opsAt n11_1
theorem e11_1 : n11_1 = .region 0 (r11_1).toArray false := rfl
theorem e11_2 : n11_2 = .seq n11_3 n11_4 := rfl
noncomputable def r11_3 := opsAt n11_3
theorem e11_3 : n11_3 = .region 1 (r11_3).toArray false := rfl
theorem e11_4 : n11_4 = .seq n11_5 n11_6 := rfl
noncomputable def r11_5 := opsAt n11_5
theorem e11_5 : n11_5 = .region 2 (r11_5).toArray false := rfl
theorem e11_6 : n11_6 = .ret := rfl
theorem f_ref05_Modulus : PureOk Try.prog 11 sGMod := by
  refine pureOk_of (c := n11_0) (Γ := conOf [(35, .pure sSub), (36, .pure sFromUint)]) (conOf_ok (conOf_one (S := .pure sSub) f_ref02_Sub (conOf_one (S := .pure sFromUint) f_ref02_FromUint (conOf_end)))) mixed Try.func11 B11_eq (by decide +kernel) Try.call11 ?_
  intro args hS
  unfold sGMod at hS ⊢
  split at hS
  · refine ⟨by rw [Try.ntmps11]; simp, vC_sound ?_⟩

    simp only [qz26, reduceAdd]
    repeat' (first | (with_reducible first | apply seqC_normal | apply seqC_ret) | ((with_reducible apply wC_seq e11_0; apply wC_region e11_1); refine vOps_open (l := _ :: _) rfl ?_; refine kOps_alloc (row := ?_) (n := ?_) rfl rfl rfl rfl ty24 ?_ ?_ ?_ ?_; rotate_left 2; (simp only [↓length_append, ↓length_set, ↓length_cons, length_nil, reduceAdd, zero_add]; rfl); (simp only [qz1, splice_cl, splice_one, len_cl, qz2, zero_add, Value.cells, qz9, List.toList_toArray, zero_cl4, zero_cl8, lit_ul0]; rfl); (focus (first | (simp only [Value.cells, List.toList_toArray, qz23, Value.oneCell', and_self]; done) | (simp [Value.cells, Value.oneCell']; done))); refine vOps_nil ?_; (with_reducible apply seqC_normal; apply wC_seq e11_2; apply wC_region e11_3); refine vOps_open (l := _ :: _) rfl ?_; refine kOps_build (pre := ?_) (val := ?_) rfl rfl rfl rfl ?_ ?_ ?_; rotate_left 2; (intro L; simp only [qz1, splice_cl, splice_one, len_cl, qz2, zero_add, buildF, fillB, zeroCells, Value.cells, qz9, List.toList_toArray, zero_cl4, lit_ul0, qz14, cast_ofNat_Int, qz22, qz10, Int.reduceSub, qz3, qz0, length_cons, length_nil, qz6, n_add_zero, qz4, one_mul, reduceAdd, reduceMul, reduceSub, reduceLeDiff, reduceEqDiff, toNat_natCast, reduceToNat, reduceIte, if_true, if_false, isAggD, agg_cl, qz15, length_map, qz16, qz12, and_self, ty24, ty22]; rfl); (focus ((repeat' apply And.intro) <;> first | exact True.intro | omega | (with_reducible rfl) | assumption | exact ⟨_, rfl⟩ | (simp only [sda]; done) | (simp only [len_cl]; omega) | (simp [Value.cells, Value.oneCell']; done))); refine kOps_callc (pre := ?_) (val := ?_) rfl rfl rfl rfl rfl ?_ ?_ ?_ ?_ ?_; rotate_left 2; (simp only [qz1, splice_cl, splice_one, len_cl, qz2, zero_add, sSub, sFromUint, lc_36113, nrmC, qz9, qz8, qz25, ulv_ul, uv_u4, qz12, and_self, n_add_zero, zero_mod, n_sub_zero]; rfl); (focus (first | rfl | (simp only [closed, closedL, qz18, closedL_bv, closedL_cl, Bool.and_self, Bool.and_true]; done))); (focus (first | rfl | (simp only [closed, closedL, qz18, closedL_bv, closedL_cl, Bool.and_self, Bool.and_true]; done))); (focus ((repeat' apply And.intro) <;> first | exact True.intro | omega | (with_reducible rfl) | assumption | exact ⟨_, rfl⟩ | (simp only [sda]; done) | (simp only [len_cl]; omega) | (simp [Value.cells, Value.oneCell']; done))); refine kOps_callc (pre := ?_) (val := ?_) rfl rfl rfl rfl rfl ?_ ?_ ?_ ?_ ?_; rotate_left 2; (simp only [qz1, splice_cl, splice_one, len_cl, qz2, zero_add, sSub, sFromUint, nrmC, qz9, qz8, qz25, ulv_ul, uv_u4, qz12, and_self, n_add_zero, zero_mod, n_sub_zero]; rfl); (focus (first | rfl | (simp only [closed, closedL, qz18, closedL_bv, closedL_cl, Bool.and_self, Bool.and_true]; done))); (focus (first | rfl | (simp only [closed, closedL, qz18, closedL_bv, closedL_cl, Bool.and_self, Bool.and_true]; done))); (focus ((repeat' apply And.intro) <;> first | exact True.intro | omega | (with_reducible rfl) | assumption | exact ⟨_, rfl⟩ | (simp only [sda]; done) | (simp only [len_cl]; omega) | (simp [Value.cells, Value.oneCell']; done))); refine kOps_mv rfl rfl rfl rfl ?_; refine kOps_ext rfl rfl rfl rfl rfl ?_; refine kOps_ext rfl rfl rfl rfl rfl ?_; refine kOps_alloc (row := ?_) (n := ?_) rfl rfl rfl rfl ty24 ?_ ?_ ?_ ?_; rotate_left 2; (simp only [↓length_append, ↓length_set, ↓length_cons, length_nil, reduceAdd, zero_add]; rfl); (simp only [qz1, splice_cl, splice_one, len_cl, qz2, zero_add, Value.cells, qz9, List.toList_toArray, zero_cl4, zero_cl8, lit_ul0]; rfl); (focus (first | (simp only [Value.cells, List.toList_toArray, qz23, Value.oneCell', and_self]; done) | (simp [Value.cells, Value.oneCell']; done))); refine kOps_store (cs' := ?_) rfl rfl rfl rfl rfl rfl rfl ty24 ?_ ?_ ?_; rotate_left 1; (simp only [qz1, splice_cl, splice_one, len_cl, qz2, zero_add, qz14, isAggD, qz0, if_false, if_true, reduceIte, agg_cl, toNat_natCast, reduceToNat, qz4, n_add_zero, reduceAdd, reduceMul, qz15, length_map]; rfl); (focus (first | (simp only [qz14, length_cons, length_nil, len_cl, length_set, length_map, reduceAdd, zero_add, all_cons, all_nil, qz19, one_bv, PV.one, Value.oneCell', Bool.and_self, reduceLeDiff, Nat.le_refl, and_self, qz12]; done) | ((try simp only [qz14]); (focus ((repeat' apply And.intro) <;> first | exact True.intro | omega | (with_reducible rfl) | assumption | exact ⟨_, rfl⟩ | (simp only [sda]; done) | (simp only [len_cl]; omega) | (simp [Value.cells, Value.oneCell']; done)))))); refine kOps_as rfl rfl rfl rfl ?_; refine vOps_nil ?_; (with_reducible apply seqC_normal; apply wC_seq e11_4; apply wC_region e11_5); refine vOps_open (l := _ :: _) rfl ?_; (first | refine kOps_loadp (pre := ?_) (val := ?_) rfl rfl rfl rfl rfl ty24 ?_ ?_ ?_ | refine kOps_loadr (pre := ?_) (val := ?_) rfl rfl rfl rfl ty24 ?_ ?_ ?_); rotate_left 2; (simp only [qz1, splice_cl, splice_one, len_cl, qz2, zero_add, partF, isAggD, qz0, if_false, if_true, reduceIte, agg_cl, toNat_natCast, reduceToNat, qz4, n_add_zero, reduceAdd, reduceMul, qz15, length_map]; rfl); (focus ((repeat' apply And.intro) <;> first | exact True.intro | omega | (with_reducible rfl) | assumption | exact ⟨_, rfl⟩ | (simp only [sda]; done) | (simp only [len_cl]; omega) | (simp [Value.cells, Value.oneCell']; done))); refine kOps_store (cs' := ?_) rfl rfl rfl rfl rfl rfl rfl ty24 ?_ ?_ ?_; rotate_left 1; (simp only [qz1, splice_cl, splice_one, len_cl, qz2, zero_add, qz14, isAggD, qz0, if_false, if_true, reduceIte, agg_cl, toNat_natCast, reduceToNat, qz4, n_add_zero, reduceAdd, reduceMul, qz15, length_map]; rfl); (focus (first | (simp only [qz14, length_cons, length_nil, len_cl, length_set, length_map, reduceAdd, zero_add, all_cons, all_nil, qz19, one_bv, PV.one, Value.oneCell', Bool.and_self, reduceLeDiff, Nat.le_refl, and_self, qz12]; done) | ((try simp only [qz14]); (focus ((repeat' apply And.intro) <;> first | exact True.intro | omega | (with_reducible rfl) | assumption | exact ⟨_, rfl⟩ | (simp only [sda]; done) | (simp only [len_cl]; omega) | (simp [Value.cells, Value.oneCell']; done)))))); refine vOps_nil ?_; (with_reducible apply seqC_normal; apply wC_ret e11_6)))
    all_goals (
    refine fin_c (p := ?_) (xs := [.cell 0 24]) (by simp) rfl ?_ ?_ ?_ ?_
    rotate_left 2
    · simp only [rsx, qz9, qz1, splice_cl, splice_one, len_cl, qz2, zero_add, evalIn_tmp, evalIn_const, evalIn_func, qz7, Nat.reduceBEq, lit_ul0, lit_ul1, loadF, partF, qz3, qz6, qz16, qz12, and_self, Nat.le_refl, reduceLeDiff, isAggD, qz0, if_false, if_true, reduceIte, agg_cl, toNat_natCast, reduceToNat, qz4, n_add_zero, reduceAdd, reduceMul, qz15, length_map, ty22, ty24]; try rfl
    · first | rfl | (simp only [closed, closedL, qz18, closedL_cl, closedL_bv, Bool.and_self, Bool.and_true]; first | done | rfl)
    · have hp := pPv
      have hq := qPv
      first | ((simp only [← cl4, agg_cl]; done)) | ((try simp only [← cl4, agg_cl]); first | done | exact u4_congr (by omega) | exact agg4 (by omega) | rfl)
    · simp only [rsx, qz9, qz1, splice_cl, splice_one, len_cl, qz2, zero_add, evalIn_tmp, evalIn_const, evalIn_func, qz7, Nat.reduceBEq, lit_ul0, lit_ul1, loadF, partF, qz3, qz6, qz16, qz12, and_self, Nat.le_refl, reduceLeDiff, isAggD, qz0, if_false, if_true, reduceIte, agg_cl, toNat_natCast, reduceToNat, qz4, n_add_zero, reduceAdd, reduceMul, qz15, length_map, ty22, ty24]; try trivial)
  · exact hS.elim
noncomputable def B40 : Code := bodyOf Try.f40
theorem B40_eq : Try.f40.body = some B40 := by kernel_rfl
noncomputable def n40_0 := B40
noncomputable def n40_1 := codeAt B40 [0]
noncomputable def n40_2 := codeAt B40 [1]
noncomputable def n40_3 := codeAt B40 [1,0]
noncomputable def n40_4 := codeAt B40 [1,1]
theorem e40_0 : n40_0 = .seq n40_1 n40_2 := rfl
noncomputable def r40_1 := opsAt n40_1
theorem e40_1 : n40_1 = .region 0 (r40_1).toArray false := rfl
theorem e40_2 : n40_2 = .seq n40_3 n40_4 := rfl
noncomputable def r40_3 := opsAt n40_3
theorem e40_3 : n40_3 = .region 1 (r40_3).toArray false := rfl
theorem e40_4 : n40_4 = .ret := rfl
theorem f_ref02_Zero : PureOk Try.prog 40 sZero := by
  refine pureOk_of (c := n40_0) (Γ := conOf []) (conOf_ok (conOf_end)) mixed Try.func40 B40_eq (by decide +kernel) Try.call40 ?_
  intro args hS
  unfold sZero at hS ⊢
  split at hS
  · refine ⟨by rw [Try.ntmps40]; simp, vC_sound ?_⟩
    rename_i xa
    have ha := hS
    obtain ⟨a, la, rfl⟩ := isU_out ha
    simp only [uv_u4, mod_eq_of_lt la]
    clear ha
    simp only [qz26, reduceAdd]
    repeat' (first | (with_reducible first | apply seqC_normal | apply seqC_ret) | ((with_reducible apply wC_seq e40_0; apply wC_region e40_1); refine vOps_open (l := _ :: _) rfl ?_; refine kOps_box (row := ?_) (n := ?_) rfl rfl rfl rfl rfl ?_ ?_ ?_ ?_; rotate_left 2; (simp only [↓length_append, ↓length_set, ↓length_cons, length_nil, reduceAdd, zero_add]; rfl); (simp only [zero_mod, qz14, qz17]; rfl); (focus (first | rfl | exact one_cl _ _ | exact one_bv _ | (simp only [qz19, all_cons, all_nil, Bool.and_self, PV.one]; done) | (simp [PV.one, qz19, one_bv, Value.oneCell']; done))); refine kOps_as rfl rfl rfl rfl ?_; refine vOps_nil ?_; (with_reducible apply seqC_normal; apply wC_seq e40_2; apply wC_region e40_3); refine vOps_open (l := _ :: _) rfl ?_; (first | refine kOps_loadp (pre := ?_) (val := ?_) rfl rfl rfl rfl rfl ty24 ?_ ?_ ?_ | refine kOps_loadr (pre := ?_) (val := ?_) rfl rfl rfl rfl ty24 ?_ ?_ ?_); rotate_left 2; (simp only [zero_mod, partF, isAggD, qz0, if_false, qz3, qz10, length_cons, length_nil, qz6, zero_add, n_add_zero, qz4, reduceAdd, reduceMul, toNat_natCast, reduceToNat, agg_cl, len_cl]; rfl); (focus ((repeat' apply And.intro) <;> first | exact True.intro | omega | (with_reducible rfl) | assumption | exact ⟨_, rfl⟩ | (simp only [sda]; done) | (simp only [len_cl]; omega) | (simp [Value.cells, Value.oneCell']; done))); refine kOps_build (pre := ?_) (val := ?_) rfl rfl rfl rfl ?_ ?_ ?_; rotate_left 2; (intro L; simp only [zero_mod, buildF, fillB, zeroCells, splice, Value.cells, qz9, List.toList_toArray, zero_cl4, lit_ul0, qz14, qz17, cast_ofNat_Int, qz22, qz10, Int.reduceSub, qz3, qz0, length_cons, length_nil, qz6, zero_add, n_add_zero, qz4, one_mul, reduceAdd, reduceMul, reduceSub, reduceLeDiff, reduceEqDiff, toNat_natCast, reduceToNat, reduceIte, if_true, if_false, isAggD, len_cl, agg_cl, qz15, length_map, qz16, qz12, and_self, ty24, ty22]; rfl); (focus ((repeat' apply And.intro) <;> first | exact True.intro | omega | (with_reducible rfl) | assumption | exact ⟨_, rfl⟩ | (simp only [sda]; done) | (simp only [len_cl]; omega) | (simp [Value.cells, Value.oneCell']; done))); refine kOps_bin (b := .eql) (pre := ?_) (val := ?_) rfl rfl rfl rfl rfl ?_ ?_ ?_; rotate_left 2; (intro L; simp only [zero_mod, eql_u4 ty24 ty22, neq_u4 ty24 ty22, qz31, Int.reduceAdd, Int.reduceSub, Int.reduceMul, Int.reduceNeg, Int.sub_zero, cast_ofNat_Int, ne_eq, Int.reduceLT, Int.reduceLE, Int.reduceEq, reduceMod, reduceLT, qz5, ty24, ty22]; (first | (rw [wrap_i64] <;> first | omega | rfl) | (rw [wrap_u8] <;> first | omega | rfl) | (rw [wrap_u16] <;> first | omega | rfl) | (rw [wrap_u32] <;> first | omega | rfl) | rfl)); (focus ((repeat' apply And.intro) <;> first | exact True.intro | omega | (with_reducible rfl) | assumption | exact ⟨_, rfl⟩ | (simp only [sda]; done) | (simp only [len_cl]; omega) | (simp [Value.cells, Value.oneCell']; done))); refine kOps_as rfl rfl rfl rfl ?_; refine vOps_nil ?_; (with_reducible apply seqC_normal; apply wC_ret e40_4)))
    refine fin_c (p := ?_) (xs := [.tmp 2]) (by simp) rfl ?_ ?_ ?_ ?_
    rotate_left 2
    · simp only [rsx, qz9, zero_mod, evalIn_tmp, evalIn_const, evalIn_func, qz7, Nat.reduceBEq, lit_ul0, lit_ul1, loadF, partF, cast_ofNat_Int, qz22, qz10, Int.reduceSub, qz3, qz0, length_cons, length_nil, qz6, zero_add, n_add_zero, qz4, one_mul, reduceAdd, reduceMul, reduceSub, reduceLeDiff, reduceEqDiff, toNat_natCast, reduceToNat, reduceIte, if_true, if_false, isAggD, len_cl, agg_cl, qz15, length_map, qz16, qz12, and_self, ty22, ty24]; try rfl
    · first | rfl | (simp only [closed, closedL, qz18, closedL_cl, closedL_bv, Bool.and_self, Bool.and_true]; first | done | rfl)
    · exact bool_eq (by omega)
    · simp only [rsx, qz9, zero_mod, evalIn_tmp, evalIn_const, evalIn_func, qz7, Nat.reduceBEq, lit_ul0, lit_ul1, loadF, partF, cast_ofNat_Int, qz22, qz10, Int.reduceSub, qz3, qz0, length_cons, length_nil, qz6, zero_add, n_add_zero, qz4, one_mul, reduceAdd, reduceMul, reduceSub, reduceLeDiff, reduceEqDiff, toNat_natCast, reduceToNat, reduceIte, if_true, if_false, isAggD, len_cl, agg_cl, qz15, length_map, qz16, qz12, and_self, ty22, ty24]; try trivial
  · exact hS.elim
noncomputable def B41 : Code := bodyOf Try.f41
theorem B41_eq : Try.f41.body = some B41 := by kernel_rfl
noncomputable def n41_0 := B41
noncomputable def n41_1 := codeAt B41 [0]
noncomputable def n41_2 := codeAt B41 [1]
noncomputable def n41_3 := codeAt B41 [1,0]
noncomputable def n41_4 := codeAt B41 [1,0,0]
noncomputable def n41_5 := codeAt B41 [1,0,1]
noncomputable def n41_6 := codeAt B41 [1,0,1,0]
noncomputable def n41_7 := codeAt B41 [1,0,1,0,0]
noncomputable def n41_8 := codeAt B41 [1,0,1,0,0,0]
noncomputable def n41_9 := codeAt B41 [1,0,1,0,0,0,0]
noncomputable def n41_10 := codeAt B41 [1,0,1,0,0,0,1]
noncomputable def n41_11 := codeAt B41 [1,0,1,0,0,0,1,0]
noncomputable def n41_12 := codeAt B41 [1,0,1,0,0,0,1,1]
noncomputable def n41_13 := codeAt B41 [1,0,1,0,0,1]
noncomputable def n41_14 := codeAt B41 [1,0,1,0,0,1,0]
noncomputable def n41_15 := codeAt B41 [1,0,1,0,0,1,0,0]
noncomputable def n41_16 := codeAt B41 [1,0,1,0,0,1,0,0,0]
noncomputable def n41_17 := codeAt B41 [1,0,1,0,0,1,0,0,0,0]
noncomputable def n41_18 := codeAt B41 [1,0,1,0,0,1,0,0,0,1]
noncomputable def n41_19 := codeAt B41 [1,0,1,0,0,1,0,0,0,1,0]
noncomputable def n41_20 := codeAt B41 [1,0,1,0,0,1,0,0,0,1,0,0]
noncomputable def n41_21 := codeAt B41 [1,0,1,0,0,1,0,0,0,1,0,1]
noncomputable def n41_22 := codeAt B41 [1,0,1,0,0,1,0,0,0,1,1]
noncomputable def n41_23 := codeAt B41 [1,0,1,0,0,1,0,0,1]
noncomputable def n41_24 := codeAt B41 [1,0,1,0,0,1,0,0,1,0]
noncomputable def n41_25 := codeAt B41 [1,0,1,0,0,1,0,0,1,1]
noncomputable def n41_26 := codeAt B41 [1,0,1,0,0,1,0,0,1,1,0]
noncomputable def n41_27 := codeAt B41 [1,0,1,0,0,1,0,0,1,1,0,0]
noncomputable def n41_28 := codeAt B41 [1,0,1,0,0,1,0,0,1,1,0,1]
noncomputable def n41_29 := codeAt B41 [1,0,1,0,0,1,0,0,1,1,1]
noncomputable def n41_30 := codeAt B41 [1,0,1,0,0,1,1]
noncomputable def n41_31 := codeAt B41 [1,1]
noncomputable def n41_32 := codeAt B41 [1,1,0]
noncomputable def n41_33 := codeAt B41 [1,1,1]
theorem e41_0 : n41_0 = .seq n41_1 n41_2 := rfl
noncomputable def r41_1 := opsAt n41_1
theorem e41_1 : n41_1 = .region 0 (r41_1).toArray false := rfl
theorem e41_2 : n41_2 = .seq n41_3 n41_31 := rfl
theorem e41_3 : n41_3 = .seq n41_4 n41_5 := rfl
noncomputable def r41_4 := opsAt n41_4
theorem e41_4 : n41_4 = .region 1 (r41_4).toArray false := rfl
theorem e41_5 : n41_5 = .block 0 n41_6 := rfl
theorem e41_6 : n41_6 = .loop n41_7 := rfl
theorem e41_7 : n41_7 = .seq n41_8 n41_13 := rfl
theorem e41_8 : n41_8 = .seq n41_9 n41_10 := rfl
noncomputable def r41_9 := opsAt n41_9
theorem e41_9 : n41_9 = .region 2 (r41_9).toArray false := rfl
theorem e41_10 : n41_10 = .cond (.tmp 7) n41_11 n41_12 := rfl
theorem e41_11 : n41_11 = .skip := rfl
theorem e41_12 : n41_12 = .exit 0 := rfl
theorem e41_13 : n41_13 = .seq n41_14 n41_30 := rfl
theorem e41_14 : n41_14 = .block 1 n41_15 := rfl
theorem e41_15 : n41_15 = .seq n41_16 n41_23 := rfl
theorem e41_16 : n41_16 = .seq n41_17 n41_18 := rfl
noncomputable def r41_17 := opsAt n41_17
theorem e41_17 : n41_17 = .region 4 (r41_17).toArray true := rfl
theorem a41_17 : anyOk r41_17 = true := by decide +kernel
theorem e41_18 : n41_18 = .cond (.tmp 16) n41_19 n41_22 := rfl
theorem e41_19 : n41_19 = .seq n41_20 n41_21 := rfl
noncomputable def r41_20 := opsAt n41_20
theorem e41_20 : n41_20 = .region 5 (r41_20).toArray false := rfl
theorem e41_21 : n41_21 = .ret := rfl
theorem e41_22 : n41_22 = .skip := rfl
theorem e41_23 : n41_23 = .seq n41_24 n41_25 := rfl
noncomputable def r41_24 := opsAt n41_24
theorem e41_24 : n41_24 = .region 6 (r41_24).toArray true := rfl
theorem a41_24 : anyOk r41_24 = true := by decide +kernel
theorem e41_25 : n41_25 = .cond (.tmp 23) n41_26 n41_29 := rfl
theorem e41_26 : n41_26 = .seq n41_27 n41_28 := rfl
noncomputable def r41_27 := opsAt n41_27
theorem e41_27 : n41_27 = .region 7 (r41_27).toArray false := rfl
theorem e41_28 : n41_28 = .ret := rfl
theorem e41_29 : n41_29 = .skip := rfl
noncomputable def r41_30 := opsAt n41_30
theorem e41_30 : n41_30 = .region 3 (r41_30).toArray false := rfl
theorem e41_31 : n41_31 = .seq n41_32 n41_33 := rfl
noncomputable def r41_32 := opsAt n41_32
theorem e41_32 : n41_32 = .region 8 (r41_32).toArray false := rfl
theorem e41_33 : n41_33 = .ret := rfl
theorem f_ref02_Cmp : PureOk Try.prog 41 sCmp := by
  refine pureOk_of (c := n41_0) (Γ := conOf []) (conOf_ok (conOf_end)) mixed Try.func41 B41_eq (by decide +kernel) Try.call41 ?_
  intro args hS
  unfold sCmp at hS ⊢
  split at hS
  · refine ⟨by rw [Try.ntmps41]; simp, vC_sound ?_⟩
    rename_i xa xb
    obtain ⟨ha, hb⟩ := hS
    obtain ⟨a, la, rfl⟩ := isU_out ha
    obtain ⟨b, lb, rfl⟩ := isU_out hb
    simp only [uv_u4, mod_eq_of_lt la, mod_eq_of_lt lb]
    clear ha hb
    simp only [qz26, reduceAdd]
    repeat' (first | (with_reducible first | apply seqC_normal | apply wunrC_normal | apply blockC_normal | apply seqC_exit | apply blockC_hit | apply wunrC_exit | apply seqC_ret | apply blockC_ret | apply wunrC_ret | apply loopC_ret | apply loopC_exit) | ((with_reducible apply blockC_miss); (exact rfl)) | ((with_reducible apply wC_seq e41_0; apply wC_region e41_1); refine vOps_open (l := _ :: _) rfl ?_) | ((with_reducible apply wC_seq e41_2; apply wC_seq e41_3; apply wC_region e41_4); refine vOps_open (l := _ :: _) rfl ?_) | ((with_reducible apply wC_block e41_5; apply kC_unroll [2, 3, 5] e41_6); (exact rfl); (exact rfl); (with_reducible apply wC_seq e41_7; apply wC_seq e41_8; apply wC_region e41_9); refine vOps_open (l := _ :: _) rfl ?_) | ((with_reducible apply kC_unroll [2, 3, 5] e41_6); (exact rfl); (exact rfl); (with_reducible apply wC_seq e41_7; apply wC_seq e41_8; apply wC_region e41_9); refine vOps_open (l := _ :: _) rfl ?_) | ((with_reducible apply kC_cond e41_10); (exact rfl); all_goals (intro hb; first | (cases hb; done) | cases hb | ((try simp only [dxe] at hb); try (exfalso; first | omega | exact hb trivial)))) | ((with_reducible apply wC_skip e41_11)) | ((with_reducible apply wC_exit e41_12)) | ((with_reducible apply wC_seq e41_13; apply wC_block e41_14; apply wC_seq e41_15; apply wC_seq e41_16; apply wC_any e41_17 a41_17); refine vOps_open (l := _ :: _) rfl ?_) | ((with_reducible apply kC_cond e41_18); (exact rfl); all_goals (intro hb; first | (cases hb; done) | cases hb | ((try simp only [dxe] at hb); try (exfalso; first | omega | exact hb trivial)))) | ((with_reducible apply wC_seq e41_19; apply wC_region e41_20); refine vOps_open (l := _ :: _) rfl ?_) | ((with_reducible apply wC_ret e41_21)) | ((with_reducible apply wC_skip e41_22)) | ((with_reducible apply wC_seq e41_23; apply wC_any e41_24 a41_24); refine vOps_open (l := _ :: _) rfl ?_) | ((with_reducible apply kC_cond e41_25); (exact rfl); all_goals (intro hb; first | (cases hb; done) | cases hb | ((try simp only [dxe] at hb); try (exfalso; first | omega | exact hb trivial)))) | ((with_reducible apply wC_seq e41_26; apply wC_region e41_27); refine vOps_open (l := _ :: _) rfl ?_) | ((with_reducible apply wC_ret e41_28)) | ((with_reducible apply wC_skip e41_29)) | ((with_reducible apply wC_region e41_30); refine vOps_open (l := _ :: _) rfl ?_) | ((with_reducible apply wC_seq e41_31; apply wC_region e41_32); refine vOps_open (l := _ :: _) rfl ?_) | ((with_reducible apply wC_ret e41_33)) | ((with_reducible apply vOps_nil); try (with_reducible refine And.intro (by kernel_rfl) ?_)) | (refine kOps_box (row := ?_) (n := ?_) rfl rfl rfl rfl rfl ?_ ?_ ?_ ?_; rotate_left 2; (simp only [↓length_append, ↓length_set, ↓length_cons, length_nil, reduceAdd, zero_add]; rfl); (simp only [cl4, qz14, qz17]; rfl); (focus (first | rfl | exact one_cl _ _ | exact one_bv _ | (simp only [qz19, all_cons, all_nil, Bool.and_self, PV.one]; done) | (simp [PV.one, qz19, one_bv, Value.oneCell']; done)))) | (refine kOps_as rfl rfl rfl rfl ?_) | (refine kOps_mv rfl rfl rfl rfl ?_) | (refine kOps_bin (b := .geq) (pre := ?_) (val := ?_) rfl rfl rfl rfl rfl ?_ ?_ ?_; rotate_left 2; (intro L; simp only [cl4, eql_u4 ty24 ty22, neq_u4 ty24 ty22, lit_ul0, lit_ul1, qz33, Int.reduceAdd, Int.reduceSub, Int.reduceMul, Int.reduceNeg, Int.sub_zero, cast_ofNat_Int, ne_eq, Int.reduceLT, Int.reduceLE, Int.reduceEq, reduceMod, reduceLT, qz5, ty3]; (first | (rw [wrap_i64] <;> first | omega | rfl) | (rw [wrap_u8] <;> first | omega | rfl) | (rw [wrap_u16] <;> first | omega | rfl) | (rw [wrap_u32] <;> first | omega | rfl) | rfl)); exact trivial) | ((first | (refine kOps_ixap (off' := ?_) rfl rfl rfl rfl rfl rfl ty24 ty22 ?_ ?_ ?_; rotate_left 1; (simp only [cl4, zero_add, n_add_zero, qz4, one_mul, toNat_natCast, reduceToNat, reduceMul, reduceAdd]; rfl)) | (refine kOps_ixaq (cs' := ?_) rfl rfl rfl rfl rfl ty24 ty22 ?_ ?_ ?_; rotate_left 1; (simp only [cl4, elemAt, isAggD, qz0, if_false, qz3, qz10, length_cons, length_nil, qz6, zero_add, n_add_zero, qz4, reduceAdd, reduceMul, toNat_natCast, reduceToNat, agg_cl, len_cl]; rfl))); (focus ((repeat' apply And.intro) <;> first | exact True.intro | omega | (with_reducible rfl) | assumption | exact ⟨_, rfl⟩ | (simp only [sda]; done) | (simp only [len_cl]; omega) | (simp [Value.cells, Value.oneCell']; done)))) | ((first | refine kOps_loadp (pre := ?_) (val := ?_) rfl rfl rfl rfl rfl ty22 ?_ ?_ ?_ | refine kOps_loadr (pre := ?_) (val := ?_) rfl rfl rfl rfl ty22 ?_ ?_ ?_); rotate_left 2; (simp only [cl4, partF, isAggD, qz0, if_false, qz3, qz10, length_cons, length_nil, qz6, zero_add, n_add_zero, qz4, reduceAdd, reduceMul, toNat_natCast, reduceToNat, agg_cl, len_cl]; rfl); (focus ((repeat' apply And.intro) <;> first | exact True.intro | omega | (with_reducible rfl) | assumption | exact ⟨_, rfl⟩ | (simp only [sda]; done) | (simp only [len_cl]; omega) | (simp [Value.cells, Value.oneCell']; done)))) | (refine kOps_bin (b := .lss) (pre := ?_) (val := ?_) rfl rfl rfl rfl rfl ?_ ?_ ?_; rotate_left 2; (intro L; simp only [cl4, eql_u4 ty24 ty22, neq_u4 ty24 ty22, lit_ul0, lit_ul1, qz35, Int.reduceAdd, Int.reduceSub, Int.reduceMul, Int.reduceNeg, Int.sub_zero, cast_ofNat_Int, ne_eq, Int.reduceLT, Int.reduceLE, Int.reduceEq, reduceMod, reduceLT, qz5, ty22]; (first | (rw [wrap_i64] <;> first | omega | rfl) | (rw [wrap_u8] <;> first | omega | rfl) | (rw [wrap_u16] <;> first | omega | rfl) | (rw [wrap_u32] <;> first | omega | rfl) | rfl)); exact trivial) | (refine kOps_bin (b := .gtr) (pre := ?_) (val := ?_) rfl rfl rfl rfl rfl ?_ ?_ ?_; rotate_left 2; (intro L; simp only [cl4, eql_u4 ty24 ty22, neq_u4 ty24 ty22, lit_ul0, lit_ul1, gtr_ul, binF_gtr, Int.reduceAdd, Int.reduceSub, Int.reduceMul, Int.reduceNeg, Int.sub_zero, cast_ofNat_Int, ne_eq, Int.reduceLT, Int.reduceLE, Int.reduceEq, reduceMod, reduceLT, qz5, ty22]; (first | (rw [wrap_i64] <;> first | omega | rfl) | (rw [wrap_u8] <;> first | omega | rfl) | (rw [wrap_u16] <;> first | omega | rfl) | (rw [wrap_u32] <;> first | omega | rfl) | rfl)); exact trivial) | (refine kOps_bin (b := .sub) (pre := ?_) (val := ?_) rfl rfl rfl rfl rfl ?_ ?_ ?_; rotate_left 2; (intro L; simp only [cl4, eql_u4 ty24 ty22, neq_u4 ty24 ty22, lit_ul0, lit_ul1, qz36, Int.reduceAdd, Int.reduceSub, Int.reduceMul, Int.reduceNeg, Int.sub_zero, cast_ofNat_Int, ne_eq, Int.reduceLT, Int.reduceLE, Int.reduceEq, reduceMod, reduceLT, qz5, ty3]; (first | (rw [wrap_i64] <;> first | omega | rfl) | (rw [wrap_u8] <;> first | omega | rfl) | (rw [wrap_u16] <;> first | omega | rfl) | (rw [wrap_u32] <;> first | omega | rfl) | rfl)); exact trivial))
    all_goals (
    refine fin_c (p := ?_) (xs := [.tmp 4]) (by simp) rfl ?_ ?_ ?_ ?_
    rotate_left 2
    · simp only [rsx, qz9, cl4, evalIn_tmp, evalIn_const, evalIn_func, qz7, Nat.reduceBEq, lit_ul0, lit_ul1, loadF, partF, cast_ofNat_Int, qz22, qz10, Int.reduceSub, qz3, qz0, length_cons, length_nil, qz6, zero_add, n_add_zero, qz4, one_mul, reduceAdd, reduceMul, reduceSub, reduceLeDiff, reduceEqDiff, toNat_natCast, reduceToNat, reduceIte, if_true, if_false, isAggD, len_cl, agg_cl, qz15, length_map, qz16, qz12, and_self, ty3, ty22, ty24]; try rfl
    · first | rfl | (simp only [closed, closedL, qz18, closedL_cl, closedL_bv, Bool.and_self, Bool.and_true]; first | done | rfl)
    · refine int_eq ?_
      unfold cmpN
      (repeat' split) <;> omega
    · simp only [rsx, qz9, cl4, evalIn_tmp, evalIn_const, evalIn_func, qz7, Nat.reduceBEq, lit_ul0, lit_ul1, loadF, partF, cast_ofNat_Int, qz22, qz10, Int.reduceSub, qz3, qz0, length_cons, length_nil, qz6, zero_add, n_add_zero, qz4, one_mul, reduceAdd, reduceMul, reduceSub, reduceLeDiff, reduceEqDiff, toNat_natCast, reduceToNat, reduceIte, if_true, if_false, isAggD, len_cl, agg_cl, qz15, length_map, qz16, qz12, and_self, ty3, ty22, ty24]; try trivial)
  · exact hS.elim
noncomputable def B56 : Code := bodyOf Try.f56
theorem B56_eq : Try.f56.body = some B56 := by kernel_rfl
noncomputable def n56_0 := B56
noncomputable def n56_1 := codeAt B56 [0]
noncomputable def n56_2 := codeAt B56 [1]
noncomputable def n56_3 := codeAt B56 [1,0]
noncomputable def n56_4 := codeAt B56 [1,1]
noncomputable def n56_5 := codeAt B56 [1,1,0]
noncomputable def n56_6 := codeAt B56 [1,1,1]
noncomputable def n56_7 := codeAt B56 [1,1,1,0]
noncomputable def n56_8 := codeAt B56 [1,1,1,0,0]
noncomputable def n56_9 := codeAt B56 [1,1,1,0,1]
noncomputable def n56_10 := codeAt B56 [1,1,1,0,1,0]
noncomputable def n56_11 := codeAt B56 [1,1,1,0,1,0,0]
noncomputable def n56_12 := codeAt B56 [1,1,1,0,1,0,0,0]
noncomputable def n56_13 := codeAt B56 [1,1,1,0,1,0,0,1]
noncomputable def n56_14 := codeAt B56 [1,1,1,0,1,0,0,1,0]
noncomputable def n56_15 := codeAt B56 [1,1,1,0,1,0,0,1,0,0]
noncomputable def n56_16 := codeAt B56 [1,1,1,0,1,0,0,1,0,1]
noncomputable def n56_17 := codeAt B56 [1,1,1,0,1,0,0,1,1]
noncomputable def n56_18 := codeAt B56 [1,1,1,0,1,0,0,1,1,0]
noncomputable def n56_19 := codeAt B56 [1,1,1,0,1,0,0,1,1,0,0]
noncomputable def n56_20 := codeAt B56 [1,1,1,0,1,0,0,1,1,0,0,0]
noncomputable def n56_21 := codeAt B56 [1,1,1,0,1,0,0,1,1,0,0,1]
noncomputable def n56_22 := codeAt B56 [1,1,1,0,1,0,0,1,1,1]
noncomputable def n56_23 := codeAt B56 [1,1,1,1]
noncomputable def n56_24 := codeAt B56 [1,1,1,1,0]
noncomputable def n56_25 := codeAt B56 [1,1,1,1,1]
theorem e56_0 : n56_0 = .seq n56_1 n56_2 := rfl
noncomputable def r56_1 := opsAt n56_1
theorem e56_1 : n56_1 = .region 0 (r56_1).toArray false := rfl
theorem e56_2 : n56_2 = .seq n56_3 n56_4 := rfl
noncomputable def r56_3 := opsAt n56_3
theorem e56_3 : n56_3 = .region 1 (r56_3).toArray false := rfl
theorem e56_4 : n56_4 = .seq n56_5 n56_6 := rfl
noncomputable def r56_5 := opsAt n56_5
theorem e56_5 : n56_5 = .region 2 (r56_5).toArray false := rfl
theorem e56_6 : n56_6 = .seq n56_7 n56_23 := rfl
theorem e56_7 : n56_7 = .seq n56_8 n56_9 := rfl
noncomputable def r56_8 := opsAt n56_8
theorem e56_8 : n56_8 = .region 3 (r56_8).toArray false := rfl
theorem e56_9 : n56_9 = .block 0 n56_10 := rfl
theorem e56_10 : n56_10 = .loop n56_11 := rfl
theorem e56_11 : n56_11 = .seq n56_12 n56_13 := rfl
noncomputable def r56_12 := opsAt n56_12
theorem e56_12 : n56_12 = .region 4 (r56_12).toArray false := rfl
theorem e56_13 : n56_13 = .seq n56_14 n56_17 := rfl
theorem e56_14 : n56_14 = .cond (.tmp 10) n56_15 n56_16 := rfl
theorem e56_15 : n56_15 = .skip := rfl
theorem e56_16 : n56_16 = .exit 0 := rfl
theorem e56_17 : n56_17 = .seq n56_18 n56_22 := rfl
theorem e56_18 : n56_18 = .block 1 n56_19 := rfl
theorem e56_19 : n56_19 = .seq n56_20 n56_21 := rfl
noncomputable def r56_20 := opsAt n56_20
theorem e56_20 : n56_20 = .region 5 (r56_20).toArray false := rfl
noncomputable def r56_21 := opsAt n56_21
theorem e56_21 : n56_21 = .region 6 (r56_21).toArray true := rfl
theorem a56_21 : anyOk r56_21 = true := by decide +kernel
noncomputable def r56_22 := opsAt n56_22
theorem e56_22 : n56_22 = .region 7 (r56_22).toArray false := rfl
theorem e56_23 : n56_23 = .seq n56_24 n56_25 := rfl
noncomputable def r56_24 := opsAt n56_24
theorem e56_24 : n56_24 = .region 8 (r56_24).toArray false := rfl
theorem e56_25 : n56_25 = .ret := rfl
theorem f_ref02_Add : PureOk Try.prog 56 sAdd := by
  refine pureOk_of (c := n56_0) (Γ := conOf [(66, .ext sAdd64)]) (conOf_ok (conOf_one (S := .ext sAdd64) f_bits_Add64 (conOf_end))) mixed Try.func56 B56_eq (by decide +kernel) Try.call56 ?_
  intro args hS
  unfold sAdd at hS ⊢
  split at hS
  · refine ⟨by rw [Try.ntmps56]; simp, vC_sound ?_⟩
    rename_i xa xb
    obtain ⟨ha, hb⟩ := hS
    obtain ⟨a, la, rfl⟩ := isU_out ha
    obtain ⟨b, lb, rfl⟩ := isU_out hb
    simp only [uv_u4, mod_eq_of_lt la, mod_eq_of_lt lb]
    clear ha hb
    simp only [qz26, reduceAdd]
    repeat' (first | (with_reducible first | apply seqC_normal | apply wunrC_normal | apply blockC_normal | apply seqC_exit | apply blockC_hit | apply wunrC_exit | apply seqC_ret | apply blockC_ret | apply wunrC_ret | apply loopC_ret | apply loopC_exit) | ((with_reducible apply blockC_miss); (exact rfl)) | ((with_reducible apply wC_seq e56_0; apply wC_region e56_1); refine vOps_open (l := _ :: _) rfl ?_) | ((with_reducible apply wC_seq e56_2; apply wC_region e56_3); refine vOps_open (l := _ :: _) rfl ?_) | ((with_reducible apply wC_seq e56_4; apply wC_region e56_5); refine vOps_open (l := _ :: _) rfl ?_) | ((with_reducible apply wC_seq e56_6; apply wC_seq e56_7; apply wC_region e56_8); refine vOps_open (l := _ :: _) rfl ?_) | ((with_reducible apply wC_block e56_9; apply kC_unroll [2, 3, 4, 6, 7, 9] e56_10); (exact rfl); (exact rfl); (with_reducible apply wC_seq e56_11; apply wC_region e56_12); refine vOps_open (l := _ :: _) rfl ?_) | ((with_reducible apply kC_unroll [2, 3, 4, 6, 7, 9] e56_10); (exact rfl); (exact rfl); (with_reducible apply wC_seq e56_11; apply wC_region e56_12); refine vOps_open (l := _ :: _) rfl ?_) | ((with_reducible apply wC_seq e56_13; apply kC_cond e56_14); (exact rfl); all_goals (intro hb; first | (cases hb; done) | cases hb | ((try simp only [dxe] at hb); try (exfalso; first | omega | exact hb trivial)))) | ((with_reducible apply wC_skip e56_15)) | ((with_reducible apply wC_exit e56_16)) | ((with_reducible apply wC_seq e56_17; apply wC_block e56_18; apply wC_seq e56_19; apply wC_region e56_20); refine vOps_open (l := _ :: _) rfl ?_) | ((with_reducible apply wC_any e56_21 a56_21); refine vOps_open (l := _ :: _) rfl ?_) | ((with_reducible apply wC_region e56_22); refine vOps_open (l := _ :: _) rfl ?_) | ((with_reducible apply wC_seq e56_23; apply wC_region e56_24); refine vOps_open (l := _ :: _) rfl ?_) | ((with_reducible apply wC_ret e56_25)) | ((with_reducible apply vOps_nil); try (with_reducible refine And.intro (by kernel_rfl) ?_)) | (refine kOps_box (row := ?_) (n := ?_) rfl rfl rfl rfl rfl ?_ ?_ ?_ ?_; rotate_left 2; (simp only [↓length_append, ↓length_set, ↓length_cons, length_nil, reduceAdd, zero_add]; rfl); (simp only [cl4, qz14, qz17]; rfl); (focus (first | rfl | exact one_cl _ _ | exact one_bv _ | (simp only [qz19, all_cons, all_nil, Bool.and_self, PV.one]; done) | (simp [PV.one, qz19, one_bv, Value.oneCell']; done)))) | (refine kOps_alloc (row := ?_) (n := ?_) rfl rfl rfl rfl ty24 ?_ ?_ ?_ ?_; rotate_left 2; (simp only [↓length_append, ↓length_set, ↓length_cons, length_nil, reduceAdd, zero_add]; rfl); (simp only [cl4, Value.cells, qz9, List.toList_toArray, zero_cl4, zero_cl8, lit_ul0]; rfl); (focus (first | (simp only [Value.cells, List.toList_toArray, qz23, Value.oneCell', and_self]; done) | (simp [Value.cells, Value.oneCell']; done)))) | (refine kOps_as rfl rfl rfl rfl ?_) | (refine kOps_asc rfl rfl rfl lit_ul0 ?_) | (refine kOps_mv rfl rfl rfl rfl ?_) | (refine kOps_bin (b := .lss) (pre := ?_) (val := ?_) rfl rfl rfl rfl rfl ?_ ?_ ?_; rotate_left 2; (intro L; simp only [cl4, eql_u4 ty24 ty22, neq_u4 ty24 ty22, lit_ul0, lit_ul1, qz35, Int.reduceAdd, Int.reduceSub, Int.reduceMul, Int.reduceNeg, Int.sub_zero, cast_ofNat_Int, ne_eq, Int.reduceLT, Int.reduceLE, Int.reduceEq, reduceMod, reduceLT, qz5, ty3]; (first | (rw [wrap_i64] <;> first | omega | rfl) | (rw [wrap_u8] <;> first | omega | rfl) | (rw [wrap_u16] <;> first | omega | rfl) | (rw [wrap_u32] <;> first | omega | rfl) | rfl)); exact trivial) | ((first | (refine kOps_ixap (off' := ?_) rfl rfl rfl rfl rfl rfl ty24 ty22 ?_ ?_ ?_; rotate_left 1; (simp only [cl4, zero_add, n_add_zero, qz4, one_mul, toNat_natCast, reduceToNat, reduceMul, reduceAdd]; rfl)) | (refine kOps_ixaq (cs' := ?_) rfl rfl rfl rfl rfl ty24 ty22 ?_ ?_ ?_; rotate_left 1; (simp only [cl4, elemAt, isAggD, qz0, if_false, qz3, qz10, length_cons, length_nil, qz6, zero_add, n_add_zero, qz4, reduceAdd, reduceMul, toNat_natCast, reduceToNat, agg_cl, len_cl]; rfl))); (focus ((repeat' apply And.intro) <;> first | exact True.intro | omega | (with_reducible rfl) | assumption | exact ⟨_, rfl⟩ | (simp only [sda]; done) | (simp only [len_cl]; omega) | (simp [Value.cells, Value.oneCell']; done)))) | ((first | refine kOps_loadp (pre := ?_) (val := ?_) rfl rfl rfl rfl rfl ty22 ?_ ?_ ?_ | refine kOps_loadr (pre := ?_) (val := ?_) rfl rfl rfl rfl ty22 ?_ ?_ ?_); rotate_left 2; (simp only [cl4, partF, isAggD, qz0, if_false, qz3, qz10, length_cons, length_nil, qz6, zero_add, n_add_zero, qz4, reduceAdd, reduceMul, toNat_natCast, reduceToNat, agg_cl, len_cl]; rfl); (focus ((repeat' apply And.intro) <;> first | exact True.intro | omega | (with_reducible rfl) | assumption | exact ⟨_, rfl⟩ | (simp only [sda]; done) | (simp only [len_cl]; omega) | (simp [Value.cells, Value.oneCell']; done)))) | (refine kOps_calle (pre := ?_) (val := ?_) rfl rfl rfl rfl rfl ?_ ?_ ?_; rotate_left 2; (simp only [cl4, addd0, addd1, addc1, addd2, addc2, addd3, addc3, zero_mod, sAdd64, lit_ul0, lit_ul1, nrmC, qz9, qz8, qz25, ulv_ul, uv_u4, qz12, and_self, n_add_zero, zero_add, n_sub_zero]; rfl); (focus ((repeat' apply And.intro) <;> first | exact True.intro | omega | (with_reducible rfl) | assumption | exact ⟨_, rfl⟩ | (simp only [sda]; done) | (simp only [len_cl]; omega) | (simp [Value.cells, Value.oneCell']; done)))) | (refine kOps_ext rfl rfl rfl rfl rfl ?_) | (refine kOps_store (cs' := ?_) rfl rfl rfl rfl rfl rfl rfl ty22 ?_ ?_ ?_; rotate_left 1; (simp only [cl4, lit_ul0, lit_ul1, splice, qz14, qz17, isAggD, qz0, if_false, qz3, qz10, length_cons, length_nil, qz6, zero_add, n_add_zero, qz4, reduceAdd, reduceMul, toNat_natCast, reduceToNat, agg_cl, len_cl]; rfl); (focus (first | (simp only [lit_ul0, lit_ul1, qz14, qz17, length_cons, length_nil, len_cl, length_set, length_map, reduceAdd, zero_add, all_cons, all_nil, qz19, one_bv, PV.one, Value.oneCell', Bool.and_self, reduceLeDiff, Nat.le_refl, and_self, qz12]; done) | ((try simp only [lit_ul0, lit_ul1, qz14, qz17]); (focus ((repeat' apply And.intro) <;> first | exact True.intro | omega | (with_reducible rfl) | assumption | exact ⟨_, rfl⟩ | (simp only [sda]; done) | (simp only [len_cl]; omega) | (simp [Value.cells, Value.oneCell']; done))))))) | (refine kOps_bin (b := .add) (pre := ?_) (val := ?_) rfl rfl rfl rfl rfl ?_ ?_ ?_; rotate_left 2; (intro L; simp only [cl4, eql_u4 ty24 ty22, neq_u4 ty24 ty22, lit_ul0, lit_ul1, qz34, Int.reduceAdd, Int.reduceSub, Int.reduceMul, Int.reduceNeg, Int.sub_zero, cast_ofNat_Int, ne_eq, Int.reduceLT, Int.reduceLE, Int.reduceEq, reduceMod, reduceLT, qz5, ty3]; (first | (rw [wrap_i64] <;> first | omega | rfl) | (rw [wrap_u8] <;> first | omega | rfl) | (rw [wrap_u16] <;> first | omega | rfl) | (rw [wrap_u32] <;> first | omega | rfl) | rfl)); exact trivial) | ((first | refine kOps_loadp (pre := ?_) (val := ?_) rfl rfl rfl rfl rfl ty24 ?_ ?_ ?_ | refine kOps_loadr (pre := ?_) (val := ?_) rfl rfl rfl rfl ty24 ?_ ?_ ?_); rotate_left 2; (simp only [cl4, partF, isAggD, qz0, if_false, qz3, qz10, length_cons, length_nil, qz6, zero_add, n_add_zero, qz4, reduceAdd, reduceMul, toNat_natCast, reduceToNat, agg_cl, len_cl]; rfl); (focus ((repeat' apply And.intro) <;> first | exact True.intro | omega | (with_reducible rfl) | assumption | exact ⟨_, rfl⟩ | (simp only [sda]; done) | (simp only [len_cl]; omega) | (simp [Value.cells, Value.oneCell']; done)))) | (refine kOps_bin (b := .eql) (pre := ?_) (val := ?_) rfl rfl rfl rfl rfl ?_ ?_ ?_; rotate_left 2; (intro L; simp only [cl4, eql_u4 ty24 ty22, neq_u4 ty24 ty22, lit_ul0, lit_ul1, qz31, Int.reduceAdd, Int.reduceSub, Int.reduceMul, Int.reduceNeg, Int.sub_zero, cast_ofNat_Int, ne_eq, Int.reduceLT, Int.reduceLE, Int.reduceEq, reduceMod, reduceLT, qz5, ty22]; (first | (rw [wrap_i64] <;> first | omega | rfl) | (rw [wrap_u8] <;> first | omega | rfl) | (rw [wrap_u16] <;> first | omega | rfl) | (rw [wrap_u32] <;> first | omega | rfl) | rfl)); (focus ((repeat' apply And.intro) <;> first | exact True.intro | omega | (with_reducible rfl) | assumption | exact ⟨_, rfl⟩ | (simp only [sda]; done) | (simp only [len_cl]; omega) | (simp [Value.cells, Value.oneCell']; done)))) | (refine kOps_store (cs' := ?_) rfl rfl rfl rfl rfl rfl rfl ty24 ?_ ?_ ?_; rotate_left 1; (simp only [cl4, lit_ul0, lit_ul1, splice, qz14, qz17, isAggD, qz0, if_false, qz3, qz10, length_cons, length_nil, qz6, zero_add, n_add_zero, qz4, reduceAdd, reduceMul, toNat_natCast, reduceToNat, agg_cl, len_cl]; rfl); (focus (first | (simp only [lit_ul0, lit_ul1, qz14, qz17, length_cons, length_nil, len_cl, length_set, length_map, reduceAdd, zero_add, all_cons, all_nil, qz19, one_bv, PV.one, Value.oneCell', Bool.and_self, reduceLeDiff, Nat.le_refl, and_self, qz12]; done) | ((try simp only [lit_ul0, lit_ul1, qz14, qz17]); (focus ((repeat' apply And.intro) <;> first | exact True.intro | omega | (with_reducible rfl) | assumption | exact ⟨_, rfl⟩ | (simp only [sda]; done) | (simp only [len_cl]; omega) | (simp [Value.cells, Value.oneCell']; done))))))))
    refine fin_c (p := ?_) (xs := [.cell 4 24, .tmp 5]) (by simp) rfl ?_ ?_ ?_ ?_
    rotate_left 2
    · simp only [rsx, qz9, cl4, evalIn_tmp, evalIn_const, evalIn_func, qz7, Nat.reduceBEq, lit_ul0, lit_ul1, loadF, partF, cast_ofNat_Int, qz22, qz10, Int.reduceSub, qz3, qz0, length_cons, length_nil, qz6, zero_add, n_add_zero, qz4, one_mul, reduceAdd, reduceMul, reduceSub, reduceLeDiff, reduceEqDiff, toNat_natCast, reduceToNat, reduceIte, if_true, if_false, isAggD, len_cl, agg_cl, qz15, length_map, qz16, qz12, and_self, ty3, ty22, ty24]; try rfl
    · first | rfl | (simp only [closed, closedL, qz18, closedL_cl, closedL_bv, Bool.and_self, Bool.and_true]; first | done | rfl)
    · try simp only [← cl4, agg_cl]
      exact tup2 rfl (bool_eq (by omega))
    · simp only [rsx, qz9, cl4, evalIn_tmp, evalIn_const, evalIn_func, qz7, Nat.reduceBEq, lit_ul0, lit_ul1, loadF, partF, cast_ofNat_Int, qz22, qz10, Int.reduceSub, qz3, qz0, length_cons, length_nil, qz6, zero_add, n_add_zero, qz4, one_mul, reduceAdd, reduceMul, reduceSub, reduceLeDiff, reduceEqDiff, toNat_natCast, reduceToNat, reduceIte, if_true, if_false, isAggD, len_cl, agg_cl, qz15, length_map, qz16, qz12, and_self, ty3, ty22, ty24]; try trivial
  · exact hS.elim
noncomputable def B58 : Code := bodyOf Try.f58
theorem B58_eq : Try.f58.body = some B58 := by kernel_rfl
noncomputable def n58_0 := B58
noncomputable def n58_1 := codeAt B58 [0]
noncomputable def n58_2 := codeAt B58 [1]
noncomputable def n58_3 := codeAt B58 [1,0]
noncomputable def n58_4 := codeAt B58 [1,1]
theorem e58_0 : n58_0 = .seq n58_1 n58_2 := rfl
noncomputable def r58_1 := opsAt n58_1
theorem e58_1 : n58_1 = .region 0 (r58_1).toArray false := rfl
theorem e58_2 : n58_2 = .seq n58_3 n58_4 := rfl
noncomputable def r58_3 := opsAt n58_3
theorem e58_3 : n58_3 = .region 1 (r58_3).toArray false := rfl
theorem e58_4 : n58_4 = .ret := rfl
theorem f_ref02_Bit : PureOk Try.prog 58 sBit := by
  refine pureOk_of (c := n58_0) (Γ := conOf []) (conOf_ok (conOf_end)) mixed Try.func58 B58_eq (by decide +kernel) Try.call58 ?_
  intro args hS
  unfold sBit at hS ⊢
  split at hS
  · refine ⟨by rw [Try.ntmps58]; simp, vC_sound ?_⟩
    rename_i xa i
    obtain ⟨ha, h0, h1⟩ := hS
    obtain ⟨a, la, rfl⟩ := isU_out ha
    obtain ⟨m, rfl⟩ := Int.eq_ofNat_of_zero_le h0
    have hm : m < 256 := by omega
    simp only [uv_u4, mod_eq_of_lt la, toNat_natCast]
    clear ha
    simp only [qz26, reduceAdd]
    repeat' (first | (with_reducible first | apply seqC_normal | apply seqC_ret) | ((with_reducible apply wC_seq e58_0; apply wC_region e58_1); refine vOps_open (l := _ :: _) rfl ?_; refine kOps_box (row := ?_) (n := ?_) rfl rfl rfl rfl rfl ?_ ?_ ?_ ?_; rotate_left 2; (simp only [↓length_append, ↓length_set, ↓length_cons, length_nil, reduceAdd, zero_add]; rfl); (simp only [cl_get hm, bit_word, qz29, toNat_natCast, splice_one, len_cl, and_one', qz14]; rfl); (focus (first | rfl | exact one_cl _ _ | exact one_bv _ | (simp only [qz19, all_cons, all_nil, Bool.and_self, PV.one]; done) | (simp [PV.one, qz19, one_bv, Value.oneCell']; done))); refine kOps_as rfl rfl rfl rfl ?_; refine vOps_nil ?_; (with_reducible apply seqC_normal; apply wC_seq e58_2; apply wC_region e58_3); refine vOps_open (l := _ :: _) rfl ?_; refine kOps_mv rfl rfl rfl rfl ?_; refine kOps_bin (b := .quo) (pre := ?_) (val := ?_) rfl rfl rfl rfl rfl ?_ ?_ ?_; rotate_left 2; (intro L; simp only [cl_get hm, bit_word, qz29, toNat_natCast, splice_one, len_cl, and_one', eql_u4 ty24 ty22, neq_u4 ty24 ty22, binF_quo, Int.reduceAdd, Int.reduceSub, Int.reduceMul, Int.reduceNeg, Int.sub_zero, cast_ofNat_Int, ne_eq, Int.reduceLT, Int.reduceLE, Int.reduceEq, reduceMod, reduceLT, qz5, ty3]; (first | (rw [wrap_i64] <;> first | omega | rfl) | (rw [wrap_u8] <;> first | omega | rfl) | (rw [wrap_u16] <;> first | omega | rfl) | (rw [wrap_u32] <;> first | omega | rfl) | rfl)); (focus ((repeat' apply And.intro) <;> first | exact True.intro | omega | (with_reducible rfl) | assumption | exact ⟨_, rfl⟩ | (simp only [sda]; done) | (simp only [len_cl]; omega) | (simp [Value.cells, Value.oneCell']; done))); (first | (refine kOps_ixap (off' := ?_) rfl rfl rfl rfl rfl rfl ty24 ty22 ?_ ?_ ?_; rotate_left 1; (simp only [cl_get hm, bit_word, qz29, toNat_natCast, splice_one, len_cl, and_one', zero_add, n_add_zero, qz4, one_mul, reduceToNat, reduceMul, reduceAdd]; rfl)) | (refine kOps_ixaq (cs' := ?_) rfl rfl rfl rfl rfl ty24 ty22 ?_ ?_ ?_; rotate_left 1; (simp only [cl_get hm, bit_word, qz29, toNat_natCast, splice_one, len_cl, and_one', elemAt, isAggD, qz0, if_false, if_true, reduceIte, agg_cl, reduceToNat, qz4, n_add_zero, zero_add, reduceAdd, reduceMul, qz15, length_map]; rfl))); (focus ((repeat' apply And.intro) <;> first | exact True.intro | omega | (with_reducible rfl) | assumption | exact ⟨_, rfl⟩ | (simp only [sda]; done) | (simp only [len_cl]; omega) | (simp [Value.cells, Value.oneCell']; done))); (first | refine kOps_loadp (pre := ?_) (val := ?_) rfl rfl rfl rfl rfl ty22 ?_ ?_ ?_ | refine kOps_loadr (pre := ?_) (val := ?_) rfl rfl rfl rfl ty22 ?_ ?_ ?_); rotate_left 2; (simp only [cl_get hm, bit_word, qz29, toNat_natCast, splice_one, len_cl, and_one', partF, isAggD, qz0, if_false, if_true, reduceIte, agg_cl, reduceToNat, qz4, n_add_zero, zero_add, reduceAdd, reduceMul, qz15, length_map]; rfl); (focus ((repeat' apply And.intro) <;> first | exact True.intro | omega | (with_reducible rfl) | assumption | exact ⟨_, rfl⟩ | (simp only [sda]; done) | (simp only [len_cl]; omega) | (simp [Value.cells, Value.oneCell']; done))); refine kOps_mv rfl rfl rfl rfl ?_; refine kOps_bin (b := .rem) (pre := ?_) (val := ?_) rfl rfl rfl rfl rfl ?_ ?_ ?_; rotate_left 2; (intro L; simp only [cl_get hm, bit_word, qz29, toNat_natCast, splice_one, len_cl, and_one', eql_u4 ty24 ty22, neq_u4 ty24 ty22, binF_rem, Int.reduceAdd, Int.reduceSub, Int.reduceMul, Int.reduceNeg, Int.sub_zero, cast_ofNat_Int, ne_eq, Int.reduceLT, Int.reduceLE, Int.reduceEq, reduceMod, reduceLT, qz5, ty3]; (first | (rw [wrap_i64] <;> first | omega | rfl) | (rw [wrap_u8] <;> first | omega | rfl) | (rw [wrap_u16] <;> first | omega | rfl) | (rw [wrap_u32] <;> first | omega | rfl) | rfl)); (focus ((repeat' apply And.intro) <;> first | exact True.intro | omega | (with_reducible rfl) | assumption | exact ⟨_, rfl⟩ | (simp only [sda]; done) | (simp only [len_cl]; omega) | (simp [Value.cells, Value.oneCell']; done))); refine kOps_bin (b := .shr) (pre := ?_) (val := ?_) rfl rfl rfl rfl rfl ?_ ?_ ?_; rotate_left 2; (intro L; simp only [cl_get hm, bit_word, qz29, toNat_natCast, splice_one, len_cl, and_one', eql_u4 ty24 ty22, neq_u4 ty24 ty22, qz41, Int.reduceAdd, Int.reduceSub, Int.reduceMul, Int.reduceNeg, Int.sub_zero, cast_ofNat_Int, ne_eq, Int.reduceLT, Int.reduceLE, Int.reduceEq, reduceMod, reduceLT, qz5, ty22]; (first | (rw [wrap_i64] <;> first | omega | rfl) | (rw [wrap_u8] <;> first | omega | rfl) | (rw [wrap_u16] <;> first | omega | rfl) | (rw [wrap_u32] <;> first | omega | rfl) | rfl)); (focus ((repeat' apply And.intro) <;> first | exact True.intro | omega | (with_reducible rfl) | assumption | exact ⟨_, rfl⟩ | (simp only [sda]; done) | (simp only [len_cl]; omega) | (simp [Value.cells, Value.oneCell']; done))); refine kOps_bin (b := .and) (pre := ?_) (val := ?_) rfl rfl rfl rfl rfl ?_ ?_ ?_; rotate_left 2; (intro L; simp only [cl_get hm, bit_word, qz29, toNat_natCast, splice_one, len_cl, and_one', eql_u4 ty24 ty22, neq_u4 ty24 ty22, lit_ul1, and_ul, binF_and, Int.reduceAdd, Int.reduceSub, Int.reduceMul, Int.reduceNeg, Int.sub_zero, cast_ofNat_Int, ne_eq, Int.reduceLT, Int.reduceLE, Int.reduceEq, reduceMod, reduceLT, qz5, ty22]; (first | (rw [wrap_i64] <;> first | omega | rfl) | (rw [wrap_u8] <;> first | omega | rfl) | (rw [wrap_u16] <;> first | omega | rfl) | (rw [wrap_u32] <;> first | omega | rfl) | rfl)); exact trivial; refine kOps_bin (b := .eql) (pre := ?_) (val := ?_) rfl rfl rfl rfl rfl ?_ ?_ ?_; rotate_left 2; (intro L; simp only [cl_get hm, bit_word, qz29, toNat_natCast, splice_one, len_cl, and_one', eql_u4 ty24 ty22, neq_u4 ty24 ty22, lit_ul1, qz31, Int.reduceAdd, Int.reduceSub, Int.reduceMul, Int.reduceNeg, Int.sub_zero, cast_ofNat_Int, ne_eq, Int.reduceLT, Int.reduceLE, Int.reduceEq, reduceMod, reduceLT, qz5, ty22]; (first | (rw [wrap_i64] <;> first | omega | rfl) | (rw [wrap_u8] <;> first | omega | rfl) | (rw [wrap_u16] <;> first | omega | rfl) | (rw [wrap_u32] <;> first | omega | rfl) | rfl)); (focus ((repeat' apply And.intro) <;> first | exact True.intro | omega | (with_reducible rfl) | assumption | exact ⟨_, rfl⟩ | (simp only [sda]; done) | (simp only [len_cl]; omega) | (simp [Value.cells, Value.oneCell']; done))); refine kOps_as rfl rfl rfl rfl ?_; refine vOps_nil ?_; (with_reducible apply seqC_normal; apply wC_ret e58_4)))
    refine fin_c (p := ?_) (xs := [.tmp 4]) (by simp) rfl ?_ ?_ ?_ ?_
    rotate_left 2
    · simp only [rsx, qz9, cl_get hm, bit_word, qz29, toNat_natCast, splice_one, len_cl, and_one', evalIn_tmp, evalIn_const, evalIn_func, qz7, Nat.reduceBEq, lit_ul0, lit_ul1, loadF, partF, qz3, qz6, qz16, qz12, and_self, Nat.le_refl, reduceLeDiff, isAggD, qz0, if_false, if_true, reduceIte, agg_cl, reduceToNat, qz4, n_add_zero, zero_add, reduceAdd, reduceMul, qz15, length_map, ty3, ty22, ty24]; try rfl
    · first | rfl | (simp only [closed, closedL, qz18, closedL_cl, closedL_bv, Bool.and_self, Bool.and_true]; first | done | rfl)
    · rw [bit_fin]
    · simp only [rsx, qz9, cl_get hm, bit_word, qz29, toNat_natCast, splice_one, len_cl, and_one', evalIn_tmp, evalIn_const, evalIn_func, qz7, Nat.reduceBEq, lit_ul0, lit_ul1, loadF, partF, qz3, qz6, qz16, qz12, and_self, Nat.le_refl, reduceLeDiff, isAggD, qz0, if_false, if_true, reduceIte, agg_cl, reduceToNat, qz4, n_add_zero, zero_add, reduceAdd, reduceMul, qz15, length_map, ty3, ty22, ty24]; try trivial
  · exact hS.elim
end Go.Ab
