import Derived.Test.YtmnkapmcclhiiaaQZ
import Derived.Test.YtmnkapmcclhiiaaME
import Derived.Test.YtmnkapmcclhiiaaTY
import Derived.Test.YtmnkapmcclhiiaaZ0
import Derived.Test.YtmnkapmcclhiiaaZ1
import Derived.Test.YtmnkapmcclhiiaaMV
import Derived.Test.YtmnkapmcclhiiaaMY
import Derived.Test.YtmnkapmcclhiiaaMX
namespace Go.Ab
open Go Go.Proofs
open Nat (reduceAdd mod_eq_of_lt zero_add reduceMul reduceLeDiff reduceMod reduceLT zero_mod reduceSub reduceEqDiff reduceDiv one_mul)
open List (length_cons length_nil all_nil all_cons length_map length_set length_append)
open Int (toNat_natCast reduceToNat cast_ofNat_Int)
set_option linter.unusedVariables false
set_option linter.unusedSimpArgs false
set_option maxRecDepth 8000
set_option maxHeartbeats 4000000
noncomputable def B45 : Code := bodyOf Try.f45
theorem B45_eq : Try.f45.body = some B45 := by kernel_rfl
noncomputable def n45_0 := B45
noncomputable def n45_1 := codeAt B45 [0]
noncomputable def n45_2 := codeAt B45 [1]
noncomputable def n45_3 := codeAt B45 [1,0]
noncomputable def n45_4 := codeAt B45 [1,1]
noncomputable def n45_5 := codeAt B45 [1,1,0]
noncomputable def n45_6 := codeAt B45 [1,1,0,0]
noncomputable def n45_7 := codeAt B45 [1,1,0,1]
noncomputable def n45_8 := codeAt B45 [1,1,0,1,0]
noncomputable def n45_9 := codeAt B45 [1,1,0,1,0,0]
noncomputable def n45_10 := codeAt B45 [1,1,0,1,0,1]
noncomputable def n45_11 := codeAt B45 [1,1,0,1,1]
noncomputable def n45_12 := codeAt B45 [1,1,1]
noncomputable def n45_13 := codeAt B45 [1,1,1,0]
noncomputable def n45_14 := codeAt B45 [1,1,1,1]
theorem e45_0 : n45_0 = .seq n45_1 n45_2 := rfl
noncomputable def r45_1 := opsAt n45_1
theorem e45_1 : n45_1 = .region 0 (r45_1).toArray false := rfl
theorem e45_2 : n45_2 = .seq n45_3 n45_4 := rfl
noncomputable def r45_3 := opsAt n45_3
theorem e45_3 : n45_3 = .region 1 (r45_3).toArray true := rfl
theorem a45_3 : anyOk r45_3 = true := by decide +kernel
theorem e45_4 : n45_4 = .seq n45_5 n45_12 := rfl
theorem e45_5 : n45_5 = .seq n45_6 n45_7 := rfl
noncomputable def r45_6 := opsAt n45_6
theorem e45_6 : n45_6 = .region 2 (r45_6).toArray false := rfl
theorem e45_7 : n45_7 = .cond (.tmp 11) n45_8 n45_11 := rfl
theorem e45_8 : n45_8 = .seq n45_9 n45_10 := rfl
noncomputable def r45_9 := opsAt n45_9
theorem e45_9 : n45_9 = .region 3 (r45_9).toArray false := rfl
theorem e45_10 : n45_10 = .ret := rfl
theorem e45_11 : n45_11 = .skip := rfl
theorem e45_12 : n45_12 = .seq n45_13 n45_14 := rfl
noncomputable def r45_13 := opsAt n45_13
theorem e45_13 : n45_13 = .region 4 (r45_13).toArray false := rfl
theorem e45_14 : n45_14 = .ret := rfl
theorem f_group_belowModulus : PureOk Try.prog 45 sGBel := by
  refine pureOk_of (c := n45_0) (Γ := conOf [(10, .pure sGMod), (49, .pure sSub)]) (conOf_ok (conOf_one (S := .pure sGMod) f_group_Modulus (conOf_one (S := .pure sSub) f_wide_Sub (conOf_end)))) mixed Try.func45 B45_eq (by decide +kernel) Try.call45 ?_
  intro args hS
  unfold sGBel at hS ⊢
  split at hS
  · refine ⟨by rw [Try.ntmps45]; simp, vC_sound ?_⟩
    rename_i xa
    have ha := hS
    obtain ⟨a, la, rfl⟩ := isU_out ha
    simp only [uv_u4, mod_eq_of_lt la]
    clear ha
    simp only [qz26, reduceAdd]
    repeat' (first | (with_reducible first | apply seqC_normal | apply seqC_ret) | ((with_reducible apply wC_seq e45_0; apply wC_region e45_1); refine vOps_open (l := _ :: _) rfl ?_) | ((with_reducible apply wC_seq e45_2; apply wC_any e45_3 a45_3); refine vOps_open (l := _ :: _) rfl ?_) | ((with_reducible apply wC_seq e45_4; apply wC_seq e45_5; apply wC_region e45_6); refine vOps_open (l := _ :: _) rfl ?_) | ((with_reducible apply kC_cond e45_7); (exact rfl); all_goals (intro hb; first | (cases hb; done) | cases hb | ((try simp only [dxe] at hb); try (exfalso; first | omega | exact hb trivial)))) | ((with_reducible apply wC_seq e45_8; apply wC_region e45_9); refine vOps_open (l := _ :: _) rfl ?_) | ((with_reducible apply wC_ret e45_10)) | ((with_reducible apply wC_skip e45_11)) | ((with_reducible apply wC_seq e45_12; apply wC_region e45_13); refine vOps_open (l := _ :: _) rfl ?_) | ((with_reducible apply wC_ret e45_14)) | ((with_reducible apply vOps_nil); try (with_reducible refine And.intro (by kernel_rfl) ?_)) | (refine kOps_box (row := ?_) (n := ?_) rfl rfl rfl rfl rfl ?_ ?_ ?_ ?_; rotate_left 2; (simp only [↓length_append, ↓length_set, ↓length_cons, length_nil, reduceAdd, zero_add]; rfl); (simp only [qz1, splice_cl, splice_one, len_cl, qz2, zero_add, mod_eq_of_lt la, qz14]; rfl); (focus (first | rfl | exact one_cl _ _ | exact one_bv _ | (simp only [qz19, all_cons, all_nil, Bool.and_self, PV.one]; done) | (simp [PV.one, qz19, one_bv, Value.oneCell']; done)))) | (refine kOps_alloc (row := ?_) (n := ?_) rfl rfl rfl rfl ty24 ?_ ?_ ?_ ?_; rotate_left 2; (simp only [↓length_append, ↓length_set, ↓length_cons, length_nil, reduceAdd, zero_add]; rfl); (simp only [qz1, splice_cl, splice_one, len_cl, qz2, zero_add, mod_eq_of_lt la, Value.cells, qz9, List.toList_toArray, zero_cl4, zero_cl8, lit_ul0]; rfl); (focus (first | (simp only [Value.cells, List.toList_toArray, qz23, Value.oneCell', and_self]; done) | (simp [Value.cells, Value.oneCell']; done)))) | ((first | refine kOps_loadp (pre := ?_) (val := ?_) rfl rfl rfl rfl rfl ty24 ?_ ?_ ?_ | refine kOps_loadr (pre := ?_) (val := ?_) rfl rfl rfl rfl ty24 ?_ ?_ ?_); rotate_left 2; (simp only [qz1, splice_cl, splice_one, len_cl, qz2, zero_add, mod_eq_of_lt la, partF, isAggD, qz0, if_false, if_true, reduceIte, agg_cl, toNat_natCast, reduceToNat, qz4, n_add_zero, reduceAdd, reduceMul, qz15, length_map]; rfl); (focus ((repeat' apply And.intro) <;> first | exact True.intro | omega | (with_reducible rfl) | assumption | exact ⟨_, rfl⟩ | (simp only [sda]; done) | (simp only [len_cl]; omega) | (simp [Value.cells, Value.oneCell']; done)))) | (refine kOps_callc (pre := ?_) (val := ?_) rfl rfl rfl rfl rfl ?_ ?_ ?_ ?_ ?_; rotate_left 2; (simp only [qz1, splice_cl, splice_one, len_cl, qz2, zero_add, mod_eq_of_lt la, sGMod, sSub, nrmC, qz9, qz8, qz25, ulv_ul, uv_u4, qz12, and_self, n_add_zero, zero_mod, n_sub_zero]; rfl); (focus (first | rfl | (simp only [closed, closedL, qz18, closedL_bv, closedL_cl, Bool.and_self, Bool.and_true]; done))); (focus (first | rfl | (simp only [closed, closedL, qz18, closedL_bv, closedL_cl, Bool.and_self, Bool.and_true]; done))); (focus ((repeat' apply And.intro) <;> first | exact True.intro | omega | (with_reducible rfl) | assumption | exact ⟨_, rfl⟩ | (simp only [sda]; done) | (simp only [len_cl]; omega) | (simp [Value.cells, Value.oneCell']; done)))) | (refine kOps_callc (pre := ?_) (val := ?_) rfl rfl rfl rfl rfl ?_ ?_ ?_ ?_ ?_; rotate_left 2; (simp only [qz1, splice_cl, splice_one, len_cl, qz2, zero_add, mod_eq_of_lt la, sGMod, sSub, lit_ul0, lit_ul1, nrmC, qz9, qz8, qz25, ulv_ul, uv_u4, qz12, and_self, n_add_zero, zero_mod, n_sub_zero]; rfl); (focus (first | rfl | (simp only [closed, closedL, qz18, closedL_bv, closedL_cl, Bool.and_self, Bool.and_true]; done))); (focus (first | rfl | (simp only [closed, closedL, qz18, closedL_bv, closedL_cl, Bool.and_self, Bool.and_true]; done))); (focus ((repeat' apply And.intro) <;> first | exact True.intro | omega | (with_reducible rfl) | assumption | exact ⟨_, rfl⟩ | (simp only [sda]; done) | (simp only [len_cl]; omega) | (simp [Value.cells, Value.oneCell']; done)))) | (refine kOps_mv rfl rfl rfl rfl ?_) | (refine kOps_ext rfl rfl rfl rfl rfl ?_) | (refine kOps_store (cs' := ?_) rfl rfl rfl rfl rfl rfl rfl ty24 ?_ ?_ ?_; rotate_left 1; (simp only [qz1, splice_cl, splice_one, len_cl, qz2, zero_add, mod_eq_of_lt la, lit_ul0, lit_ul1, qz14, isAggD, qz0, if_false, if_true, reduceIte, agg_cl, toNat_natCast, reduceToNat, qz4, n_add_zero, reduceAdd, reduceMul, qz15, length_map]; rfl); (focus (first | (simp only [lit_ul0, lit_ul1, qz14, length_cons, length_nil, len_cl, length_set, length_map, reduceAdd, zero_add, all_cons, all_nil, qz19, one_bv, PV.one, Value.oneCell', Bool.and_self, reduceLeDiff, Nat.le_refl, and_self, qz12]; done) | ((try simp only [lit_ul0, lit_ul1, qz14]); (focus ((repeat' apply And.intro) <;> first | exact True.intro | omega | (with_reducible rfl) | assumption | exact ⟨_, rfl⟩ | (simp only [sda]; done) | (simp only [len_cl]; omega) | (simp [Value.cells, Value.oneCell']; done))))))) | (refine kOps_as rfl rfl rfl rfl ?_))
    all_goals (
    refine fin_c (p := ?_) (xs := [.cell 2 24]) (by simp) rfl ?_ ?_ ?_ ?_
    rotate_left 2
    · simp only [rsx, qz9, qz1, splice_cl, splice_one, len_cl, qz2, zero_add, mod_eq_of_lt la, evalIn_tmp, evalIn_const, evalIn_func, qz7, Nat.reduceBEq, lit_ul0, lit_ul1, loadF, partF, qz3, qz6, qz16, qz12, and_self, Nat.le_refl, reduceLeDiff, isAggD, qz0, if_false, if_true, reduceIte, agg_cl, toNat_natCast, reduceToNat, qz4, n_add_zero, reduceAdd, reduceMul, qz15, length_map, ty22, ty24]; try rfl
    · first | rfl | (simp only [closed, closedL, qz18, closedL_cl, closedL_bv, Bool.and_self, Bool.and_true]; first | done | rfl)
    · first
      | exact u4_congr (congrArg (· % _) (below_lt (by assumption)))
      | exact u4_congr (by rw [← below_ge la (by omega)]; have := pPv; omega)
    · simp only [rsx, qz9, qz1, splice_cl, splice_one, len_cl, qz2, zero_add, mod_eq_of_lt la, evalIn_tmp, evalIn_const, evalIn_func, qz7, Nat.reduceBEq, lit_ul0, lit_ul1, loadF, partF, qz3, qz6, qz16, qz12, and_self, Nat.le_refl, reduceLeDiff, isAggD, qz0, if_false, if_true, reduceIte, agg_cl, toNat_natCast, reduceToNat, qz4, n_add_zero, reduceAdd, reduceMul, qz15, length_map, ty22, ty24]; try trivial)
  · exact hS.elim
noncomputable def B16 : Code := bodyOf Try.f16
theorem B16_eq : Try.f16.body = some B16 := by kernel_rfl
noncomputable def n16_0 := B16
noncomputable def n16_1 := codeAt B16 [0]
noncomputable def n16_2 := codeAt B16 [1]
noncomputable def n16_3 := codeAt B16 [1,0]
noncomputable def n16_4 := codeAt B16 [1,1]
noncomputable def n16_5 := codeAt B16 [1,1,0]
noncomputable def n16_6 := codeAt B16 [1,1,0,0]
noncomputable def n16_7 := codeAt B16 [1,1,0,0,0]
noncomputable def n16_8 := codeAt B16 [1,1,0,0,0,0]
noncomputable def n16_9 := codeAt B16 [1,1,0,0,0,0,0]
noncomputable def n16_10 := codeAt B16 [1,1,0,0,0,0,1]
noncomputable def n16_11 := codeAt B16 [1,1,0,0,0,0,1,0]
noncomputable def n16_12 := codeAt B16 [1,1,0,0,0,0,1,1]
noncomputable def n16_13 := codeAt B16 [1,1,0,0,0,1]
noncomputable def n16_14 := codeAt B16 [1,1,0,0,0,1,0]
noncomputable def n16_15 := codeAt B16 [1,1,1]
noncomputable def n16_16 := codeAt B16 [1,1,1,0]
noncomputable def n16_17 := codeAt B16 [1,1,1,1]
theorem e16_0 : n16_0 = .seq n16_1 n16_2 := rfl
noncomputable def r16_1 := opsAt n16_1
theorem e16_1 : n16_1 = .region 0 (r16_1).toArray false := rfl
theorem e16_2 : n16_2 = .seq n16_3 n16_4 := rfl
noncomputable def r16_3 := opsAt n16_3
theorem e16_3 : n16_3 = .region 1 (r16_3).toArray false := rfl
theorem e16_4 : n16_4 = .seq n16_5 n16_15 := rfl
theorem e16_5 : n16_5 = .block 0 n16_6 := rfl
theorem e16_6 : n16_6 = .loop n16_7 := rfl
theorem e16_7 : n16_7 = .seq n16_8 n16_13 := rfl
theorem e16_8 : n16_8 = .seq n16_9 n16_10 := rfl
noncomputable def r16_9 := opsAt n16_9
theorem e16_9 : n16_9 = .region 2 (r16_9).toArray false := rfl
theorem e16_10 : n16_10 = .cond (.tmp 15) n16_11 n16_12 := rfl
theorem e16_11 : n16_11 = .skip := rfl
theorem e16_12 : n16_12 = .exit 0 := rfl
theorem e16_13 : n16_13 = .block 1 n16_14 := rfl
noncomputable def r16_14 := opsAt n16_14
theorem e16_14 : n16_14 = .region 3 (r16_14).toArray false := rfl
theorem e16_15 : n16_15 = .seq n16_16 n16_17 := rfl
noncomputable def r16_16 := opsAt n16_16
theorem e16_16 : n16_16 = .region 4 (r16_16).toArray false := rfl
theorem e16_17 : n16_17 = .ret := rfl
theorem f_group_Mul : PureOk Try.prog 16 sGMul := by
  refine pureOk_of (c := n16_0) (Γ := conOf [(43, .pure sMul), (44, .pure sGFold), (45, .pure sGBel)]) (conOf_ok (conOf_one (S := .pure sMul) f_wide_Mul (conOf_one (S := .pure sGFold) f_group_fold (conOf_one (S := .pure sGBel) f_group_belowModulus (conOf_end))))) mixed Try.func16 B16_eq (by decide +kernel) Try.call16 ?_
  intro args hS
  unfold sGMul at hS ⊢
  split at hS
  · refine ⟨by rw [Try.ntmps16]; simp, vC_sound ?_⟩
    rename_i xa xb
    obtain ⟨ha, hb⟩ := hS
    obtain ⟨a, la, rfl⟩ := isU_out ha
    obtain ⟨b, lb, rfl⟩ := isU_out hb
    simp only [uv_u4, mod_eq_of_lt la, mod_eq_of_lt lb]
    clear ha hb
    simp only [qz26, reduceAdd]
    have lh := mul_hi la lb
    repeat' (first | (with_reducible first | apply seqC_normal | apply blockC_normal | apply seqC_exit | apply blockC_hit | apply seqC_ret | apply blockC_ret | apply loopC_ret | apply loopC_exit) | ((with_reducible apply blockC_miss); (exact rfl)) | ((with_reducible apply wC_seq e16_0; apply wC_region e16_1); refine vOps_open (l := _ :: _) rfl ?_) | ((with_reducible apply wC_seq e16_2; apply wC_region e16_3); refine vOps_open (l := _ :: _) rfl ?_) | ((with_reducible apply wC_seq e16_4; apply wC_block e16_5)) | ((with_reducible apply wC_seq e16_15; apply wC_region e16_16); refine vOps_open (l := _ :: _) rfl ?_) | ((with_reducible apply wC_ret e16_17)) | ((with_reducible apply vOps_nil); try (with_reducible refine And.intro (by kernel_rfl) ?_)) | (refine kOps_box (row := ?_) (n := ?_) rfl rfl rfl rfl rfl ?_ ?_ ?_ ?_; rotate_left 2; (simp only [↓length_append, ↓length_set, ↓length_cons, length_nil, reduceAdd, zero_add]; rfl); (simp only [qz1, splice_cl, splice_one, len_cl, reduceMod, reduceAdd, reduceSub, reduceMul, reduceDiv, reduceLT, reduceLeDiff, reduceEqDiff, qz5, eq_self, if_false, if_true, reduceIte, zero_mod, qz11, qz2, zero_add, mod_eq_of_lt la, mod_eq_of_lt lb, mod_eq_of_lt lh, qz14]; rfl); (focus (first | rfl | exact one_cl _ _ | exact one_bv _ | (simp only [qz19, all_cons, all_nil, Bool.and_self, PV.one]; done) | (simp [PV.one, qz19, one_bv, Value.oneCell']; done)))) | (refine kOps_alloc (row := ?_) (n := ?_) rfl rfl rfl rfl ty24 ?_ ?_ ?_ ?_; rotate_left 2; (simp only [↓length_append, ↓length_set, ↓length_cons, length_nil, reduceAdd, zero_add]; rfl); (simp only [qz1, splice_cl, splice_one, len_cl, reduceMod, reduceAdd, reduceSub, reduceMul, reduceDiv, reduceLT, reduceLeDiff, reduceEqDiff, qz5, eq_self, if_false, if_true, reduceIte, zero_mod, qz11, qz2, zero_add, mod_eq_of_lt la, mod_eq_of_lt lb, mod_eq_of_lt lh, Value.cells, qz9, List.toList_toArray, zero_cl4, zero_cl8, lit_ul0]; rfl); (focus (first | (simp only [Value.cells, List.toList_toArray, qz23, Value.oneCell', and_self]; done) | (simp [Value.cells, Value.oneCell']; done)))) | ((first | refine kOps_loadp (pre := ?_) (val := ?_) rfl rfl rfl rfl rfl ty24 ?_ ?_ ?_ | refine kOps_loadr (pre := ?_) (val := ?_) rfl rfl rfl rfl ty24 ?_ ?_ ?_); rotate_left 2; (simp only [qz1, splice_cl, splice_one, len_cl, reduceMod, reduceAdd, reduceSub, reduceMul, reduceDiv, reduceLT, reduceLeDiff, reduceEqDiff, qz5, eq_self, if_false, if_true, reduceIte, zero_mod, qz11, qz2, zero_add, mod_eq_of_lt la, mod_eq_of_lt lb, mod_eq_of_lt lh, partF, isAggD, qz0, agg_cl, toNat_natCast, reduceToNat, qz4, n_add_zero, qz15, length_map]; rfl); (focus ((repeat' apply And.intro) <;> first | exact True.intro | omega | (with_reducible rfl) | assumption | exact ⟨_, rfl⟩ | (simp only [sda]; done) | (simp only [len_cl]; omega) | (simp [Value.cells, Value.oneCell']; done)))) | (refine kOps_callc (pre := ?_) (val := ?_) rfl rfl rfl rfl rfl ?_ ?_ ?_ ?_ ?_; rotate_left 2; (simp only [qz1, splice_cl, splice_one, len_cl, reduceMod, reduceAdd, reduceSub, reduceMul, reduceDiv, reduceLT, reduceLeDiff, reduceEqDiff, qz5, eq_self, if_false, if_true, reduceIte, zero_mod, qz11, qz2, zero_add, mod_eq_of_lt la, mod_eq_of_lt lb, mod_eq_of_lt lh, sMul, sGFold, sGBel, lit_ul0, lit_ul1, nrmC, qz9, qz8, qz25, ulv_ul, uv_u4, qz12, and_self, n_add_zero, n_sub_zero]; rfl); (focus (first | rfl | (simp only [closed, closedL, qz18, closedL_bv, closedL_cl, Bool.and_self, Bool.and_true]; done))); (focus (first | rfl | (simp only [closed, closedL, qz18, closedL_bv, closedL_cl, Bool.and_self, Bool.and_true]; done))); (focus ((repeat' apply And.intro) <;> first | exact True.intro | omega | (with_reducible rfl) | assumption | exact ⟨_, rfl⟩ | (simp only [sda]; done) | (simp only [len_cl]; omega) | (simp [Value.cells, Value.oneCell']; done)))) | (refine kOps_mv rfl rfl rfl rfl ?_) | (refine kOps_ext rfl rfl rfl rfl rfl ?_) | (refine kOps_store (cs' := ?_) rfl rfl rfl rfl rfl rfl rfl ty24 ?_ ?_ ?_; rotate_left 1; (simp only [qz1, splice_cl, splice_one, len_cl, reduceMod, reduceAdd, reduceSub, reduceMul, reduceDiv, reduceLT, reduceLeDiff, reduceEqDiff, qz5, eq_self, if_false, if_true, reduceIte, zero_mod, qz11, qz2, zero_add, mod_eq_of_lt la, mod_eq_of_lt lb, mod_eq_of_lt lh, lit_ul0, lit_ul1, qz14, isAggD, qz0, agg_cl, toNat_natCast, reduceToNat, qz4, n_add_zero, qz15, length_map]; rfl); (focus (first | (simp only [lit_ul0, lit_ul1, qz14, length_cons, length_nil, len_cl, length_set, length_map, reduceAdd, zero_add, all_cons, all_nil, qz19, one_bv, PV.one, Value.oneCell', Bool.and_self, reduceLeDiff, Nat.le_refl, and_self, qz12]; done) | ((try simp only [lit_ul0, lit_ul1, qz14]); (focus ((repeat' apply And.intro) <;> first | exact True.intro | omega | (with_reducible rfl) | assumption | exact ⟨_, rfl⟩ | (simp only [sda]; done) | (simp only [len_cl]; omega) | (simp [Value.cells, Value.oneCell']; done))))))))
    refine wC_loopI (ι := {x : Nat × Nat // x.1 < 115792089237316195423570985008687907853269984665640564039457584007913129639936 ∧ x.2 < 115792089237316195423570985008687907853269984665640564039457584007913129639936 ∧ (x.1 * 115792089237316195423570985008687907853269984665640564039457584007913129639936 + x.2) % pP = a * b % pP}) e16_6 (fun x => ([(4, .ptr 2 0), (5, .ptr 3 0), (6, .ptr 4 0)], [.cells (cl 4 a), .cells (cl 4 b), .cells (cl 4 0), .cells (cl 4 x.1.1), .cells (cl 4 x.1.2)])) (fun x => x.1.1 * 115792089237316195423570985008687907853269984665640564039457584007913129639936 + x.1.2) ⟨(a * b / 115792089237316195423570985008687907853269984665640564039457584007913129639936, a * b % 115792089237316195423570985008687907853269984665640564039457584007913129639936), lh, Nat.mod_lt _ (by decide), fold_start⟩ [0, 1, 2, 3, 4] ?_ ?_
    · show Weak _ _ _ _ _ _
      refine weak_mk (fun i h => absurd h (Nat.not_lt_zero i)) (by decide) (by simp) ?_ ?_
      · simp only [RenRows, qz16, qz6, qz3, qz28, closedL_bv, closedL_cl, qz12]
        all_goals (exact cl4_congr (Nat.mod_mod _ _).symm)
      · simp only [RenEnv, qz7, Nat.reduceBEq]
        (repeat' apply And.intro) <;> first | trivial | exact ren_keep rfl | exact ren_keep (closed_u4 _) | (refine ren_int ?_; omega) | (refine ren_own rfl ?_; first | rfl | omega | (simp; done) | (omega; done)) | (refine ren_int ?_; omega; done) | (refine ren_int ?_; simp; done) | (refine ren_keep ?_; simp only [closed, closedL_bv, closedL_rows, closedL_cl]; done) | (refine ren_ptr rfl; done)
    · rintro ⟨⟨h, l⟩, lh, ll, inv⟩
      dsimp only at lh ll inv ⊢
      by_cases h0 : h = 0
      · subst h0
        repeat' (first | (with_reducible first | apply seqC_normal | apply blockC_normal | apply seqC_exit | apply blockC_hit | apply seqC_ret | apply blockC_ret | apply loopC_ret | apply loopC_exit) | ((with_reducible apply blockC_miss); (exact rfl)) | ((with_reducible apply wC_seq e16_7; apply wC_seq e16_8; apply wC_region e16_9); refine vOps_open (l := _ :: _) rfl ?_; (first | refine kOps_loadp (pre := ?_) (val := ?_) rfl rfl rfl rfl rfl ty24 ?_ ?_ ?_ | refine kOps_loadr (pre := ?_) (val := ?_) rfl rfl rfl rfl ty24 ?_ ?_ ?_); rotate_left 2; (simp only [qz1, splice_cl, splice_one, len_cl, reduceMod, reduceAdd, reduceSub, reduceMul, reduceDiv, reduceLT, reduceLeDiff, reduceEqDiff, qz5, eq_self, if_false, if_true, reduceIte, zero_mod, qz11, qz2, zero_add, mod_eq_of_lt ll, partF, isAggD, qz0, agg_cl, toNat_natCast, reduceToNat, qz4, n_add_zero, qz15, length_map]; rfl); (focus ((repeat' apply And.intro) <;> first | exact True.intro | omega | (with_reducible rfl) | assumption | exact ⟨_, rfl⟩ | (simp only [sda]; done) | (simp only [len_cl]; omega) | (simp [Value.cells, Value.oneCell']; done))); refine kOps_build (pre := ?_) (val := ?_) rfl rfl rfl rfl ?_ ?_ ?_; rotate_left 2; (intro L; simp only [qz1, splice_cl, splice_one, len_cl, reduceMod, reduceAdd, reduceSub, reduceMul, reduceDiv, reduceLT, reduceLeDiff, reduceEqDiff, qz5, eq_self, if_false, if_true, reduceIte, zero_mod, qz11, qz2, zero_add, mod_eq_of_lt ll, buildF, fillB, zeroCells, Value.cells, qz9, List.toList_toArray, zero_cl4, lit_ul0, qz14, cast_ofNat_Int, qz22, qz10, Int.reduceSub, qz3, qz0, length_cons, length_nil, qz6, n_add_zero, qz4, one_mul, toNat_natCast, reduceToNat, isAggD, agg_cl, qz15, length_map, qz16, qz12, and_self, ty24, ty22]; rfl); (focus ((repeat' apply And.intro) <;> first | exact True.intro | omega | (with_reducible rfl) | assumption | exact ⟨_, rfl⟩ | (simp only [sda]; done) | (simp only [len_cl]; omega) | (simp [Value.cells, Value.oneCell']; done))); refine kOps_bin (b := .neq) (pre := ?_) (val := ?_) rfl rfl rfl rfl rfl ?_ ?_ ?_; rotate_left 2; (intro L; simp only [qz1, splice_cl, splice_one, len_cl, reduceMod, reduceAdd, reduceSub, reduceMul, reduceDiv, reduceLT, reduceLeDiff, reduceEqDiff, qz5, eq_self, if_false, if_true, reduceIte, zero_mod, qz11, qz2, zero_add, mod_eq_of_lt ll, eql_u4 ty24 ty22, neq_u4 ty24 ty22, qz37, Int.reduceAdd, Int.reduceSub, Int.reduceMul, Int.reduceNeg, Int.sub_zero, cast_ofNat_Int, ne_eq, Int.reduceLT, Int.reduceLE, Int.reduceEq, ty24, ty22]; (first | (rw [wrap_i64] <;> first | omega | rfl) | (rw [wrap_u8] <;> first | omega | rfl) | (rw [wrap_u16] <;> first | omega | rfl) | (rw [wrap_u32] <;> first | omega | rfl) | rfl)); (focus ((repeat' apply And.intro) <;> first | exact True.intro | omega | (with_reducible rfl) | assumption | exact ⟨_, rfl⟩ | (simp only [sda]; done) | (simp only [len_cl]; omega) | (simp [Value.cells, Value.oneCell']; done))); refine vOps_nil ?_; (with_reducible apply seqC_normal; apply kC_cond e16_10); (exact rfl); all_goals (intro hb; first | (cases hb; done) | cases hb | ((try simp only [dxe] at hb); try (exfalso; first | omega | exact hb trivial)))) | ((with_reducible apply wC_skip e16_11)) | ((with_reducible apply wC_exit e16_12)) | ((with_reducible apply wC_seq e16_15; apply wC_region e16_16); refine vOps_open (l := _ :: _) rfl ?_; (first | refine kOps_loadp (pre := ?_) (val := ?_) rfl rfl rfl rfl rfl ty24 ?_ ?_ ?_ | refine kOps_loadr (pre := ?_) (val := ?_) rfl rfl rfl rfl ty24 ?_ ?_ ?_); rotate_left 2; (simp only [qz1, splice_cl, splice_one, len_cl, reduceMod, reduceAdd, reduceSub, reduceMul, reduceDiv, reduceLT, reduceLeDiff, reduceEqDiff, qz5, eq_self, if_false, if_true, reduceIte, zero_mod, qz11, qz2, zero_add, mod_eq_of_lt ll, partF, isAggD, qz0, agg_cl, toNat_natCast, reduceToNat, qz4, n_add_zero, qz15, length_map]; rfl); (focus ((repeat' apply And.intro) <;> first | exact True.intro | omega | (with_reducible rfl) | assumption | exact ⟨_, rfl⟩ | (simp only [sda]; done) | (simp only [len_cl]; omega) | (simp [Value.cells, Value.oneCell']; done))); refine kOps_callc (pre := ?_) (val := ?_) rfl rfl rfl rfl rfl ?_ ?_ ?_ ?_ ?_; rotate_left 2; (simp only [qz1, splice_cl, splice_one, len_cl, reduceMod, reduceAdd, reduceSub, reduceMul, reduceDiv, reduceLT, reduceLeDiff, reduceEqDiff, qz5, eq_self, if_false, if_true, reduceIte, zero_mod, qz11, qz2, zero_add, mod_eq_of_lt ll, sMul, sGFold, sGBel, nrmC, qz9, qz8, qz25, ulv_ul, uv_u4, qz12, and_self, n_add_zero, n_sub_zero]; rfl); (focus (first | rfl | (simp only [closed, closedL, qz18, closedL_bv, closedL_cl, Bool.and_self, Bool.and_true]; done))); (focus (first | rfl | (simp only [closed, closedL, qz18, closedL_bv, closedL_cl, Bool.and_self, Bool.and_true]; done))); (focus ((repeat' apply And.intro) <;> first | exact True.intro | omega | (with_reducible rfl) | assumption | exact ⟨_, rfl⟩ | (simp only [sda]; done) | (simp only [len_cl]; omega) | (simp [Value.cells, Value.oneCell']; done))); refine kOps_store (cs' := ?_) rfl rfl rfl rfl rfl rfl rfl ty24 ?_ ?_ ?_; rotate_left 1; (simp only [qz1, splice_cl, splice_one, len_cl, reduceMod, reduceAdd, reduceSub, reduceMul, reduceDiv, reduceLT, reduceLeDiff, reduceEqDiff, qz5, eq_self, if_false, if_true, reduceIte, zero_mod, qz11, qz2, zero_add, mod_eq_of_lt ll, qz14, isAggD, qz0, agg_cl, toNat_natCast, reduceToNat, qz4, n_add_zero, qz15, length_map]; rfl); (focus (first | (simp only [qz14, length_cons, length_nil, len_cl, length_set, length_map, reduceAdd, zero_add, all_cons, all_nil, qz19, one_bv, PV.one, Value.oneCell', Bool.and_self, reduceLeDiff, Nat.le_refl, and_self, qz12]; done) | ((try simp only [qz14]); (focus ((repeat' apply And.intro) <;> first | exact True.intro | omega | (with_reducible rfl) | assumption | exact ⟨_, rfl⟩ | (simp only [sda]; done) | (simp only [len_cl]; omega) | (simp [Value.cells, Value.oneCell']; done)))))); refine vOps_nil ?_; (with_reducible apply seqC_normal; apply wC_ret e16_17)))
        refine fin_c (p := ?_) (xs := [.cell 4 24]) (by simp) rfl ?_ ?_ ?_ ?_
        rotate_left 2
        · simp only [rsx, qz9, qz1, splice_cl, splice_one, len_cl, reduceMod, reduceAdd, reduceSub, reduceMul, reduceDiv, reduceLT, reduceLeDiff, reduceEqDiff, qz5, eq_self, if_false, if_true, reduceIte, zero_mod, qz11, qz2, zero_add, mod_eq_of_lt ll, evalIn_tmp, evalIn_const, evalIn_func, qz7, Nat.reduceBEq, lit_ul0, lit_ul1, loadF, partF, qz3, qz6, qz16, qz12, and_self, Nat.le_refl, isAggD, qz0, agg_cl, toNat_natCast, reduceToNat, qz4, n_add_zero, qz15, length_map, ty22, ty24]; try rfl
        · first | rfl | (simp only [closed, closedL, qz18, closedL_cl, closedL_bv, Bool.and_self, Bool.and_true]; first | done | rfl)
        · rw [fold_done inv]
        · simp only [rsx, qz9, qz1, splice_cl, splice_one, len_cl, reduceMod, reduceAdd, reduceSub, reduceMul, reduceDiv, reduceLT, reduceLeDiff, reduceEqDiff, qz5, eq_self, if_false, if_true, reduceIte, zero_mod, qz11, qz2, zero_add, mod_eq_of_lt ll, evalIn_tmp, evalIn_const, evalIn_func, qz7, Nat.reduceBEq, lit_ul0, lit_ul1, loadF, partF, qz3, qz6, qz16, qz12, and_self, Nat.le_refl, isAggD, qz0, agg_cl, toNat_natCast, reduceToNat, qz4, n_add_zero, qz15, length_map, ty22, ty24]; try trivial
      · have hz : (h = 0) = False := eq_false h0
        repeat' (first | (with_reducible first | apply seqC_normal | apply blockC_normal | apply seqC_exit | apply blockC_hit | apply seqC_ret | apply blockC_ret | apply loopC_ret | apply loopC_exit) | ((with_reducible apply blockC_miss); (exact rfl)) | ((with_reducible apply wC_seq e16_7; apply wC_seq e16_8; apply wC_region e16_9); refine vOps_open (l := _ :: _) rfl ?_) | ((with_reducible apply kC_cond e16_10); (exact rfl); all_goals (intro hb; first | (cases hb; done) | cases hb | ((try simp only [dxe] at hb); try (exfalso; first | omega | exact hb trivial)))) | ((with_reducible apply wC_skip e16_11)) | ((with_reducible apply wC_exit e16_12)) | ((with_reducible apply wC_block e16_13; apply wC_region e16_14); refine vOps_open (l := _ :: _) rfl ?_) | ((with_reducible apply wC_seq e16_15; apply wC_region e16_16); refine vOps_open (l := _ :: _) rfl ?_) | ((with_reducible apply wC_ret e16_17)) | ((with_reducible apply vOps_nil); try (with_reducible refine And.intro (by kernel_rfl) ?_)) | ((first | refine kOps_loadp (pre := ?_) (val := ?_) rfl rfl rfl rfl rfl ty24 ?_ ?_ ?_ | refine kOps_loadr (pre := ?_) (val := ?_) rfl rfl rfl rfl ty24 ?_ ?_ ?_); rotate_left 2; (simp only [qz1, splice_cl, splice_one, len_cl, reduceMod, reduceAdd, reduceSub, reduceMul, reduceDiv, reduceLT, reduceLeDiff, reduceEqDiff, qz5, eq_self, if_false, if_true, reduceIte, zero_mod, qz11, qz2, zero_add, mod_eq_of_lt lh, mod_eq_of_lt ll, hz, partF, isAggD, qz0, agg_cl, toNat_natCast, reduceToNat, qz4, n_add_zero, qz15, length_map]; rfl); (focus ((repeat' apply And.intro) <;> first | exact True.intro | omega | (with_reducible rfl) | assumption | exact ⟨_, rfl⟩ | (simp only [sda]; done) | (simp only [len_cl]; omega) | (simp [Value.cells, Value.oneCell']; done)))) | (refine kOps_build (pre := ?_) (val := ?_) rfl rfl rfl rfl ?_ ?_ ?_; rotate_left 2; (intro L; simp only [qz1, splice_cl, splice_one, len_cl, reduceMod, reduceAdd, reduceSub, reduceMul, reduceDiv, reduceLT, reduceLeDiff, reduceEqDiff, qz5, eq_self, if_false, if_true, reduceIte, zero_mod, qz11, qz2, zero_add, mod_eq_of_lt lh, mod_eq_of_lt ll, hz, buildF, fillB, zeroCells, Value.cells, qz9, List.toList_toArray, zero_cl4, lit_ul0, qz14, cast_ofNat_Int, qz22, qz10, Int.reduceSub, qz3, qz0, length_cons, length_nil, qz6, n_add_zero, qz4, one_mul, toNat_natCast, reduceToNat, isAggD, agg_cl, qz15, length_map, qz16, qz12, and_self, ty24, ty22]; rfl); (focus ((repeat' apply And.intro) <;> first | exact True.intro | omega | (with_reducible rfl) | assumption | exact ⟨_, rfl⟩ | (simp only [sda]; done) | (simp only [len_cl]; omega) | (simp [Value.cells, Value.oneCell']; done)))) | (refine kOps_bin (b := .neq) (pre := ?_) (val := ?_) rfl rfl rfl rfl rfl ?_ ?_ ?_; rotate_left 2; (intro L; simp only [qz1, splice_cl, splice_one, len_cl, reduceMod, reduceAdd, reduceSub, reduceMul, reduceDiv, reduceLT, reduceLeDiff, reduceEqDiff, qz5, eq_self, if_false, if_true, reduceIte, zero_mod, qz11, qz2, zero_add, mod_eq_of_lt lh, mod_eq_of_lt ll, hz, eql_u4 ty24 ty22, neq_u4 ty24 ty22, lit_ul0, lit_ul1, qz37, Int.reduceAdd, Int.reduceSub, Int.reduceMul, Int.reduceNeg, Int.sub_zero, cast_ofNat_Int, ne_eq, Int.reduceLT, Int.reduceLE, Int.reduceEq, ty24, ty22]; (first | (rw [wrap_i64] <;> first | omega | rfl) | (rw [wrap_u8] <;> first | omega | rfl) | (rw [wrap_u16] <;> first | omega | rfl) | (rw [wrap_u32] <;> first | omega | rfl) | rfl)); (focus ((repeat' apply And.intro) <;> first | exact True.intro | omega | (with_reducible rfl) | assumption | exact ⟨_, rfl⟩ | (simp only [sda]; done) | (simp only [len_cl]; omega) | (simp [Value.cells, Value.oneCell']; done)))) | (refine kOps_callc (pre := ?_) (val := ?_) rfl rfl rfl rfl rfl ?_ ?_ ?_ ?_ ?_; rotate_left 2; (simp only [qz1, splice_cl, splice_one, len_cl, reduceMod, reduceAdd, reduceSub, reduceMul, reduceDiv, reduceLT, reduceLeDiff, reduceEqDiff, qz5, eq_self, if_false, if_true, reduceIte, zero_mod, qz11, qz2, zero_add, mod_eq_of_lt lh, mod_eq_of_lt ll, hz, sMul, sGFold, sGBel, lit_ul0, lit_ul1, nrmC, qz9, qz8, qz25, ulv_ul, uv_u4, qz12, and_self, n_add_zero, n_sub_zero]; rfl); (focus (first | rfl | (simp only [closed, closedL, qz18, closedL_bv, closedL_cl, Bool.and_self, Bool.and_true]; done))); (focus (first | rfl | (simp only [closed, closedL, qz18, closedL_bv, closedL_cl, Bool.and_self, Bool.and_true]; done))); (focus ((repeat' apply And.intro) <;> first | exact True.intro | omega | (with_reducible rfl) | assumption | exact ⟨_, rfl⟩ | (simp only [sda]; done) | (simp only [len_cl]; omega) | (simp [Value.cells, Value.oneCell']; done)))) | (refine kOps_mv rfl rfl rfl rfl ?_) | (refine kOps_ext rfl rfl rfl rfl rfl ?_) | (refine kOps_store (cs' := ?_) rfl rfl rfl rfl rfl rfl rfl ty24 ?_ ?_ ?_; rotate_left 1; (simp only [qz1, splice_cl, splice_one, len_cl, reduceMod, reduceAdd, reduceSub, reduceMul, reduceDiv, reduceLT, reduceLeDiff, reduceEqDiff, qz5, eq_self, if_false, if_true, reduceIte, zero_mod, qz11, qz2, zero_add, mod_eq_of_lt lh, mod_eq_of_lt ll, hz, lit_ul0, lit_ul1, qz14, isAggD, qz0, agg_cl, toNat_natCast, reduceToNat, qz4, n_add_zero, qz15, length_map]; rfl); (focus (first | (simp only [lit_ul0, lit_ul1, qz14, length_cons, length_nil, len_cl, length_set, length_map, reduceAdd, zero_add, all_cons, all_nil, qz19, one_bv, PV.one, Value.oneCell', Bool.and_self, reduceLeDiff, Nat.le_refl, and_self, qz12]; done) | ((try simp only [lit_ul0, lit_ul1, qz14]); (focus ((repeat' apply And.intro) <;> first | exact True.intro | omega | (with_reducible rfl) | assumption | exact ⟨_, rfl⟩ | (simp only [sda]; done) | (simp only [len_cl]; omega) | (simp [Value.cells, Value.oneCell']; done))))))))
        refine loopC_normal ⟨((h * 36113 + l) / 115792089237316195423570985008687907853269984665640564039457584007913129639936, (h * 36113 + l) % 115792089237316195423570985008687907853269984665640564039457584007913129639936), fold_hi lh ll, Nat.mod_lt _ (by decide), (fold_mod h l).trans inv⟩ [0, 1, 2, 3, 4] (fold_le h0) ?_
        refine weak_mk (fun i h => absurd h (Nat.not_lt_zero i)) (by decide) (by simp) ?_ ?_
        · simp only [RenRows, qz16, qz6, qz3, qz28, closedL_bv, closedL_cl, qz12]
          all_goals (exact cl4_congr (Nat.mod_mod _ _).symm)
        · simp only [RenEnv, qz7, Nat.reduceBEq]
          (repeat' apply And.intro) <;> first | trivial | exact ren_keep rfl | exact ren_keep (closed_u4 _) | (refine ren_int ?_; omega) | (refine ren_own rfl ?_; first | rfl | omega | (simp; done) | (omega; done)) | (refine ren_int ?_; omega; done) | (refine ren_int ?_; simp; done) | (refine ren_keep ?_; simp only [closed, closedL_bv, closedL_rows, closedL_cl]; done) | (refine ren_ptr rfl; done)
  · exact hS.elim
noncomputable def B63 : Code := bodyOf Try.f63
theorem B63_eq : Try.f63.body = some B63 := by kernel_rfl
noncomputable def n63_0 := B63
noncomputable def n63_1 := codeAt B63 [0]
noncomputable def n63_2 := codeAt B63 [1]
noncomputable def n63_3 := codeAt B63 [1,0]
noncomputable def n63_4 := codeAt B63 [1,0,0]
noncomputable def n63_5 := codeAt B63 [1,0,1]
noncomputable def n63_6 := codeAt B63 [1,0,1,0]
noncomputable def n63_7 := codeAt B63 [1,0,1,0,0]
noncomputable def n63_8 := codeAt B63 [1,0,1,0,1]
noncomputable def n63_9 := codeAt B63 [1,0,1,1]
noncomputable def n63_10 := codeAt B63 [1,1]
noncomputable def n63_11 := codeAt B63 [1,1,0]
noncomputable def n63_12 := codeAt B63 [1,1,0,0]
noncomputable def n63_13 := codeAt B63 [1,1,0,1]
noncomputable def n63_14 := codeAt B63 [1,1,0,1,0]
noncomputable def n63_15 := codeAt B63 [1,1,0,1,0,0]
noncomputable def n63_16 := codeAt B63 [1,1,0,1,0,1]
noncomputable def n63_17 := codeAt B63 [1,1,0,1,1]
noncomputable def n63_18 := codeAt B63 [1,1,1]
noncomputable def n63_19 := codeAt B63 [1,1,1,0]
noncomputable def n63_20 := codeAt B63 [1,1,1,0,0]
noncomputable def n63_21 := codeAt B63 [1,1,1,0,1]
noncomputable def n63_22 := codeAt B63 [1,1,1,0,1,0]
noncomputable def n63_23 := codeAt B63 [1,1,1,0,1,0,0]
noncomputable def n63_24 := codeAt B63 [1,1,1,0,1,0,1]
noncomputable def n63_25 := codeAt B63 [1,1,1,0,1,1]
noncomputable def n63_26 := codeAt B63 [1,1,1,1]
noncomputable def n63_27 := codeAt B63 [1,1,1,1,0]
noncomputable def n63_28 := codeAt B63 [1,1,1,1,1]
theorem e63_0 : n63_0 = .seq n63_1 n63_2 := rfl
noncomputable def r63_1 := opsAt n63_1
theorem e63_1 : n63_1 = .region 0 (r63_1).toArray false := rfl
theorem e63_2 : n63_2 = .seq n63_3 n63_10 := rfl
theorem e63_3 : n63_3 = .seq n63_4 n63_5 := rfl
noncomputable def r63_4 := opsAt n63_4
theorem e63_4 : n63_4 = .region 1 (r63_4).toArray false := rfl
theorem e63_5 : n63_5 = .cond (.tmp 4) n63_6 n63_9 := rfl
theorem e63_6 : n63_6 = .seq n63_7 n63_8 := rfl
noncomputable def r63_7 := opsAt n63_7
theorem e63_7 : n63_7 = .region 2 (r63_7).toArray false := rfl
noncomputable def r63_8 := opsAt n63_8
theorem e63_8 : n63_8 = .region 3 (r63_8).toArray false := rfl
theorem e63_9 : n63_9 = .skip := rfl
theorem e63_10 : n63_10 = .seq n63_11 n63_18 := rfl
theorem e63_11 : n63_11 = .seq n63_12 n63_13 := rfl
noncomputable def r63_12 := opsAt n63_12
theorem e63_12 : n63_12 = .region 4 (r63_12).toArray false := rfl
theorem e63_13 : n63_13 = .cond (.tmp 8) n63_14 n63_17 := rfl
theorem e63_14 : n63_14 = .seq n63_15 n63_16 := rfl
noncomputable def r63_15 := opsAt n63_15
theorem e63_15 : n63_15 = .region 5 (r63_15).toArray false := rfl
noncomputable def r63_16 := opsAt n63_16
theorem e63_16 : n63_16 = .region 6 (r63_16).toArray false := rfl
theorem e63_17 : n63_17 = .skip := rfl
theorem e63_18 : n63_18 = .seq n63_19 n63_26 := rfl
theorem e63_19 : n63_19 = .seq n63_20 n63_21 := rfl
noncomputable def r63_20 := opsAt n63_20
theorem e63_20 : n63_20 = .region 7 (r63_20).toArray false := rfl
theorem e63_21 : n63_21 = .cond (.tmp 14) n63_22 n63_25 := rfl
theorem e63_22 : n63_22 = .seq n63_23 n63_24 := rfl
noncomputable def r63_23 := opsAt n63_23
theorem e63_23 : n63_23 = .region 8 (r63_23).toArray false := rfl
noncomputable def r63_24 := opsAt n63_24
theorem e63_24 : n63_24 = .region 9 (r63_24).toArray false := rfl
theorem e63_25 : n63_25 = .skip := rfl
theorem e63_26 : n63_26 = .seq n63_27 n63_28 := rfl
noncomputable def r63_27 := opsAt n63_27
theorem e63_27 : n63_27 = .region 10 (r63_27).toArray false := rfl
theorem e63_28 : n63_28 = .ret := rfl
theorem f_bits_Len64 : PureOk Try.prog 63 sLen64 := by
  refine pureOk_of (c := n63_0) (Γ := conOf []) (conOf_ok (conOf_end)) mixed Try.func63 B63_eq (by decide +kernel) Try.call63 ?_
  intro args hS
  unfold sLen64 at hS ⊢
  split at hS
  · refine ⟨by rw [Try.ntmps63]; simp, vC_sound ?_⟩
    rename_i xa
    have ha := hS
    obtain ⟨a, la, rfl⟩ := isul_out ha
    simp only [ulv_ul, mod_eq_of_lt la]
    clear ha
    simp only [qz26, reduceAdd]
    have d0 : a / 4294967296 % 18446744073709551616 = a / 4294967296 := mod_eq_of_lt (by omega)
    have d1 : a / 65536 % 18446744073709551616 = a / 65536 := mod_eq_of_lt (by omega)
    have d2 : a / 256 % 18446744073709551616 = a / 256 := mod_eq_of_lt (by omega)
    have d3 : a / 4294967296 / 65536 % 18446744073709551616 = a / 4294967296 / 65536 := mod_eq_of_lt (by omega)
    have d4 : a / 4294967296 / 256 % 18446744073709551616 = a / 4294967296 / 256 := mod_eq_of_lt (by omega)
    have d5 : a / 65536 / 256 % 18446744073709551616 = a / 65536 / 256 := mod_eq_of_lt (by omega)
    have d6 : a / 4294967296 / 65536 / 256 % 18446744073709551616 = a / 4294967296 / 65536 / 256 := mod_eq_of_lt (by omega)
    repeat' (first | (with_reducible first | apply seqC_normal | apply seqC_ret) | ((with_reducible apply wC_seq e63_0; apply wC_region e63_1); refine vOps_open (l := _ :: _) rfl ?_) | ((with_reducible apply wC_seq e63_2; apply wC_seq e63_3; apply wC_region e63_4); refine vOps_open (l := _ :: _) rfl ?_) | ((with_reducible apply kC_cond e63_5); (exact rfl); all_goals (intro hb; first | (cases hb; done) | cases hb | ((try simp only [dxe] at hb); try (exfalso; first | omega | exact hb trivial)))) | ((with_reducible apply wC_seq e63_6; apply wC_region e63_7); refine vOps_open (l := _ :: _) rfl ?_) | ((with_reducible apply wC_region e63_8); refine vOps_open (l := _ :: _) rfl ?_) | ((with_reducible apply wC_skip e63_9)) | ((with_reducible apply wC_seq e63_10; apply wC_seq e63_11; apply wC_region e63_12); refine vOps_open (l := _ :: _) rfl ?_) | ((with_reducible apply kC_cond e63_13); (exact rfl); all_goals (intro hb; first | (cases hb; done) | cases hb | ((try simp only [dxe] at hb); try (exfalso; first | omega | exact hb trivial)))) | ((with_reducible apply wC_seq e63_14; apply wC_region e63_15); refine vOps_open (l := _ :: _) rfl ?_) | ((with_reducible apply wC_region e63_16); refine vOps_open (l := _ :: _) rfl ?_) | ((with_reducible apply wC_skip e63_17)) | ((with_reducible apply wC_seq e63_18; apply wC_seq e63_19; apply wC_region e63_20); refine vOps_open (l := _ :: _) rfl ?_) | ((with_reducible apply kC_cond e63_21); (exact rfl); all_goals (intro hb; first | (cases hb; done) | cases hb | ((try simp only [dxe] at hb); try (exfalso; first | omega | exact hb trivial)))) | ((with_reducible apply wC_seq e63_22; apply wC_region e63_23); refine vOps_open (l := _ :: _) rfl ?_) | ((with_reducible apply wC_region e63_24); refine vOps_open (l := _ :: _) rfl ?_) | ((with_reducible apply wC_skip e63_25)) | ((with_reducible apply wC_seq e63_26; apply wC_region e63_27); refine vOps_open (l := _ :: _) rfl ?_) | ((with_reducible apply wC_ret e63_28)) | ((with_reducible apply vOps_nil); try (with_reducible refine And.intro (by kernel_rfl) ?_)) | (refine kOps_as rfl rfl rfl rfl ?_) | (refine kOps_mv rfl rfl rfl rfl ?_) | (refine kOps_bin (b := .geq) (pre := ?_) (val := ?_) rfl rfl rfl rfl rfl ?_ ?_ ?_; rotate_left 2; (intro L; simp only [Nat.reducePow, reduceMod, reduceDiv, mod_eq_of_lt la, d0, d1, d2, d3, d4, d5, d6, UInt8.toNat_ofNat', lit_ul0, lit_ul1, qz39, lc_32, qz33, Int.reduceAdd, Int.reduceSub, Int.reduceMul, Int.reduceNeg, Int.sub_zero, cast_ofNat_Int, ne_eq, Int.reduceLT, Int.reduceLE, Int.reduceEq, reduceLT, qz5, ty22]; (first | (rw [wrap_i64] <;> first | omega | rfl) | (rw [wrap_u8] <;> first | omega | rfl) | (rw [wrap_u16] <;> first | omega | rfl) | (rw [wrap_u32] <;> first | omega | rfl) | rfl)); exact trivial) | (refine kOps_bin (b := .shr) (pre := ?_) (val := ?_) rfl rfl rfl rfl rfl ?_ ?_ ?_; rotate_left 2; (intro L; simp only [Nat.reducePow, reduceMod, reduceDiv, mod_eq_of_lt la, d0, d1, d2, d3, d4, d5, d6, UInt8.toNat_ofNat', lit_ul0, lit_ul1, qz39, lc_32, qz41, Int.reduceAdd, Int.reduceSub, Int.reduceMul, Int.reduceNeg, Int.sub_zero, cast_ofNat_Int, ne_eq, Int.reduceLT, Int.reduceLE, Int.reduceEq, reduceLT, qz5, ty22]; (first | (rw [wrap_i64] <;> first | omega | rfl) | (rw [wrap_u8] <;> first | omega | rfl) | (rw [wrap_u16] <;> first | omega | rfl) | (rw [wrap_u32] <;> first | omega | rfl) | rfl)); (focus ((repeat' apply And.intro) <;> first | exact True.intro | omega | (with_reducible rfl) | assumption | exact ⟨_, rfl⟩ | (simp only [sda]; done) | (simp only [len_cl]; omega) | (simp [Value.cells, Value.oneCell']; done)))) | (refine kOps_bin (b := .add) (pre := ?_) (val := ?_) rfl rfl rfl rfl rfl ?_ ?_ ?_; rotate_left 2; (intro L; simp only [Nat.reducePow, reduceMod, reduceDiv, mod_eq_of_lt la, d0, d1, d2, d3, d4, d5, d6, UInt8.toNat_ofNat', lit_ul0, lit_ul1, qz39, lc_32, qz34, Int.reduceAdd, Int.reduceSub, Int.reduceMul, Int.reduceNeg, Int.sub_zero, cast_ofNat_Int, ne_eq, Int.reduceLT, Int.reduceLE, Int.reduceEq, reduceLT, qz5, ty3]; (first | (rw [wrap_i64] <;> first | omega | rfl) | (rw [wrap_u8] <;> first | omega | rfl) | (rw [wrap_u16] <;> first | omega | rfl) | (rw [wrap_u32] <;> first | omega | rfl) | rfl)); exact trivial) | (refine kOps_conv (s := 22) (t := 5) (pre := ?_) (val := ?_) rfl rfl rfl rfl ?_ ?_ ?_; rotate_left 2; (intro L; simp only [Nat.reducePow, reduceMod, reduceDiv, mod_eq_of_lt la, d0, d1, d2, d3, d4, d5, d6, UInt8.toNat_ofNat', cv_22_5, cw_22_5]; (first | (rw [wrap_i64] <;> first | omega | rfl) | (rw [wrap_u8] <;> first | omega | rfl) | (rw [wrap_u16] <;> first | omega | rfl) | (rw [wrap_u32] <;> first | omega | rfl) | rfl)); exact trivial) | (refine kOps_ix (pre := ?_) (val := ?_) rfl rfl rfl rfl rfl ?_ ?_ ?_; rotate_left 2; (intro L; refine idx_tab ty9 ?_ ?_ _; (decide +kernel); (decide +kernel)); exact trivial) | (refine kOps_conv (s := 5) (t := 3) (pre := ?_) (val := ?_) rfl rfl rfl rfl ?_ ?_ ?_; rotate_left 2; (intro L; simp only [Nat.reducePow, reduceMod, reduceDiv, mod_eq_of_lt la, d0, d1, d2, d3, d4, d5, d6, UInt8.toNat_ofNat', cv_5_3, cw_5_3]; (first | (rw [wrap_i64] <;> first | omega | rfl) | (rw [wrap_u8] <;> first | omega | rfl) | (rw [wrap_u16] <;> first | omega | rfl) | (rw [wrap_u32] <;> first | omega | rfl) | rfl)); exact trivial))
    all_goals (
      refine fin_c (p := ?_) (xs := [.tmp 2]) (by simp) rfl ?_ ?_ ?_ ?_
      rotate_left 2
      · simp only [rsx, qz9, Nat.reducePow, reduceMod, reduceDiv, mod_eq_of_lt la, d0, d1, d2, d3, d4, d5, d6, UInt8.toNat_ofNat', evalIn_tmp, evalIn_const, evalIn_func, qz7, Nat.reduceBEq, lit_ul0, lit_ul1, qz39, lc_32, loadF, partF, cast_ofNat_Int, qz22, qz10, Int.reduceSub, qz3, qz0, length_cons, length_nil, qz6, zero_add, n_add_zero, qz4, one_mul, reduceAdd, reduceMul, reduceSub, reduceLeDiff, reduceEqDiff, toNat_natCast, reduceToNat, reduceIte, if_true, if_false, isAggD, len_cl, agg_cl, qz15, length_map, qz16, qz12, and_self, ty3, ty5, ty9, ty22]; try rfl
      · first | rfl | (simp only [closed, closedL, qz18, closedL_cl, closedL_bv, Bool.and_self, Bool.and_true]; first | done | rfl)
      · refine int_eq ?_
        first
          | (rw [blen_0 (a := a / 4294967296 / 65536 / 256) (by omega), blen_32 (a := a) (by omega), blen_16 (a := a / 4294967296) (by omega), blen_8 (a := a / 4294967296 / 65536) (by omega)]; omega) | (rw [blen_0 (a := a / 4294967296 / 65536) (by omega), blen_32 (a := a) (by omega), blen_16 (a := a / 4294967296) (by omega)]; omega) | (rw [blen_0 (a := a / 4294967296 / 256) (by omega), blen_32 (a := a) (by omega), blen_8 (a := a / 4294967296) (by omega)]; omega) | (rw [blen_0 (a := a / 4294967296) (by omega), blen_32 (a := a) (by omega)]; omega) | (rw [blen_0 (a := a / 65536 / 256) (by omega), blen_16 (a := a) (by omega), blen_8 (a := a / 65536) (by omega)]; omega) | (rw [blen_0 (a := a / 65536) (by omega), blen_16 (a := a) (by omega)]; omega) | (rw [blen_0 (a := a / 256) (by omega), blen_8 (a := a) (by omega)]; omega) | (rw [blen_0 (a := a) (by omega)]; omega)
      · simp only [rsx, qz9, Nat.reducePow, reduceMod, reduceDiv, mod_eq_of_lt la, d0, d1, d2, d3, d4, d5, d6, UInt8.toNat_ofNat', evalIn_tmp, evalIn_const, evalIn_func, qz7, Nat.reduceBEq, lit_ul0, lit_ul1, qz39, lc_32, loadF, partF, cast_ofNat_Int, qz22, qz10, Int.reduceSub, qz3, qz0, length_cons, length_nil, qz6, zero_add, n_add_zero, qz4, one_mul, reduceAdd, reduceMul, reduceSub, reduceLeDiff, reduceEqDiff, toNat_natCast, reduceToNat, reduceIte, if_true, if_false, isAggD, len_cl, agg_cl, qz15, length_map, qz16, qz12, and_self, ty3, ty5, ty9, ty22]; try trivial)
  · exact hS.elim
end Go.Ab
