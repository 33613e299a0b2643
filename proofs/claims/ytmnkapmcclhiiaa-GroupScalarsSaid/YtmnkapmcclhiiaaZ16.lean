import Derived.Test.YtmnkapmcclhiiaaQZ
import Derived.Test.YtmnkapmcclhiiaaME
import Derived.Test.YtmnkapmcclhiiaaTY
import Derived.Test.YtmnkapmcclhiiaaZ10
import Derived.Test.YtmnkapmcclhiiaaZ12
import Derived.Test.YtmnkapmcclhiiaaZ15
import Derived.Test.YtmnkapmcclhiiaaMP
import Derived.Test.YtmnkapmcclhiiaaMV
import Derived.Test.YtmnkapmcclhiiaaMY
import Derived.Test.YtmnkapmcclhiiaaZ1
import Derived.Test.YtmnkapmcclhiiaaZ7
import Derived.Test.YtmnkapmcclhiiaaMX
import Derived.Test.YtmnkapmcclhiiaaZ0
namespace Go.Ab
open Go Go.Proofs
open Nat (reduceAdd mod_eq_of_lt zero_add reduceMul reduceLeDiff reduceMod zero_mod)
open List (length_cons length_nil all_nil all_cons length_map length_set length_append)
open Int (toNat_natCast reduceToNat)
set_option linter.unusedVariables false
set_option linter.unusedSimpArgs false
set_option maxRecDepth 8000
set_option maxHeartbeats 4000000
noncomputable def B46 : Code := bodyOf Try.f46
theorem B46_eq : Try.f46.body = some B46 := by kernel_rfl
noncomputable def n46_0 := B46
noncomputable def n46_1 := codeAt B46 [0]
noncomputable def n46_2 := codeAt B46 [1]
noncomputable def n46_3 := codeAt B46 [1,0]
noncomputable def n46_4 := codeAt B46 [1,0,0]
noncomputable def n46_5 := codeAt B46 [1,0,1]
noncomputable def n46_6 := codeAt B46 [1,0,1,0]
noncomputable def n46_7 := codeAt B46 [1,0,1,0,0]
noncomputable def n46_8 := codeAt B46 [1,0,1,0,1]
noncomputable def n46_9 := codeAt B46 [1,0,1,1]
noncomputable def n46_10 := codeAt B46 [1,1]
noncomputable def n46_11 := codeAt B46 [1,1,0]
noncomputable def n46_12 := codeAt B46 [1,1,1]
noncomputable def n46_13 := codeAt B46 [1,1,1,0]
noncomputable def n46_14 := codeAt B46 [1,1,1,1]
noncomputable def n46_15 := codeAt B46 [1,1,1,1,0]
noncomputable def n46_16 := codeAt B46 [1,1,1,1,1]
theorem e46_0 : n46_0 = .seq n46_1 n46_2 := rfl
noncomputable def r46_1 := opsAt n46_1
theorem e46_1 : n46_1 = .region 0 (r46_1).toArray false := rfl
theorem e46_2 : n46_2 = .seq n46_3 n46_10 := rfl
theorem e46_3 : n46_3 = .seq n46_4 n46_5 := rfl
noncomputable def r46_4 := opsAt n46_4
theorem e46_4 : n46_4 = .region 1 (r46_4).toArray false := rfl
theorem e46_5 : n46_5 = .cond (.tmp 13) n46_6 n46_9 := rfl
theorem e46_6 : n46_6 = .seq n46_7 n46_8 := rfl
noncomputable def r46_7 := opsAt n46_7
theorem e46_7 : n46_7 = .region 2 (r46_7).toArray false := rfl
theorem e46_8 : n46_8 = .ret := rfl
theorem e46_9 : n46_9 = .skip := rfl
theorem e46_10 : n46_10 = .seq n46_11 n46_12 := rfl
noncomputable def r46_11 := opsAt n46_11
theorem e46_11 : n46_11 = .region 3 (r46_11).toArray true := rfl
noncomputable def r46_11a := ver1 10 11 r46_11
theorem a46_11a : anyOk r46_11a = true := by decide +kernel
noncomputable def r46_11b := ver2 10 11 r46_11
theorem a46_11b : anyOk r46_11b = true := by decide +kernel
theorem e46_12 : n46_12 = .seq n46_13 n46_14 := rfl
noncomputable def r46_13 := opsAt n46_13
theorem e46_13 : n46_13 = .region 4 (r46_13).toArray false := rfl
theorem e46_14 : n46_14 = .seq n46_15 n46_16 := rfl
noncomputable def r46_15 := opsAt n46_15
theorem e46_15 : n46_15 = .region 5 (r46_15).toArray false := rfl
theorem e46_16 : n46_16 = .ret := rfl
theorem f_ref02_MulMod : PureOk Try.prog 46 sMulMod := by
  refine pureOk_of (c := n46_0) (Γ := conOf [(40, .pure sZero), (55, .pure sReduce2), (61, .pure sMul), (62, .pure sDiv)]) (conOf_ok (conOf_one (S := .pure sZero) f_ref02_Zero (conOf_one (S := .pure sReduce2) f_ref02_reduce (conOf_one (S := .pure sMul) f_ref02_Mul (conOf_one (S := .pure sDiv) f_ref02_Div (conOf_end)))))) mixed Try.func46 B46_eq (by decide +kernel) Try.call46 ?_
  intro args hS
  unfold sMulMod at hS ⊢
  split at hS
  · refine ⟨by rw [Try.ntmps46]; simp, vC_sound ?_⟩
    rename_i xa xb xm
    obtain ⟨ha, hb, hm⟩ := hS
    obtain ⟨a, la, rfl⟩ := isU_out ha
    obtain ⟨b, lb, rfl⟩ := isU_out hb
    obtain ⟨m, lm, rfl⟩ := isU_out hm
    simp only [uv_u4, mod_eq_of_lt la, mod_eq_of_lt lb, mod_eq_of_lt lm]
    clear ha hb hm
    simp only [qz26, reduceAdd]
    by_cases hm : m = 0
    · repeat' (first | (with_reducible first | apply seqC_normal | apply seqC_ret) | ((with_reducible apply wC_seq e46_0; apply kC_less [0, 1, 2] (c := n46_1)); (exact rfl); (exact rfl); (with_reducible apply wC_region e46_1); refine vOps_open (l := _ :: _) rfl ?_; refine kOps_box (row := ?_) (n := ?_) rfl rfl rfl rfl rfl ?_ ?_ ?_ ?_; rotate_left 2; (simp only [↓length_append, ↓length_set, ↓length_cons, length_nil, reduceAdd, zero_add]; rfl); (simp only [qz1, splice_cl, splice_one, len_cl, mod_eq_of_lt la, mod_eq_of_lt lb, hm, if_true, if_false, qz24, reduceMod, qz5, eq_self, zero_mod, qz11, qz14]; rfl); (focus (first | rfl | exact one_cl _ _ | exact one_bv _ | (simp only [qz19, all_cons, all_nil, Bool.and_self, PV.one]; done) | (simp [PV.one, qz19, one_bv, Value.oneCell']; done))); refine kOps_box (row := ?_) (n := ?_) rfl rfl rfl rfl rfl ?_ ?_ ?_ ?_; rotate_left 2; (simp only [↓length_append, ↓length_set, ↓length_cons, length_nil, reduceAdd, zero_add]; rfl); (simp only [qz1, splice_cl, splice_one, len_cl, mod_eq_of_lt la, mod_eq_of_lt lb, hm, if_true, if_false, qz24, reduceMod, qz5, eq_self, zero_mod, qz11, qz14]; rfl); (focus (first | rfl | exact one_cl _ _ | exact one_bv _ | (simp only [qz19, all_cons, all_nil, Bool.and_self, PV.one]; done) | (simp [PV.one, qz19, one_bv, Value.oneCell']; done))); refine kOps_box (row := ?_) (n := ?_) rfl rfl rfl rfl rfl ?_ ?_ ?_ ?_; rotate_left 2; (simp only [↓length_append, ↓length_set, ↓length_cons, length_nil, reduceAdd, zero_add]; rfl); (simp only [qz1, splice_cl, splice_one, len_cl, mod_eq_of_lt la, mod_eq_of_lt lb, hm, if_true, if_false, qz24, reduceMod, qz5, eq_self, zero_mod, qz11, qz14]; rfl); (focus (first | rfl | exact one_cl _ _ | exact one_bv _ | (simp only [qz19, all_cons, all_nil, Bool.and_self, PV.one]; done) | (simp [PV.one, qz19, one_bv, Value.oneCell']; done))); refine kOps_alloc (row := ?_) (n := ?_) rfl rfl rfl rfl ty24 ?_ ?_ ?_ ?_; rotate_left 2; (simp only [↓length_append, ↓length_set, ↓length_cons, length_nil, reduceAdd, zero_add]; rfl); (simp only [qz1, splice_cl, splice_one, len_cl, mod_eq_of_lt la, mod_eq_of_lt lb, hm, if_true, if_false, qz24, reduceMod, qz5, eq_self, zero_mod, qz11, Value.cells, qz9, List.toList_toArray, zero_cl4, zero_cl8, lit_ul0]; rfl); (focus (first | (simp only [Value.cells, List.toList_toArray, qz23, Value.oneCell', and_self]; done) | (simp [Value.cells, Value.oneCell']; done))); refine vOps_nil ?_; (with_reducible apply seqC_normal; apply wC_seq e46_2; apply wC_seq e46_3; apply wC_region e46_4); refine vOps_open (l := _ :: _) rfl ?_; (first | refine kOps_loadp (pre := ?_) (val := ?_) rfl rfl rfl rfl rfl ty24 ?_ ?_ ?_ | refine kOps_loadr (pre := ?_) (val := ?_) rfl rfl rfl rfl ty24 ?_ ?_ ?_); rotate_left 2; (simp only [qz1, splice_cl, splice_one, len_cl, mod_eq_of_lt la, mod_eq_of_lt lb, hm, if_true, if_false, qz24, reduceMod, qz5, eq_self, zero_mod, qz11, partF, isAggD, qz0, reduceIte, agg_cl, toNat_natCast, reduceToNat, qz4, n_add_zero, reduceAdd, reduceMul, qz15, length_map]; rfl); (focus ((repeat' apply And.intro) <;> first | exact True.intro | omega | (with_reducible rfl) | assumption | exact ⟨_, rfl⟩ | (simp only [sda]; done) | (simp only [len_cl]; omega) | (simp [Value.cells, Value.oneCell']; done))); refine kOps_callc (pre := ?_) (val := ?_) rfl rfl rfl rfl rfl ?_ ?_ ?_ ?_ ?_; rotate_left 2; (simp only [qz1, splice_cl, splice_one, len_cl, mod_eq_of_lt la, mod_eq_of_lt lb, hm, if_true, if_false, qz24, reduceMod, qz5, eq_self, zero_mod, qz11, sZero, sReduce2, sMul, sDiv, nrmC, qz9, qz8, qz25, ulv_ul, uv_u4, qz12, and_self, n_add_zero, n_sub_zero]; rfl); (focus (first | rfl | (simp only [closed, closedL, qz18, closedL_bv, closedL_cl, Bool.and_self, Bool.and_true]; done))); (focus (first | rfl | (simp only [closed, closedL, qz18, closedL_bv, closedL_cl, Bool.and_self, Bool.and_true]; done))); (focus ((repeat' apply And.intro) <;> first | exact True.intro | omega | (with_reducible rfl) | assumption | exact ⟨_, rfl⟩ | (simp only [sda]; done) | (simp only [len_cl]; omega) | (simp [Value.cells, Value.oneCell']; done))); refine vOps_nil ?_; (with_reducible apply seqC_normal; apply kC_cond e46_5); (exact rfl); all_goals (intro hb; first | (cases hb; done) | cases hb | ((try simp only [dxe] at hb); try (exfalso; first | omega | exact hb trivial)))) | ((with_reducible apply wC_seq e46_6; apply wC_region e46_7); refine vOps_open (l := _ :: _) rfl ?_; (first | refine kOps_loadp (pre := ?_) (val := ?_) rfl rfl rfl rfl rfl ty24 ?_ ?_ ?_ | refine kOps_loadr (pre := ?_) (val := ?_) rfl rfl rfl rfl ty24 ?_ ?_ ?_); rotate_left 2; (simp only [qz1, splice_cl, splice_one, len_cl, mod_eq_of_lt la, mod_eq_of_lt lb, hm, if_true, if_false, qz24, reduceMod, qz5, eq_self, zero_mod, qz11, partF, isAggD, qz0, reduceIte, agg_cl, toNat_natCast, reduceToNat, qz4, n_add_zero, reduceAdd, reduceMul, qz15, length_map]; rfl); (focus ((repeat' apply And.intro) <;> first | exact True.intro | omega | (with_reducible rfl) | assumption | exact ⟨_, rfl⟩ | (simp only [sda]; done) | (simp only [len_cl]; omega) | (simp [Value.cells, Value.oneCell']; done))); refine kOps_store (cs' := ?_) rfl rfl rfl rfl rfl rfl rfl ty24 ?_ ?_ ?_; rotate_left 1; (simp only [qz1, splice_cl, splice_one, len_cl, mod_eq_of_lt la, mod_eq_of_lt lb, hm, if_true, if_false, qz24, reduceMod, qz5, eq_self, zero_mod, qz11, qz14, isAggD, qz0, reduceIte, agg_cl, toNat_natCast, reduceToNat, qz4, n_add_zero, reduceAdd, reduceMul, qz15, length_map]; rfl); (focus (first | (simp only [qz14, length_cons, length_nil, len_cl, length_set, length_map, reduceAdd, zero_add, all_cons, all_nil, qz19, one_bv, PV.one, Value.oneCell', Bool.and_self, reduceLeDiff, Nat.le_refl, and_self, qz12]; done) | ((try simp only [qz14]); (focus ((repeat' apply And.intro) <;> first | exact True.intro | omega | (with_reducible rfl) | assumption | exact ⟨_, rfl⟩ | (simp only [sda]; done) | (simp only [len_cl]; omega) | (simp [Value.cells, Value.oneCell']; done)))))); refine vOps_nil ?_; (with_reducible apply seqC_normal; apply wC_ret e46_8)) | ((with_reducible apply wC_skip e46_9)))
      all_goals (
        refine fin_c (p := ?_) (xs := [.cell 6 24]) (by simp) rfl ?_ ?_ ?_ ?_
        rotate_left 2
        · simp only [rsx, qz9, qz1, splice_cl, splice_one, len_cl, mod_eq_of_lt la, mod_eq_of_lt lb, hm, if_true, if_false, qz24, reduceMod, qz5, eq_self, zero_mod, qz11, evalIn_tmp, evalIn_const, evalIn_func, qz7, Nat.reduceBEq, lit_ul0, lit_ul1, loadF, partF, qz3, qz6, qz16, qz12, and_self, Nat.le_refl, reduceLeDiff, isAggD, qz0, reduceIte, agg_cl, toNat_natCast, reduceToNat, qz4, n_add_zero, zero_add, reduceAdd, reduceMul, qz15, length_map, ty22, ty24]; try rfl
        · first | rfl | (simp only [closed, closedL, qz18, closedL_cl, closedL_bv, Bool.and_self, Bool.and_true]; first | done | rfl)
        · rw [rem0_zero hm]
        · simp only [rsx, qz9, qz1, splice_cl, splice_one, len_cl, mod_eq_of_lt la, mod_eq_of_lt lb, hm, if_true, if_false, qz24, reduceMod, qz5, eq_self, zero_mod, qz11, evalIn_tmp, evalIn_const, evalIn_func, qz7, Nat.reduceBEq, lit_ul0, lit_ul1, loadF, partF, qz3, qz6, qz16, qz12, and_self, Nat.le_refl, reduceLeDiff, isAggD, qz0, reduceIte, agg_cl, toNat_natCast, reduceToNat, qz4, n_add_zero, zero_add, reduceAdd, reduceMul, qz15, length_map, ty22, ty24]; try trivial)
    · have h1 := Nat.mod_lt a (show 0 < m by omega)
      have h2 := Nat.mod_lt b (show 0 < m by omega)
      have la2 : a % m < 115792089237316195423570985008687907853269984665640564039457584007913129639936 := by omega
      have lb2 : b % m < 115792089237316195423570985008687907853269984665640564039457584007913129639936 := by omega
      have hh : a % m * (b % m) / 115792089237316195423570985008687907853269984665640564039457584007913129639936 < m := Nat.div_lt_of_lt_mul (Nat.lt_of_lt_of_le (Nat.mul_lt_mul'' h1 h2) (Nat.mul_le_mul_right _ (by omega)))
      have lhh : a % m * (b % m) / 115792089237316195423570985008687907853269984665640564039457584007913129639936 < 115792089237316195423570985008687907853269984665640564039457584007913129639936 := by omega
      have hmh : (m ≤ a % m * (b % m) / 115792089237316195423570985008687907853269984665640564039457584007913129639936) = False := eq_false (by omega)
      have c2 : (m ≤ 0) = False := eq_false (by omega)
      repeat' (first | (with_reducible first | apply seqC_normal | apply seqC_ret) | ((with_reducible apply wC_seq e46_0; apply kC_less [0, 1, 2] (c := n46_1)); (exact rfl); (exact rfl); (with_reducible apply wC_region e46_1); refine vOps_open (l := _ :: _) rfl ?_) | ((with_reducible apply wC_seq e46_2; apply wC_seq e46_3; apply wC_region e46_4); refine vOps_open (l := _ :: _) rfl ?_) | ((with_reducible apply kC_cond e46_5); (exact rfl); all_goals (intro hb; first | (cases hb; done) | cases hb | ((try simp only [dxe] at hb); try (exfalso; first | omega | exact hb trivial)))) | ((with_reducible apply wC_seq e46_6; apply wC_region e46_7); refine vOps_open (l := _ :: _) rfl ?_) | ((with_reducible apply wC_ret e46_8)) | ((with_reducible apply wC_skip e46_9)) | ((with_reducible apply wC_seq e46_10; apply kC_less [3, 4, 5, 6] (c := n46_11)); (exact rfl); (exact rfl); (with_reducible apply wC_two 10 11 e46_11 (l1 := r46_11a) (l2 := r46_11b) rfl rfl (by decide +kernel) a46_11a a46_11b); refine vOps_open (l := [_, _, _, _, _, _, _, _, _, _, _, _, _, _]) rfl ?_; (repeat' (first | ((first | refine kOps_loadp (pre := ?_) (val := ?_) rfl rfl rfl rfl rfl ty24 ?_ ?_ ?_ | refine kOps_loadr (pre := ?_) (val := ?_) rfl rfl rfl rfl ty24 ?_ ?_ ?_); rotate_left 2; (simp only [qz1, splice_cl, splice_one, len_cl, mod_eq_of_lt la, mod_eq_of_lt lb, mod_eq_of_lt lm, mod_eq_of_lt la2, mod_eq_of_lt lb2, mod_eq_of_lt lhh, hmh, c2, ne_eq, hm, not_false_eq_true, if_true, if_false, qz24, reduceMod, qz5, eq_self, zero_mod, qz11, partF, isAggD, qz0, reduceIte, agg_cl, toNat_natCast, reduceToNat, qz4, n_add_zero, reduceAdd, reduceMul, qz15, length_map]; rfl); (focus ((repeat' apply And.intro) <;> first | exact True.intro | omega | (with_reducible rfl) | assumption | exact ⟨_, rfl⟩ | (simp only [sda]; done) | (simp only [len_cl]; omega) | (simp [Value.cells, Value.oneCell']; done)))) | (refine kOps_callc (pre := ?_) (val := ?_) rfl rfl rfl rfl rfl ?_ ?_ ?_ ?_ ?_; rotate_left 2; (simp only [qz1, splice_cl, splice_one, len_cl, mod_eq_of_lt la, mod_eq_of_lt lb, mod_eq_of_lt lm, mod_eq_of_lt la2, mod_eq_of_lt lb2, mod_eq_of_lt lhh, hmh, c2, ne_eq, hm, not_false_eq_true, if_true, if_false, qz24, reduceMod, qz5, eq_self, zero_mod, qz11, sZero, sReduce2, sMul, sDiv, lit_ul0, lit_ul1, nrmC, qz9, qz8, qz25, ulv_ul, uv_u4, qz12, and_self, n_add_zero, n_sub_zero]; rfl); (focus (first | rfl | (simp only [closed, closedL, qz18, closedL_bv, closedL_cl, Bool.and_self, Bool.and_true]; done))); (focus (first | rfl | (simp only [closed, closedL, qz18, closedL_bv, closedL_cl, Bool.and_self, Bool.and_true]; done))); (focus ((repeat' apply And.intro) <;> first | exact True.intro | omega | (with_reducible rfl) | assumption | exact ⟨_, rfl⟩ | (simp only [sda]; done) | (simp only [len_cl]; omega) | (simp [Value.cells, Value.oneCell']; done)))) | (refine kOps_mv rfl rfl rfl rfl ?_) | (refine kOps_ext rfl rfl rfl rfl rfl ?_) | (refine kOps_alloc (row := ?_) (n := ?_) rfl rfl rfl rfl ty24 ?_ ?_ ?_ ?_; rotate_left 2; (simp only [↓length_append, ↓length_set, ↓length_cons, length_nil, reduceAdd, zero_add]; rfl); (simp only [qz1, splice_cl, splice_one, len_cl, mod_eq_of_lt la, mod_eq_of_lt lb, mod_eq_of_lt lm, mod_eq_of_lt la2, mod_eq_of_lt lb2, mod_eq_of_lt lhh, hmh, c2, ne_eq, hm, not_false_eq_true, if_true, if_false, qz24, reduceMod, qz5, eq_self, zero_mod, qz11, Value.cells, qz9, List.toList_toArray, zero_cl4, zero_cl8, lit_ul0]; rfl); (focus (first | (simp only [Value.cells, List.toList_toArray, qz23, Value.oneCell', and_self]; done) | (simp [Value.cells, Value.oneCell']; done)))) | (refine kOps_store (cs' := ?_) rfl rfl rfl rfl rfl rfl rfl ty24 ?_ ?_ ?_; rotate_left 1; (simp only [qz1, splice_cl, splice_one, len_cl, mod_eq_of_lt la, mod_eq_of_lt lb, mod_eq_of_lt lm, mod_eq_of_lt la2, mod_eq_of_lt lb2, mod_eq_of_lt lhh, hmh, c2, ne_eq, hm, not_false_eq_true, if_true, if_false, qz24, reduceMod, qz5, eq_self, zero_mod, qz11, lit_ul0, lit_ul1, qz14, isAggD, qz0, reduceIte, agg_cl, toNat_natCast, reduceToNat, qz4, n_add_zero, reduceAdd, reduceMul, qz15, length_map]; rfl); (focus (first | (simp only [lit_ul0, lit_ul1, qz14, length_cons, length_nil, len_cl, length_set, length_map, reduceAdd, zero_add, all_cons, all_nil, qz19, one_bv, PV.one, Value.oneCell', Bool.and_self, reduceLeDiff, Nat.le_refl, and_self, qz12]; done) | ((try simp only [lit_ul0, lit_ul1, qz14]); (focus ((repeat' apply And.intro) <;> first | exact True.intro | omega | (with_reducible rfl) | assumption | exact ⟨_, rfl⟩ | (simp only [sda]; done) | (simp only [len_cl]; omega) | (simp [Value.cells, Value.oneCell']; done))))))) | (refine vOps_nil ?_; refine And.intro (by kernel_rfl) ⟨[0, 1, 2, 3, 5, 4], ?_⟩; (refine weak_mk (fun i h => absurd h (Nat.not_lt_zero i)) (by decide) (by simp) ?_ ?_; (focus (simp only [RenRows, qz16, qz6, qz3, qz28, closedL_bv, closedL_cl, closedL_hl, qz12])); (focus (simp only [RenEnv, qz7, Nat.reduceBEq]; (repeat' apply And.intro) <;> first | trivial | (refine ren_ptr rfl; done) | exact ren_keep rfl | exact ren_keep (closed_u4 _) | exact ren_keep (closed_h32 _) | (refine ren_keep ?_; simp only [closed, closedL, qz18, closedL_cl, closed_h32, Bool.and_self]; done))))) | (refine vOps_nil ?_; refine And.intro (by kernel_rfl) (And.intro ?_ ?_); refine vOps_open (l := [_, _, _, _, _, _, _, _, _, _, _, _, _, _]) rfl ?_)))) | ((with_reducible apply wC_seq e46_12; apply kC_less [5, 6, 7, 8] (c := n46_13)); (exact rfl); (exact rfl); (with_reducible apply wC_region e46_13); refine vOps_open (l := _ :: _) rfl ?_) | ((with_reducible apply wC_seq e46_14; apply wC_region e46_15); refine vOps_open (l := _ :: _) rfl ?_) | ((with_reducible apply wC_ret e46_16)) | ((with_reducible apply vOps_nil); try (with_reducible refine And.intro (by kernel_rfl) ?_)) | (refine kOps_box (row := ?_) (n := ?_) rfl rfl rfl rfl rfl ?_ ?_ ?_ ?_; rotate_left 2; (simp only [↓length_append, ↓length_set, ↓length_cons, length_nil, reduceAdd, zero_add]; rfl); (simp only [qz1, splice_cl, splice_one, len_cl, mod_eq_of_lt la, mod_eq_of_lt lb, mod_eq_of_lt lm, mod_eq_of_lt la2, mod_eq_of_lt lb2, mod_eq_of_lt lhh, hmh, c2, ne_eq, hm, not_false_eq_true, if_true, if_false, qz24, reduceMod, qz5, eq_self, zero_mod, qz11, qz14]; rfl); (focus (first | rfl | exact one_cl _ _ | exact one_bv _ | (simp only [qz19, all_cons, all_nil, Bool.and_self, PV.one]; done) | (simp [PV.one, qz19, one_bv, Value.oneCell']; done)))) | (refine kOps_alloc (row := ?_) (n := ?_) rfl rfl rfl rfl ty24 ?_ ?_ ?_ ?_; rotate_left 2; (simp only [↓length_append, ↓length_set, ↓length_cons, length_nil, reduceAdd, zero_add]; rfl); (simp only [qz1, splice_cl, splice_one, len_cl, mod_eq_of_lt la, mod_eq_of_lt lb, mod_eq_of_lt lm, mod_eq_of_lt la2, mod_eq_of_lt lb2, mod_eq_of_lt lhh, hmh, c2, ne_eq, hm, not_false_eq_true, if_true, if_false, qz24, reduceMod, qz5, eq_self, zero_mod, qz11, Value.cells, qz9, List.toList_toArray, zero_cl4, zero_cl8, lit_ul0]; rfl); (focus (first | (simp only [Value.cells, List.toList_toArray, qz23, Value.oneCell', and_self]; done) | (simp [Value.cells, Value.oneCell']; done)))) | ((first | refine kOps_loadp (pre := ?_) (val := ?_) rfl rfl rfl rfl rfl ty24 ?_ ?_ ?_ | refine kOps_loadr (pre := ?_) (val := ?_) rfl rfl rfl rfl ty24 ?_ ?_ ?_); rotate_left 2; (simp only [qz1, splice_cl, splice_one, len_cl, mod_eq_of_lt la, mod_eq_of_lt lb, mod_eq_of_lt lm, mod_eq_of_lt la2, mod_eq_of_lt lb2, mod_eq_of_lt lhh, hmh, c2, ne_eq, hm, not_false_eq_true, if_true, if_false, qz24, reduceMod, qz5, eq_self, zero_mod, qz11, partF, isAggD, qz0, reduceIte, agg_cl, toNat_natCast, reduceToNat, qz4, n_add_zero, reduceAdd, reduceMul, qz15, length_map]; rfl); (focus ((repeat' apply And.intro) <;> first | exact True.intro | omega | (with_reducible rfl) | assumption | exact ⟨_, rfl⟩ | (simp only [sda]; done) | (simp only [len_cl]; omega) | (simp [Value.cells, Value.oneCell']; done)))) | (refine kOps_callc (pre := ?_) (val := ?_) rfl rfl rfl rfl rfl ?_ ?_ ?_ ?_ ?_; rotate_left 2; (simp only [qz1, splice_cl, splice_one, len_cl, mod_eq_of_lt la, mod_eq_of_lt lb, mod_eq_of_lt lm, mod_eq_of_lt la2, mod_eq_of_lt lb2, mod_eq_of_lt lhh, hmh, c2, ne_eq, hm, not_false_eq_true, if_true, if_false, qz24, reduceMod, qz5, eq_self, zero_mod, qz11, sZero, sReduce2, sMul, sDiv, lit_ul0, lit_ul1, nrmC, qz9, qz8, qz25, ulv_ul, uv_u4, qz12, and_self, n_add_zero, n_sub_zero]; rfl); (focus (first | rfl | (simp only [closed, closedL, qz18, closedL_bv, closedL_cl, Bool.and_self, Bool.and_true]; done))); (focus (first | rfl | (simp only [closed, closedL, qz18, closedL_bv, closedL_cl, Bool.and_self, Bool.and_true]; done))); (focus ((repeat' apply And.intro) <;> first | exact True.intro | omega | (with_reducible rfl) | assumption | exact ⟨_, rfl⟩ | (simp only [sda]; done) | (simp only [len_cl]; omega) | (simp [Value.cells, Value.oneCell']; done)))) | (refine kOps_store (cs' := ?_) rfl rfl rfl rfl rfl rfl rfl ty24 ?_ ?_ ?_; rotate_left 1; (simp only [qz1, splice_cl, splice_one, len_cl, mod_eq_of_lt la, mod_eq_of_lt lb, mod_eq_of_lt lm, mod_eq_of_lt la2, mod_eq_of_lt lb2, mod_eq_of_lt lhh, hmh, c2, ne_eq, hm, not_false_eq_true, if_true, if_false, qz24, reduceMod, qz5, eq_self, zero_mod, qz11, lit_ul0, lit_ul1, qz14, isAggD, qz0, reduceIte, agg_cl, toNat_natCast, reduceToNat, qz4, n_add_zero, reduceAdd, reduceMul, qz15, length_map]; rfl); (focus (first | (simp only [lit_ul0, lit_ul1, qz14, length_cons, length_nil, len_cl, length_set, length_map, reduceAdd, zero_add, all_cons, all_nil, qz19, one_bv, PV.one, Value.oneCell', Bool.and_self, reduceLeDiff, Nat.le_refl, and_self, qz12]; done) | ((try simp only [lit_ul0, lit_ul1, qz14]); (focus ((repeat' apply And.intro) <;> first | exact True.intro | omega | (with_reducible rfl) | assumption | exact ⟨_, rfl⟩ | (simp only [sda]; done) | (simp only [len_cl]; omega) | (simp [Value.cells, Value.oneCell']; done))))))) | (refine kOps_mv rfl rfl rfl rfl ?_) | (refine kOps_ext rfl rfl rfl rfl rfl ?_) | (refine kOps_as rfl rfl rfl rfl ?_))
      all_goals (
        refine fin_c (p := ?_) (xs := [.cell 6 24]) (by simp) rfl ?_ ?_ ?_ ?_
        rotate_left 2
        · simp only [rsx, qz9, qz1, splice_cl, splice_one, len_cl, mod_eq_of_lt la, mod_eq_of_lt lb, mod_eq_of_lt lm, mod_eq_of_lt la2, mod_eq_of_lt lb2, mod_eq_of_lt lhh, hmh, c2, ne_eq, hm, not_false_eq_true, if_true, if_false, qz24, reduceMod, qz5, eq_self, zero_mod, qz11, evalIn_tmp, evalIn_const, evalIn_func, qz7, Nat.reduceBEq, lit_ul0, lit_ul1, loadF, partF, qz3, qz6, qz16, qz12, and_self, Nat.le_refl, reduceLeDiff, isAggD, qz0, reduceIte, agg_cl, toNat_natCast, reduceToNat, qz4, n_add_zero, zero_add, reduceAdd, reduceMul, qz15, length_map, ty22, ty24]; try rfl
        · first | rfl | (simp only [closed, closedL, qz18, closedL_cl, closedL_bv, Bool.and_self, Bool.and_true]; first | done | rfl)
        · rw [rem0_pos hm, Nat.div_add_mod', ← Nat.mul_mod]
        · simp only [rsx, qz9, qz1, splice_cl, splice_one, len_cl, mod_eq_of_lt la, mod_eq_of_lt lb, mod_eq_of_lt lm, mod_eq_of_lt la2, mod_eq_of_lt lb2, mod_eq_of_lt lhh, hmh, c2, ne_eq, hm, not_false_eq_true, if_true, if_false, qz24, reduceMod, qz5, eq_self, zero_mod, qz11, evalIn_tmp, evalIn_const, evalIn_func, qz7, Nat.reduceBEq, lit_ul0, lit_ul1, loadF, partF, qz3, qz6, qz16, qz12, and_self, Nat.le_refl, reduceLeDiff, isAggD, qz0, reduceIte, agg_cl, toNat_natCast, reduceToNat, qz4, n_add_zero, zero_add, reduceAdd, reduceMul, qz15, length_map, ty22, ty24]; try trivial)
  · exact hS.elim
noncomputable def B29 : Code := bodyOf Try.f29
theorem B29_eq : Try.f29.body = some B29 := by kernel_rfl
noncomputable def n29_0 := B29
noncomputable def n29_1 := codeAt B29 [0]
noncomputable def n29_2 := codeAt B29 [1]
noncomputable def n29_3 := codeAt B29 [1,0]
noncomputable def n29_4 := codeAt B29 [1,1]
theorem e29_0 : n29_0 = .seq n29_1 n29_2 := rfl
noncomputable def r29_1 := opsAt n29_1
theorem e29_1 : n29_1 = .region 0 (r29_1).toArray false := rfl
theorem e29_2 : n29_2 = .seq n29_3 n29_4 := rfl
noncomputable def r29_3 := opsAt n29_3
theorem e29_3 : n29_3 = .region 1 (r29_3).toArray true := rfl
theorem a29_3 : anyOk r29_3 = true := by decide +kernel
theorem e29_4 : n29_4 = .ret := rfl
theorem f_ref05_MulScalar : PureOk Try.prog 29 sGMuS := by
  refine pureOk_of (c := n29_0) (Γ := conOf [(13, .pure sGOrd), (46, .pure sMulMod)]) (conOf_ok (conOf_one (S := .pure sGOrd) f_ref05_Order (conOf_one (S := .pure sMulMod) f_ref02_MulMod (conOf_end)))) mixed Try.func29 B29_eq (by decide +kernel) Try.call29 ?_
  intro args hS
  unfold sGMuS at hS ⊢
  split at hS
  · refine ⟨by rw [Try.ntmps29]; simp, vC_sound ?_⟩
    rename_i xa xb
    obtain ⟨ha, hb⟩ := hS
    obtain ⟨a, la, rfl⟩ := isU_out ha
    obtain ⟨b, lb, rfl⟩ := isU_out hb
    simp only [uv_u4, mod_eq_of_lt la, mod_eq_of_lt lb]
    clear ha hb
    simp only [qz26, reduceAdd]
    repeat' (first | (with_reducible first | apply seqC_normal | apply seqC_ret) | ((with_reducible apply wC_seq e29_0; apply wC_region e29_1); refine vOps_open (l := _ :: _) rfl ?_; refine kOps_box (row := ?_) (n := ?_) rfl rfl rfl rfl rfl ?_ ?_ ?_ ?_; rotate_left 2; (simp only [↓length_append, ↓length_set, ↓length_cons, length_nil, reduceAdd, zero_add]; rfl); (simp only [qz1, splice_cl, splice_one, len_cl, qz2, zero_add, mod_eq_of_lt la, mod_eq_of_lt lb, qz14]; rfl); (focus (first | rfl | exact one_cl _ _ | exact one_bv _ | (simp only [qz19, all_cons, all_nil, Bool.and_self, PV.one]; done) | (simp [PV.one, qz19, one_bv, Value.oneCell']; done))); refine kOps_box (row := ?_) (n := ?_) rfl rfl rfl rfl rfl ?_ ?_ ?_ ?_; rotate_left 2; (simp only [↓length_append, ↓length_set, ↓length_cons, length_nil, reduceAdd, zero_add]; rfl); (simp only [qz1, splice_cl, splice_one, len_cl, qz2, zero_add, mod_eq_of_lt la, mod_eq_of_lt lb, qz14]; rfl); (focus (first | rfl | exact one_cl _ _ | exact one_bv _ | (simp only [qz19, all_cons, all_nil, Bool.and_self, PV.one]; done) | (simp [PV.one, qz19, one_bv, Value.oneCell']; done))); refine kOps_alloc (row := ?_) (n := ?_) rfl rfl rfl rfl ty24 ?_ ?_ ?_ ?_; rotate_left 2; (simp only [↓length_append, ↓length_set, ↓length_cons, length_nil, reduceAdd, zero_add]; rfl); (simp only [qz1, splice_cl, splice_one, len_cl, qz2, zero_add, mod_eq_of_lt la, mod_eq_of_lt lb, Value.cells, qz9, List.toList_toArray, zero_cl4, zero_cl8, lit_ul0]; rfl); (focus (first | (simp only [Value.cells, List.toList_toArray, qz23, Value.oneCell', and_self]; done) | (simp [Value.cells, Value.oneCell']; done))); refine vOps_nil ?_; (with_reducible apply seqC_normal; apply wC_seq e29_2; apply wC_any e29_3 a29_3); refine vOps_open (l := _ :: _) rfl ?_; (first | refine kOps_loadp (pre := ?_) (val := ?_) rfl rfl rfl rfl rfl ty24 ?_ ?_ ?_ | refine kOps_loadr (pre := ?_) (val := ?_) rfl rfl rfl rfl ty24 ?_ ?_ ?_); rotate_left 2; (simp only [qz1, splice_cl, splice_one, len_cl, qz2, zero_add, mod_eq_of_lt la, mod_eq_of_lt lb, partF, isAggD, qz0, if_false, if_true, reduceIte, agg_cl, toNat_natCast, reduceToNat, qz4, n_add_zero, reduceAdd, reduceMul, qz15, length_map]; rfl); (focus ((repeat' apply And.intro) <;> first | exact True.intro | omega | (with_reducible rfl) | assumption | exact ⟨_, rfl⟩ | (simp only [sda]; done) | (simp only [len_cl]; omega) | (simp [Value.cells, Value.oneCell']; done))); (first | refine kOps_loadp (pre := ?_) (val := ?_) rfl rfl rfl rfl rfl ty24 ?_ ?_ ?_ | refine kOps_loadr (pre := ?_) (val := ?_) rfl rfl rfl rfl ty24 ?_ ?_ ?_); rotate_left 2; (simp only [qz1, splice_cl, splice_one, len_cl, qz2, zero_add, mod_eq_of_lt la, mod_eq_of_lt lb, partF, isAggD, qz0, if_false, if_true, reduceIte, agg_cl, toNat_natCast, reduceToNat, qz4, n_add_zero, reduceAdd, reduceMul, qz15, length_map]; rfl); (focus ((repeat' apply And.intro) <;> first | exact True.intro | omega | (with_reducible rfl) | assumption | exact ⟨_, rfl⟩ | (simp only [sda]; done) | (simp only [len_cl]; omega) | (simp [Value.cells, Value.oneCell']; done))); refine kOps_callc (pre := ?_) (val := ?_) rfl rfl rfl rfl rfl ?_ ?_ ?_ ?_ ?_; rotate_left 2; (simp only [qz1, splice_cl, splice_one, len_cl, qz2, zero_add, mod_eq_of_lt la, mod_eq_of_lt lb, sGOrd, sMulMod, nrmC, qz9, qz8, qz25, ulv_ul, uv_u4, qz12, and_self, n_add_zero, zero_mod, n_sub_zero]; rfl); (focus (first | rfl | (simp only [closed, closedL, qz18, closedL_bv, closedL_cl, Bool.and_self, Bool.and_true]; done))); (focus (first | rfl | (simp only [closed, closedL, qz18, closedL_bv, closedL_cl, Bool.and_self, Bool.and_true]; done))); (focus ((repeat' apply And.intro) <;> first | exact True.intro | omega | (with_reducible rfl) | assumption | exact ⟨_, rfl⟩ | (simp only [sda]; done) | (simp only [len_cl]; omega) | (simp [Value.cells, Value.oneCell']; done))); refine kOps_callc (pre := ?_) (val := ?_) rfl rfl rfl rfl rfl ?_ ?_ ?_ ?_ ?_; rotate_left 2; (simp only [qz1, splice_cl, splice_one, len_cl, qz2, zero_add, mod_eq_of_lt la, mod_eq_of_lt lb, sGOrd, sMulMod, nrmC, qz9, qz8, qz25, ulv_ul, uv_u4, qz12, and_self, n_add_zero, zero_mod, n_sub_zero]; rfl); (focus (first | rfl | (simp only [closed, closedL, qz18, closedL_bv, closedL_cl, Bool.and_self, Bool.and_true]; done))); (focus (first | rfl | (simp only [closed, closedL, qz18, closedL_bv, closedL_cl, Bool.and_self, Bool.and_true]; done))); (focus ((repeat' apply And.intro) <;> first | exact True.intro | omega | (with_reducible rfl) | assumption | exact ⟨_, rfl⟩ | (simp only [sda]; done) | (simp only [len_cl]; omega) | (simp [Value.cells, Value.oneCell']; done))); refine kOps_store (cs' := ?_) rfl rfl rfl rfl rfl rfl rfl ty24 ?_ ?_ ?_; rotate_left 1; (simp only [qz1, splice_cl, splice_one, len_cl, qz2, zero_add, mod_eq_of_lt la, mod_eq_of_lt lb, qz14, isAggD, qz0, if_false, if_true, reduceIte, agg_cl, toNat_natCast, reduceToNat, qz4, n_add_zero, reduceAdd, reduceMul, qz15, length_map]; rfl); (focus (first | (simp only [qz14, length_cons, length_nil, len_cl, length_set, length_map, reduceAdd, zero_add, all_cons, all_nil, qz19, one_bv, PV.one, Value.oneCell', Bool.and_self, reduceLeDiff, Nat.le_refl, and_self, qz12]; done) | ((try simp only [qz14]); (focus ((repeat' apply And.intro) <;> first | exact True.intro | omega | (with_reducible rfl) | assumption | exact ⟨_, rfl⟩ | (simp only [sda]; done) | (simp only [len_cl]; omega) | (simp [Value.cells, Value.oneCell']; done)))))); refine vOps_nil ?_; refine And.intro (by kernel_rfl) ?_; (with_reducible apply seqC_normal; apply wC_ret e29_4)))
    all_goals (
    refine fin_c (p := ?_) (xs := [.cell 4 24]) (by simp) rfl ?_ ?_ ?_ ?_
    rotate_left 2
    · simp only [rsx, qz9, qz1, splice_cl, splice_one, len_cl, qz2, zero_add, mod_eq_of_lt la, mod_eq_of_lt lb, evalIn_tmp, evalIn_const, evalIn_func, qz7, Nat.reduceBEq, lit_ul0, lit_ul1, loadF, partF, qz3, qz6, qz16, qz12, and_self, Nat.le_refl, reduceLeDiff, isAggD, qz0, if_false, if_true, reduceIte, agg_cl, toNat_natCast, reduceToNat, qz4, n_add_zero, reduceAdd, reduceMul, qz15, length_map, ty22, ty24]; try rfl
    · first | rfl | (simp only [closed, closedL, qz18, closedL_cl, closedL_bv, Bool.and_self, Bool.and_true]; first | done | rfl)
    · rfl
    · simp only [rsx, qz9, qz1, splice_cl, splice_one, len_cl, qz2, zero_add, mod_eq_of_lt la, mod_eq_of_lt lb, evalIn_tmp, evalIn_const, evalIn_func, qz7, Nat.reduceBEq, lit_ul0, lit_ul1, loadF, partF, qz3, qz6, qz16, qz12, and_self, Nat.le_refl, reduceLeDiff, isAggD, qz0, if_false, if_true, reduceIte, agg_cl, toNat_natCast, reduceToNat, qz4, n_add_zero, reduceAdd, reduceMul, qz15, length_map, ty22, ty24]; try trivial)
  · exact hS.elim
noncomputable def B54 : Code := bodyOf Try.f54
theorem B54_eq : Try.f54.body = some B54 := by kernel_rfl
noncomputable def n54_0 := B54
noncomputable def n54_1 := codeAt B54 [0]
noncomputable def n54_2 := codeAt B54 [1]
noncomputable def n54_3 := codeAt B54 [1,0]
noncomputable def n54_4 := codeAt B54 [1,1]
noncomputable def n54_5 := codeAt B54 [1,1,0]
noncomputable def n54_6 := codeAt B54 [1,1,0,0]
noncomputable def n54_7 := codeAt B54 [1,1,0,1]
noncomputable def n54_8 := codeAt B54 [1,1,0,1,0]
noncomputable def n54_9 := codeAt B54 [1,1,0,1,1]
noncomputable def n54_10 := codeAt B54 [1,1,1]
noncomputable def n54_11 := codeAt B54 [1,1,1,0]
noncomputable def n54_12 := codeAt B54 [1,1,1,1]
theorem e54_0 : n54_0 = .seq n54_1 n54_2 := rfl
noncomputable def r54_1 := opsAt n54_1
theorem e54_1 : n54_1 = .region 0 (r54_1).toArray false := rfl
theorem e54_2 : n54_2 = .seq n54_3 n54_4 := rfl
noncomputable def r54_3 := opsAt n54_3
theorem e54_3 : n54_3 = .region 1 (r54_3).toArray true := rfl
theorem a54_3 : anyOk r54_3 = true := by decide +kernel
theorem e54_4 : n54_4 = .seq n54_5 n54_10 := rfl
theorem e54_5 : n54_5 = .seq n54_6 n54_7 := rfl
noncomputable def r54_6 := opsAt n54_6
theorem e54_6 : n54_6 = .region 2 (r54_6).toArray false := rfl
theorem e54_7 : n54_7 = .cond (.tmp 21) n54_8 n54_9 := rfl
noncomputable def r54_8 := opsAt n54_8
theorem e54_8 : n54_8 = .region 3 (r54_8).toArray false := rfl
theorem e54_9 : n54_9 = .skip := rfl
theorem e54_10 : n54_10 = .seq n54_11 n54_12 := rfl
noncomputable def r54_11 := opsAt n54_11
theorem e54_11 : n54_11 = .region 4 (r54_11).toArray false := rfl
theorem e54_12 : n54_12 = .ret := rfl
theorem f_wide_SubMod : PureOk Try.prog 54 sSubMod := by
  refine pureOk_of (c := n54_0) (Γ := conOf [(49, .pure sSub), (60, .pure sAdd), (65, .pure sReduce)]) (conOf_ok (conOf_one (S := .pure sSub) f_wide_Sub (conOf_one (S := .pure sAdd) f_wide_Add (conOf_one (S := .pure sReduce) f_wide_reduce (conOf_end))))) mixed Try.func54 B54_eq (by decide +kernel) Try.call54 ?_
  intro args hS
  unfold sSubMod at hS ⊢
  split at hS
  · refine ⟨by rw [Try.ntmps54]; simp, vC_sound ?_⟩
    rename_i xa xb xm
    obtain ⟨ha, hb, hm⟩ := hS
    obtain ⟨a, la, rfl⟩ := isU_out ha
    obtain ⟨b, lb, rfl⟩ := isU_out hb
    obtain ⟨m, lm, rfl⟩ := isU_out hm
    simp only [uv_u4, mod_eq_of_lt la, mod_eq_of_lt lb, mod_eq_of_lt lm]
    clear ha hb hm
    simp only [qz26, reduceAdd]
    have hrm := rem0_mod lm
    repeat' (first | (with_reducible first | apply seqC_normal | apply seqC_ret) | ((with_reducible apply wC_seq e54_0; apply kC_less [0, 1, 2] (c := n54_1)); (exact rfl); (exact rfl); (with_reducible apply wC_region e54_1); refine vOps_open (l := _ :: _) rfl ?_) | ((with_reducible apply wC_seq e54_2; apply kC_less [3, 4, 5, 6] (c := n54_3)); (exact rfl); (exact rfl); (with_reducible apply wC_any e54_3 a54_3); refine vOps_open (l := _ :: _) rfl ?_) | ((with_reducible apply wC_seq e54_4; apply wC_seq e54_5; apply wC_region e54_6); refine vOps_open (l := _ :: _) rfl ?_) | ((with_reducible apply kC_cond e54_7); (exact rfl); all_goals (intro hb; first | (cases hb; done) | cases hb | ((try simp only [dxe] at hb); try (exfalso; first | omega | exact hb trivial)))) | ((with_reducible apply kC_less [5, 6, 7] (c := n54_8)); (exact rfl); (exact rfl); (with_reducible apply wC_region e54_8); refine vOps_open (l := _ :: _) rfl ?_) | ((with_reducible apply wC_skip e54_9)) | ((with_reducible apply wC_seq e54_10; apply wC_region e54_11); refine vOps_open (l := _ :: _) rfl ?_) | ((with_reducible apply wC_ret e54_12)) | ((with_reducible apply vOps_nil); try (with_reducible refine And.intro (by kernel_rfl) ?_)) | (refine kOps_box (row := ?_) (n := ?_) rfl rfl rfl rfl rfl ?_ ?_ ?_ ?_; rotate_left 2; (simp only [↓length_append, ↓length_set, ↓length_cons, length_nil, reduceAdd, zero_add]; rfl); (simp only [qz1, splice_cl, splice_one, len_cl, mod_eq_of_lt la, mod_eq_of_lt lb, mod_eq_of_lt lm, hrm, if_true, if_false, qz24, reduceMod, qz5, eq_self, zero_mod, qz11, qz14]; rfl); (focus (first | rfl | exact one_cl _ _ | exact one_bv _ | (simp only [qz19, all_cons, all_nil, Bool.and_self, PV.one]; done) | (simp [PV.one, qz19, one_bv, Value.oneCell']; done)))) | (refine kOps_alloc (row := ?_) (n := ?_) rfl rfl rfl rfl ty24 ?_ ?_ ?_ ?_; rotate_left 2; (simp only [↓length_append, ↓length_set, ↓length_cons, length_nil, reduceAdd, zero_add]; rfl); (simp only [qz1, splice_cl, splice_one, len_cl, mod_eq_of_lt la, mod_eq_of_lt lb, mod_eq_of_lt lm, hrm, if_true, if_false, qz24, reduceMod, qz5, eq_self, zero_mod, qz11, Value.cells, qz9, List.toList_toArray, zero_cl4, zero_cl8, lit_ul0]; rfl); (focus (first | (simp only [Value.cells, List.toList_toArray, qz23, Value.oneCell', and_self]; done) | (simp [Value.cells, Value.oneCell']; done)))) | (refine kOps_build (pre := ?_) (val := ?_) rfl rfl rfl rfl ?_ ?_ ?_; rotate_left 2; (intro L; simp only [qz1, splice_cl, splice_one, len_cl, mod_eq_of_lt la, mod_eq_of_lt lb, mod_eq_of_lt lm, hrm, if_true, if_false, qz24, reduceMod, qz5, eq_self, zero_mod, qz11, buildF, fillB, zeroCells, Value.cells, qz9, List.toList_toArray, zero_cl4, lit_ul0, qz14, Int.cast_ofNat_Int, qz22, qz10, Int.reduceSub, qz3, qz0, length_cons, length_nil, qz6, n_add_zero, qz4, Nat.one_mul, reduceAdd, reduceMul, Nat.reduceSub, reduceLeDiff, Nat.reduceEqDiff, toNat_natCast, reduceToNat, reduceIte, isAggD, agg_cl, qz15, length_map, qz16, qz12, and_self, ty24, ty22]; rfl); (focus ((repeat' apply And.intro) <;> first | exact True.intro | omega | (with_reducible rfl) | assumption | exact ⟨_, rfl⟩ | (simp only [sda]; done) | (simp only [len_cl]; omega) | (simp [Value.cells, Value.oneCell']; done)))) | ((first | refine kOps_loadp (pre := ?_) (val := ?_) rfl rfl rfl rfl rfl ty24 ?_ ?_ ?_ | refine kOps_loadr (pre := ?_) (val := ?_) rfl rfl rfl rfl ty24 ?_ ?_ ?_); rotate_left 2; (simp only [qz1, splice_cl, splice_one, len_cl, mod_eq_of_lt la, mod_eq_of_lt lb, mod_eq_of_lt lm, hrm, if_true, if_false, qz24, reduceMod, qz5, eq_self, zero_mod, qz11, partF, isAggD, qz0, reduceIte, agg_cl, toNat_natCast, reduceToNat, qz4, n_add_zero, reduceAdd, reduceMul, qz15, length_map]; rfl); (focus ((repeat' apply And.intro) <;> first | exact True.intro | omega | (with_reducible rfl) | assumption | exact ⟨_, rfl⟩ | (simp only [sda]; done) | (simp only [len_cl]; omega) | (simp [Value.cells, Value.oneCell']; done)))) | (refine kOps_callc (pre := ?_) (val := ?_) rfl rfl rfl rfl rfl ?_ ?_ ?_ ?_ ?_; rotate_left 2; (simp only [qz1, splice_cl, splice_one, len_cl, mod_eq_of_lt la, mod_eq_of_lt lb, mod_eq_of_lt lm, hrm, if_true, if_false, qz24, reduceMod, qz5, eq_self, zero_mod, qz11, sSub, sAdd, sReduce, lit_ul0, lit_ul1, nrmC, qz9, qz8, qz25, ulv_ul, uv_u4, qz12, and_self, n_add_zero, n_sub_zero]; rfl); (focus (first | rfl | (simp only [closed, closedL, qz18, closedL_bv, closedL_cl, Bool.and_self, Bool.and_true]; done))); (focus (first | rfl | (simp only [closed, closedL, qz18, closedL_bv, closedL_cl, Bool.and_self, Bool.and_true]; done))); (focus ((repeat' apply And.intro) <;> first | exact True.intro | omega | (with_reducible rfl) | assumption | exact ⟨_, rfl⟩ | (simp only [sda]; done) | (simp only [len_cl]; omega) | (simp [Value.cells, Value.oneCell']; done)))) | (refine kOps_mv rfl rfl rfl rfl ?_) | (refine kOps_ext rfl rfl rfl rfl rfl ?_) | (refine kOps_store (cs' := ?_) rfl rfl rfl rfl rfl rfl rfl ty24 ?_ ?_ ?_; rotate_left 1; (simp only [qz1, splice_cl, splice_one, len_cl, mod_eq_of_lt la, mod_eq_of_lt lb, mod_eq_of_lt lm, hrm, if_true, if_false, qz24, reduceMod, qz5, eq_self, zero_mod, qz11, lit_ul0, lit_ul1, qz14, isAggD, qz0, reduceIte, agg_cl, toNat_natCast, reduceToNat, qz4, n_add_zero, reduceAdd, reduceMul, qz15, length_map]; rfl); (focus (first | (simp only [lit_ul0, lit_ul1, qz14, length_cons, length_nil, len_cl, length_set, length_map, reduceAdd, zero_add, all_cons, all_nil, qz19, one_bv, PV.one, Value.oneCell', Bool.and_self, reduceLeDiff, Nat.le_refl, and_self, qz12]; done) | ((try simp only [lit_ul0, lit_ul1, qz14]); (focus ((repeat' apply And.intro) <;> first | exact True.intro | omega | (with_reducible rfl) | assumption | exact ⟨_, rfl⟩ | (simp only [sda]; done) | (simp only [len_cl]; omega) | (simp [Value.cells, Value.oneCell']; done))))))) | (refine kOps_as rfl rfl rfl rfl ?_))
    all_goals (
      refine fin_c (p := ?_) (xs := [.cell 6 24]) (by simp) rfl ?_ ?_ ?_ ?_
      rotate_left 2
      · simp only [rsx, qz9, qz1, splice_cl, splice_one, len_cl, mod_eq_of_lt la, mod_eq_of_lt lb, mod_eq_of_lt lm, hrm, if_true, if_false, qz24, reduceMod, qz5, eq_self, zero_mod, qz11, evalIn_tmp, evalIn_const, evalIn_func, qz7, Nat.reduceBEq, lit_ul0, lit_ul1, loadF, partF, qz3, qz6, qz16, qz12, and_self, Nat.le_refl, reduceLeDiff, isAggD, qz0, reduceIte, agg_cl, toNat_natCast, reduceToNat, qz4, n_add_zero, zero_add, reduceAdd, reduceMul, qz15, length_map, ty22, ty24]; try rfl
      · first | rfl | (simp only [closed, closedL, qz18, closedL_cl, closedL_bv, Bool.and_self, Bool.and_true]; first | done | rfl)
      · by_cases hm : m = 0
        · simp only [rem0_zero hm] at *
          exact u4_congr (by omega)
        · have h1 := Nat.mod_lt a (show 0 < m by omega)
          have h2 := Nat.mod_lt b (show 0 < m by omega)
          rw [sub_red hm]
          simp only [rem0_pos hm] at *
          split
          · exact u4_congr (by omega)
          · exact u4_congr (by omega)
      · simp only [rsx, qz9, qz1, splice_cl, splice_one, len_cl, mod_eq_of_lt la, mod_eq_of_lt lb, mod_eq_of_lt lm, hrm, if_true, if_false, qz24, reduceMod, qz5, eq_self, zero_mod, qz11, evalIn_tmp, evalIn_const, evalIn_func, qz7, Nat.reduceBEq, lit_ul0, lit_ul1, loadF, partF, qz3, qz6, qz16, qz12, and_self, Nat.le_refl, reduceLeDiff, isAggD, qz0, reduceIte, agg_cl, toNat_natCast, reduceToNat, qz4, n_add_zero, zero_add, reduceAdd, reduceMul, qz15, length_map, ty22, ty24]; try trivial)
  · exact hS.elim
noncomputable def B30 : Code := bodyOf Try.f30
theorem B30_eq : Try.f30.body = some B30 := by kernel_rfl
noncomputable def n30_0 := B30
noncomputable def n30_1 := codeAt B30 [0]
noncomputable def n30_2 := codeAt B30 [1]
noncomputable def n30_3 := codeAt B30 [1,0]
noncomputable def n30_4 := codeAt B30 [1,1]
theorem e30_0 : n30_0 = .seq n30_1 n30_2 := rfl
noncomputable def r30_1 := opsAt n30_1
theorem e30_1 : n30_1 = .region 0 (r30_1).toArray false := rfl
theorem e30_2 : n30_2 = .seq n30_3 n30_4 := rfl
noncomputable def r30_3 := opsAt n30_3
theorem e30_3 : n30_3 = .region 1 (r30_3).toArray true := rfl
theorem a30_3 : anyOk r30_3 = true := by decide +kernel
theorem e30_4 : n30_4 = .ret := rfl
theorem f_group_NegScalar : PureOk Try.prog 30 sGNeS := by
  refine pureOk_of (c := n30_0) (Γ := conOf [(12, .pure sGOrd), (54, .pure sSubMod)]) (conOf_ok (conOf_one (S := .pure sGOrd) f_group_Order (conOf_one (S := .pure sSubMod) f_wide_SubMod (conOf_end)))) mixed Try.func30 B30_eq (by decide +kernel) Try.call30 ?_
  intro args hS
  unfold sGNeS at hS ⊢
  split at hS
  · refine ⟨by rw [Try.ntmps30]; simp, vC_sound ?_⟩
    rename_i xa
    have ha := hS
    obtain ⟨a, la, rfl⟩ := isU_out ha
    simp only [uv_u4, mod_eq_of_lt la]
    clear ha
    simp only [qz26, reduceAdd]
    repeat' (first | (with_reducible first | apply seqC_normal | apply seqC_ret) | ((with_reducible apply wC_seq e30_0; apply wC_region e30_1); refine vOps_open (l := _ :: _) rfl ?_; refine kOps_box (row := ?_) (n := ?_) rfl rfl rfl rfl rfl ?_ ?_ ?_ ?_; rotate_left 2; (simp only [↓length_append, ↓length_set, ↓length_cons, length_nil, reduceAdd, zero_add]; rfl); (simp only [qz1, splice_cl, splice_one, len_cl, qz2, zero_add, mod_eq_of_lt la, qz14]; rfl); (focus (first | rfl | exact one_cl _ _ | exact one_bv _ | (simp only [qz19, all_cons, all_nil, Bool.and_self, PV.one]; done) | (simp [PV.one, qz19, one_bv, Value.oneCell']; done))); refine kOps_alloc (row := ?_) (n := ?_) rfl rfl rfl rfl ty24 ?_ ?_ ?_ ?_; rotate_left 2; (simp only [↓length_append, ↓length_set, ↓length_cons, length_nil, reduceAdd, zero_add]; rfl); (simp only [qz1, splice_cl, splice_one, len_cl, qz2, zero_add, mod_eq_of_lt la, Value.cells, qz9, List.toList_toArray, zero_cl4, zero_cl8, lit_ul0]; rfl); (focus (first | (simp only [Value.cells, List.toList_toArray, qz23, Value.oneCell', and_self]; done) | (simp [Value.cells, Value.oneCell']; done))); refine vOps_nil ?_; (with_reducible apply seqC_normal; apply wC_seq e30_2; apply wC_any e30_3 a30_3); refine vOps_open (l := _ :: _) rfl ?_; refine kOps_build (pre := ?_) (val := ?_) rfl rfl rfl rfl ?_ ?_ ?_; rotate_left 2; (intro L; simp only [qz1, splice_cl, splice_one, len_cl, qz2, zero_add, mod_eq_of_lt la, buildF, fillB, zeroCells, Value.cells, qz9, List.toList_toArray, zero_cl4, lit_ul0, qz14, Int.cast_ofNat_Int, qz22, qz10, Int.reduceSub, qz3, qz0, length_cons, length_nil, qz6, n_add_zero, qz4, Nat.one_mul, reduceAdd, reduceMul, Nat.reduceSub, reduceLeDiff, Nat.reduceEqDiff, toNat_natCast, reduceToNat, reduceIte, if_true, if_false, isAggD, agg_cl, qz15, length_map, qz16, qz12, and_self, ty24, ty22]; rfl); (focus ((repeat' apply And.intro) <;> first | exact True.intro | omega | (with_reducible rfl) | assumption | exact ⟨_, rfl⟩ | (simp only [sda]; done) | (simp only [len_cl]; omega) | (simp [Value.cells, Value.oneCell']; done))); (first | refine kOps_loadp (pre := ?_) (val := ?_) rfl rfl rfl rfl rfl ty24 ?_ ?_ ?_ | refine kOps_loadr (pre := ?_) (val := ?_) rfl rfl rfl rfl ty24 ?_ ?_ ?_); rotate_left 2; (simp only [qz1, splice_cl, splice_one, len_cl, qz2, zero_add, mod_eq_of_lt la, partF, isAggD, qz0, if_false, if_true, reduceIte, agg_cl, toNat_natCast, reduceToNat, qz4, n_add_zero, reduceAdd, reduceMul, qz15, length_map]; rfl); (focus ((repeat' apply And.intro) <;> first | exact True.intro | omega | (with_reducible rfl) | assumption | exact ⟨_, rfl⟩ | (simp only [sda]; done) | (simp only [len_cl]; omega) | (simp [Value.cells, Value.oneCell']; done))); refine kOps_callc (pre := ?_) (val := ?_) rfl rfl rfl rfl rfl ?_ ?_ ?_ ?_ ?_; rotate_left 2; (simp only [qz1, splice_cl, splice_one, len_cl, qz2, zero_add, mod_eq_of_lt la, sGOrd, sSubMod, nrmC, qz9, qz8, qz25, ulv_ul, uv_u4, qz12, and_self, n_add_zero, zero_mod, n_sub_zero]; rfl); (focus (first | rfl | (simp only [closed, closedL, qz18, closedL_bv, closedL_cl, Bool.and_self, Bool.and_true]; done))); (focus (first | rfl | (simp only [closed, closedL, qz18, closedL_bv, closedL_cl, Bool.and_self, Bool.and_true]; done))); (focus ((repeat' apply And.intro) <;> first | exact True.intro | omega | (with_reducible rfl) | assumption | exact ⟨_, rfl⟩ | (simp only [sda]; done) | (simp only [len_cl]; omega) | (simp [Value.cells, Value.oneCell']; done))); refine kOps_callc (pre := ?_) (val := ?_) rfl rfl rfl rfl rfl ?_ ?_ ?_ ?_ ?_; rotate_left 2; (simp only [qz1, splice_cl, splice_one, len_cl, qz2, zero_add, mod_eq_of_lt la, sGOrd, sSubMod, nrmC, qz9, qz8, qz25, ulv_ul, uv_u4, qz12, and_self, n_add_zero, zero_mod, n_sub_zero]; rfl); (focus (first | rfl | (simp only [closed, closedL, qz18, closedL_bv, closedL_cl, Bool.and_self, Bool.and_true]; done))); (focus (first | rfl | (simp only [closed, closedL, qz18, closedL_bv, closedL_cl, Bool.and_self, Bool.and_true]; done))); (focus ((repeat' apply And.intro) <;> first | exact True.intro | omega | (with_reducible rfl) | assumption | exact ⟨_, rfl⟩ | (simp only [sda]; done) | (simp only [len_cl]; omega) | (simp [Value.cells, Value.oneCell']; done))); refine kOps_store (cs' := ?_) rfl rfl rfl rfl rfl rfl rfl ty24 ?_ ?_ ?_; rotate_left 1; (simp only [qz1, splice_cl, splice_one, len_cl, qz2, zero_add, mod_eq_of_lt la, qz14, isAggD, qz0, if_false, if_true, reduceIte, agg_cl, toNat_natCast, reduceToNat, qz4, n_add_zero, reduceAdd, reduceMul, qz15, length_map]; rfl); (focus (first | (simp only [qz14, length_cons, length_nil, len_cl, length_set, length_map, reduceAdd, zero_add, all_cons, all_nil, qz19, one_bv, PV.one, Value.oneCell', Bool.and_self, reduceLeDiff, Nat.le_refl, and_self, qz12]; done) | ((try simp only [qz14]); (focus ((repeat' apply And.intro) <;> first | exact True.intro | omega | (with_reducible rfl) | assumption | exact ⟨_, rfl⟩ | (simp only [sda]; done) | (simp only [len_cl]; omega) | (simp [Value.cells, Value.oneCell']; done)))))); refine vOps_nil ?_; refine And.intro (by kernel_rfl) ?_; (with_reducible apply seqC_normal; apply wC_ret e30_4)))
    all_goals (
    refine fin_c (p := ?_) (xs := [.cell 2 24]) (by simp) rfl ?_ ?_ ?_ ?_
    rotate_left 2
    · simp only [rsx, qz9, qz1, splice_cl, splice_one, len_cl, qz2, zero_add, mod_eq_of_lt la, evalIn_tmp, evalIn_const, evalIn_func, qz7, Nat.reduceBEq, lit_ul0, lit_ul1, loadF, partF, qz3, qz6, qz16, qz12, and_self, Nat.le_refl, reduceLeDiff, isAggD, qz0, if_false, if_true, reduceIte, agg_cl, toNat_natCast, reduceToNat, qz4, n_add_zero, reduceAdd, reduceMul, qz15, length_map, ty22, ty24]; try rfl
    · first | rfl | (simp only [closed, closedL, qz18, closedL_cl, closedL_bv, Bool.and_self, Bool.and_true]; first | done | rfl)
    · rfl
    · simp only [rsx, qz9, qz1, splice_cl, splice_one, len_cl, qz2, zero_add, mod_eq_of_lt la, evalIn_tmp, evalIn_const, evalIn_func, qz7, Nat.reduceBEq, lit_ul0, lit_ul1, loadF, partF, qz3, qz6, qz16, qz12, and_self, Nat.le_refl, reduceLeDiff, isAggD, qz0, if_false, if_true, reduceIte, agg_cl, toNat_natCast, reduceToNat, qz4, n_add_zero, reduceAdd, reduceMul, qz15, length_map, ty22, ty24]; try trivial)
  · exact hS.elim
end Go.Ab
