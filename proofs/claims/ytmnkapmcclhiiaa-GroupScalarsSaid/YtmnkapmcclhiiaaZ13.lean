import Derived.Test.YtmnkapmcclhiiaaQZ
import Derived.Test.YtmnkapmcclhiiaaME
import Derived.Test.YtmnkapmcclhiiaaTY
import Derived.Test.YtmnkapmcclhiiaaZ9
import Derived.Test.YtmnkapmcclhiiaaZ10
import Derived.Test.YtmnkapmcclhiiaaZ11
import Derived.Test.YtmnkapmcclhiiaaZ12
import Derived.Test.YtmnkapmcclhiiaaMX
import Derived.Test.YtmnkapmcclhiiaaMV
import Derived.Test.YtmnkapmcclhiiaaMY
namespace Go.Ab
open Go Go.Proofs
open Nat (reduceAdd mod_eq_of_lt zero_add reduceMul reduceLeDiff reduceMod zero_mod)
open List (length_cons length_nil all_nil all_cons length_map length_set length_append)
open Int (toNat_natCast reduceToNat)
set_option linter.unusedVariables false
set_option linter.unusedSimpArgs false
set_option maxRecDepth 8000
set_option maxHeartbeats 4000000
noncomputable def B34 : Code := bodyOf Try.f34
theorem B34_eq : Try.f34.body = some B34 := by kernel_rfl
noncomputable def n34_0 := B34
noncomputable def n34_1 := codeAt B34 [0]
noncomputable def n34_2 := codeAt B34 [1]
noncomputable def n34_3 := codeAt B34 [1,0]
noncomputable def n34_4 := codeAt B34 [1,0,0]
noncomputable def n34_5 := codeAt B34 [1,0,1]
noncomputable def n34_6 := codeAt B34 [1,0,1,0]
noncomputable def n34_7 := codeAt B34 [1,0,1,0,0]
noncomputable def n34_8 := codeAt B34 [1,0,1,0,1]
noncomputable def n34_9 := codeAt B34 [1,0,1,1]
noncomputable def n34_10 := codeAt B34 [1,1]
noncomputable def n34_11 := codeAt B34 [1,1,0]
noncomputable def n34_12 := codeAt B34 [1,1,1]
noncomputable def n34_13 := codeAt B34 [1,1,1,0]
noncomputable def n34_14 := codeAt B34 [1,1,1,1]
noncomputable def n34_15 := codeAt B34 [1,1,1,1,0]
noncomputable def n34_16 := codeAt B34 [1,1,1,1,0,0]
noncomputable def n34_17 := codeAt B34 [1,1,1,1,0,1]
noncomputable def n34_18 := codeAt B34 [1,1,1,1,0,1,0]
noncomputable def n34_19 := codeAt B34 [1,1,1,1,0,1,1]
noncomputable def n34_20 := codeAt B34 [1,1,1,1,1]
noncomputable def n34_21 := codeAt B34 [1,1,1,1,1,0]
noncomputable def n34_22 := codeAt B34 [1,1,1,1,1,1]
theorem e34_0 : n34_0 = .seq n34_1 n34_2 := rfl
noncomputable def r34_1 := opsAt n34_1
theorem e34_1 : n34_1 = .region 0 (r34_1).toArray false := rfl
theorem e34_2 : n34_2 = .seq n34_3 n34_10 := rfl
theorem e34_3 : n34_3 = .seq n34_4 n34_5 := rfl
noncomputable def r34_4 := opsAt n34_4
theorem e34_4 : n34_4 = .region 1 (r34_4).toArray false := rfl
theorem e34_5 : n34_5 = .cond (.tmp 10) n34_6 n34_9 := rfl
theorem e34_6 : n34_6 = .seq n34_7 n34_8 := rfl
noncomputable def r34_7 := opsAt n34_7
theorem e34_7 : n34_7 = .region 2 (r34_7).toArray false := rfl
theorem e34_8 : n34_8 = .ret := rfl
theorem e34_9 : n34_9 = .skip := rfl
theorem e34_10 : n34_10 = .seq n34_11 n34_12 := rfl
noncomputable def r34_11 := opsAt n34_11
theorem e34_11 : n34_11 = .region 3 (r34_11).toArray true := rfl
theorem a34_11 : anyOk r34_11 = true := by decide +kernel
theorem e34_12 : n34_12 = .seq n34_13 n34_14 := rfl
noncomputable def r34_13 := opsAt n34_13
theorem e34_13 : n34_13 = .region 4 (r34_13).toArray false := rfl
theorem e34_14 : n34_14 = .seq n34_15 n34_20 := rfl
theorem e34_15 : n34_15 = .seq n34_16 n34_17 := rfl
noncomputable def r34_16 := opsAt n34_16
theorem e34_16 : n34_16 = .region 5 (r34_16).toArray false := rfl
theorem g34_16_1 : (r34_16[1]?).bind (·.dst) = some 25 := by decide +kernel
theorem e34_17 : n34_17 = .cond (.tmp 30) n34_18 n34_19 := rfl
noncomputable def r34_18 := opsAt n34_18
theorem e34_18 : n34_18 = .region 6 (r34_18).toArray false := rfl
theorem e34_19 : n34_19 = .skip := rfl
theorem e34_20 : n34_20 = .seq n34_21 n34_22 := rfl
noncomputable def r34_21 := opsAt n34_21
theorem e34_21 : n34_21 = .region 7 (r34_21).toArray false := rfl
theorem e34_22 : n34_22 = .ret := rfl
theorem f_ref02_AddMod : PureOk Try.prog 34 sAddMod := by
  refine pureOk_of (c := n34_0) (Γ := conOf [(35, .pure sSub), (40, .pure sZero), (41, .pure sCmp), (55, .pure sReduce2), (56, .pure sAdd)]) (conOf_ok (conOf_one (S := .pure sSub) f_ref02_Sub (conOf_one (S := .pure sZero) f_ref02_Zero (conOf_one (S := .pure sCmp) f_ref02_Cmp (conOf_one (S := .pure sReduce2) f_ref02_reduce (conOf_one (S := .pure sAdd) f_ref02_Add (conOf_end))))))) mixed Try.func34 B34_eq (by decide +kernel) Try.call34 ?_
  intro args hS
  unfold sAddMod at hS ⊢
  split at hS
  · refine ⟨by rw [Try.ntmps34]; simp, vC_sound ?_⟩
    rename_i xa xb xm
    obtain ⟨ha, hb, hm⟩ := hS
    obtain ⟨a, la, rfl⟩ := isU_out ha
    obtain ⟨b, lb, rfl⟩ := isU_out hb
    obtain ⟨m, lm, rfl⟩ := isU_out hm
    simp only [uv_u4, mod_eq_of_lt la, mod_eq_of_lt lb, mod_eq_of_lt lm]
    clear ha hb hm
    simp only [qz26, reduceAdd]
    by_cases hm : m = 0
    · repeat' (first | (with_reducible first | apply seqC_normal | apply seqC_ret) | ((with_reducible apply wC_seq e34_0; apply kC_less [0, 1, 2] (c := n34_1)); (exact rfl); (exact rfl); (with_reducible apply wC_region e34_1); refine vOps_open (l := _ :: _) rfl ?_; refine kOps_box (row := ?_) (n := ?_) rfl rfl rfl rfl rfl ?_ ?_ ?_ ?_; rotate_left 2; (simp only [↓length_append, ↓length_set, ↓length_cons, length_nil, reduceAdd, zero_add]; rfl); (simp only [qz1, splice_cl, splice_one, len_cl, mod_eq_of_lt la, mod_eq_of_lt lb, hm, if_true, if_false, qz24, reduceMod, qz5, eq_self, zero_mod, qz11, qz14]; rfl); (focus (first | rfl | exact one_cl _ _ | exact one_bv _ | (simp only [qz19, all_cons, all_nil, Bool.and_self, PV.one]; done) | (simp [PV.one, qz19, one_bv, Value.oneCell']; done))); refine kOps_box (row := ?_) (n := ?_) rfl rfl rfl rfl rfl ?_ ?_ ?_ ?_; rotate_left 2; (simp only [↓length_append, ↓length_set, ↓length_cons, length_nil, reduceAdd, zero_add]; rfl); (simp only [qz1, splice_cl, splice_one, len_cl, mod_eq_of_lt la, mod_eq_of_lt lb, hm, if_true, if_false, qz24, reduceMod, qz5, eq_self, zero_mod, qz11, qz14]; rfl); (focus (first | rfl | exact one_cl _ _ | exact one_bv _ | (simp only [qz19, all_cons, all_nil, Bool.and_self, PV.one]; done) | (simp [PV.one, qz19, one_bv, Value.oneCell']; done))); refine kOps_box (row := ?_) (n := ?_) rfl rfl rfl rfl rfl ?_ ?_ ?_ ?_; rotate_left 2; (simp only [↓length_append, ↓length_set, ↓length_cons, length_nil, reduceAdd, zero_add]; rfl); (simp only [qz1, splice_cl, splice_one, len_cl, mod_eq_of_lt la, mod_eq_of_lt lb, hm, if_true, if_false, qz24, reduceMod, qz5, eq_self, zero_mod, qz11, qz14]; rfl); (focus (first | rfl | exact one_cl _ _ | exact one_bv _ | (simp only [qz19, all_cons, all_nil, Bool.and_self, PV.one]; done) | (simp [PV.one, qz19, one_bv, Value.oneCell']; done))); refine kOps_alloc (row := ?_) (n := ?_) rfl rfl rfl rfl ty24 ?_ ?_ ?_ ?_; rotate_left 2; (simp only [↓length_append, ↓length_set, ↓length_cons, length_nil, reduceAdd, zero_add]; rfl); (simp only [qz1, splice_cl, splice_one, len_cl, mod_eq_of_lt la, mod_eq_of_lt lb, hm, if_true, if_false, qz24, reduceMod, qz5, eq_self, zero_mod, qz11, Value.cells, qz9, List.toList_toArray, zero_cl4, zero_cl8, lit_ul0]; rfl); (focus (first | (simp only [Value.cells, List.toList_toArray, qz23, Value.oneCell', and_self]; done) | (simp [Value.cells, Value.oneCell']; done))); refine vOps_nil ?_; (with_reducible apply seqC_normal; apply wC_seq e34_2; apply wC_seq e34_3; apply wC_region e34_4); refine vOps_open (l := _ :: _) rfl ?_; (first | refine kOps_loadp (pre := ?_) (val := ?_) rfl rfl rfl rfl rfl ty24 ?_ ?_ ?_ | refine kOps_loadr (pre := ?_) (val := ?_) rfl rfl rfl rfl ty24 ?_ ?_ ?_); rotate_left 2; (simp only [qz1, splice_cl, splice_one, len_cl, mod_eq_of_lt la, mod_eq_of_lt lb, hm, if_true, if_false, qz24, reduceMod, qz5, eq_self, zero_mod, qz11, partF, isAggD, qz0, reduceIte, agg_cl, toNat_natCast, reduceToNat, qz4, n_add_zero, reduceAdd, reduceMul, qz15, length_map]; rfl); (focus ((repeat' apply And.intro) <;> first | exact True.intro | omega | (with_reducible rfl) | assumption | exact ⟨_, rfl⟩ | (simp only [sda]; done) | (simp only [len_cl]; omega) | (simp [Value.cells, Value.oneCell']; done))); refine kOps_callc (pre := ?_) (val := ?_) rfl rfl rfl rfl rfl ?_ ?_ ?_ ?_ ?_; rotate_left 2; (simp only [qz1, splice_cl, splice_one, len_cl, mod_eq_of_lt la, mod_eq_of_lt lb, hm, if_true, if_false, qz24, reduceMod, qz5, eq_self, zero_mod, qz11, sSub, sZero, sCmp, sReduce2, sAdd, nrmC, qz9, qz8, qz25, ulv_ul, uv_u4, qz12, and_self, n_add_zero, n_sub_zero]; rfl); (focus (first | rfl | (simp only [closed, closedL, qz18, closedL_bv, closedL_cl, Bool.and_self, Bool.and_true]; done))); (focus (first | rfl | (simp only [closed, closedL, qz18, closedL_bv, closedL_cl, Bool.and_self, Bool.and_true]; done))); (focus ((repeat' apply And.intro) <;> first | exact True.intro | omega | (with_reducible rfl) | assumption | exact ⟨_, rfl⟩ | (simp only [sda]; done) | (simp only [len_cl]; omega) | (simp [Value.cells, Value.oneCell']; done))); refine vOps_nil ?_; (with_reducible apply seqC_normal; apply kC_cond e34_5); (exact rfl); all_goals (intro hb; first | (cases hb; done) | cases hb | ((try simp only [dxe] at hb); try (exfalso; first | omega | exact hb trivial)))) | ((with_reducible apply wC_seq e34_6; apply wC_region e34_7); refine vOps_open (l := _ :: _) rfl ?_; (first | refine kOps_loadp (pre := ?_) (val := ?_) rfl rfl rfl rfl rfl ty24 ?_ ?_ ?_ | refine kOps_loadr (pre := ?_) (val := ?_) rfl rfl rfl rfl ty24 ?_ ?_ ?_); rotate_left 2; (simp only [qz1, splice_cl, splice_one, len_cl, mod_eq_of_lt la, mod_eq_of_lt lb, hm, if_true, if_false, qz24, reduceMod, qz5, eq_self, zero_mod, qz11, partF, isAggD, qz0, reduceIte, agg_cl, toNat_natCast, reduceToNat, qz4, n_add_zero, reduceAdd, reduceMul, qz15, length_map]; rfl); (focus ((repeat' apply And.intro) <;> first | exact True.intro | omega | (with_reducible rfl) | assumption | exact ⟨_, rfl⟩ | (simp only [sda]; done) | (simp only [len_cl]; omega) | (simp [Value.cells, Value.oneCell']; done))); refine kOps_store (cs' := ?_) rfl rfl rfl rfl rfl rfl rfl ty24 ?_ ?_ ?_; rotate_left 1; (simp only [qz1, splice_cl, splice_one, len_cl, mod_eq_of_lt la, mod_eq_of_lt lb, hm, if_true, if_false, qz24, reduceMod, qz5, eq_self, zero_mod, qz11, qz14, isAggD, qz0, reduceIte, agg_cl, toNat_natCast, reduceToNat, qz4, n_add_zero, reduceAdd, reduceMul, qz15, length_map]; rfl); (focus (first | (simp only [qz14, length_cons, length_nil, len_cl, length_set, length_map, reduceAdd, zero_add, all_cons, all_nil, qz19, one_bv, PV.one, Value.oneCell', Bool.and_self, reduceLeDiff, Nat.le_refl, and_self, qz12]; done) | ((try simp only [qz14]); (focus ((repeat' apply And.intro) <;> first | exact True.intro | omega | (with_reducible rfl) | assumption | exact ⟨_, rfl⟩ | (simp only [sda]; done) | (simp only [len_cl]; omega) | (simp [Value.cells, Value.oneCell']; done)))))); refine vOps_nil ?_; (with_reducible apply seqC_normal; apply wC_ret e34_8)) | ((with_reducible apply wC_skip e34_9)))
      all_goals (
        refine fin_c (p := ?_) (xs := [.cell 6 24]) (by simp) rfl ?_ ?_ ?_ ?_
        rotate_left 2
        · simp only [rsx, qz9, qz1, splice_cl, splice_one, len_cl, mod_eq_of_lt la, mod_eq_of_lt lb, hm, if_true, if_false, qz24, reduceMod, qz5, eq_self, zero_mod, qz11, evalIn_tmp, evalIn_const, evalIn_func, qz7, Nat.reduceBEq, lit_ul0, lit_ul1, loadF, partF, qz3, qz6, qz16, qz12, and_self, Nat.le_refl, reduceLeDiff, isAggD, qz0, reduceIte, agg_cl, toNat_natCast, reduceToNat, qz4, n_add_zero, zero_add, reduceAdd, reduceMul, qz15, length_map, ty3, ty22, ty24]; try rfl
        · first | rfl | (simp only [closed, closedL, qz18, closedL_cl, closedL_bv, Bool.and_self, Bool.and_true]; first | done | rfl)
        · rw [rem0_zero hm]
        · simp only [rsx, qz9, qz1, splice_cl, splice_one, len_cl, mod_eq_of_lt la, mod_eq_of_lt lb, hm, if_true, if_false, qz24, reduceMod, qz5, eq_self, zero_mod, qz11, evalIn_tmp, evalIn_const, evalIn_func, qz7, Nat.reduceBEq, lit_ul0, lit_ul1, loadF, partF, qz3, qz6, qz16, qz12, and_self, Nat.le_refl, reduceLeDiff, isAggD, qz0, reduceIte, agg_cl, toNat_natCast, reduceToNat, qz4, n_add_zero, zero_add, reduceAdd, reduceMul, qz15, length_map, ty3, ty22, ty24]; try trivial)
    · have h1 := Nat.mod_lt a (show 0 < m by omega)
      have h2 := Nat.mod_lt b (show 0 < m by omega)
      have la2 : a % m < 115792089237316195423570985008687907853269984665640564039457584007913129639936 := by omega
      have lb2 : b % m < 115792089237316195423570985008687907853269984665640564039457584007913129639936 := by omega
      repeat' (first | (with_reducible first | apply seqC_normal | apply seqC_ret) | ((with_reducible apply wC_seq e34_0; apply kC_less [0, 1, 2] (c := n34_1)); (exact rfl); (exact rfl); (with_reducible apply wC_region e34_1); refine vOps_open (l := _ :: _) rfl ?_) | ((with_reducible apply wC_seq e34_2; apply wC_seq e34_3; apply wC_region e34_4); refine vOps_open (l := _ :: _) rfl ?_) | ((with_reducible apply kC_cond e34_5); (exact rfl); all_goals (intro hb; first | (cases hb; done) | cases hb | ((try simp only [dxe] at hb); try (exfalso; first | omega | exact hb trivial)))) | ((with_reducible apply wC_seq e34_6; apply wC_region e34_7); refine vOps_open (l := _ :: _) rfl ?_) | ((with_reducible apply wC_ret e34_8)) | ((with_reducible apply wC_skip e34_9)) | ((with_reducible apply wC_seq e34_10; apply kC_less [3, 4, 5, 6] (c := n34_11)); (exact rfl); (exact rfl); (with_reducible apply wC_any e34_11 a34_11); refine vOps_open (l := _ :: _) rfl ?_) | ((with_reducible apply wC_seq e34_12; apply kC_less [3, 4, 5, 6] (c := n34_13)); (exact rfl); (exact rfl); (with_reducible apply wC_region e34_13); refine vOps_open (l := _ :: _) rfl ?_) | ((with_reducible apply wC_seq e34_14; apply wC_seq e34_15; apply kC_less [5, 6, 7, 8] (c := n34_16)); (exact rfl); (exact rfl); (with_reducible apply wC_region e34_16); refine vOps_open (l := _ :: _) rfl ?_) | ((with_reducible apply kC_cond e34_17); (exact rfl); all_goals (intro hb; first | (cases hb; done) | cases hb | ((try simp only [dxe] at hb); try (exfalso; first | omega | exact hb trivial)))) | ((with_reducible apply kC_less [5, 6, 7] (c := n34_18)); (exact rfl); (exact rfl); (with_reducible apply wC_region e34_18); refine vOps_open (l := _ :: _) rfl ?_) | ((with_reducible apply wC_skip e34_19)) | ((with_reducible apply wC_seq e34_20; apply wC_region e34_21); refine vOps_open (l := _ :: _) rfl ?_) | ((with_reducible apply wC_ret e34_22)) | ((with_reducible apply vOps_nil); try (with_reducible refine And.intro (by kernel_rfl) ?_)) | (refine kOps_gon (g := ?_) (p := ?_) rfl rfl ?_ ?_ ?_ ?_; rotate_left 2; (with_reducible first | exact g34_16_1); (exact rfl); (with_reducible rfl)) | (refine kOps_gofft (g := ?_) (p := ?_) rfl rfl ?_ ?_ ?_ ?_; rotate_left 2; (with_reducible first | exact g34_16_1); (exact rfl); (with_reducible rfl)) | (refine kOps_gofff (g := ?_) (p := ?_) rfl rfl ?_ ?_ ?_ ?_; rotate_left 2; (with_reducible first | exact g34_16_1); (exact rfl); (with_reducible rfl)) | (refine kOps_pickt rfl rfl rfl rfl ?_ rfl ?_; (with_reducible rfl)) | (refine kOps_pickf rfl rfl rfl rfl ?_ rfl ?_; (with_reducible rfl)) | (refine kOps_box (row := ?_) (n := ?_) rfl rfl rfl rfl rfl ?_ ?_ ?_ ?_; rotate_left 2; (simp only [↓length_append, ↓length_set, ↓length_cons, length_nil, reduceAdd, zero_add]; rfl); (simp only [qz1, splice_cl, splice_one, len_cl, mod_eq_of_lt la, mod_eq_of_lt lb, mod_eq_of_lt lm, mod_eq_of_lt la2, mod_eq_of_lt lb2, cmp_ge, ne_eq, hm, not_false_eq_true, if_true, if_false, qz24, reduceMod, qz5, eq_self, zero_mod, qz11, qz14]; rfl); (focus (first | rfl | exact one_cl _ _ | exact one_bv _ | (simp only [qz19, all_cons, all_nil, Bool.and_self, PV.one]; done) | (simp [PV.one, qz19, one_bv, Value.oneCell']; done)))) | (refine kOps_alloc (row := ?_) (n := ?_) rfl rfl rfl rfl ty24 ?_ ?_ ?_ ?_; rotate_left 2; (simp only [↓length_append, ↓length_set, ↓length_cons, length_nil, reduceAdd, zero_add]; rfl); (simp only [qz1, splice_cl, splice_one, len_cl, mod_eq_of_lt la, mod_eq_of_lt lb, mod_eq_of_lt lm, mod_eq_of_lt la2, mod_eq_of_lt lb2, cmp_ge, ne_eq, hm, not_false_eq_true, if_true, if_false, qz24, reduceMod, qz5, eq_self, zero_mod, qz11, Value.cells, qz9, List.toList_toArray, zero_cl4, zero_cl8, lit_ul0]; rfl); (focus (first | (simp only [Value.cells, List.toList_toArray, qz23, Value.oneCell', and_self]; done) | (simp [Value.cells, Value.oneCell']; done)))) | ((first | refine kOps_loadp (pre := ?_) (val := ?_) rfl rfl rfl rfl rfl ty24 ?_ ?_ ?_ | refine kOps_loadr (pre := ?_) (val := ?_) rfl rfl rfl rfl ty24 ?_ ?_ ?_); rotate_left 2; (simp only [qz1, splice_cl, splice_one, len_cl, mod_eq_of_lt la, mod_eq_of_lt lb, mod_eq_of_lt lm, mod_eq_of_lt la2, mod_eq_of_lt lb2, cmp_ge, ne_eq, hm, not_false_eq_true, if_true, if_false, qz24, reduceMod, qz5, eq_self, zero_mod, qz11, partF, isAggD, qz0, reduceIte, agg_cl, toNat_natCast, reduceToNat, qz4, n_add_zero, reduceAdd, reduceMul, qz15, length_map]; rfl); (focus ((repeat' apply And.intro) <;> first | exact True.intro | omega | (with_reducible rfl) | assumption | exact ⟨_, rfl⟩ | (simp only [sda]; done) | (simp only [len_cl]; omega) | (simp [Value.cells, Value.oneCell']; done)))) | (refine kOps_callc (pre := ?_) (val := ?_) rfl rfl rfl rfl rfl ?_ ?_ ?_ ?_ ?_; rotate_left 2; (simp only [qz1, splice_cl, splice_one, len_cl, mod_eq_of_lt la, mod_eq_of_lt lb, mod_eq_of_lt lm, mod_eq_of_lt la2, mod_eq_of_lt lb2, cmp_ge, ne_eq, hm, not_false_eq_true, if_true, if_false, qz24, reduceMod, qz5, eq_self, zero_mod, qz11, sSub, sZero, sCmp, sReduce2, sAdd, lit_ul0, lit_ul1, nrmC, qz9, qz8, qz25, ulv_ul, uv_u4, qz12, and_self, n_add_zero, n_sub_zero]; rfl); (focus (first | rfl | (simp only [closed, closedL, qz18, closedL_bv, closedL_cl, Bool.and_self, Bool.and_true]; done))); (focus (first | rfl | (simp only [closed, closedL, qz18, closedL_bv, closedL_cl, Bool.and_self, Bool.and_true]; done))); (focus ((repeat' apply And.intro) <;> first | exact True.intro | omega | (with_reducible rfl) | assumption | exact ⟨_, rfl⟩ | (simp only [sda]; done) | (simp only [len_cl]; omega) | (simp [Value.cells, Value.oneCell']; done)))) | (refine kOps_store (cs' := ?_) rfl rfl rfl rfl rfl rfl rfl ty24 ?_ ?_ ?_; rotate_left 1; (simp only [qz1, splice_cl, splice_one, len_cl, mod_eq_of_lt la, mod_eq_of_lt lb, mod_eq_of_lt lm, mod_eq_of_lt la2, mod_eq_of_lt lb2, cmp_ge, ne_eq, hm, not_false_eq_true, if_true, if_false, qz24, reduceMod, qz5, eq_self, zero_mod, qz11, lit_ul0, lit_ul1, qz14, isAggD, qz0, reduceIte, agg_cl, toNat_natCast, reduceToNat, qz4, n_add_zero, reduceAdd, reduceMul, qz15, length_map]; rfl); (focus (first | (simp only [lit_ul0, lit_ul1, qz14, length_cons, length_nil, len_cl, length_set, length_map, reduceAdd, zero_add, all_cons, all_nil, qz19, one_bv, PV.one, Value.oneCell', Bool.and_self, reduceLeDiff, Nat.le_refl, and_self, qz12]; done) | ((try simp only [lit_ul0, lit_ul1, qz14]); (focus ((repeat' apply And.intro) <;> first | exact True.intro | omega | (with_reducible rfl) | assumption | exact ⟨_, rfl⟩ | (simp only [sda]; done) | (simp only [len_cl]; omega) | (simp [Value.cells, Value.oneCell']; done))))))) | (refine kOps_mv rfl rfl rfl rfl ?_) | (refine kOps_ext rfl rfl rfl rfl rfl ?_) | (refine kOps_as rfl rfl rfl rfl ?_) | (refine kOps_bin (b := .geq) (pre := ?_) (val := ?_) rfl rfl rfl rfl rfl ?_ ?_ ?_; rotate_left 2; (intro L; simp only [qz1, splice_cl, splice_one, len_cl, mod_eq_of_lt la, mod_eq_of_lt lb, mod_eq_of_lt lm, mod_eq_of_lt la2, mod_eq_of_lt lb2, cmp_ge, ne_eq, hm, not_false_eq_true, if_true, if_false, qz24, reduceMod, qz5, eq_self, zero_mod, qz11, eql_u4 ty24 ty22, neq_u4 ty24 ty22, lit_ul0, lit_ul1, qz33, Int.reduceAdd, Int.reduceSub, Int.reduceMul, Int.reduceNeg, Int.sub_zero, Int.cast_ofNat_Int, Int.reduceLT, Int.reduceLE, Int.reduceEq, Nat.reduceLT, ty3]; (first | (rw [wrap_i64] <;> first | omega | rfl) | (rw [wrap_u8] <;> first | omega | rfl) | (rw [wrap_u16] <;> first | omega | rfl) | (rw [wrap_u32] <;> first | omega | rfl) | rfl)); exact trivial) | (refine vOps_gundef rfl rfl ?_ ?_; (focus (simp only [qz7, Nat.reduceBEq]; done)); simp only [putIn]) | (refine vOps_gpick (t := ?_) (val := ?_) rfl rfl ?_ rfl rfl ?_ ?_ ?_; rotate_left 2; (focus (simp only [qz7, Nat.reduceBEq]; done)); (simp only [evalIn_tmp, evalIn_const, qz7, Nat.reduceBEq]; rfl); (simp only [evalIn_tmp, evalIn_const, qz7, Nat.reduceBEq]; rfl)) | (refine vOps_pick (t := ?_) (val := ?_) rfl rfl rfl ?_ ?_ ?_; rotate_left 2; (simp only [evalIn_tmp, evalIn_const, qz7, Nat.reduceBEq]; rfl); (simp only [evalIn_tmp, evalIn_const, qz7, Nat.reduceBEq]; rfl)) | (refine vOps_fork (b := ?_) rfl rfl ?_ ?_ ?_; rotate_left 1; (simp only [qz7, Nat.reduceBEq]; rfl); all_goals (intro hb; simp only [hb]; (try simp only [qz27] at hb); try (exfalso; first | omega | exact hb trivial))) | (refine vOps_forkp (b := ?_) rfl ?_ ?_ ?_; rotate_left 1; (simp only [evalIn_tmp, qz7, Nat.reduceBEq]; rfl); all_goals (intro hb; simp only [hb]; (try simp only [qz27] at hb); try (exfalso; first | omega | exact hb trivial))))
      all_goals (
        refine fin_c (p := ?_) (xs := [.cell 6 24]) (by simp) rfl ?_ ?_ ?_ ?_
        rotate_left 2
        · simp only [rsx, qz9, qz1, splice_cl, splice_one, len_cl, mod_eq_of_lt la, mod_eq_of_lt lb, mod_eq_of_lt lm, mod_eq_of_lt la2, mod_eq_of_lt lb2, cmp_ge, ne_eq, hm, not_false_eq_true, if_true, if_false, qz24, reduceMod, qz5, eq_self, zero_mod, qz11, evalIn_tmp, evalIn_const, evalIn_func, qz7, Nat.reduceBEq, lit_ul0, lit_ul1, loadF, partF, qz3, qz6, qz16, qz12, and_self, Nat.le_refl, reduceLeDiff, isAggD, qz0, reduceIte, agg_cl, toNat_natCast, reduceToNat, qz4, n_add_zero, zero_add, reduceAdd, reduceMul, qz15, length_map, ty3, ty22, ty24]; try rfl
        · first | rfl | (simp only [closed, closedL, qz18, closedL_cl, closedL_bv, Bool.and_self, Bool.and_true]; first | done | rfl)
        · rw [add_red hm]
          split
          · exact u4_congr (by omega)
          · exact u4_congr (by omega)
        · simp only [rsx, qz9, qz1, splice_cl, splice_one, len_cl, mod_eq_of_lt la, mod_eq_of_lt lb, mod_eq_of_lt lm, mod_eq_of_lt la2, mod_eq_of_lt lb2, cmp_ge, ne_eq, hm, not_false_eq_true, if_true, if_false, qz24, reduceMod, qz5, eq_self, zero_mod, qz11, evalIn_tmp, evalIn_const, evalIn_func, qz7, Nat.reduceBEq, lit_ul0, lit_ul1, loadF, partF, qz3, qz6, qz16, qz12, and_self, Nat.le_refl, reduceLeDiff, isAggD, qz0, reduceIte, agg_cl, toNat_natCast, reduceToNat, qz4, n_add_zero, zero_add, reduceAdd, reduceMul, qz15, length_map, ty3, ty22, ty24]; try trivial)
  · exact hS.elim
noncomputable def B27 : Code := bodyOf Try.f27
theorem B27_eq : Try.f27.body = some B27 := by kernel_rfl
noncomputable def n27_0 := B27
noncomputable def n27_1 := codeAt B27 [0]
noncomputable def n27_2 := codeAt B27 [1]
noncomputable def n27_3 := codeAt B27 [1,0]
noncomputable def n27_4 := codeAt B27 [1,1]
theorem e27_0 : n27_0 = .seq n27_1 n27_2 := rfl
noncomputable def r27_1 := opsAt n27_1
theorem e27_1 : n27_1 = .region 0 (r27_1).toArray false := rfl
theorem e27_2 : n27_2 = .seq n27_3 n27_4 := rfl
noncomputable def r27_3 := opsAt n27_3
theorem e27_3 : n27_3 = .region 1 (r27_3).toArray true := rfl
theorem a27_3 : anyOk r27_3 = true := by decide +kernel
theorem e27_4 : n27_4 = .ret := rfl
theorem f_ref05_AddScalar : PureOk Try.prog 27 sGAdS := by
  refine pureOk_of (c := n27_0) (Γ := conOf [(13, .pure sGOrd), (34, .pure sAddMod)]) (conOf_ok (conOf_one (S := .pure sGOrd) f_ref05_Order (conOf_one (S := .pure sAddMod) f_ref02_AddMod (conOf_end)))) mixed Try.func27 B27_eq (by decide +kernel) Try.call27 ?_
  intro args hS
  unfold sGAdS at hS ⊢
  split at hS
  · refine ⟨by rw [Try.ntmps27]; simp, vC_sound ?_⟩
    rename_i xa xb
    obtain ⟨ha, hb⟩ := hS
    obtain ⟨a, la, rfl⟩ := isU_out ha
    obtain ⟨b, lb, rfl⟩ := isU_out hb
    simp only [uv_u4, mod_eq_of_lt la, mod_eq_of_lt lb]
    clear ha hb
    simp only [qz26, reduceAdd]
    repeat' (first | (with_reducible first | apply seqC_normal | apply seqC_ret) | ((with_reducible apply wC_seq e27_0; apply wC_region e27_1); refine vOps_open (l := _ :: _) rfl ?_; refine kOps_box (row := ?_) (n := ?_) rfl rfl rfl rfl rfl ?_ ?_ ?_ ?_; rotate_left 2; (simp only [↓length_append, ↓length_set, ↓length_cons, length_nil, reduceAdd, zero_add]; rfl); (simp only [qz1, splice_cl, splice_one, len_cl, qz2, zero_add, mod_eq_of_lt la, mod_eq_of_lt lb, qz14]; rfl); (focus (first | rfl | exact one_cl _ _ | exact one_bv _ | (simp only [qz19, all_cons, all_nil, Bool.and_self, PV.one]; done) | (simp [PV.one, qz19, one_bv, Value.oneCell']; done))); refine kOps_box (row := ?_) (n := ?_) rfl rfl rfl rfl rfl ?_ ?_ ?_ ?_; rotate_left 2; (simp only [↓length_append, ↓length_set, ↓length_cons, length_nil, reduceAdd, zero_add]; rfl); (simp only [qz1, splice_cl, splice_one, len_cl, qz2, zero_add, mod_eq_of_lt la, mod_eq_of_lt lb, qz14]; rfl); (focus (first | rfl | exact one_cl _ _ | exact one_bv _ | (simp only [qz19, all_cons, all_nil, Bool.and_self, PV.one]; done) | (simp [PV.one, qz19, one_bv, Value.oneCell']; done))); refine kOps_alloc (row := ?_) (n := ?_) rfl rfl rfl rfl ty24 ?_ ?_ ?_ ?_; rotate_left 2; (simp only [↓length_append, ↓length_set, ↓length_cons, length_nil, reduceAdd, zero_add]; rfl); (simp only [qz1, splice_cl, splice_one, len_cl, qz2, zero_add, mod_eq_of_lt la, mod_eq_of_lt lb, Value.cells, qz9, List.toList_toArray, zero_cl4, zero_cl8, lit_ul0]; rfl); (focus (first | (simp only [Value.cells, List.toList_toArray, qz23, Value.oneCell', and_self]; done) | (simp [Value.cells, Value.oneCell']; done))); refine vOps_nil ?_; (with_reducible apply seqC_normal; apply wC_seq e27_2; apply wC_any e27_3 a27_3); refine vOps_open (l := _ :: _) rfl ?_; (first | refine kOps_loadp (pre := ?_) (val := ?_) rfl rfl rfl rfl rfl ty24 ?_ ?_ ?_ | refine kOps_loadr (pre := ?_) (val := ?_) rfl rfl rfl rfl ty24 ?_ ?_ ?_); rotate_left 2; (simp only [qz1, splice_cl, splice_one, len_cl, qz2, zero_add, mod_eq_of_lt la, mod_eq_of_lt lb, partF, isAggD, qz0, if_false, if_true, reduceIte, agg_cl, toNat_natCast, reduceToNat, qz4, n_add_zero, reduceAdd, reduceMul, qz15, length_map]; rfl); (focus ((repeat' apply And.intro) <;> first | exact True.intro | omega | (with_reducible rfl) | assumption | exact ⟨_, rfl⟩ | (simp only [sda]; done) | (simp only [len_cl]; omega) | (simp [Value.cells, Value.oneCell']; done))); (first | refine kOps_loadp (pre := ?_) (val := ?_) rfl rfl rfl rfl rfl ty24 ?_ ?_ ?_ | refine kOps_loadr (pre := ?_) (val := ?_) rfl rfl rfl rfl ty24 ?_ ?_ ?_); rotate_left 2; (simp only [qz1, splice_cl, splice_one, len_cl, qz2, zero_add, mod_eq_of_lt la, mod_eq_of_lt lb, partF, isAggD, qz0, if_false, if_true, reduceIte, agg_cl, toNat_natCast, reduceToNat, qz4, n_add_zero, reduceAdd, reduceMul, qz15, length_map]; rfl); (focus ((repeat' apply And.intro) <;> first | exact True.intro | omega | (with_reducible rfl) | assumption | exact ⟨_, rfl⟩ | (simp only [sda]; done) | (simp only [len_cl]; omega) | (simp [Value.cells, Value.oneCell']; done))); refine kOps_callc (pre := ?_) (val := ?_) rfl rfl rfl rfl rfl ?_ ?_ ?_ ?_ ?_; rotate_left 2; (simp only [qz1, splice_cl, splice_one, len_cl, qz2, zero_add, mod_eq_of_lt la, mod_eq_of_lt lb, sGOrd, sAddMod, nrmC, qz9, qz8, qz25, ulv_ul, uv_u4, qz12, and_self, n_add_zero, zero_mod, n_sub_zero]; rfl); (focus (first | rfl | (simp only [closed, closedL, qz18, closedL_bv, closedL_cl, Bool.and_self, Bool.and_true]; done))); (focus (first | rfl | (simp only [closed, closedL, qz18, closedL_bv, closedL_cl, Bool.and_self, Bool.and_true]; done))); (focus ((repeat' apply And.intro) <;> first | exact True.intro | omega | (with_reducible rfl) | assumption | exact ⟨_, rfl⟩ | (simp only [sda]; done) | (simp only [len_cl]; omega) | (simp [Value.cells, Value.oneCell']; done))); refine kOps_callc (pre := ?_) (val := ?_) rfl rfl rfl rfl rfl ?_ ?_ ?_ ?_ ?_; rotate_left 2; (simp only [qz1, splice_cl, splice_one, len_cl, qz2, zero_add, mod_eq_of_lt la, mod_eq_of_lt lb, sGOrd, sAddMod, nrmC, qz9, qz8, qz25, ulv_ul, uv_u4, qz12, and_self, n_add_zero, zero_mod, n_sub_zero]; rfl); (focus (first | rfl | (simp only [closed, closedL, qz18, closedL_bv, closedL_cl, Bool.and_self, Bool.and_true]; done))); (focus (first | rfl | (simp only [closed, closedL, qz18, closedL_bv, closedL_cl, Bool.and_self, Bool.and_true]; done))); (focus ((repeat' apply And.intro) <;> first | exact True.intro | omega | (with_reducible rfl) | assumption | exact ⟨_, rfl⟩ | (simp only [sda]; done) | (simp only [len_cl]; omega) | (simp [Value.cells, Value.oneCell']; done))); refine kOps_store (cs' := ?_) rfl rfl rfl rfl rfl rfl rfl ty24 ?_ ?_ ?_; rotate_left 1; (simp only [qz1, splice_cl, splice_one, len_cl, qz2, zero_add, mod_eq_of_lt la, mod_eq_of_lt lb, qz14, isAggD, qz0, if_false, if_true, reduceIte, agg_cl, toNat_natCast, reduceToNat, qz4, n_add_zero, reduceAdd, reduceMul, qz15, length_map]; rfl); (focus (first | (simp only [qz14, length_cons, length_nil, len_cl, length_set, length_map, reduceAdd, zero_add, all_cons, all_nil, qz19, one_bv, PV.one, Value.oneCell', Bool.and_self, reduceLeDiff, Nat.le_refl, and_self, qz12]; done) | ((try simp only [qz14]); (focus ((repeat' apply And.intro) <;> first | exact True.intro | omega | (with_reducible rfl) | assumption | exact ⟨_, rfl⟩ | (simp only [sda]; done) | (simp only [len_cl]; omega) | (simp [Value.cells, Value.oneCell']; done)))))); refine vOps_nil ?_; refine And.intro (by kernel_rfl) ?_; (with_reducible apply seqC_normal; apply wC_ret e27_4)))
    all_goals (
    refine fin_c (p := ?_) (xs := [.cell 4 24]) (by simp) rfl ?_ ?_ ?_ ?_
    rotate_left 2
    · simp only [rsx, qz9, qz1, splice_cl, splice_one, len_cl, qz2, zero_add, mod_eq_of_lt la, mod_eq_of_lt lb, evalIn_tmp, evalIn_const, evalIn_func, qz7, Nat.reduceBEq, lit_ul0, lit_ul1, loadF, partF, qz3, qz6, qz16, qz12, and_self, Nat.le_refl, reduceLeDiff, isAggD, qz0, if_false, if_true, reduceIte, agg_cl, toNat_natCast, reduceToNat, qz4, n_add_zero, reduceAdd, reduceMul, qz15, length_map, ty22, ty24]; try rfl
    · first | rfl | (simp only [closed, closedL, qz18, closedL_cl, closedL_bv, Bool.and_self, Bool.and_true]; first | done | rfl)
    · rfl
    · simp only [rsx, qz9, qz1, splice_cl, splice_one, len_cl, qz2, zero_add, mod_eq_of_lt la, mod_eq_of_lt lb, evalIn_tmp, evalIn_const, evalIn_func, qz7, Nat.reduceBEq, lit_ul0, lit_ul1, loadF, partF, qz3, qz6, qz16, qz12, and_self, Nat.le_refl, reduceLeDiff, isAggD, qz0, if_false, if_true, reduceIte, agg_cl, toNat_natCast, reduceToNat, qz4, n_add_zero, reduceAdd, reduceMul, qz15, length_map, ty22, ty24]; try trivial)
  · exact hS.elim
end Go.Ab
