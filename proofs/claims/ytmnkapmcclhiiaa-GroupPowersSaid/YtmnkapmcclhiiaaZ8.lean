import Derived.Test.YtmnkapmcclhiiaaQZ
import Derived.Test.YtmnkapmcclhiiaaME
import Derived.Test.YtmnkapmcclhiiaaTY
import Derived.Test.YtmnkapmcclhiiaaZ5
import Derived.Test.YtmnkapmcclhiiaaZ7
import Derived.Test.YtmnkapmcclhiiaaMV
import Derived.Test.YtmnkapmcclhiiaaMY
import Derived.Test.YtmnkapmcclhiiaaMX
import Derived.Test.YtmnkapmcclhiiaaZ4
import Derived.Test.YtmnkapmcclhiiaaZ6
import Derived.Test.YtmnkapmcclhiiaaMP
namespace Go.Ab
open Go Go.Proofs
open Nat (reduceAdd mod_eq_of_lt zero_add reduceMul reduceLeDiff reduceMod reduceLT zero_mod reduceSub reduceEqDiff reduceDiv)
open List (length_cons length_nil all_nil all_cons length_map length_set length_append)
open Int (toNat_natCast reduceToNat cast_ofNat_Int)
set_option linter.unusedVariables false
set_option linter.unusedSimpArgs false
set_option maxRecDepth 8000
set_option maxHeartbeats 4000000
noncomputable def B17 : Code := bodyOf Try.f17
theorem B17_eq : Try.f17.body = some B17 := by kernel_rfl
noncomputable def n17_0 := B17
noncomputable def n17_1 := codeAt B17 [0]
noncomputable def n17_2 := codeAt B17 [1]
noncomputable def n17_3 := codeAt B17 [1,0]
noncomputable def n17_4 := codeAt B17 [1,1]
theorem e17_0 : n17_0 = .seq n17_1 n17_2 := rfl
noncomputable def r17_1 := opsAt n17_1
theorem e17_1 : n17_1 = .region 0 (r17_1).toArray false := rfl
theorem e17_2 : n17_2 = .seq n17_3 n17_4 := rfl
noncomputable def r17_3 := opsAt n17_3
theorem e17_3 : n17_3 = .region 1 (r17_3).toArray true := rfl
theorem a17_3 : anyOk r17_3 = true := by decide +kernel
theorem e17_4 : n17_4 = .ret := rfl
theorem f_ref05_Mul : PureOk Try.prog 17 sGMul := by
  refine pureOk_of (c := n17_0) (Γ := conOf [(11, .pure sGMod), (46, .pure sMulMod)]) (conOf_ok (conOf_one (S := .pure sGMod) f_ref05_Modulus (conOf_one (S := .pure sMulMod) f_ref02_MulMod (conOf_end)))) mixed Try.func17 B17_eq (by decide +kernel) Try.call17 ?_
  intro args hS
  unfold sGMul at hS ⊢
  split at hS
  · refine ⟨by rw [Try.ntmps17]; simp, vC_sound ?_⟩
    rename_i xa xb
    obtain ⟨ha, hb⟩ := hS
    obtain ⟨a, la, rfl⟩ := isU_out ha
    obtain ⟨b, lb, rfl⟩ := isU_out hb
    simp only [uv_u4, mod_eq_of_lt la, mod_eq_of_lt lb]
    clear ha hb
    simp only [qz26, reduceAdd]
    repeat' (first | (with_reducible first | apply seqC_normal | apply seqC_ret) | ((with_reducible apply wC_seq e17_0; apply wC_region e17_1); refine vOps_open (l := _ :: _) rfl ?_; refine kOps_box (row := ?_) (n := ?_) rfl rfl rfl rfl rfl ?_ ?_ ?_ ?_; rotate_left 2; (simp only [↓length_append, ↓length_set, ↓length_cons, length_nil, reduceAdd, zero_add]; rfl); (simp only [qz1, splice_cl, splice_one, len_cl, qz2, zero_add, mod_eq_of_lt la, mod_eq_of_lt lb, qz14]; rfl); (focus (first | rfl | exact one_cl _ _ | exact one_bv _ | (simp only [qz19, all_cons, all_nil, Bool.and_self, PV.one]; done) | (simp [PV.one, qz19, one_bv, Value.oneCell']; done))); refine kOps_box (row := ?_) (n := ?_) rfl rfl rfl rfl rfl ?_ ?_ ?_ ?_; rotate_left 2; (simp only [↓length_append, ↓length_set, ↓length_cons, length_nil, reduceAdd, zero_add]; rfl); (simp only [qz1, splice_cl, splice_one, len_cl, qz2, zero_add, mod_eq_of_lt la, mod_eq_of_lt lb, qz14]; rfl); (focus (first | rfl | exact one_cl _ _ | exact one_bv _ | (simp only [qz19, all_cons, all_nil, Bool.and_self, PV.one]; done) | (simp [PV.one, qz19, one_bv, Value.oneCell']; done))); refine kOps_alloc (row := ?_) (n := ?_) rfl rfl rfl rfl ty24 ?_ ?_ ?_ ?_; rotate_left 2; (simp only [↓length_append, ↓length_set, ↓length_cons, length_nil, reduceAdd, zero_add]; rfl); (simp only [qz1, splice_cl, splice_one, len_cl, qz2, zero_add, mod_eq_of_lt la, mod_eq_of_lt lb, Value.cells, qz9, List.toList_toArray, zero_cl4, zero_cl8, lit_ul0]; rfl); (focus (first | (simp only [Value.cells, List.toList_toArray, qz23, Value.oneCell', and_self]; done) | (simp [Value.cells, Value.oneCell']; done))); refine vOps_nil ?_; (with_reducible apply seqC_normal; apply wC_seq e17_2; apply wC_any e17_3 a17_3); refine vOps_open (l := _ :: _) rfl ?_; (first | refine kOps_loadp (pre := ?_) (val := ?_) rfl rfl rfl rfl rfl ty24 ?_ ?_ ?_ | refine kOps_loadr (pre := ?_) (val := ?_) rfl rfl rfl rfl ty24 ?_ ?_ ?_); rotate_left 2; (simp only [qz1, splice_cl, splice_one, len_cl, qz2, zero_add, mod_eq_of_lt la, mod_eq_of_lt lb, partF, isAggD, qz0, if_false, if_true, reduceIte, agg_cl, toNat_natCast, reduceToNat, qz4, n_add_zero, reduceAdd, reduceMul, qz15, length_map]; rfl); (focus ((repeat' apply And.intro) <;> first | exact True.intro | omega | (with_reducible rfl) | assumption | exact ⟨_, rfl⟩ | (simp only [sda]; done) | (simp only [len_cl]; omega) | (simp [Value.cells, Value.oneCell']; done))); (first | refine kOps_loadp (pre := ?_) (val := ?_) rfl rfl rfl rfl rfl ty24 ?_ ?_ ?_ | refine kOps_loadr (pre := ?_) (val := ?_) rfl rfl rfl rfl ty24 ?_ ?_ ?_); rotate_left 2; (simp only [qz1, splice_cl, splice_one, len_cl, qz2, zero_add, mod_eq_of_lt la, mod_eq_of_lt lb, partF, isAggD, qz0, if_false, if_true, reduceIte, agg_cl, toNat_natCast, reduceToNat, qz4, n_add_zero, reduceAdd, reduceMul, qz15, length_map]; rfl); (focus ((repeat' apply And.intro) <;> first | exact True.intro | omega | (with_reducible rfl) | assumption | exact ⟨_, rfl⟩ | (simp only [sda]; done) | (simp only [len_cl]; omega) | (simp [Value.cells, Value.oneCell']; done))); refine kOps_callc (pre := ?_) (val := ?_) rfl rfl rfl rfl rfl ?_ ?_ ?_ ?_ ?_; rotate_left 2; (simp only [qz1, splice_cl, splice_one, len_cl, qz2, zero_add, mod_eq_of_lt la, mod_eq_of_lt lb, sGMod, sMulMod, nrmC, qz9, qz8, qz25, ulv_ul, uv_u4, qz12, and_self, n_add_zero, zero_mod, n_sub_zero]; rfl); (focus (first | rfl | (simp only [closed, closedL, qz18, closedL_bv, closedL_cl, Bool.and_self, Bool.and_true]; done))); (focus (first | rfl | (simp only [closed, closedL, qz18, closedL_bv, closedL_cl, Bool.and_self, Bool.and_true]; done))); (focus ((repeat' apply And.intro) <;> first | exact True.intro | omega | (with_reducible rfl) | assumption | exact ⟨_, rfl⟩ | (simp only [sda]; done) | (simp only [len_cl]; omega) | (simp [Value.cells, Value.oneCell']; done))); refine kOps_callc (pre := ?_) (val := ?_) rfl rfl rfl rfl rfl ?_ ?_ ?_ ?_ ?_; rotate_left 2; (simp only [qz1, splice_cl, splice_one, len_cl, qz2, zero_add, mod_eq_of_lt la, mod_eq_of_lt lb, sGMod, sMulMod, nrmC, qz9, qz8, qz25, ulv_ul, uv_u4, qz12, and_self, n_add_zero, zero_mod, n_sub_zero]; rfl); (focus (first | rfl | (simp only [closed, closedL, qz18, closedL_bv, closedL_cl, Bool.and_self, Bool.and_true]; done))); (focus (first | rfl | (simp only [closed, closedL, qz18, closedL_bv, closedL_cl, Bool.and_self, Bool.and_true]; done))); (focus ((repeat' apply And.intro) <;> first | exact True.intro | omega | (with_reducible rfl) | assumption | exact ⟨_, rfl⟩ | (simp only [sda]; done) | (simp only [len_cl]; omega) | (simp [Value.cells, Value.oneCell']; done))); refine kOps_store (cs' := ?_) rfl rfl rfl rfl rfl rfl rfl ty24 ?_ ?_ ?_; rotate_left 1; (simp only [qz1, splice_cl, splice_one, len_cl, qz2, zero_add, mod_eq_of_lt la, mod_eq_of_lt lb, qz14, isAggD, qz0, if_false, if_true, reduceIte, agg_cl, toNat_natCast, reduceToNat, qz4, n_add_zero, reduceAdd, reduceMul, qz15, length_map]; rfl); (focus (first | (simp only [qz14, length_cons, length_nil, len_cl, length_set, length_map, reduceAdd, zero_add, all_cons, all_nil, qz19, one_bv, PV.one, Value.oneCell', Bool.and_self, reduceLeDiff, Nat.le_refl, and_self, qz12]; done) | ((try simp only [qz14]); (focus ((repeat' apply And.intro) <;> first | exact True.intro | omega | (with_reducible rfl) | assumption | exact ⟨_, rfl⟩ | (simp only [sda]; done) | (simp only [len_cl]; omega) | (simp [Value.cells, Value.oneCell']; done)))))); refine vOps_nil ?_; refine And.intro (by kernel_rfl) ?_; (with_reducible apply seqC_normal; apply wC_ret e17_4)))
    all_goals (
    refine fin_c (p := ?_) (xs := [.cell 4 24]) (by simp) rfl ?_ ?_ ?_ ?_
    rotate_left 2
    · simp only [rsx, qz9, qz1, splice_cl, splice_one, len_cl, qz2, zero_add, mod_eq_of_lt la, mod_eq_of_lt lb, evalIn_tmp, evalIn_const, evalIn_func, qz7, Nat.reduceBEq, lit_ul0, lit_ul1, loadF, partF, qz3, qz6, qz16, qz12, and_self, Nat.le_refl, reduceLeDiff, isAggD, qz0, if_false, if_true, reduceIte, agg_cl, toNat_natCast, reduceToNat, qz4, n_add_zero, reduceAdd, reduceMul, qz15, length_map, ty22, ty24]; try rfl
    · first | rfl | (simp only [closed, closedL, qz18, closedL_cl, closedL_bv, Bool.and_self, Bool.and_true]; first | done | rfl)
    · rfl
    · simp only [rsx, qz9, qz1, splice_cl, splice_one, len_cl, qz2, zero_add, mod_eq_of_lt la, mod_eq_of_lt lb, evalIn_tmp, evalIn_const, evalIn_func, qz7, Nat.reduceBEq, lit_ul0, lit_ul1, loadF, partF, qz3, qz6, qz16, qz12, and_self, Nat.le_refl, reduceLeDiff, isAggD, qz0, if_false, if_true, reduceIte, agg_cl, toNat_natCast, reduceToNat, qz4, n_add_zero, reduceAdd, reduceMul, qz15, length_map, ty22, ty24]; try trivial)
  · exact hS.elim
noncomputable def B64 : Code := bodyOf Try.f64
theorem B64_eq : Try.f64.body = some B64 := by kernel_rfl
noncomputable def n64_0 := B64
noncomputable def n64_1 := codeAt B64 [0]
noncomputable def n64_2 := codeAt B64 [1]
noncomputable def n64_3 := codeAt B64 [1,0]
noncomputable def n64_4 := codeAt B64 [1,0,0]
noncomputable def n64_5 := codeAt B64 [1,0,1]
noncomputable def n64_6 := codeAt B64 [1,0,1,0]
noncomputable def n64_7 := codeAt B64 [1,0,1,0,0]
noncomputable def n64_8 := codeAt B64 [1,0,1,0,0,0]
noncomputable def n64_9 := codeAt B64 [1,0,1,0,0,0,0]
noncomputable def n64_10 := codeAt B64 [1,0,1,0,0,0,1]
noncomputable def n64_11 := codeAt B64 [1,0,1,0,0,0,1,0]
noncomputable def n64_12 := codeAt B64 [1,0,1,0,0,0,1,1]
noncomputable def n64_13 := codeAt B64 [1,0,1,0,0,1]
noncomputable def n64_14 := codeAt B64 [1,0,1,0,0,1,0]
noncomputable def n64_15 := codeAt B64 [1,0,1,0,0,1,0,0]
noncomputable def n64_16 := codeAt B64 [1,0,1,0,0,1,0,0,0]
noncomputable def n64_17 := codeAt B64 [1,0,1,0,0,1,0,0,1]
noncomputable def n64_18 := codeAt B64 [1,0,1,0,0,1,0,0,1,0]
noncomputable def n64_19 := codeAt B64 [1,0,1,0,0,1,0,0,1,0,0]
noncomputable def n64_20 := codeAt B64 [1,0,1,0,0,1,0,0,1,0,1]
noncomputable def n64_21 := codeAt B64 [1,0,1,0,0,1,0,0,1,1]
noncomputable def n64_22 := codeAt B64 [1,0,1,0,0,1,1]
noncomputable def n64_23 := codeAt B64 [1,1]
noncomputable def n64_24 := codeAt B64 [1,1,0]
noncomputable def n64_25 := codeAt B64 [1,1,1]
theorem e64_0 : n64_0 = .seq n64_1 n64_2 := rfl
noncomputable def r64_1 := opsAt n64_1
theorem e64_1 : n64_1 = .region 0 (r64_1).toArray false := rfl
theorem e64_2 : n64_2 = .seq n64_3 n64_23 := rfl
theorem e64_3 : n64_3 = .seq n64_4 n64_5 := rfl
noncomputable def r64_4 := opsAt n64_4
theorem e64_4 : n64_4 = .region 1 (r64_4).toArray false := rfl
theorem e64_5 : n64_5 = .block 0 n64_6 := rfl
theorem e64_6 : n64_6 = .loop n64_7 := rfl
theorem e64_7 : n64_7 = .seq n64_8 n64_13 := rfl
theorem e64_8 : n64_8 = .seq n64_9 n64_10 := rfl
noncomputable def r64_9 := opsAt n64_9
theorem e64_9 : n64_9 = .region 2 (r64_9).toArray false := rfl
theorem e64_10 : n64_10 = .cond (.tmp 5) n64_11 n64_12 := rfl
theorem e64_11 : n64_11 = .skip := rfl
theorem e64_12 : n64_12 = .exit 0 := rfl
theorem e64_13 : n64_13 = .seq n64_14 n64_22 := rfl
theorem e64_14 : n64_14 = .block 1 n64_15 := rfl
theorem e64_15 : n64_15 = .seq n64_16 n64_17 := rfl
noncomputable def r64_16 := opsAt n64_16
theorem e64_16 : n64_16 = .region 4 (r64_16).toArray false := rfl
theorem e64_17 : n64_17 = .cond (.tmp 10) n64_18 n64_21 := rfl
theorem e64_18 : n64_18 = .seq n64_19 n64_20 := rfl
noncomputable def r64_19 := opsAt n64_19
theorem e64_19 : n64_19 = .region 5 (r64_19).toArray false := rfl
theorem e64_20 : n64_20 = .ret := rfl
theorem e64_21 : n64_21 = .skip := rfl
noncomputable def r64_22 := opsAt n64_22
theorem e64_22 : n64_22 = .region 3 (r64_22).toArray false := rfl
theorem e64_23 : n64_23 = .seq n64_24 n64_25 := rfl
noncomputable def r64_24 := opsAt n64_24
theorem e64_24 : n64_24 = .region 6 (r64_24).toArray false := rfl
theorem e64_25 : n64_25 = .ret := rfl
theorem f_ref02_Len : PureOk Try.prog 64 sLen := by
  refine pureOk_of (c := n64_0) (Γ := conOf [(58, .pure sBit)]) (conOf_ok (conOf_one (S := .pure sBit) f_ref02_Bit (conOf_end))) mixed Try.func64 B64_eq (by decide +kernel) Try.call64 ?_
  intro args hS
  unfold sLen at hS ⊢
  split at hS
  · refine ⟨by rw [Try.ntmps64]; simp, vC_sound ?_⟩
    rename_i xa
    have ha := hS
    obtain ⟨a, la, rfl⟩ := isU_out ha
    simp only [uv_u4, mod_eq_of_lt la]
    clear ha
    simp only [qz26, reduceAdd]
    repeat' (first | (with_reducible first | apply seqC_normal | apply blockC_normal | apply seqC_exit | apply blockC_hit | apply seqC_ret | apply blockC_ret | apply loopC_ret | apply loopC_exit) | ((with_reducible apply blockC_miss); (exact rfl)) | ((with_reducible apply wC_seq e64_0; apply wC_region e64_1); refine vOps_open (l := _ :: _) rfl ?_; refine kOps_box (row := ?_) (n := ?_) rfl rfl rfl rfl rfl ?_ ?_ ?_ ?_; rotate_left 2; (simp only [↓length_append, ↓length_set, ↓length_cons, length_nil, reduceAdd, zero_add]; rfl); (simp only [qz1, splice_cl, splice_one, len_cl, mod_eq_of_lt la, toNat_natCast, qz14]; rfl); (focus (first | rfl | exact one_cl _ _ | exact one_bv _ | (simp only [qz19, all_cons, all_nil, Bool.and_self, PV.one]; done) | (simp [PV.one, qz19, one_bv, Value.oneCell']; done))); refine kOps_as rfl rfl rfl rfl ?_; refine vOps_nil ?_; (with_reducible apply seqC_normal; apply wC_seq e64_2; apply wC_seq e64_3; apply wC_region e64_4); refine vOps_open (l := _ :: _) rfl ?_; refine kOps_as rfl rfl rfl rfl ?_; refine vOps_nil ?_; (with_reducible apply seqC_normal; apply wC_block e64_5)) | ((with_reducible apply wC_seq e64_23; apply wC_region e64_24); refine vOps_open (l := _ :: _) rfl ?_; refine kOps_as rfl rfl rfl rfl ?_; refine vOps_nil ?_; (with_reducible apply seqC_normal; apply wC_ret e64_25)))
    refine wC_loopI (ι := {t : Nat // t ≤ 256 ∧ a < 2 ^ t}) e64_6 (fun t => ([(1, .ptr 0 0), (3, .lit (.int .i64 ((t.1 : Int) - 1)))], [.cells (cl 4 a)])) (fun t => t.1) ⟨256, Nat.le_refl _, by rw [show (2 : Nat) ^ 256 = 115792089237316195423570985008687907853269984665640564039457584007913129639936 by decide]; exact la⟩ [0] ?_ ?_
    · show Weak _ _ _ _ _ _
      refine weak_mk (fun i h => absurd h (Nat.not_lt_zero i)) (by decide) (by simp) ?_ ?_
      · simp only [RenRows, qz16, qz6, qz3, qz28, closedL_bv, closedL_cl, qz12]
        all_goals (trivial)
      · simp only [RenEnv, qz7, Nat.reduceBEq]
        (repeat' apply And.intro) <;> first | trivial | exact ren_keep rfl | exact ren_keep (closed_u4 _) | (refine ren_int ?_; omega) | (refine ren_own rfl ?_; first | rfl | omega | (simp; done) | (omega; done)) | (refine ren_int ?_; omega; done) | (refine ren_int ?_; simp; done) | (refine ren_keep ?_; simp only [closed, closedL_bv, closedL_rows, closedL_cl]; done) | (refine ren_ptr rfl; done)
    · rintro ⟨t, ht, hlt⟩
      dsimp only
      rcases t with _ | m
      · simp only [show ((0 : Nat) : Int) - 1 = -1 from rfl]
        have ha0 : a = 0 := by rw [Nat.pow_zero] at hlt; omega
        subst ha0
        repeat' (first | (with_reducible first | apply seqC_normal | apply blockC_normal | apply seqC_exit | apply blockC_hit | apply seqC_ret | apply blockC_ret | apply loopC_ret | apply loopC_exit) | ((with_reducible apply blockC_miss); (exact rfl)) | ((with_reducible apply wC_seq e64_7; apply wC_seq e64_8; apply wC_region e64_9); refine vOps_open (l := _ :: _) rfl ?_; refine kOps_mv rfl rfl rfl rfl ?_; refine kOps_bin (b := .geq) (pre := ?_) (val := ?_) rfl rfl rfl rfl rfl ?_ ?_ ?_; rotate_left 2; (intro L; simp only [qz1, splice_cl, splice_one, len_cl, eql_u4 ty24 ty22, neq_u4 ty24 ty22, qz33, Int.reduceAdd, Int.reduceSub, Int.reduceMul, Int.reduceNeg, Int.sub_zero, cast_ofNat_Int, ne_eq, Int.reduceLT, Int.reduceLE, Int.reduceEq, reduceMod, reduceLT, qz5, ty3]; (first | (rw [wrap_i64] <;> first | omega | rfl) | (rw [wrap_u8] <;> first | omega | rfl) | (rw [wrap_u16] <;> first | omega | rfl) | (rw [wrap_u32] <;> first | omega | rfl) | rfl)); exact trivial; refine vOps_nil ?_; (with_reducible apply seqC_normal; apply kC_cond e64_10); (exact rfl); all_goals (intro hb; first | (cases hb; done) | cases hb | ((try simp only [dxe] at hb); try (exfalso; first | omega | exact hb trivial)))) | ((with_reducible apply wC_skip e64_11)) | ((with_reducible apply wC_exit e64_12)) | ((with_reducible apply wC_seq e64_23; apply wC_region e64_24); refine vOps_open (l := _ :: _) rfl ?_; refine kOps_as rfl rfl rfl rfl ?_; refine vOps_nil ?_; (with_reducible apply seqC_normal; apply wC_ret e64_25)))
        refine fin_c (p := ?_) (xs := [.tmp 2]) (by simp) rfl ?_ ?_ ?_ ?_
        rotate_left 2
        · simp only [rsx, qz9, qz1, splice_cl, splice_one, len_cl, evalIn_tmp, evalIn_const, evalIn_func, qz7, Nat.reduceBEq, lit_ul0, lit_ul1, loadF, partF, qz3, qz6, qz16, qz12, and_self, Nat.le_refl, reduceLeDiff, isAggD, qz0, if_false, if_true, reduceIte, agg_cl, toNat_natCast, reduceToNat, qz4, n_add_zero, zero_add, reduceAdd, reduceMul, qz15, length_map, ty3, ty22, ty24]; try rfl
        · first | rfl | (simp only [closed, closedL, qz18, closedL_cl, closedL_bv, Bool.and_self, Bool.and_true]; first | done | rfl)
        · exact int_eq (by rw [blen_zero]; rfl)
        · simp only [rsx, qz9, qz1, splice_cl, splice_one, len_cl, evalIn_tmp, evalIn_const, evalIn_func, qz7, Nat.reduceBEq, lit_ul0, lit_ul1, loadF, partF, qz3, qz6, qz16, qz12, and_self, Nat.le_refl, reduceLeDiff, isAggD, qz0, if_false, if_true, reduceIte, agg_cl, toNat_natCast, reduceToNat, qz4, n_add_zero, zero_add, reduceAdd, reduceMul, qz15, length_map, ty3, ty22, ty24]; try trivial
      · simp only [show ((m + 1 : Nat) : Int) - 1 = (m : Int) by omega]
        repeat' (first | (with_reducible first | apply seqC_normal | apply blockC_normal | apply seqC_exit | apply blockC_hit | apply seqC_ret | apply blockC_ret | apply loopC_ret | apply loopC_exit) | ((with_reducible apply blockC_miss); (exact rfl)) | ((with_reducible apply wC_seq e64_7; apply wC_seq e64_8; apply wC_region e64_9); refine vOps_open (l := _ :: _) rfl ?_; refine kOps_mv rfl rfl rfl rfl ?_; refine kOps_bin (b := .geq) (pre := ?_) (val := ?_) rfl rfl rfl rfl rfl ?_ ?_ ?_; rotate_left 2; (intro L; simp only [qz1, splice_cl, splice_one, len_cl, mod_eq_of_lt la, toNat_natCast, eql_u4 ty24 ty22, neq_u4 ty24 ty22, qz33, Int.reduceAdd, Int.reduceSub, Int.reduceMul, Int.reduceNeg, Int.sub_zero, cast_ofNat_Int, ne_eq, Int.reduceLT, Int.reduceLE, Int.reduceEq, reduceMod, reduceLT, qz5, ty3]; (first | (rw [wrap_i64] <;> first | omega | rfl) | (rw [wrap_u8] <;> first | omega | rfl) | (rw [wrap_u16] <;> first | omega | rfl) | (rw [wrap_u32] <;> first | omega | rfl) | rfl)); exact trivial; refine vOps_nil ?_; (with_reducible apply seqC_normal; apply kC_cond e64_10); (exact rfl); all_goals (intro hb; first | (cases hb; done) | cases hb | ((try simp only [dxe] at hb); try (exfalso; first | omega | exact hb trivial)))) | ((with_reducible apply wC_skip e64_11)) | ((with_reducible apply wC_exit e64_12)) | ((with_reducible apply wC_seq e64_13; apply wC_block e64_14; apply wC_seq e64_15; apply wC_region e64_16); refine vOps_open (l := _ :: _) rfl ?_; (first | refine kOps_loadp (pre := ?_) (val := ?_) rfl rfl rfl rfl rfl ty24 ?_ ?_ ?_ | refine kOps_loadr (pre := ?_) (val := ?_) rfl rfl rfl rfl ty24 ?_ ?_ ?_); rotate_left 2; (simp only [qz1, splice_cl, splice_one, len_cl, mod_eq_of_lt la, toNat_natCast, partF, isAggD, qz0, if_false, if_true, reduceIte, agg_cl, reduceToNat, qz4, n_add_zero, zero_add, reduceAdd, reduceMul, qz15, length_map]; rfl); (focus ((repeat' apply And.intro) <;> first | exact True.intro | omega | (with_reducible rfl) | assumption | exact ⟨_, rfl⟩ | (simp only [sda]; done) | (simp only [len_cl]; omega) | (simp [Value.cells, Value.oneCell']; done))); refine kOps_mv rfl rfl rfl rfl ?_; refine kOps_callc (pre := ?_) (val := ?_) rfl rfl rfl rfl rfl ?_ ?_ ?_ ?_ ?_; rotate_left 2; (simp only [qz1, splice_cl, splice_one, len_cl, mod_eq_of_lt la, toNat_natCast, sBit, nrmC, qz9, qz8, qz25, ulv_ul, uv_u4, qz12, and_self, n_add_zero, zero_add, zero_mod, n_sub_zero]; rfl); (focus (first | rfl | (simp only [closed, closedL, qz18, closedL_bv, closedL_cl, Bool.and_self, Bool.and_true]; done))); (focus (first | rfl | (simp only [closed, closedL, qz18, closedL_bv, closedL_cl, Bool.and_self, Bool.and_true]; done))); (focus ((repeat' apply And.intro) <;> first | exact True.intro | omega | (with_reducible rfl) | assumption | exact ⟨_, rfl⟩ | (simp only [sda]; done) | (simp only [len_cl]; omega) | (simp [Value.cells, Value.oneCell']; done))); refine vOps_nil ?_; (with_reducible apply seqC_normal; apply kC_cond e64_17); (exact rfl); all_goals (intro hb; first | (cases hb; done) | cases hb | ((try simp only [dxe] at hb); try (exfalso; first | omega | exact hb trivial)))) | ((with_reducible apply wC_seq e64_18; apply wC_region e64_19); refine vOps_open (l := _ :: _) rfl ?_; refine kOps_mv rfl rfl rfl rfl ?_; refine kOps_bin (b := .add) (pre := ?_) (val := ?_) rfl rfl rfl rfl rfl ?_ ?_ ?_; rotate_left 2; (intro L; simp only [qz1, splice_cl, splice_one, len_cl, mod_eq_of_lt la, toNat_natCast, eql_u4 ty24 ty22, neq_u4 ty24 ty22, qz34, Int.reduceAdd, Int.reduceSub, Int.reduceMul, Int.reduceNeg, Int.sub_zero, cast_ofNat_Int, ne_eq, Int.reduceLT, Int.reduceLE, Int.reduceEq, reduceMod, reduceLT, qz5, ty3]; (first | (rw [wrap_i64] <;> first | omega | rfl) | (rw [wrap_u8] <;> first | omega | rfl) | (rw [wrap_u16] <;> first | omega | rfl) | (rw [wrap_u32] <;> first | omega | rfl) | rfl)); exact trivial; refine kOps_as rfl rfl rfl rfl ?_; refine vOps_nil ?_; (with_reducible apply seqC_normal; apply wC_ret e64_20)) | ((with_reducible apply wC_skip e64_21)) | ((with_reducible apply wC_region e64_22); refine vOps_open (l := _ :: _) rfl ?_; refine kOps_mv rfl rfl rfl rfl ?_; refine kOps_bin (b := .sub) (pre := ?_) (val := ?_) rfl rfl rfl rfl rfl ?_ ?_ ?_; rotate_left 2; (intro L; simp only [qz1, splice_cl, splice_one, len_cl, mod_eq_of_lt la, toNat_natCast, eql_u4 ty24 ty22, neq_u4 ty24 ty22, qz36, Int.reduceAdd, Int.reduceSub, Int.reduceMul, Int.reduceNeg, Int.sub_zero, cast_ofNat_Int, ne_eq, Int.reduceLT, Int.reduceLE, Int.reduceEq, reduceMod, reduceLT, qz5, ty3]; (first | (rw [wrap_i64] <;> first | omega | rfl) | (rw [wrap_u8] <;> first | omega | rfl) | (rw [wrap_u16] <;> first | omega | rfl) | (rw [wrap_u32] <;> first | omega | rfl) | rfl)); exact trivial; refine kOps_as rfl rfl rfl rfl ?_; refine vOps_nil ?_) | ((with_reducible apply wC_seq e64_23; apply wC_region e64_24); refine vOps_open (l := _ :: _) rfl ?_; refine kOps_as rfl rfl rfl rfl ?_; refine vOps_nil ?_; (with_reducible apply seqC_normal; apply wC_ret e64_25)))
        · refine fin_c (p := ?_) (xs := [.tmp 2]) (by simp) rfl ?_ ?_ ?_ ?_
          rotate_left 2
          · simp only [rsx, qz9, qz1, splice_cl, splice_one, len_cl, mod_eq_of_lt la, toNat_natCast, evalIn_tmp, evalIn_const, evalIn_func, qz7, Nat.reduceBEq, lit_ul0, lit_ul1, loadF, partF, qz3, qz6, qz16, qz12, and_self, Nat.le_refl, reduceLeDiff, isAggD, qz0, if_false, if_true, reduceIte, agg_cl, reduceToNat, qz4, n_add_zero, zero_add, reduceAdd, reduceMul, qz15, length_map, ty3, ty22, ty24]; try rfl
          · first | rfl | (simp only [closed, closedL, qz18, closedL_cl, closedL_bv, Bool.and_self, Bool.and_true]; first | done | rfl)
          · exact int_eq (by rw [blen_bit hlt (by assumption)]; omega)
          · simp only [rsx, qz9, qz1, splice_cl, splice_one, len_cl, mod_eq_of_lt la, toNat_natCast, evalIn_tmp, evalIn_const, evalIn_func, qz7, Nat.reduceBEq, lit_ul0, lit_ul1, loadF, partF, qz3, qz6, qz16, qz12, and_self, Nat.le_refl, reduceLeDiff, isAggD, qz0, if_false, if_true, reduceIte, agg_cl, reduceToNat, qz4, n_add_zero, zero_add, reduceAdd, reduceMul, qz15, length_map, ty3, ty22, ty24]; try trivial
        · refine loopC_normal ⟨m, by omega, lt_bit hlt (by assumption)⟩ [0] (by show m < m + 1; omega) ?_
          refine weak_mk (fun i h => absurd h (Nat.not_lt_zero i)) (by decide) (by simp) ?_ ?_
          · simp only [RenRows, qz16, qz6, qz3, qz28, closedL_bv, closedL_cl, qz12]
            all_goals (trivial)
          · simp only [RenEnv, qz7, Nat.reduceBEq]
            (repeat' apply And.intro) <;> first | trivial | exact ren_keep rfl | exact ren_keep (closed_u4 _) | (refine ren_int ?_; omega) | (refine ren_own rfl ?_; first | rfl | omega | (simp; done) | (omega; done)) | (refine ren_int ?_; omega; done) | (refine ren_int ?_; simp; done) | (refine ren_keep ?_; simp only [closed, closedL_bv, closedL_rows, closedL_cl]; done) | (refine ren_ptr rfl; done)
  · exact hS.elim
noncomputable def B48 : Code := bodyOf Try.f48
theorem B48_eq : Try.f48.body = some B48 := by kernel_rfl
noncomputable def n48_0 := B48
noncomputable def n48_1 := codeAt B48 [0]
noncomputable def n48_2 := codeAt B48 [1]
noncomputable def n48_3 := codeAt B48 [1,0]
noncomputable def n48_4 := codeAt B48 [1,0,0]
noncomputable def n48_5 := codeAt B48 [1,0,1]
noncomputable def n48_6 := codeAt B48 [1,0,1,0]
noncomputable def n48_7 := codeAt B48 [1,0,1,0,0]
noncomputable def n48_8 := codeAt B48 [1,0,1,0,1]
noncomputable def n48_9 := codeAt B48 [1,0,1,1]
noncomputable def n48_10 := codeAt B48 [1,1]
noncomputable def n48_11 := codeAt B48 [1,1,0]
noncomputable def n48_12 := codeAt B48 [1,1,1]
noncomputable def n48_13 := codeAt B48 [1,1,1,0]
noncomputable def n48_14 := codeAt B48 [1,1,1,0,0]
noncomputable def n48_15 := codeAt B48 [1,1,1,0,1]
noncomputable def n48_16 := codeAt B48 [1,1,1,0,1,0]
noncomputable def n48_17 := codeAt B48 [1,1,1,0,1,0,0]
noncomputable def n48_18 := codeAt B48 [1,1,1,0,1,0,0,0]
noncomputable def n48_19 := codeAt B48 [1,1,1,0,1,0,0,0,0]
noncomputable def n48_20 := codeAt B48 [1,1,1,0,1,0,0,0,1]
noncomputable def n48_21 := codeAt B48 [1,1,1,0,1,0,0,0,1,0]
noncomputable def n48_22 := codeAt B48 [1,1,1,0,1,0,0,0,1,1]
noncomputable def n48_23 := codeAt B48 [1,1,1,0,1,0,0,1]
noncomputable def n48_24 := codeAt B48 [1,1,1,0,1,0,0,1,0]
noncomputable def n48_25 := codeAt B48 [1,1,1,0,1,0,0,1,0,0]
noncomputable def n48_26 := codeAt B48 [1,1,1,0,1,0,0,1,0,0,0]
noncomputable def n48_27 := codeAt B48 [1,1,1,0,1,0,0,1,0,0,1]
noncomputable def n48_28 := codeAt B48 [1,1,1,0,1,0,0,1,0,0,1,0]
noncomputable def n48_29 := codeAt B48 [1,1,1,0,1,0,0,1,0,0,1,1]
noncomputable def n48_30 := codeAt B48 [1,1,1,0,1,0,0,1,0,0,1,1,0]
noncomputable def n48_31 := codeAt B48 [1,1,1,0,1,0,0,1,0,0,1,1,1]
noncomputable def n48_32 := codeAt B48 [1,1,1,0,1,0,0,1,1]
noncomputable def n48_33 := codeAt B48 [1,1,1,1]
noncomputable def n48_34 := codeAt B48 [1,1,1,1,0]
noncomputable def n48_35 := codeAt B48 [1,1,1,1,1]
theorem e48_0 : n48_0 = .seq n48_1 n48_2 := rfl
noncomputable def r48_1 := opsAt n48_1
theorem e48_1 : n48_1 = .region 0 (r48_1).toArray false := rfl
theorem e48_2 : n48_2 = .seq n48_3 n48_10 := rfl
theorem e48_3 : n48_3 = .seq n48_4 n48_5 := rfl
noncomputable def r48_4 := opsAt n48_4
theorem e48_4 : n48_4 = .region 1 (r48_4).toArray false := rfl
theorem e48_5 : n48_5 = .cond (.tmp 10) n48_6 n48_9 := rfl
theorem e48_6 : n48_6 = .seq n48_7 n48_8 := rfl
noncomputable def r48_7 := opsAt n48_7
theorem e48_7 : n48_7 = .region 2 (r48_7).toArray false := rfl
theorem e48_8 : n48_8 = .ret := rfl
theorem e48_9 : n48_9 = .skip := rfl
theorem e48_10 : n48_10 = .seq n48_11 n48_12 := rfl
noncomputable def r48_11 := opsAt n48_11
theorem e48_11 : n48_11 = .region 3 (r48_11).toArray true := rfl
theorem a48_11 : anyOk r48_11 = true := by decide +kernel
theorem e48_12 : n48_12 = .seq n48_13 n48_33 := rfl
theorem e48_13 : n48_13 = .seq n48_14 n48_15 := rfl
noncomputable def r48_14 := opsAt n48_14
theorem e48_14 : n48_14 = .region 4 (r48_14).toArray false := rfl
theorem e48_15 : n48_15 = .block 0 n48_16 := rfl
theorem e48_16 : n48_16 = .loop n48_17 := rfl
theorem e48_17 : n48_17 = .seq n48_18 n48_23 := rfl
theorem e48_18 : n48_18 = .seq n48_19 n48_20 := rfl
noncomputable def r48_19 := opsAt n48_19
theorem e48_19 : n48_19 = .region 5 (r48_19).toArray false := rfl
theorem e48_20 : n48_20 = .cond (.tmp 19) n48_21 n48_22 := rfl
theorem e48_21 : n48_21 = .skip := rfl
theorem e48_22 : n48_22 = .exit 0 := rfl
theorem e48_23 : n48_23 = .seq n48_24 n48_32 := rfl
theorem e48_24 : n48_24 = .block 1 n48_25 := rfl
theorem e48_25 : n48_25 = .seq n48_26 n48_27 := rfl
noncomputable def r48_26 := opsAt n48_26
theorem e48_26 : n48_26 = .region 7 (r48_26).toArray false := rfl
theorem e48_27 : n48_27 = .seq n48_28 n48_29 := rfl
noncomputable def r48_28 := opsAt n48_28
theorem e48_28 : n48_28 = .region 8 (r48_28).toArray false := rfl
theorem e48_29 : n48_29 = .cond (.tmp 28) n48_30 n48_31 := rfl
noncomputable def r48_30 := opsAt n48_30
theorem e48_30 : n48_30 = .region 9 (r48_30).toArray false := rfl
theorem e48_31 : n48_31 = .skip := rfl
noncomputable def r48_32 := opsAt n48_32
theorem e48_32 : n48_32 = .region 6 (r48_32).toArray false := rfl
theorem e48_33 : n48_33 = .seq n48_34 n48_35 := rfl
noncomputable def r48_34 := opsAt n48_34
theorem e48_34 : n48_34 = .region 10 (r48_34).toArray false := rfl
theorem e48_35 : n48_35 = .ret := rfl
theorem f_ref02_ExpMod : PureOk Try.prog 48 sExpMod := by
  refine pureOk_of (c := n48_0) (Γ := conOf [(36, .pure sFromUint), (40, .pure sZero), (46, .pure sMulMod), (55, .pure sReduce2), (58, .pure sBit), (64, .pure sLen)]) (conOf_ok (conOf_one (S := .pure sFromUint) f_ref02_FromUint (conOf_one (S := .pure sZero) f_ref02_Zero (conOf_one (S := .pure sMulMod) f_ref02_MulMod (conOf_one (S := .pure sReduce2) f_ref02_reduce (conOf_one (S := .pure sBit) f_ref02_Bit (conOf_one (S := .pure sLen) f_ref02_Len (conOf_end)))))))) mixed Try.func48 B48_eq (by decide +kernel) Try.call48 ?_
  intro args hS
  unfold sExpMod at hS ⊢
  split at hS
  · refine ⟨by rw [Try.ntmps48]; simp, vC_sound ?_⟩
    rename_i xa xe xm
    obtain ⟨ha, he, hm⟩ := hS
    obtain ⟨a, la, rfl⟩ := isU_out ha
    obtain ⟨e, le, rfl⟩ := isU_out he
    obtain ⟨m, lm, rfl⟩ := isU_out hm
    simp only [uv_u4, mod_eq_of_lt la, mod_eq_of_lt le, mod_eq_of_lt lm]
    clear ha he hm
    simp only [qz26, reduceAdd]
    by_cases hm : m = 0
    · repeat' (first | (with_reducible first | apply seqC_normal | apply blockC_normal | apply seqC_exit | apply blockC_hit | apply seqC_ret | apply blockC_ret | apply loopC_ret | apply loopC_exit) | ((with_reducible apply blockC_miss); (exact rfl)) | ((with_reducible apply wC_seq e48_0; apply wC_region e48_1); refine vOps_open (l := _ :: _) rfl ?_; refine kOps_box (row := ?_) (n := ?_) rfl rfl rfl rfl rfl ?_ ?_ ?_ ?_; rotate_left 2; (simp only [↓length_append, ↓length_set, ↓length_cons, length_nil, reduceAdd, zero_add]; rfl); (simp only [qz1, splice_cl, splice_one, len_cl, mod_eq_of_lt la, mod_eq_of_lt le, hm, qz14]; rfl); (focus (first | rfl | exact one_cl _ _ | exact one_bv _ | (simp only [qz19, all_cons, all_nil, Bool.and_self, PV.one]; done) | (simp [PV.one, qz19, one_bv, Value.oneCell']; done))); refine kOps_box (row := ?_) (n := ?_) rfl rfl rfl rfl rfl ?_ ?_ ?_ ?_; rotate_left 2; (simp only [↓length_append, ↓length_set, ↓length_cons, length_nil, reduceAdd, zero_add]; rfl); (simp only [qz1, splice_cl, splice_one, len_cl, mod_eq_of_lt la, mod_eq_of_lt le, hm, qz14]; rfl); (focus (first | rfl | exact one_cl _ _ | exact one_bv _ | (simp only [qz19, all_cons, all_nil, Bool.and_self, PV.one]; done) | (simp [PV.one, qz19, one_bv, Value.oneCell']; done))); refine kOps_box (row := ?_) (n := ?_) rfl rfl rfl rfl rfl ?_ ?_ ?_ ?_; rotate_left 2; (simp only [↓length_append, ↓length_set, ↓length_cons, length_nil, reduceAdd, zero_add]; rfl); (simp only [qz1, splice_cl, splice_one, len_cl, mod_eq_of_lt la, mod_eq_of_lt le, hm, qz14]; rfl); (focus (first | rfl | exact one_cl _ _ | exact one_bv _ | (simp only [qz19, all_cons, all_nil, Bool.and_self, PV.one]; done) | (simp [PV.one, qz19, one_bv, Value.oneCell']; done))); refine kOps_alloc (row := ?_) (n := ?_) rfl rfl rfl rfl ty24 ?_ ?_ ?_ ?_; rotate_left 2; (simp only [↓length_append, ↓length_set, ↓length_cons, length_nil, reduceAdd, zero_add]; rfl); (simp only [qz1, splice_cl, splice_one, len_cl, mod_eq_of_lt la, mod_eq_of_lt le, hm, Value.cells, qz9, List.toList_toArray, zero_cl4, zero_cl8, lit_ul0]; rfl); (focus (first | (simp only [Value.cells, List.toList_toArray, qz23, Value.oneCell', and_self]; done) | (simp [Value.cells, Value.oneCell']; done))); refine vOps_nil ?_; (with_reducible apply seqC_normal; apply wC_seq e48_2; apply wC_seq e48_3; apply wC_region e48_4); refine vOps_open (l := _ :: _) rfl ?_; (first | refine kOps_loadp (pre := ?_) (val := ?_) rfl rfl rfl rfl rfl ty24 ?_ ?_ ?_ | refine kOps_loadr (pre := ?_) (val := ?_) rfl rfl rfl rfl ty24 ?_ ?_ ?_); rotate_left 2; (simp only [qz1, splice_cl, splice_one, len_cl, mod_eq_of_lt la, mod_eq_of_lt le, hm, partF, isAggD, qz0, if_false, if_true, reduceIte, agg_cl, toNat_natCast, reduceToNat, qz4, n_add_zero, zero_add, reduceAdd, reduceMul, qz15, length_map]; rfl); (focus ((repeat' apply And.intro) <;> first | exact True.intro | omega | (with_reducible rfl) | assumption | exact ⟨_, rfl⟩ | (simp only [sda]; done) | (simp only [len_cl]; omega) | (simp [Value.cells, Value.oneCell']; done))); refine kOps_callc (pre := ?_) (val := ?_) rfl rfl rfl rfl rfl ?_ ?_ ?_ ?_ ?_; rotate_left 2; (simp only [qz1, splice_cl, splice_one, len_cl, mod_eq_of_lt la, mod_eq_of_lt le, hm, sFromUint, sZero, sMulMod, sReduce2, sBit, sLen, nrmC, qz9, qz8, qz25, ulv_ul, uv_u4, qz12, and_self, n_add_zero, zero_add, zero_mod, n_sub_zero]; rfl); (focus (first | rfl | (simp only [closed, closedL, qz18, closedL_bv, closedL_cl, Bool.and_self, Bool.and_true]; done))); (focus (first | rfl | (simp only [closed, closedL, qz18, closedL_bv, closedL_cl, Bool.and_self, Bool.and_true]; done))); (focus ((repeat' apply And.intro) <;> first | exact True.intro | omega | (with_reducible rfl) | assumption | exact ⟨_, rfl⟩ | (simp only [sda]; done) | (simp only [len_cl]; omega) | (simp [Value.cells, Value.oneCell']; done))); refine vOps_nil ?_; (with_reducible apply seqC_normal; apply kC_cond e48_5); (exact rfl); all_goals (intro hb; first | (cases hb; done) | cases hb | ((try simp only [dxe] at hb); try (exfalso; first | omega | exact hb trivial)))) | ((with_reducible apply wC_seq e48_6; apply wC_region e48_7); refine vOps_open (l := _ :: _) rfl ?_; (first | refine kOps_loadp (pre := ?_) (val := ?_) rfl rfl rfl rfl rfl ty24 ?_ ?_ ?_ | refine kOps_loadr (pre := ?_) (val := ?_) rfl rfl rfl rfl ty24 ?_ ?_ ?_); rotate_left 2; (simp only [qz1, splice_cl, splice_one, len_cl, mod_eq_of_lt la, mod_eq_of_lt le, hm, partF, isAggD, qz0, if_false, if_true, reduceIte, agg_cl, toNat_natCast, reduceToNat, qz4, n_add_zero, zero_add, reduceAdd, reduceMul, qz15, length_map]; rfl); (focus ((repeat' apply And.intro) <;> first | exact True.intro | omega | (with_reducible rfl) | assumption | exact ⟨_, rfl⟩ | (simp only [sda]; done) | (simp only [len_cl]; omega) | (simp [Value.cells, Value.oneCell']; done))); refine kOps_store (cs' := ?_) rfl rfl rfl rfl rfl rfl rfl ty24 ?_ ?_ ?_; rotate_left 1; (simp only [qz1, splice_cl, splice_one, len_cl, mod_eq_of_lt la, mod_eq_of_lt le, hm, qz14, isAggD, qz0, if_false, if_true, reduceIte, agg_cl, toNat_natCast, reduceToNat, qz4, n_add_zero, zero_add, reduceAdd, reduceMul, qz15, length_map]; rfl); (focus (first | (simp only [qz14, length_cons, length_nil, len_cl, length_set, length_map, reduceAdd, zero_add, all_cons, all_nil, qz19, one_bv, PV.one, Value.oneCell', Bool.and_self, reduceLeDiff, Nat.le_refl, and_self, qz12]; done) | ((try simp only [qz14]); (focus ((repeat' apply And.intro) <;> first | exact True.intro | omega | (with_reducible rfl) | assumption | exact ⟨_, rfl⟩ | (simp only [sda]; done) | (simp only [len_cl]; omega) | (simp [Value.cells, Value.oneCell']; done)))))); refine vOps_nil ?_; (with_reducible apply seqC_normal; apply wC_ret e48_8)) | ((with_reducible apply wC_skip e48_9)))
      refine fin_c (p := ?_) (xs := [.cell 6 24]) (by simp) rfl ?_ ?_ ?_ ?_
      rotate_left 2
      · simp only [rsx, qz9, qz1, splice_cl, splice_one, len_cl, mod_eq_of_lt la, mod_eq_of_lt le, hm, evalIn_tmp, evalIn_const, evalIn_func, qz7, Nat.reduceBEq, lit_ul0, lit_ul1, loadF, partF, qz3, qz6, qz16, qz12, and_self, Nat.le_refl, reduceLeDiff, isAggD, qz0, if_false, if_true, reduceIte, agg_cl, toNat_natCast, reduceToNat, qz4, n_add_zero, zero_add, reduceAdd, reduceMul, qz15, length_map, ty3, ty22, ty24]; try rfl
      · first | rfl | (simp only [closed, closedL, qz18, closedL_cl, closedL_bv, Bool.and_self, Bool.and_true]; first | done | rfl)
      · rw [rem0_zero hm]
      · simp only [rsx, qz9, qz1, splice_cl, splice_one, len_cl, mod_eq_of_lt la, mod_eq_of_lt le, hm, evalIn_tmp, evalIn_const, evalIn_func, qz7, Nat.reduceBEq, lit_ul0, lit_ul1, loadF, partF, qz3, qz6, qz16, qz12, and_self, Nat.le_refl, reduceLeDiff, isAggD, qz0, if_false, if_true, reduceIte, agg_cl, toNat_natCast, reduceToNat, qz4, n_add_zero, zero_add, reduceAdd, reduceMul, qz15, length_map, ty3, ty22, ty24]; try trivial
    · have hrm := rem0_mod lm
      have hble := blen_le le
      repeat' (first | (with_reducible first | apply seqC_normal | apply blockC_normal | apply seqC_exit | apply blockC_hit | apply seqC_ret | apply blockC_ret | apply loopC_ret | apply loopC_exit) | ((with_reducible apply blockC_miss); (exact rfl)) | ((with_reducible apply wC_seq e48_0; apply wC_region e48_1); refine vOps_open (l := _ :: _) rfl ?_) | ((with_reducible apply wC_seq e48_2; apply wC_seq e48_3; apply wC_region e48_4); refine vOps_open (l := _ :: _) rfl ?_) | ((with_reducible apply kC_cond e48_5); (exact rfl); all_goals (intro hb; first | (cases hb; done) | cases hb | ((try simp only [dxe] at hb); try (exfalso; first | omega | exact hb trivial)))) | ((with_reducible apply wC_seq e48_6; apply wC_region e48_7); refine vOps_open (l := _ :: _) rfl ?_) | ((with_reducible apply wC_ret e48_8)) | ((with_reducible apply wC_skip e48_9)) | ((with_reducible apply wC_seq e48_10; apply wC_any e48_11 a48_11); refine vOps_open (l := _ :: _) rfl ?_) | ((with_reducible apply wC_seq e48_12; apply wC_seq e48_13; apply wC_region e48_14); refine vOps_open (l := _ :: _) rfl ?_) | ((with_reducible apply wC_block e48_15)) | ((with_reducible apply wC_seq e48_33; apply wC_region e48_34); refine vOps_open (l := _ :: _) rfl ?_) | ((with_reducible apply wC_ret e48_35)) | ((with_reducible apply vOps_nil); try (with_reducible refine And.intro (by kernel_rfl) ?_)) | (refine kOps_box (row := ?_) (n := ?_) rfl rfl rfl rfl rfl ?_ ?_ ?_ ?_; rotate_left 2; (simp only [↓length_append, ↓length_set, ↓length_cons, length_nil, reduceAdd, zero_add]; rfl); (simp only [qz1, splice_cl, splice_one, len_cl, mod_eq_of_lt la, mod_eq_of_lt le, mod_eq_of_lt lm, hrm, qz24, ne_eq, hm, not_false_eq_true, reduceMod, reduceAdd, reduceSub, reduceMul, reduceDiv, reduceLT, reduceLeDiff, reduceEqDiff, qz5, eq_self, if_false, if_true, reduceIte, zero_mod, qz11, qz14]; rfl); (focus (first | rfl | exact one_cl _ _ | exact one_bv _ | (simp only [qz19, all_cons, all_nil, Bool.and_self, PV.one]; done) | (simp [PV.one, qz19, one_bv, Value.oneCell']; done)))) | (refine kOps_alloc (row := ?_) (n := ?_) rfl rfl rfl rfl ty24 ?_ ?_ ?_ ?_; rotate_left 2; (simp only [↓length_append, ↓length_set, ↓length_cons, length_nil, reduceAdd, zero_add]; rfl); (simp only [qz1, splice_cl, splice_one, len_cl, mod_eq_of_lt la, mod_eq_of_lt le, mod_eq_of_lt lm, hrm, qz24, ne_eq, hm, not_false_eq_true, reduceMod, reduceAdd, reduceSub, reduceMul, reduceDiv, reduceLT, reduceLeDiff, reduceEqDiff, qz5, eq_self, if_false, if_true, reduceIte, zero_mod, qz11, Value.cells, qz9, List.toList_toArray, zero_cl4, zero_cl8, lit_ul0]; rfl); (focus (first | (simp only [Value.cells, List.toList_toArray, qz23, Value.oneCell', and_self]; done) | (simp [Value.cells, Value.oneCell']; done)))) | ((first | refine kOps_loadp (pre := ?_) (val := ?_) rfl rfl rfl rfl rfl ty24 ?_ ?_ ?_ | refine kOps_loadr (pre := ?_) (val := ?_) rfl rfl rfl rfl ty24 ?_ ?_ ?_); rotate_left 2; (simp only [qz1, splice_cl, splice_one, len_cl, mod_eq_of_lt la, mod_eq_of_lt le, mod_eq_of_lt lm, hrm, qz24, ne_eq, hm, not_false_eq_true, reduceMod, reduceAdd, reduceSub, reduceMul, reduceDiv, reduceLT, reduceLeDiff, reduceEqDiff, qz5, eq_self, if_false, if_true, reduceIte, zero_mod, qz11, partF, isAggD, qz0, agg_cl, toNat_natCast, reduceToNat, qz4, n_add_zero, qz15, length_map]; rfl); (focus ((repeat' apply And.intro) <;> first | exact True.intro | omega | (with_reducible rfl) | assumption | exact ⟨_, rfl⟩ | (simp only [sda]; done) | (simp only [len_cl]; omega) | (simp [Value.cells, Value.oneCell']; done)))) | (refine kOps_callc (pre := ?_) (val := ?_) rfl rfl rfl rfl rfl ?_ ?_ ?_ ?_ ?_; rotate_left 2; (simp only [qz1, splice_cl, splice_one, len_cl, mod_eq_of_lt la, mod_eq_of_lt le, mod_eq_of_lt lm, hrm, qz24, ne_eq, hm, not_false_eq_true, reduceMod, reduceAdd, reduceSub, reduceMul, reduceDiv, reduceLT, reduceLeDiff, reduceEqDiff, qz5, eq_self, if_false, if_true, reduceIte, zero_mod, qz11, sFromUint, sZero, sMulMod, sReduce2, sBit, sLen, lit_ul0, lit_ul1, nrmC, qz9, qz8, qz25, ulv_ul, uv_u4, qz12, and_self, n_add_zero, n_sub_zero]; rfl); (focus (first | rfl | (simp only [closed, closedL, qz18, closedL_bv, closedL_cl, Bool.and_self, Bool.and_true]; done))); (focus (first | rfl | (simp only [closed, closedL, qz18, closedL_bv, closedL_cl, Bool.and_self, Bool.and_true]; done))); (focus ((repeat' apply And.intro) <;> first | exact True.intro | omega | (with_reducible rfl) | assumption | exact ⟨_, rfl⟩ | (simp only [sda]; done) | (simp only [len_cl]; omega) | (simp [Value.cells, Value.oneCell']; done)))) | (refine kOps_store (cs' := ?_) rfl rfl rfl rfl rfl rfl rfl ty24 ?_ ?_ ?_; rotate_left 1; (simp only [qz1, splice_cl, splice_one, len_cl, mod_eq_of_lt la, mod_eq_of_lt le, mod_eq_of_lt lm, hrm, qz24, ne_eq, hm, not_false_eq_true, reduceMod, reduceAdd, reduceSub, reduceMul, reduceDiv, reduceLT, reduceLeDiff, reduceEqDiff, qz5, eq_self, if_false, if_true, reduceIte, zero_mod, qz11, lit_ul0, lit_ul1, qz14, isAggD, qz0, agg_cl, toNat_natCast, reduceToNat, qz4, n_add_zero, qz15, length_map]; rfl); (focus (first | (simp only [lit_ul0, lit_ul1, qz14, length_cons, length_nil, len_cl, length_set, length_map, reduceAdd, zero_add, all_cons, all_nil, qz19, one_bv, PV.one, Value.oneCell', Bool.and_self, reduceLeDiff, Nat.le_refl, and_self, qz12]; done) | ((try simp only [lit_ul0, lit_ul1, qz14]); (focus ((repeat' apply And.intro) <;> first | exact True.intro | omega | (with_reducible rfl) | assumption | exact ⟨_, rfl⟩ | (simp only [sda]; done) | (simp only [len_cl]; omega) | (simp [Value.cells, Value.oneCell']; done))))))) | (refine kOps_bin (b := .sub) (pre := ?_) (val := ?_) rfl rfl rfl rfl rfl ?_ ?_ ?_; rotate_left 2; (intro L; simp only [qz1, splice_cl, splice_one, len_cl, mod_eq_of_lt la, mod_eq_of_lt le, mod_eq_of_lt lm, hrm, qz24, ne_eq, hm, not_false_eq_true, reduceMod, reduceAdd, reduceSub, reduceMul, reduceDiv, reduceLT, reduceLeDiff, reduceEqDiff, qz5, eq_self, if_false, if_true, reduceIte, zero_mod, qz11, eql_u4 ty24 ty22, neq_u4 ty24 ty22, lit_ul0, lit_ul1, qz36, Int.reduceAdd, Int.reduceSub, Int.reduceMul, Int.reduceNeg, Int.sub_zero, cast_ofNat_Int, Int.reduceLT, Int.reduceLE, Int.reduceEq, ty3]; (first | (rw [wrap_i64] <;> first | omega | rfl) | (rw [wrap_u8] <;> first | omega | rfl) | (rw [wrap_u16] <;> first | omega | rfl) | (rw [wrap_u32] <;> first | omega | rfl) | rfl)); exact trivial) | (refine kOps_as rfl rfl rfl rfl ?_))
      refine wC_loopI (ι := {x : Nat × Nat // x.1 ≤ 256 ∧ x.2 < 115792089237316195423570985008687907853269984665640564039457584007913129639936 ∧ x.2 = rem0 (a ^ (e / 2 ^ x.1)) m}) e48_16 (fun x => ([(3, .ptr 0 0), (4, .ptr 1 0), (5, .ptr 2 0), (6, .ptr 3 0), (7, .ptr 4 0), (8, .lit (.int .i64 ((x.1.1 : Int) - 1)))], [.cells (cl 4 a), .cells (cl 4 e), .cells (cl 4 m), .cells (cl 4 0), .cells (cl 4 x.1.2)])) (fun x => x.1.1) ⟨(blen e, 1 % m), blen_le le, (by rw [← rem0_pos hm]; exact rem0_lt lm _), (by rw [← rem0_pos hm]; exact exp_start (blen_lt e))⟩ [0, 1, 2, 3, 4] ?_ ?_
      · show Weak _ _ _ _ _ _
        refine weak_mk (fun i h => absurd h (Nat.not_lt_zero i)) (by decide) (by simp) ?_ ?_
        · simp only [RenRows, qz16, qz6, qz3, qz28, closedL_bv, closedL_cl, qz12]
          all_goals (trivial)
        · simp only [RenEnv, qz7, Nat.reduceBEq]
          (repeat' apply And.intro) <;> first | trivial | exact ren_keep rfl | exact ren_keep (closed_u4 _) | (refine ren_int ?_; omega) | (refine ren_own rfl ?_; first | rfl | omega | (simp; done) | (omega; done)) | (refine ren_int ?_; omega; done) | (refine ren_int ?_; simp; done) | (refine ren_keep ?_; simp only [closed, closedL_bv, closedL_rows, closedL_cl]; done) | (refine ren_ptr rfl; done)
      · rintro ⟨⟨t, r⟩, ht, lr, hr⟩
        dsimp only at ht lr hr ⊢
        rcases t with _ | i
        · simp only [show ((0 : Nat) : Int) - 1 = -1 from rfl]
          repeat' (first | (with_reducible first | apply seqC_normal | apply blockC_normal | apply seqC_exit | apply blockC_hit | apply seqC_ret | apply blockC_ret | apply loopC_ret | apply loopC_exit) | ((with_reducible apply blockC_miss); (exact rfl)) | ((with_reducible apply wC_seq e48_17; apply wC_seq e48_18; apply wC_region e48_19); refine vOps_open (l := _ :: _) rfl ?_; refine kOps_mv rfl rfl rfl rfl ?_; refine kOps_bin (b := .geq) (pre := ?_) (val := ?_) rfl rfl rfl rfl rfl ?_ ?_ ?_; rotate_left 2; (intro L; simp only [qz1, splice_cl, splice_one, len_cl, eql_u4 ty24 ty22, neq_u4 ty24 ty22, qz33, Int.reduceAdd, Int.reduceSub, Int.reduceMul, Int.reduceNeg, Int.sub_zero, cast_ofNat_Int, ne_eq, Int.reduceLT, Int.reduceLE, Int.reduceEq, reduceMod, reduceLT, qz5, ty3]; (first | (rw [wrap_i64] <;> first | omega | rfl) | (rw [wrap_u8] <;> first | omega | rfl) | (rw [wrap_u16] <;> first | omega | rfl) | (rw [wrap_u32] <;> first | omega | rfl) | rfl)); exact trivial; refine vOps_nil ?_; (with_reducible apply seqC_normal; apply kC_cond e48_20); (exact rfl); all_goals (intro hb; first | (cases hb; done) | cases hb | ((try simp only [dxe] at hb); try (exfalso; first | omega | exact hb trivial)))) | ((with_reducible apply wC_skip e48_21)) | ((with_reducible apply wC_exit e48_22)) | ((with_reducible apply wC_seq e48_33; apply wC_region e48_34); refine vOps_open (l := _ :: _) rfl ?_; (first | refine kOps_loadp (pre := ?_) (val := ?_) rfl rfl rfl rfl rfl ty24 ?_ ?_ ?_ | refine kOps_loadr (pre := ?_) (val := ?_) rfl rfl rfl rfl ty24 ?_ ?_ ?_); rotate_left 2; (simp only [qz1, splice_cl, splice_one, len_cl, partF, isAggD, qz0, if_false, if_true, reduceIte, agg_cl, toNat_natCast, reduceToNat, qz4, n_add_zero, zero_add, reduceAdd, reduceMul, qz15, length_map]; rfl); (focus ((repeat' apply And.intro) <;> first | exact True.intro | omega | (with_reducible rfl) | assumption | exact ⟨_, rfl⟩ | (simp only [sda]; done) | (simp only [len_cl]; omega) | (simp [Value.cells, Value.oneCell']; done))); refine kOps_store (cs' := ?_) rfl rfl rfl rfl rfl rfl rfl ty24 ?_ ?_ ?_; rotate_left 1; (simp only [qz1, splice_cl, splice_one, len_cl, qz14, isAggD, qz0, if_false, if_true, reduceIte, agg_cl, toNat_natCast, reduceToNat, qz4, n_add_zero, zero_add, reduceAdd, reduceMul, qz15, length_map]; rfl); (focus (first | (simp only [qz14, length_cons, length_nil, len_cl, length_set, length_map, reduceAdd, zero_add, all_cons, all_nil, qz19, one_bv, PV.one, Value.oneCell', Bool.and_self, reduceLeDiff, Nat.le_refl, and_self, qz12]; done) | ((try simp only [qz14]); (focus ((repeat' apply And.intro) <;> first | exact True.intro | omega | (with_reducible rfl) | assumption | exact ⟨_, rfl⟩ | (simp only [sda]; done) | (simp only [len_cl]; omega) | (simp [Value.cells, Value.oneCell']; done)))))); refine vOps_nil ?_; (with_reducible apply seqC_normal; apply wC_ret e48_35)))
          refine fin_c (p := ?_) (xs := [.cell 6 24]) (by simp) rfl ?_ ?_ ?_ ?_
          rotate_left 2
          · simp only [rsx, qz9, qz1, splice_cl, splice_one, len_cl, evalIn_tmp, evalIn_const, evalIn_func, qz7, Nat.reduceBEq, lit_ul0, lit_ul1, loadF, partF, qz3, qz6, qz16, qz12, and_self, Nat.le_refl, reduceLeDiff, isAggD, qz0, if_false, if_true, reduceIte, agg_cl, toNat_natCast, reduceToNat, qz4, n_add_zero, zero_add, reduceAdd, reduceMul, qz15, length_map, ty3, ty22, ty24]; try rfl
          · first | rfl | (simp only [closed, closedL, qz18, closedL_cl, closedL_bv, Bool.and_self, Bool.and_true]; first | done | rfl)
          · rw [hr, exp_done]
          · simp only [rsx, qz9, qz1, splice_cl, splice_one, len_cl, evalIn_tmp, evalIn_const, evalIn_func, qz7, Nat.reduceBEq, lit_ul0, lit_ul1, loadF, partF, qz3, qz6, qz16, qz12, and_self, Nat.le_refl, reduceLeDiff, isAggD, qz0, if_false, if_true, reduceIte, agg_cl, toNat_natCast, reduceToNat, qz4, n_add_zero, zero_add, reduceAdd, reduceMul, qz15, length_map, ty3, ty22, ty24]; try trivial
        · simp only [show ((i + 1 : Nat) : Int) - 1 = (i : Int) by omega]
          have hi : i < 256 := by omega
          repeat' (first | (with_reducible first | apply seqC_normal | apply blockC_normal | apply seqC_exit | apply blockC_hit | apply seqC_ret | apply blockC_ret | apply loopC_ret | apply loopC_exit) | ((with_reducible apply blockC_miss); (exact rfl)) | ((with_reducible apply wC_seq e48_17; apply wC_seq e48_18; apply wC_region e48_19); refine vOps_open (l := _ :: _) rfl ?_) | ((with_reducible apply kC_cond e48_20); (exact rfl); all_goals (intro hb; first | (cases hb; done) | cases hb | ((try simp only [dxe] at hb); try (exfalso; first | omega | exact hb trivial)))) | ((with_reducible apply wC_skip e48_21)) | ((with_reducible apply wC_exit e48_22)) | ((with_reducible apply wC_seq e48_23; apply wC_block e48_24; apply wC_seq e48_25; apply wC_region e48_26); refine vOps_open (l := _ :: _) rfl ?_) | ((with_reducible apply wC_seq e48_27; apply wC_region e48_28); refine vOps_open (l := _ :: _) rfl ?_) | ((with_reducible apply kC_cond e48_29); (exact rfl); all_goals (intro hb; first | (cases hb; done) | cases hb | ((try simp only [dxe] at hb); try (exfalso; first | omega | exact hb trivial)))) | ((with_reducible apply wC_region e48_30); refine vOps_open (l := _ :: _) rfl ?_) | ((with_reducible apply wC_skip e48_31)) | ((with_reducible apply wC_region e48_32); refine vOps_open (l := _ :: _) rfl ?_) | ((with_reducible apply wC_seq e48_33; apply wC_region e48_34); refine vOps_open (l := _ :: _) rfl ?_) | ((with_reducible apply wC_ret e48_35)) | ((with_reducible apply vOps_nil); try (with_reducible refine And.intro (by kernel_rfl) ?_)) | (refine kOps_mv rfl rfl rfl rfl ?_) | (refine kOps_bin (b := .geq) (pre := ?_) (val := ?_) rfl rfl rfl rfl rfl ?_ ?_ ?_; rotate_left 2; (intro L; simp only [qz1, splice_cl, splice_one, len_cl, mod_eq_of_lt la, mod_eq_of_lt le, mod_eq_of_lt lm, mod_eq_of_lt lr, hrm, toNat_natCast, reduceMod, reduceAdd, reduceSub, reduceMul, reduceDiv, reduceLT, reduceLeDiff, reduceEqDiff, qz5, eq_self, if_false, if_true, reduceIte, zero_mod, qz11, eql_u4 ty24 ty22, neq_u4 ty24 ty22, lit_ul0, lit_ul1, qz33, Int.reduceAdd, Int.reduceSub, Int.reduceMul, Int.reduceNeg, Int.sub_zero, cast_ofNat_Int, ne_eq, Int.reduceLT, Int.reduceLE, Int.reduceEq, ty3]; (first | (rw [wrap_i64] <;> first | omega | rfl) | (rw [wrap_u8] <;> first | omega | rfl) | (rw [wrap_u16] <;> first | omega | rfl) | (rw [wrap_u32] <;> first | omega | rfl) | rfl)); exact trivial) | ((first | refine kOps_loadp (pre := ?_) (val := ?_) rfl rfl rfl rfl rfl ty24 ?_ ?_ ?_ | refine kOps_loadr (pre := ?_) (val := ?_) rfl rfl rfl rfl ty24 ?_ ?_ ?_); rotate_left 2; (simp only [qz1, splice_cl, splice_one, len_cl, mod_eq_of_lt la, mod_eq_of_lt le, mod_eq_of_lt lm, mod_eq_of_lt lr, hrm, toNat_natCast, reduceMod, reduceAdd, reduceSub, reduceMul, reduceDiv, reduceLT, reduceLeDiff, reduceEqDiff, qz5, eq_self, if_false, if_true, reduceIte, zero_mod, qz11, partF, isAggD, qz0, agg_cl, reduceToNat, qz4, n_add_zero, zero_add, qz15, length_map]; rfl); (focus ((repeat' apply And.intro) <;> first | exact True.intro | omega | (with_reducible rfl) | assumption | exact ⟨_, rfl⟩ | (simp only [sda]; done) | (simp only [len_cl]; omega) | (simp [Value.cells, Value.oneCell']; done)))) | (refine kOps_callc (pre := ?_) (val := ?_) rfl rfl rfl rfl rfl ?_ ?_ ?_ ?_ ?_; rotate_left 2; (simp only [qz1, splice_cl, splice_one, len_cl, mod_eq_of_lt la, mod_eq_of_lt le, mod_eq_of_lt lm, mod_eq_of_lt lr, hrm, toNat_natCast, reduceMod, reduceAdd, reduceSub, reduceMul, reduceDiv, reduceLT, reduceLeDiff, reduceEqDiff, qz5, eq_self, if_false, if_true, reduceIte, zero_mod, qz11, sFromUint, sZero, sMulMod, sReduce2, sBit, sLen, lit_ul0, lit_ul1, nrmC, qz9, qz8, qz25, ulv_ul, uv_u4, qz12, and_self, n_add_zero, zero_add, n_sub_zero]; rfl); (focus (first | rfl | (simp only [closed, closedL, qz18, closedL_bv, closedL_cl, Bool.and_self, Bool.and_true]; done))); (focus (first | rfl | (simp only [closed, closedL, qz18, closedL_bv, closedL_cl, Bool.and_self, Bool.and_true]; done))); (focus ((repeat' apply And.intro) <;> first | exact True.intro | omega | (with_reducible rfl) | assumption | exact ⟨_, rfl⟩ | (simp only [sda]; done) | (simp only [len_cl]; omega) | (simp [Value.cells, Value.oneCell']; done)))) | (refine kOps_store (cs' := ?_) rfl rfl rfl rfl rfl rfl rfl ty24 ?_ ?_ ?_; rotate_left 1; (simp only [qz1, splice_cl, splice_one, len_cl, mod_eq_of_lt la, mod_eq_of_lt le, mod_eq_of_lt lm, mod_eq_of_lt lr, hrm, toNat_natCast, reduceMod, reduceAdd, reduceSub, reduceMul, reduceDiv, reduceLT, reduceLeDiff, reduceEqDiff, qz5, eq_self, if_false, if_true, reduceIte, zero_mod, qz11, lit_ul0, lit_ul1, qz14, isAggD, qz0, agg_cl, reduceToNat, qz4, n_add_zero, zero_add, qz15, length_map]; rfl); (focus (first | (simp only [lit_ul0, lit_ul1, qz14, length_cons, length_nil, len_cl, length_set, length_map, reduceAdd, zero_add, all_cons, all_nil, qz19, one_bv, PV.one, Value.oneCell', Bool.and_self, reduceLeDiff, Nat.le_refl, and_self, qz12]; done) | ((try simp only [lit_ul0, lit_ul1, qz14]); (focus ((repeat' apply And.intro) <;> first | exact True.intro | omega | (with_reducible rfl) | assumption | exact ⟨_, rfl⟩ | (simp only [sda]; done) | (simp only [len_cl]; omega) | (simp [Value.cells, Value.oneCell']; done))))))) | (refine kOps_bin (b := .sub) (pre := ?_) (val := ?_) rfl rfl rfl rfl rfl ?_ ?_ ?_; rotate_left 2; (intro L; simp only [qz1, splice_cl, splice_one, len_cl, mod_eq_of_lt la, mod_eq_of_lt le, mod_eq_of_lt lm, mod_eq_of_lt lr, hrm, toNat_natCast, reduceMod, reduceAdd, reduceSub, reduceMul, reduceDiv, reduceLT, reduceLeDiff, reduceEqDiff, qz5, eq_self, if_false, if_true, reduceIte, zero_mod, qz11, eql_u4 ty24 ty22, neq_u4 ty24 ty22, lit_ul0, lit_ul1, qz36, Int.reduceAdd, Int.reduceSub, Int.reduceMul, Int.reduceNeg, Int.sub_zero, cast_ofNat_Int, ne_eq, Int.reduceLT, Int.reduceLE, Int.reduceEq, ty3]; (first | (rw [wrap_i64] <;> first | omega | rfl) | (rw [wrap_u8] <;> first | omega | rfl) | (rw [wrap_u16] <;> first | omega | rfl) | (rw [wrap_u32] <;> first | omega | rfl) | rfl)); exact trivial) | (refine kOps_as rfl rfl rfl rfl ?_))
          · refine loopC_normal ⟨(i, rem0 (rem0 (r * r) m * a) m), by omega, rem0_lt lm _, exp_step1 hr (by assumption)⟩ [0, 1, 2, 3, 4] (by show i < i + 1; omega) ?_
            refine weak_mk (fun i h => absurd h (Nat.not_lt_zero i)) (by decide) (by simp) ?_ ?_
            · simp only [RenRows, qz16, qz6, qz3, qz28, closedL_bv, closedL_cl, qz12]
              all_goals (trivial)
            · simp only [RenEnv, qz7, Nat.reduceBEq]
              (repeat' apply And.intro) <;> first | trivial | exact ren_keep rfl | exact ren_keep (closed_u4 _) | (refine ren_int ?_; omega) | (refine ren_own rfl ?_; first | rfl | omega | (simp; done) | (omega; done)) | (refine ren_int ?_; omega; done) | (refine ren_int ?_; simp; done) | (refine ren_keep ?_; simp only [closed, closedL_bv, closedL_rows, closedL_cl]; done) | (refine ren_ptr rfl; done)
          · refine loopC_normal ⟨(i, rem0 (r * r) m), by omega, rem0_lt lm _, exp_step0 hr (by assumption)⟩ [0, 1, 2, 3, 4] (by show i < i + 1; omega) ?_
            refine weak_mk (fun i h => absurd h (Nat.not_lt_zero i)) (by decide) (by simp) ?_ ?_
            · simp only [RenRows, qz16, qz6, qz3, qz28, closedL_bv, closedL_cl, qz12]
              all_goals (trivial)
            · simp only [RenEnv, qz7, Nat.reduceBEq]
              (repeat' apply And.intro) <;> first | trivial | exact ren_keep rfl | exact ren_keep (closed_u4 _) | (refine ren_int ?_; omega) | (refine ren_own rfl ?_; first | rfl | omega | (simp; done) | (omega; done)) | (refine ren_int ?_; omega; done) | (refine ren_int ?_; simp; done) | (refine ren_keep ?_; simp only [closed, closedL_bv, closedL_rows, closedL_cl]; done) | (refine ren_ptr rfl; done)
  · exact hS.elim
end Go.Ab
