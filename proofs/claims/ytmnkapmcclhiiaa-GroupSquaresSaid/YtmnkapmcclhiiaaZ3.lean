import Derived.Test.YtmnkapmcclhiiaaQZ
import Derived.Test.YtmnkapmcclhiiaaME
import Derived.Test.YtmnkapmcclhiiaaTY
import Derived.Test.YtmnkapmcclhiiaaZ2
import Derived.Test.YtmnkapmcclhiiaaMX
import Derived.Test.YtmnkapmcclhiiaaZ1
import Derived.Test.YtmnkapmcclhiiaaMV
import Derived.Test.YtmnkapmcclhiiaaMY
namespace Go.Ab
open Go Go.Proofs
open Nat (reduceAdd mod_eq_of_lt zero_add reduceMul reduceLeDiff reduceMod reduceLT zero_mod reduceSub reduceEqDiff reduceDiv one_mul)
open List (length_cons length_nil all_nil all_cons length_map length_set length_append)
open Int (toNat_natCast reduceToNat cast_ofNat_Int)
set_option linter.unusedVariables false
set_option linter.unusedSimpArgs false
set_option maxRecDepth 8000
set_option maxHeartbeats 4000000
noncomputable def B47 : Code := bodyOf Try.f47
theorem B47_eq : Try.f47.body = some B47 := by kernel_rfl
noncomputable def n47_0 := B47
noncomputable def n47_1 := codeAt B47 [0]
noncomputable def n47_2 := codeAt B47 [1]
noncomputable def n47_3 := codeAt B47 [1,0]
noncomputable def n47_4 := codeAt B47 [1,0,0]
noncomputable def n47_5 := codeAt B47 [1,0,1]
noncomputable def n47_6 := codeAt B47 [1,0,1,0]
noncomputable def n47_7 := codeAt B47 [1,0,1,0,0]
noncomputable def n47_8 := codeAt B47 [1,0,1,0,0,0]
noncomputable def n47_9 := codeAt B47 [1,0,1,0,0,0,0]
noncomputable def n47_10 := codeAt B47 [1,0,1,0,0,0,1]
noncomputable def n47_11 := codeAt B47 [1,0,1,0,0,0,1,0]
noncomputable def n47_12 := codeAt B47 [1,0,1,0,0,0,1,1]
noncomputable def n47_13 := codeAt B47 [1,0,1,0,0,1]
noncomputable def n47_14 := codeAt B47 [1,0,1,0,0,1,0]
noncomputable def n47_15 := codeAt B47 [1,0,1,0,0,1,0,0]
noncomputable def n47_16 := codeAt B47 [1,0,1,0,0,1,0,0,0]
noncomputable def n47_17 := codeAt B47 [1,0,1,0,0,1,0,0,1]
noncomputable def n47_18 := codeAt B47 [1,0,1,0,0,1,0,0,1,0]
noncomputable def n47_19 := codeAt B47 [1,0,1,0,0,1,0,0,1,0,0]
noncomputable def n47_20 := codeAt B47 [1,0,1,0,0,1,0,0,1,0,1]
noncomputable def n47_21 := codeAt B47 [1,0,1,0,0,1,0,0,1,1]
noncomputable def n47_22 := codeAt B47 [1,0,1,0,0,1,1]
noncomputable def n47_23 := codeAt B47 [1,1]
noncomputable def n47_24 := codeAt B47 [1,1,0]
noncomputable def n47_25 := codeAt B47 [1,1,1]
theorem e47_0 : n47_0 = .seq n47_1 n47_2 := rfl
noncomputable def r47_1 := opsAt n47_1
theorem e47_1 : n47_1 = .region 0 (r47_1).toArray false := rfl
theorem e47_2 : n47_2 = .seq n47_3 n47_23 := rfl
theorem e47_3 : n47_3 = .seq n47_4 n47_5 := rfl
noncomputable def r47_4 := opsAt n47_4
theorem e47_4 : n47_4 = .region 1 (r47_4).toArray false := rfl
theorem e47_5 : n47_5 = .block 0 n47_6 := rfl
theorem e47_6 : n47_6 = .loop n47_7 := rfl
theorem e47_7 : n47_7 = .seq n47_8 n47_13 := rfl
theorem e47_8 : n47_8 = .seq n47_9 n47_10 := rfl
noncomputable def r47_9 := opsAt n47_9
theorem e47_9 : n47_9 = .region 2 (r47_9).toArray false := rfl
theorem e47_10 : n47_10 = .cond (.tmp 5) n47_11 n47_12 := rfl
theorem e47_11 : n47_11 = .skip := rfl
theorem e47_12 : n47_12 = .exit 0 := rfl
theorem e47_13 : n47_13 = .seq n47_14 n47_22 := rfl
theorem e47_14 : n47_14 = .block 1 n47_15 := rfl
theorem e47_15 : n47_15 = .seq n47_16 n47_17 := rfl
noncomputable def r47_16 := opsAt n47_16
theorem e47_16 : n47_16 = .region 4 (r47_16).toArray false := rfl
theorem e47_17 : n47_17 = .cond (.tmp 11) n47_18 n47_21 := rfl
theorem e47_18 : n47_18 = .seq n47_19 n47_20 := rfl
noncomputable def r47_19 := opsAt n47_19
theorem e47_19 : n47_19 = .region 5 (r47_19).toArray false := rfl
theorem e47_20 : n47_20 = .ret := rfl
theorem e47_21 : n47_21 = .skip := rfl
noncomputable def r47_22 := opsAt n47_22
theorem e47_22 : n47_22 = .region 3 (r47_22).toArray false := rfl
theorem e47_23 : n47_23 = .seq n47_24 n47_25 := rfl
noncomputable def r47_24 := opsAt n47_24
theorem e47_24 : n47_24 = .region 6 (r47_24).toArray false := rfl
theorem e47_25 : n47_25 = .ret := rfl
theorem f_wide_Len : PureOk Try.prog 47 sLen := by
  refine pureOk_of (c := n47_0) (Γ := conOf [(63, .pure sLen64)]) (conOf_ok (conOf_one (S := .pure sLen64) f_bits_Len64 (conOf_end))) mixed Try.func47 B47_eq (by decide +kernel) Try.call47 ?_
  intro args hS
  unfold sLen at hS ⊢
  split at hS
  · refine ⟨by rw [Try.ntmps47]; simp, vC_sound ?_⟩
    rename_i xa
    have ha := hS
    obtain ⟨a, la, rfl⟩ := isU_out ha
    simp only [uv_u4, mod_eq_of_lt la]
    clear ha
    simp only [qz26, reduceAdd]
    have b0 := blen_64 (a := a % 18446744073709551616) (Nat.mod_lt _ (by decide))
    have b1 := blen_64 (a := a / 18446744073709551616 % 18446744073709551616) (Nat.mod_lt _ (by decide))
    have b2 := blen_64 (a := a / 340282366920938463463374607431768211456 % 18446744073709551616) (Nat.mod_lt _ (by decide))
    have b3 := blen_64 (a := a / 6277101735386680763835789423207666416102355444464034512896 % 18446744073709551616) (Nat.mod_lt _ (by decide))
    repeat' (first | (with_reducible first | apply seqC_normal | apply wunrC_normal | apply blockC_normal | apply seqC_exit | apply blockC_hit | apply wunrC_exit | apply seqC_ret | apply blockC_ret | apply wunrC_ret | apply loopC_ret | apply loopC_exit) | ((with_reducible apply blockC_miss); (exact rfl)) | ((with_reducible apply wC_seq e47_0; apply wC_region e47_1); refine vOps_open (l := _ :: _) rfl ?_) | ((with_reducible apply wC_seq e47_2; apply wC_seq e47_3; apply wC_region e47_4); refine vOps_open (l := _ :: _) rfl ?_) | ((with_reducible apply wC_block e47_5; apply kC_unroll [1, 3] e47_6); (exact rfl); (exact rfl); (with_reducible apply wC_seq e47_7; apply wC_seq e47_8; apply wC_region e47_9); refine vOps_open (l := _ :: _) rfl ?_) | ((with_reducible apply kC_unroll [1, 3] e47_6); (exact rfl); (exact rfl); (with_reducible apply wC_seq e47_7; apply wC_seq e47_8; apply wC_region e47_9); refine vOps_open (l := _ :: _) rfl ?_) | ((with_reducible apply kC_cond e47_10); (exact rfl); all_goals (intro hb; first | (cases hb; done) | cases hb | ((try simp only [dxe] at hb); try (exfalso; first | omega | exact hb trivial)))) | ((with_reducible apply wC_skip e47_11)) | ((with_reducible apply kC_less [] (c := n47_12)); (exact rfl); (exact rfl); (with_reducible apply wC_exit e47_12)) | ((with_reducible apply wC_seq e47_13; apply wC_block e47_14; apply wC_seq e47_15; apply wC_region e47_16); refine vOps_open (l := _ :: _) rfl ?_) | ((with_reducible apply kC_cond e47_17); (exact rfl); all_goals (intro hb; first | (cases hb; done) | cases hb | ((try simp only [dxe] at hb); try (exfalso; first | omega | exact hb trivial)))) | ((with_reducible apply wC_seq e47_18; apply wC_region e47_19); refine vOps_open (l := _ :: _) rfl ?_) | ((with_reducible apply wC_ret e47_20)) | ((with_reducible apply wC_skip e47_21)) | ((with_reducible apply wC_region e47_22); refine vOps_open (l := _ :: _) rfl ?_) | ((with_reducible apply wC_seq e47_23; apply wC_region e47_24); refine vOps_open (l := _ :: _) rfl ?_) | ((with_reducible apply wC_ret e47_25)) | ((with_reducible apply vOps_nil); try (with_reducible refine And.intro (by kernel_rfl) ?_)) | (refine kOps_box (row := ?_) (n := ?_) rfl rfl rfl rfl rfl ?_ ?_ ?_ ?_; rotate_left 2; (simp only [↓length_append, ↓length_set, ↓length_cons, length_nil, reduceAdd, zero_add]; rfl); (simp only [qz1, splice_cl, splice_one, len_cl, mod_eq_of_lt la, qz14]; rfl); (focus (first | rfl | exact one_cl _ _ | exact one_bv _ | (simp only [qz19, all_cons, all_nil, Bool.and_self, PV.one]; done) | (simp [PV.one, qz19, one_bv, Value.oneCell']; done)))) | (refine kOps_as rfl rfl rfl rfl ?_) | (refine kOps_mv rfl rfl rfl rfl ?_) | (refine kOps_bin (b := .geq) (pre := ?_) (val := ?_) rfl rfl rfl rfl rfl ?_ ?_ ?_; rotate_left 2; (intro L; simp only [qz1, splice_cl, splice_one, len_cl, mod_eq_of_lt la, eql_u4 ty24 ty22, neq_u4 ty24 ty22, lit_ul0, lit_ul1, qz33, Int.reduceAdd, Int.reduceSub, Int.reduceMul, Int.reduceNeg, Int.sub_zero, cast_ofNat_Int, ne_eq, Int.reduceLT, Int.reduceLE, Int.reduceEq, reduceMod, reduceLT, qz5, ty3]; (first | (rw [wrap_i64] <;> first | omega | rfl) | (rw [wrap_u8] <;> first | omega | rfl) | (rw [wrap_u16] <;> first | omega | rfl) | (rw [wrap_u32] <;> first | omega | rfl) | rfl)); exact trivial) | ((first | (refine kOps_ixap (off' := ?_) rfl rfl rfl rfl rfl rfl ty24 ty22 ?_ ?_ ?_; rotate_left 1; (simp only [qz1, splice_cl, splice_one, len_cl, mod_eq_of_lt la, zero_add, n_add_zero, qz4, one_mul, toNat_natCast, reduceToNat, reduceMul, reduceAdd]; rfl)) | (refine kOps_ixaq (cs' := ?_) rfl rfl rfl rfl rfl ty24 ty22 ?_ ?_ ?_; rotate_left 1; (simp only [qz1, splice_cl, splice_one, len_cl, mod_eq_of_lt la, elemAt, isAggD, qz0, if_false, if_true, reduceIte, agg_cl, toNat_natCast, reduceToNat, qz4, n_add_zero, zero_add, reduceAdd, reduceMul, qz15, length_map]; rfl))); (focus ((repeat' apply And.intro) <;> first | exact True.intro | omega | (with_reducible rfl) | assumption | exact ⟨_, rfl⟩ | (simp only [sda]; done) | (simp only [len_cl]; omega) | (simp [Value.cells, Value.oneCell']; done)))) | ((first | refine kOps_loadp (pre := ?_) (val := ?_) rfl rfl rfl rfl rfl ty22 ?_ ?_ ?_ | refine kOps_loadr (pre := ?_) (val := ?_) rfl rfl rfl rfl ty22 ?_ ?_ ?_); rotate_left 2; (simp only [qz1, splice_cl, splice_one, len_cl, mod_eq_of_lt la, partF, isAggD, qz0, if_false, if_true, reduceIte, agg_cl, toNat_natCast, reduceToNat, qz4, n_add_zero, zero_add, reduceAdd, reduceMul, qz15, length_map]; rfl); (focus ((repeat' apply And.intro) <;> first | exact True.intro | omega | (with_reducible rfl) | assumption | exact ⟨_, rfl⟩ | (simp only [sda]; done) | (simp only [len_cl]; omega) | (simp [Value.cells, Value.oneCell']; done)))) | (refine kOps_bin (b := .neq) (pre := ?_) (val := ?_) rfl rfl rfl rfl rfl ?_ ?_ ?_; rotate_left 2; (intro L; simp only [qz1, splice_cl, splice_one, len_cl, mod_eq_of_lt la, eql_u4 ty24 ty22, neq_u4 ty24 ty22, lit_ul0, lit_ul1, qz37, Int.reduceAdd, Int.reduceSub, Int.reduceMul, Int.reduceNeg, Int.sub_zero, cast_ofNat_Int, ne_eq, Int.reduceLT, Int.reduceLE, Int.reduceEq, reduceMod, reduceLT, qz5, ty22]; (first | (rw [wrap_i64] <;> first | omega | rfl) | (rw [wrap_u8] <;> first | omega | rfl) | (rw [wrap_u16] <;> first | omega | rfl) | (rw [wrap_u32] <;> first | omega | rfl) | rfl)); (focus ((repeat' apply And.intro) <;> first | exact True.intro | omega | (with_reducible rfl) | assumption | exact ⟨_, rfl⟩ | (simp only [sda]; done) | (simp only [len_cl]; omega) | (simp [Value.cells, Value.oneCell']; done)))) | (refine kOps_bin (b := .mul) (pre := ?_) (val := ?_) rfl rfl rfl rfl rfl ?_ ?_ ?_; rotate_left 2; (intro L; simp only [qz1, splice_cl, splice_one, len_cl, mod_eq_of_lt la, eql_u4 ty24 ty22, neq_u4 ty24 ty22, lit_ul0, lit_ul1, mul_ul, binF_mul, Int.reduceAdd, Int.reduceSub, Int.reduceMul, Int.reduceNeg, Int.sub_zero, cast_ofNat_Int, ne_eq, Int.reduceLT, Int.reduceLE, Int.reduceEq, reduceMod, reduceLT, qz5, ty3]; (first | (rw [wrap_i64] <;> first | omega | rfl) | (rw [wrap_u8] <;> first | omega | rfl) | (rw [wrap_u16] <;> first | omega | rfl) | (rw [wrap_u32] <;> first | omega | rfl) | rfl)); exact trivial) | (refine kOps_callc (pre := ?_) (val := ?_) rfl rfl rfl rfl rfl ?_ ?_ ?_ ?_ ?_; rotate_left 2; (simp only [qz1, splice_cl, splice_one, len_cl, mod_eq_of_lt la, sLen64, lit_ul0, lit_ul1, nrmC, qz9, qz8, qz25, ulv_ul, uv_u4, qz12, and_self, n_add_zero, zero_add, zero_mod, n_sub_zero]; rfl); (focus (first | rfl | (simp only [closed, closedL, qz18, closedL_bv, closedL_cl, Bool.and_self, Bool.and_true]; done))); (focus (first | rfl | (simp only [closed, closedL, qz18, closedL_bv, closedL_cl, Bool.and_self, Bool.and_true]; done))); (focus ((repeat' apply And.intro) <;> first | exact True.intro | omega | (with_reducible rfl) | assumption | exact ⟨_, rfl⟩ | (simp only [sda]; done) | (simp only [len_cl]; omega) | (simp [Value.cells, Value.oneCell']; done)))) | (refine kOps_bin (b := .add) (pre := ?_) (val := ?_) rfl rfl rfl rfl rfl ?_ ?_ ?_; rotate_left 2; (intro L; simp only [qz1, splice_cl, splice_one, len_cl, mod_eq_of_lt la, eql_u4 ty24 ty22, neq_u4 ty24 ty22, lit_ul0, lit_ul1, qz34, Int.reduceAdd, Int.reduceSub, Int.reduceMul, Int.reduceNeg, Int.sub_zero, cast_ofNat_Int, ne_eq, Int.reduceLT, Int.reduceLE, Int.reduceEq, reduceMod, reduceLT, qz5, ty3]; (first | (rw [wrap_i64] <;> first | omega | rfl) | (rw [wrap_u8] <;> first | omega | rfl) | (rw [wrap_u16] <;> first | omega | rfl) | (rw [wrap_u32] <;> first | omega | rfl) | rfl)); exact trivial) | (refine kOps_bin (b := .sub) (pre := ?_) (val := ?_) rfl rfl rfl rfl rfl ?_ ?_ ?_; rotate_left 2; (intro L; simp only [qz1, splice_cl, splice_one, len_cl, mod_eq_of_lt la, eql_u4 ty24 ty22, neq_u4 ty24 ty22, lit_ul0, lit_ul1, qz36, Int.reduceAdd, Int.reduceSub, Int.reduceMul, Int.reduceNeg, Int.sub_zero, cast_ofNat_Int, ne_eq, Int.reduceLT, Int.reduceLE, Int.reduceEq, reduceMod, reduceLT, qz5, ty3]; (first | (rw [wrap_i64] <;> first | omega | rfl) | (rw [wrap_u8] <;> first | omega | rfl) | (rw [wrap_u16] <;> first | omega | rfl) | (rw [wrap_u32] <;> first | omega | rfl) | rfl)); exact trivial))
    all_goals (
      refine fin_c (p := ?_) (xs := [.tmp 2]) (by simp) rfl ?_ ?_ ?_ ?_
      rotate_left 2
      · simp only [rsx, qz9, qz1, splice_cl, splice_one, len_cl, mod_eq_of_lt la, evalIn_tmp, evalIn_const, evalIn_func, qz7, Nat.reduceBEq, lit_ul0, lit_ul1, loadF, partF, qz3, qz6, qz16, qz12, and_self, Nat.le_refl, reduceLeDiff, isAggD, qz0, if_false, if_true, reduceIte, agg_cl, toNat_natCast, reduceToNat, qz4, n_add_zero, zero_add, reduceAdd, reduceMul, qz15, length_map, ty3, ty22, ty24]; try rfl
      · first | rfl | (simp only [closed, closedL, qz18, closedL_cl, closedL_bv, Bool.and_self, Bool.and_true]; first | done | rfl)
      · refine int_eq ?_
        first
          | (rw [blen_w3 (a := a) (by omega), mod_eq_of_lt (show a / 6277101735386680763835789423207666416102355444464034512896 < 18446744073709551616 by omega)]; omega) | (rw [blen_w2 (a := a) (by omega), mod_eq_of_lt (show a / 340282366920938463463374607431768211456 < 18446744073709551616 by omega)]; omega) | (rw [blen_w1 (a := a) (by omega), mod_eq_of_lt (show a / 18446744073709551616 < 18446744073709551616 by omega)]; omega) | (rw [mod_eq_of_lt (show a < 18446744073709551616 by omega)]; omega)
          | (have ha0 : a = 0 := by omega
             subst ha0; rfl)
      · simp only [rsx, qz9, qz1, splice_cl, splice_one, len_cl, mod_eq_of_lt la, evalIn_tmp, evalIn_const, evalIn_func, qz7, Nat.reduceBEq, lit_ul0, lit_ul1, loadF, partF, qz3, qz6, qz16, qz12, and_self, Nat.le_refl, reduceLeDiff, isAggD, qz0, if_false, if_true, reduceIte, agg_cl, toNat_natCast, reduceToNat, qz4, n_add_zero, zero_add, reduceAdd, reduceMul, qz15, length_map, ty3, ty22, ty24]; try trivial)
  · exact hS.elim
noncomputable def B18 : Code := bodyOf Try.f18
theorem B18_eq : Try.f18.body = some B18 := by kernel_rfl
noncomputable def n18_0 := B18
noncomputable def n18_1 := codeAt B18 [0]
noncomputable def n18_2 := codeAt B18 [1]
noncomputable def n18_3 := codeAt B18 [1,0]
noncomputable def n18_4 := codeAt B18 [1,1]
noncomputable def n18_5 := codeAt B18 [1,1,0]
noncomputable def n18_6 := codeAt B18 [1,1,0,0]
noncomputable def n18_7 := codeAt B18 [1,1,0,1]
noncomputable def n18_8 := codeAt B18 [1,1,0,1,0]
noncomputable def n18_9 := codeAt B18 [1,1,0,1,0,0]
noncomputable def n18_10 := codeAt B18 [1,1,0,1,0,0,0]
noncomputable def n18_11 := codeAt B18 [1,1,0,1,0,0,1]
noncomputable def n18_12 := codeAt B18 [1,1,0,1,0,0,1,0]
noncomputable def n18_13 := codeAt B18 [1,1,0,1,0,0,1,0,0]
noncomputable def n18_14 := codeAt B18 [1,1,0,1,0,0,1,0,1]
noncomputable def n18_15 := codeAt B18 [1,1,0,1,0,0,1,1]
noncomputable def n18_16 := codeAt B18 [1,1,0,1,0,0,1,1,0]
noncomputable def n18_17 := codeAt B18 [1,1,0,1,0,0,1,1,0,0]
noncomputable def n18_18 := codeAt B18 [1,1,0,1,0,0,1,1,0,0,0]
noncomputable def n18_19 := codeAt B18 [1,1,0,1,0,0,1,1,0,0,1]
noncomputable def n18_20 := codeAt B18 [1,1,0,1,0,0,1,1,0,0,1,0]
noncomputable def n18_21 := codeAt B18 [1,1,0,1,0,0,1,1,0,0,1,0,0]
noncomputable def n18_22 := codeAt B18 [1,1,0,1,0,0,1,1,0,0,1,0,1]
noncomputable def n18_23 := codeAt B18 [1,1,0,1,0,0,1,1,0,0,1,0,1,0]
noncomputable def n18_24 := codeAt B18 [1,1,0,1,0,0,1,1,0,0,1,0,1,1]
noncomputable def n18_25 := codeAt B18 [1,1,0,1,0,0,1,1,0,0,1,1]
noncomputable def n18_26 := codeAt B18 [1,1,0,1,0,0,1,1,1]
noncomputable def n18_27 := codeAt B18 [1,1,1]
noncomputable def n18_28 := codeAt B18 [1,1,1,0]
noncomputable def n18_29 := codeAt B18 [1,1,1,1]
theorem e18_0 : n18_0 = .seq n18_1 n18_2 := rfl
noncomputable def r18_1 := opsAt n18_1
theorem e18_1 : n18_1 = .region 0 (r18_1).toArray false := rfl
theorem e18_2 : n18_2 = .seq n18_3 n18_4 := rfl
noncomputable def r18_3 := opsAt n18_3
theorem e18_3 : n18_3 = .region 1 (r18_3).toArray false := rfl
theorem e18_4 : n18_4 = .seq n18_5 n18_27 := rfl
theorem e18_5 : n18_5 = .seq n18_6 n18_7 := rfl
noncomputable def r18_6 := opsAt n18_6
theorem e18_6 : n18_6 = .region 2 (r18_6).toArray false := rfl
theorem e18_7 : n18_7 = .block 0 n18_8 := rfl
theorem e18_8 : n18_8 = .loop n18_9 := rfl
theorem e18_9 : n18_9 = .seq n18_10 n18_11 := rfl
noncomputable def r18_10 := opsAt n18_10
theorem e18_10 : n18_10 = .region 3 (r18_10).toArray false := rfl
theorem e18_11 : n18_11 = .seq n18_12 n18_15 := rfl
theorem e18_12 : n18_12 = .cond (.tmp 11) n18_13 n18_14 := rfl
theorem e18_13 : n18_13 = .skip := rfl
theorem e18_14 : n18_14 = .exit 0 := rfl
theorem e18_15 : n18_15 = .seq n18_16 n18_26 := rfl
theorem e18_16 : n18_16 = .block 1 n18_17 := rfl
theorem e18_17 : n18_17 = .seq n18_18 n18_19 := rfl
noncomputable def r18_18 := opsAt n18_18
theorem e18_18 : n18_18 = .region 4 (r18_18).toArray false := rfl
theorem e18_19 : n18_19 = .seq n18_20 n18_25 := rfl
theorem e18_20 : n18_20 = .seq n18_21 n18_22 := rfl
noncomputable def r18_21 := opsAt n18_21
theorem e18_21 : n18_21 = .region 5 (r18_21).toArray false := rfl
theorem e18_22 : n18_22 = .cond (.tmp 21) n18_23 n18_24 := rfl
noncomputable def r18_23 := opsAt n18_23
theorem e18_23 : n18_23 = .region 6 (r18_23).toArray false := rfl
theorem e18_24 : n18_24 = .skip := rfl
noncomputable def r18_25 := opsAt n18_25
theorem e18_25 : n18_25 = .region 7 (r18_25).toArray false := rfl
noncomputable def r18_26 := opsAt n18_26
theorem e18_26 : n18_26 = .region 8 (r18_26).toArray false := rfl
theorem e18_27 : n18_27 = .seq n18_28 n18_29 := rfl
noncomputable def r18_28 := opsAt n18_28
theorem e18_28 : n18_28 = .region 9 (r18_28).toArray false := rfl
theorem e18_29 : n18_29 = .ret := rfl
theorem f_group_Exp : PureOk Try.prog 18 sGExp := by
  refine pureOk_of (c := n18_0) (Γ := conOf [(16, .pure sGMul), (39, .pure sFromUint), (47, .pure sLen)]) (conOf_ok (conOf_one (S := .pure sGMul) f_group_Mul (conOf_one (S := .pure sFromUint) f_wide_FromUint (conOf_one (S := .pure sLen) f_wide_Len (conOf_end))))) mixed Try.func18 B18_eq (by decide +kernel) Try.call18 ?_
  intro args hS
  unfold sGExp at hS ⊢
  split at hS
  · refine ⟨by rw [Try.ntmps18]; simp, vC_sound ?_⟩
    rename_i xa xe
    obtain ⟨ha, he⟩ := hS
    obtain ⟨a, la, rfl⟩ := isU_out ha
    obtain ⟨e, le, rfl⟩ := isU_out he
    simp only [uv_u4, mod_eq_of_lt la, mod_eq_of_lt le]
    clear ha he
    simp only [qz26, reduceAdd]
    have hle := blen_le le
    have hlt := blen_lt e
    generalize hN : blen e = N at hle hlt
    repeat' (first | (with_reducible first | apply seqC_normal | apply blockC_normal | apply seqC_exit | apply blockC_hit | apply seqC_ret | apply blockC_ret | apply loopC_ret | apply loopC_exit) | ((with_reducible apply blockC_miss); (exact rfl)) | ((with_reducible apply wC_seq e18_0; apply wC_region e18_1); refine vOps_open (l := _ :: _) rfl ?_) | ((with_reducible apply wC_seq e18_2; apply wC_region e18_3); refine vOps_open (l := _ :: _) rfl ?_) | ((with_reducible apply wC_seq e18_4; apply wC_seq e18_5; apply wC_region e18_6); refine vOps_open (l := _ :: _) rfl ?_) | ((with_reducible apply wC_block e18_7)) | ((with_reducible apply wC_seq e18_27; apply wC_region e18_28); refine vOps_open (l := _ :: _) rfl ?_) | ((with_reducible apply wC_ret e18_29)) | ((with_reducible apply vOps_nil); try (with_reducible refine And.intro (by kernel_rfl) ?_)) | (refine kOps_box (row := ?_) (n := ?_) rfl rfl rfl rfl rfl ?_ ?_ ?_ ?_; rotate_left 2; (simp only [↓length_append, ↓length_set, ↓length_cons, length_nil, reduceAdd, zero_add]; rfl); (simp only [qz1, splice_cl, splice_one, len_cl, reduceMod, reduceAdd, reduceSub, reduceMul, reduceDiv, reduceLT, reduceLeDiff, reduceEqDiff, qz5, eq_self, if_false, if_true, reduceIte, zero_mod, qz11, cl_one, qz2, zero_add, mod_eq_of_lt la, mod_eq_of_lt le, qz14]; rfl); (focus (first | rfl | exact one_cl _ _ | exact one_bv _ | (simp only [qz19, all_cons, all_nil, Bool.and_self, PV.one]; done) | (simp [PV.one, qz19, one_bv, Value.oneCell']; done)))) | (refine kOps_alloc (row := ?_) (n := ?_) rfl rfl rfl rfl ty24 ?_ ?_ ?_ ?_; rotate_left 2; (simp only [↓length_append, ↓length_set, ↓length_cons, length_nil, reduceAdd, zero_add]; rfl); (simp only [qz1, splice_cl, splice_one, len_cl, reduceMod, reduceAdd, reduceSub, reduceMul, reduceDiv, reduceLT, reduceLeDiff, reduceEqDiff, qz5, eq_self, if_false, if_true, reduceIte, zero_mod, qz11, cl_one, qz2, zero_add, mod_eq_of_lt la, mod_eq_of_lt le, Value.cells, qz9, List.toList_toArray, zero_cl4, zero_cl8, lit_ul0]; rfl); (focus (first | (simp only [Value.cells, List.toList_toArray, qz23, Value.oneCell', and_self]; done) | (simp [Value.cells, Value.oneCell']; done)))) | (refine kOps_callc (pre := ?_) (val := ?_) rfl rfl rfl rfl rfl ?_ ?_ ?_ ?_ ?_; rotate_left 2; (simp only [qz1, splice_cl, splice_one, len_cl, reduceMod, reduceAdd, reduceSub, reduceMul, reduceDiv, reduceLT, reduceLeDiff, reduceEqDiff, qz5, eq_self, if_false, if_true, reduceIte, zero_mod, qz11, cl_one, qz2, zero_add, mod_eq_of_lt la, mod_eq_of_lt le, sGMul, sFromUint, sLen, lit_ul0, lit_ul1, nrmC, qz9, qz8, qz25, ulv_ul, uv_u4, qz12, and_self, n_add_zero, n_sub_zero]; rfl); (focus (first | rfl | (simp only [closed, closedL, qz18, closedL_bv, closedL_cl, Bool.and_self, Bool.and_true]; done))); (focus (first | rfl | (simp only [closed, closedL, qz18, closedL_bv, closedL_cl, Bool.and_self, Bool.and_true]; done))); (focus ((repeat' apply And.intro) <;> first | exact True.intro | omega | (with_reducible rfl) | assumption | exact ⟨_, rfl⟩ | (simp only [sda]; done) | (simp only [len_cl]; omega) | (simp [Value.cells, Value.oneCell']; done)))) | (refine kOps_store (cs' := ?_) rfl rfl rfl rfl rfl rfl rfl ty24 ?_ ?_ ?_; rotate_left 1; (simp only [qz1, splice_cl, splice_one, len_cl, reduceMod, reduceAdd, reduceSub, reduceMul, reduceDiv, reduceLT, reduceLeDiff, reduceEqDiff, qz5, eq_self, if_false, if_true, reduceIte, zero_mod, qz11, cl_one, qz2, zero_add, mod_eq_of_lt la, mod_eq_of_lt le, lit_ul0, lit_ul1, qz14, isAggD, qz0, agg_cl, toNat_natCast, reduceToNat, qz4, n_add_zero, qz15, length_map]; rfl); (focus (first | (simp only [lit_ul0, lit_ul1, qz14, length_cons, length_nil, len_cl, length_set, length_map, reduceAdd, zero_add, all_cons, all_nil, qz19, one_bv, PV.one, Value.oneCell', Bool.and_self, reduceLeDiff, Nat.le_refl, and_self, qz12]; done) | ((try simp only [lit_ul0, lit_ul1, qz14]); (focus ((repeat' apply And.intro) <;> first | exact True.intro | omega | (with_reducible rfl) | assumption | exact ⟨_, rfl⟩ | (simp only [sda]; done) | (simp only [len_cl]; omega) | (simp [Value.cells, Value.oneCell']; done))))))) | ((first | refine kOps_loadp (pre := ?_) (val := ?_) rfl rfl rfl rfl rfl ty24 ?_ ?_ ?_ | refine kOps_loadr (pre := ?_) (val := ?_) rfl rfl rfl rfl ty24 ?_ ?_ ?_); rotate_left 2; (simp only [qz1, splice_cl, splice_one, len_cl, reduceMod, reduceAdd, reduceSub, reduceMul, reduceDiv, reduceLT, reduceLeDiff, reduceEqDiff, qz5, eq_self, if_false, if_true, reduceIte, zero_mod, qz11, cl_one, qz2, zero_add, mod_eq_of_lt la, mod_eq_of_lt le, partF, isAggD, qz0, agg_cl, toNat_natCast, reduceToNat, qz4, n_add_zero, qz15, length_map]; rfl); (focus ((repeat' apply And.intro) <;> first | exact True.intro | omega | (with_reducible rfl) | assumption | exact ⟨_, rfl⟩ | (simp only [sda]; done) | (simp only [len_cl]; omega) | (simp [Value.cells, Value.oneCell']; done)))) | (refine kOps_mv rfl rfl rfl rfl ?_))
    try simp only [hN]
    refine wC_loopI (ι := {x : Nat × Nat × Nat // x.1 ≤ N ∧ PInv a e x.1 x.2.1 x.2.2}) e18_8 (fun x => ([(2, .ptr 0 0), (3, .ptr 1 0), (4, .ptr 2 0), (5, .ptr 3 0), (9, .lit (.int .i64 (N : Int))), (10, .lit (.int .i64 (x.1.1 : Int)))], [.cells (cl 4 x.1.2.2), .cells (cl 4 e), .cells (cl 4 0), .cells (cl 4 x.1.2.1)])) (fun x => N - x.1.1) ⟨(0, 1, a), Nat.zero_le _, pin_start la⟩ [0, 1, 2, 3] ?_ ?_
    · show Weak _ _ _ _ _ _
      refine weak_mk (fun i h => absurd h (Nat.not_lt_zero i)) (by decide) (by simp) ?_ ?_
      · simp only [RenRows, qz16, qz6, qz3, qz28, closedL_bv, closedL_cl, qz12]
        all_goals (trivial)
      · simp only [RenEnv, qz7, Nat.reduceBEq]
        (repeat' apply And.intro) <;> first | trivial | exact ren_keep rfl | exact ren_keep (closed_u4 _) | (refine ren_int ?_; omega) | (refine ren_own rfl ?_; first | rfl | omega | (simp; done) | (omega; done)) | (refine ren_int ?_; omega; done) | (refine ren_int ?_; simp; done) | (refine ren_keep ?_; simp only [closed, closedL_bv, closedL_rows, closedL_cl]; done) | (refine ren_ptr rfl; done)
    · rintro ⟨⟨i, r, b⟩, ht, inv⟩
      dsimp only at ht inv ⊢
      by_cases hd : i = N
      · subst hd
        have hl : ((i : Int) < (i : Int)) = False := eq_false (by omega)
        repeat' (first | (with_reducible first | apply seqC_normal | apply blockC_normal | apply seqC_exit | apply blockC_hit | apply seqC_ret | apply blockC_ret | apply loopC_ret | apply loopC_exit) | ((with_reducible apply blockC_miss); (exact rfl)) | ((with_reducible apply wC_seq e18_9; apply wC_region e18_10); refine vOps_open (l := _ :: _) rfl ?_; refine kOps_bin (b := .lss) (pre := ?_) (val := ?_) rfl rfl rfl rfl rfl ?_ ?_ ?_; rotate_left 2; (intro L; simp only [qz1, splice_cl, splice_one, len_cl, reduceMod, reduceAdd, reduceSub, reduceMul, reduceDiv, reduceLT, reduceLeDiff, reduceEqDiff, qz5, eq_self, if_false, if_true, reduceIte, zero_mod, qz11, cl_one, qz2, zero_add, hl, eql_u4 ty24 ty22, neq_u4 ty24 ty22, qz35, Int.reduceAdd, Int.reduceSub, Int.reduceMul, Int.reduceNeg, Int.sub_zero, cast_ofNat_Int, ne_eq, Int.reduceLT, Int.reduceLE, Int.reduceEq, ty3]; (first | (rw [wrap_i64] <;> first | omega | rfl) | (rw [wrap_u8] <;> first | omega | rfl) | (rw [wrap_u16] <;> first | omega | rfl) | (rw [wrap_u32] <;> first | omega | rfl) | rfl)); exact trivial; refine vOps_nil ?_; (with_reducible apply seqC_normal; apply wC_seq e18_11; apply kC_cond e18_12); (exact rfl); all_goals (intro hb; first | (cases hb; done) | cases hb | ((try simp only [dxe] at hb); try (exfalso; first | omega | exact hb trivial)))) | ((with_reducible apply wC_skip e18_13)) | ((with_reducible apply wC_exit e18_14)) | ((with_reducible apply wC_seq e18_27; apply wC_region e18_28); refine vOps_open (l := _ :: _) rfl ?_; (first | refine kOps_loadp (pre := ?_) (val := ?_) rfl rfl rfl rfl rfl ty24 ?_ ?_ ?_ | refine kOps_loadr (pre := ?_) (val := ?_) rfl rfl rfl rfl ty24 ?_ ?_ ?_); rotate_left 2; (simp only [qz1, splice_cl, splice_one, len_cl, reduceMod, reduceAdd, reduceSub, reduceMul, reduceDiv, reduceLT, reduceLeDiff, reduceEqDiff, qz5, eq_self, if_false, if_true, reduceIte, zero_mod, qz11, cl_one, qz2, zero_add, hl, partF, isAggD, qz0, agg_cl, toNat_natCast, reduceToNat, qz4, n_add_zero, qz15, length_map]; rfl); (focus ((repeat' apply And.intro) <;> first | exact True.intro | omega | (with_reducible rfl) | assumption | exact ⟨_, rfl⟩ | (simp only [sda]; done) | (simp only [len_cl]; omega) | (simp [Value.cells, Value.oneCell']; done))); refine kOps_store (cs' := ?_) rfl rfl rfl rfl rfl rfl rfl ty24 ?_ ?_ ?_; rotate_left 1; (simp only [qz1, splice_cl, splice_one, len_cl, reduceMod, reduceAdd, reduceSub, reduceMul, reduceDiv, reduceLT, reduceLeDiff, reduceEqDiff, qz5, eq_self, if_false, if_true, reduceIte, zero_mod, qz11, cl_one, qz2, zero_add, hl, qz14, isAggD, qz0, agg_cl, toNat_natCast, reduceToNat, qz4, n_add_zero, qz15, length_map]; rfl); (focus (first | (simp only [qz14, length_cons, length_nil, len_cl, length_set, length_map, reduceAdd, zero_add, all_cons, all_nil, qz19, one_bv, PV.one, Value.oneCell', Bool.and_self, reduceLeDiff, Nat.le_refl, and_self, qz12]; done) | ((try simp only [qz14]); (focus ((repeat' apply And.intro) <;> first | exact True.intro | omega | (with_reducible rfl) | assumption | exact ⟨_, rfl⟩ | (simp only [sda]; done) | (simp only [len_cl]; omega) | (simp [Value.cells, Value.oneCell']; done)))))); refine vOps_nil ?_; (with_reducible apply seqC_normal; apply wC_ret e18_29)))
        refine fin_c (p := ?_) (xs := [.cell 4 24]) (by simp) rfl ?_ ?_ ?_ ?_
        rotate_left 2
        · simp only [rsx, qz9, qz1, splice_cl, splice_one, len_cl, reduceMod, reduceAdd, reduceSub, reduceMul, reduceDiv, reduceLT, reduceLeDiff, reduceEqDiff, qz5, eq_self, if_false, if_true, reduceIte, zero_mod, qz11, cl_one, qz2, zero_add, hl, evalIn_tmp, evalIn_const, evalIn_func, qz7, Nat.reduceBEq, lit_ul0, lit_ul1, loadF, partF, qz3, qz6, qz16, qz12, and_self, Nat.le_refl, isAggD, qz0, agg_cl, toNat_natCast, reduceToNat, qz4, n_add_zero, qz15, length_map, ty3, ty22, ty24]; try rfl
        · first | rfl | (simp only [closed, closedL, qz18, closedL_cl, closedL_bv, Bool.and_self, Bool.and_true]; first | done | rfl)
        · rw [pin_done inv hlt]
        · simp only [rsx, qz9, qz1, splice_cl, splice_one, len_cl, reduceMod, reduceAdd, reduceSub, reduceMul, reduceDiv, reduceLT, reduceLeDiff, reduceEqDiff, qz5, eq_self, if_false, if_true, reduceIte, zero_mod, qz11, cl_one, qz2, zero_add, hl, evalIn_tmp, evalIn_const, evalIn_func, qz7, Nat.reduceBEq, lit_ul0, lit_ul1, loadF, partF, qz3, qz6, qz16, qz12, and_self, Nat.le_refl, isAggD, qz0, agg_cl, toNat_natCast, reduceToNat, qz4, n_add_zero, qz15, length_map, ty3, ty22, ty24]; try trivial
      · have hi : i < 256 := by omega
        have hl : ((i : Int) < (N : Int)) = True := eq_true (by omega)
        have hn : (i : Int) + 1 = ((i + 1 : Nat) : Int) := rfl
        have lr : r < 115792089237316195423570985008687907853269984665640564039457584007913129639936 := Nat.lt_trans inv.1 pPl
        have lb : b < 115792089237316195423570985008687907853269984665640564039457584007913129639936 := inv.2.1
        repeat' (first | (with_reducible first | apply seqC_normal | apply blockC_normal | apply seqC_exit | apply blockC_hit | apply seqC_ret | apply blockC_ret | apply loopC_ret | apply loopC_exit) | ((with_reducible apply blockC_miss); (exact rfl)) | ((with_reducible apply wC_seq e18_9; apply wC_region e18_10); refine vOps_open (l := _ :: _) rfl ?_) | ((with_reducible apply wC_seq e18_11; apply kC_cond e18_12); (exact rfl); all_goals (intro hb; first | (cases hb; done) | cases hb | ((try simp only [dxe] at hb); try (exfalso; first | omega | exact hb trivial)))) | ((with_reducible apply wC_skip e18_13)) | ((with_reducible apply wC_exit e18_14)) | ((with_reducible apply wC_seq e18_15; apply wC_block e18_16; apply wC_seq e18_17; apply wC_region e18_18); refine vOps_open (l := _ :: _) rfl ?_) | ((with_reducible apply wC_seq e18_19; apply wC_seq e18_20; apply wC_region e18_21); refine vOps_open (l := _ :: _) rfl ?_) | ((with_reducible apply kC_cond e18_22); (exact rfl); all_goals (intro hb; first | (cases hb; done) | cases hb | ((try simp only [dxe] at hb); try (exfalso; first | omega | exact hb trivial)))) | ((with_reducible apply wC_region e18_23); refine vOps_open (l := _ :: _) rfl ?_) | ((with_reducible apply wC_skip e18_24)) | ((with_reducible apply wC_region e18_25); refine vOps_open (l := _ :: _) rfl ?_) | ((with_reducible apply wC_region e18_26); refine vOps_open (l := _ :: _) rfl ?_) | ((with_reducible apply wC_seq e18_27; apply wC_region e18_28); refine vOps_open (l := _ :: _) rfl ?_) | ((with_reducible apply wC_ret e18_29)) | ((with_reducible apply vOps_nil); try (with_reducible refine And.intro (by kernel_rfl) ?_)) | (refine kOps_bin (b := .lss) (pre := ?_) (val := ?_) rfl rfl rfl rfl rfl ?_ ?_ ?_; rotate_left 2; (intro L; simp only [qz1, splice_cl, splice_one, len_cl, reduceMod, reduceAdd, reduceSub, reduceMul, reduceDiv, reduceLT, reduceLeDiff, reduceEqDiff, qz5, eq_self, if_false, if_true, reduceIte, zero_mod, qz11, cl_one, qz2, zero_add, mod_eq_of_lt lr, mod_eq_of_lt lb, hl, hn, toNat_natCast, qz29, cl_get hi, bit_word, bit_fin', and_one', bit_fin, eql_u4 ty24 ty22, neq_u4 ty24 ty22, lit_ul0, lit_ul1, qz35, Int.reduceAdd, Int.reduceSub, Int.reduceMul, Int.reduceNeg, Int.sub_zero, cast_ofNat_Int, ne_eq, Int.reduceLT, Int.reduceLE, Int.reduceEq, ty3]; (first | (rw [wrap_i64] <;> first | omega | rfl) | (rw [wrap_u8] <;> first | omega | rfl) | (rw [wrap_u16] <;> first | omega | rfl) | (rw [wrap_u32] <;> first | omega | rfl) | rfl)); exact trivial) | (refine kOps_mv rfl rfl rfl rfl ?_) | (refine kOps_as rfl rfl rfl rfl ?_) | (refine kOps_bin (b := .quo) (pre := ?_) (val := ?_) rfl rfl rfl rfl rfl ?_ ?_ ?_; rotate_left 2; (intro L; simp only [qz1, splice_cl, splice_one, len_cl, reduceMod, reduceAdd, reduceSub, reduceMul, reduceDiv, reduceLT, reduceLeDiff, reduceEqDiff, qz5, eq_self, if_false, if_true, reduceIte, zero_mod, qz11, cl_one, qz2, zero_add, mod_eq_of_lt lr, mod_eq_of_lt lb, hl, hn, toNat_natCast, qz29, cl_get hi, bit_word, bit_fin', and_one', bit_fin, eql_u4 ty24 ty22, neq_u4 ty24 ty22, lit_ul0, lit_ul1, binF_quo, Int.reduceAdd, Int.reduceSub, Int.reduceMul, Int.reduceNeg, Int.sub_zero, cast_ofNat_Int, ne_eq, Int.reduceLT, Int.reduceLE, Int.reduceEq, ty3]; (first | (rw [wrap_i64] <;> first | omega | rfl) | (rw [wrap_u8] <;> first | omega | rfl) | (rw [wrap_u16] <;> first | omega | rfl) | (rw [wrap_u32] <;> first | omega | rfl) | rfl)); (focus ((repeat' apply And.intro) <;> first | exact True.intro | omega | (with_reducible rfl) | assumption | exact ⟨_, rfl⟩ | (simp only [sda]; done) | (simp only [len_cl]; omega) | (simp [Value.cells, Value.oneCell']; done)))) | ((first | (refine kOps_ixap (off' := ?_) rfl rfl rfl rfl rfl rfl ty24 ty22 ?_ ?_ ?_; rotate_left 1; (simp only [qz1, splice_cl, splice_one, len_cl, reduceMod, reduceAdd, reduceSub, reduceMul, reduceDiv, reduceLT, reduceLeDiff, reduceEqDiff, qz5, eq_self, if_false, if_true, reduceIte, zero_mod, qz11, cl_one, qz2, zero_add, mod_eq_of_lt lr, mod_eq_of_lt lb, hl, hn, toNat_natCast, qz29, cl_get hi, bit_word, bit_fin', and_one', n_add_zero, qz4, one_mul, reduceToNat]; rfl)) | (refine kOps_ixaq (cs' := ?_) rfl rfl rfl rfl rfl ty24 ty22 ?_ ?_ ?_; rotate_left 1; (simp only [qz1, splice_cl, splice_one, len_cl, reduceMod, reduceAdd, reduceSub, reduceMul, reduceDiv, reduceLT, reduceLeDiff, reduceEqDiff, qz5, eq_self, if_false, if_true, reduceIte, zero_mod, qz11, cl_one, qz2, zero_add, mod_eq_of_lt lr, mod_eq_of_lt lb, hl, hn, toNat_natCast, qz29, cl_get hi, bit_word, bit_fin', and_one', elemAt, isAggD, qz0, agg_cl, reduceToNat, qz4, n_add_zero, qz15, length_map]; rfl))); (focus ((repeat' apply And.intro) <;> first | exact True.intro | omega | (with_reducible rfl) | assumption | exact ⟨_, rfl⟩ | (simp only [sda]; done) | (simp only [len_cl]; omega) | (simp [Value.cells, Value.oneCell']; done)))) | ((first | refine kOps_loadp (pre := ?_) (val := ?_) rfl rfl rfl rfl rfl ty22 ?_ ?_ ?_ | refine kOps_loadr (pre := ?_) (val := ?_) rfl rfl rfl rfl ty22 ?_ ?_ ?_); rotate_left 2; (simp only [qz1, splice_cl, splice_one, len_cl, reduceMod, reduceAdd, reduceSub, reduceMul, reduceDiv, reduceLT, reduceLeDiff, reduceEqDiff, qz5, eq_self, if_false, if_true, reduceIte, zero_mod, qz11, cl_one, qz2, zero_add, mod_eq_of_lt lr, mod_eq_of_lt lb, hl, hn, toNat_natCast, qz29, cl_get hi, bit_word, bit_fin', and_one', partF, isAggD, qz0, agg_cl, reduceToNat, qz4, n_add_zero, qz15, length_map]; rfl); (focus ((repeat' apply And.intro) <;> first | exact True.intro | omega | (with_reducible rfl) | assumption | exact ⟨_, rfl⟩ | (simp only [sda]; done) | (simp only [len_cl]; omega) | (simp [Value.cells, Value.oneCell']; done)))) | (refine kOps_bin (b := .rem) (pre := ?_) (val := ?_) rfl rfl rfl rfl rfl ?_ ?_ ?_; rotate_left 2; (intro L; simp only [qz1, splice_cl, splice_one, len_cl, reduceMod, reduceAdd, reduceSub, reduceMul, reduceDiv, reduceLT, reduceLeDiff, reduceEqDiff, qz5, eq_self, if_false, if_true, reduceIte, zero_mod, qz11, cl_one, qz2, zero_add, mod_eq_of_lt lr, mod_eq_of_lt lb, hl, hn, toNat_natCast, qz29, cl_get hi, bit_word, bit_fin', and_one', bit_fin, eql_u4 ty24 ty22, neq_u4 ty24 ty22, lit_ul0, lit_ul1, binF_rem, Int.reduceAdd, Int.reduceSub, Int.reduceMul, Int.reduceNeg, Int.sub_zero, cast_ofNat_Int, ne_eq, Int.reduceLT, Int.reduceLE, Int.reduceEq, ty3]; (first | (rw [wrap_i64] <;> first | omega | rfl) | (rw [wrap_u8] <;> first | omega | rfl) | (rw [wrap_u16] <;> first | omega | rfl) | (rw [wrap_u32] <;> first | omega | rfl) | rfl)); (focus ((repeat' apply And.intro) <;> first | exact True.intro | omega | (with_reducible rfl) | assumption | exact ⟨_, rfl⟩ | (simp only [sda]; done) | (simp only [len_cl]; omega) | (simp [Value.cells, Value.oneCell']; done)))) | (refine kOps_bin (b := .shr) (pre := ?_) (val := ?_) rfl rfl rfl rfl rfl ?_ ?_ ?_; rotate_left 2; (intro L; simp only [qz1, splice_cl, splice_one, len_cl, reduceMod, reduceAdd, reduceSub, reduceMul, reduceDiv, reduceLT, reduceLeDiff, reduceEqDiff, qz5, eq_self, if_false, if_true, reduceIte, zero_mod, qz11, cl_one, qz2, zero_add, mod_eq_of_lt lr, mod_eq_of_lt lb, hl, hn, toNat_natCast, qz29, cl_get hi, bit_word, bit_fin', and_one', bit_fin, eql_u4 ty24 ty22, neq_u4 ty24 ty22, lit_ul0, lit_ul1, qz41, Int.reduceAdd, Int.reduceSub, Int.reduceMul, Int.reduceNeg, Int.sub_zero, cast_ofNat_Int, ne_eq, Int.reduceLT, Int.reduceLE, Int.reduceEq, ty22]; (first | (rw [wrap_i64] <;> first | omega | rfl) | (rw [wrap_u8] <;> first | omega | rfl) | (rw [wrap_u16] <;> first | omega | rfl) | (rw [wrap_u32] <;> first | omega | rfl) | rfl)); (focus ((repeat' apply And.intro) <;> first | exact True.intro | omega | (with_reducible rfl) | assumption | exact ⟨_, rfl⟩ | (simp only [sda]; done) | (simp only [len_cl]; omega) | (simp [Value.cells, Value.oneCell']; done)))) | (refine kOps_bin (b := .and) (pre := ?_) (val := ?_) rfl rfl rfl rfl rfl ?_ ?_ ?_; rotate_left 2; (intro L; simp only [qz1, splice_cl, splice_one, len_cl, reduceMod, reduceAdd, reduceSub, reduceMul, reduceDiv, reduceLT, reduceLeDiff, reduceEqDiff, qz5, eq_self, if_false, if_true, reduceIte, zero_mod, qz11, cl_one, qz2, zero_add, mod_eq_of_lt lr, mod_eq_of_lt lb, hl, hn, toNat_natCast, qz29, cl_get hi, bit_word, bit_fin', and_one', bit_fin, eql_u4 ty24 ty22, neq_u4 ty24 ty22, lit_ul0, lit_ul1, and_ul, binF_and, Int.reduceAdd, Int.reduceSub, Int.reduceMul, Int.reduceNeg, Int.sub_zero, cast_ofNat_Int, ne_eq, Int.reduceLT, Int.reduceLE, Int.reduceEq, ty22]; (first | (rw [wrap_i64] <;> first | omega | rfl) | (rw [wrap_u8] <;> first | omega | rfl) | (rw [wrap_u16] <;> first | omega | rfl) | (rw [wrap_u32] <;> first | omega | rfl) | rfl)); exact trivial) | (refine kOps_bin (b := .eql) (pre := ?_) (val := ?_) rfl rfl rfl rfl rfl ?_ ?_ ?_; rotate_left 2; (intro L; simp only [qz1, splice_cl, splice_one, len_cl, reduceMod, reduceAdd, reduceSub, reduceMul, reduceDiv, reduceLT, reduceLeDiff, reduceEqDiff, qz5, eq_self, if_false, if_true, reduceIte, zero_mod, qz11, cl_one, qz2, zero_add, mod_eq_of_lt lr, mod_eq_of_lt lb, hl, hn, toNat_natCast, qz29, cl_get hi, bit_word, bit_fin', and_one', bit_fin, eql_u4 ty24 ty22, neq_u4 ty24 ty22, lit_ul0, lit_ul1, qz31, Int.reduceAdd, Int.reduceSub, Int.reduceMul, Int.reduceNeg, Int.sub_zero, cast_ofNat_Int, ne_eq, Int.reduceLT, Int.reduceLE, Int.reduceEq, ty22]; (first | (rw [wrap_i64] <;> first | omega | rfl) | (rw [wrap_u8] <;> first | omega | rfl) | (rw [wrap_u16] <;> first | omega | rfl) | (rw [wrap_u32] <;> first | omega | rfl) | rfl)); (focus ((repeat' apply And.intro) <;> first | exact True.intro | omega | (with_reducible rfl) | assumption | exact ⟨_, rfl⟩ | (simp only [sda]; done) | (simp only [len_cl]; omega) | (simp [Value.cells, Value.oneCell']; done)))) | ((first | refine kOps_loadp (pre := ?_) (val := ?_) rfl rfl rfl rfl rfl ty24 ?_ ?_ ?_ | refine kOps_loadr (pre := ?_) (val := ?_) rfl rfl rfl rfl ty24 ?_ ?_ ?_); rotate_left 2; (simp only [qz1, splice_cl, splice_one, len_cl, reduceMod, reduceAdd, reduceSub, reduceMul, reduceDiv, reduceLT, reduceLeDiff, reduceEqDiff, qz5, eq_self, if_false, if_true, reduceIte, zero_mod, qz11, cl_one, qz2, zero_add, mod_eq_of_lt lr, mod_eq_of_lt lb, hl, hn, toNat_natCast, qz29, cl_get hi, bit_word, bit_fin', and_one', partF, isAggD, qz0, agg_cl, reduceToNat, qz4, n_add_zero, qz15, length_map]; rfl); (focus ((repeat' apply And.intro) <;> first | exact True.intro | omega | (with_reducible rfl) | assumption | exact ⟨_, rfl⟩ | (simp only [sda]; done) | (simp only [len_cl]; omega) | (simp [Value.cells, Value.oneCell']; done)))) | (refine kOps_callc (pre := ?_) (val := ?_) rfl rfl rfl rfl rfl ?_ ?_ ?_ ?_ ?_; rotate_left 2; (simp only [qz1, splice_cl, splice_one, len_cl, reduceMod, reduceAdd, reduceSub, reduceMul, reduceDiv, reduceLT, reduceLeDiff, reduceEqDiff, qz5, eq_self, if_false, if_true, reduceIte, zero_mod, qz11, cl_one, qz2, zero_add, mod_eq_of_lt lr, mod_eq_of_lt lb, hl, hn, toNat_natCast, qz29, cl_get hi, bit_word, bit_fin', and_one', sGMul, sFromUint, sLen, lit_ul0, lit_ul1, nrmC, qz9, qz8, qz25, ulv_ul, uv_u4, qz12, and_self, n_add_zero, n_sub_zero]; rfl); (focus (first | rfl | (simp only [closed, closedL, qz18, closedL_bv, closedL_cl, Bool.and_self, Bool.and_true]; done))); (focus (first | rfl | (simp only [closed, closedL, qz18, closedL_bv, closedL_cl, Bool.and_self, Bool.and_true]; done))); (focus ((repeat' apply And.intro) <;> first | exact True.intro | omega | (with_reducible rfl) | assumption | exact ⟨_, rfl⟩ | (simp only [sda]; done) | (simp only [len_cl]; omega) | (simp [Value.cells, Value.oneCell']; done)))) | (refine kOps_store (cs' := ?_) rfl rfl rfl rfl rfl rfl rfl ty24 ?_ ?_ ?_; rotate_left 1; (simp only [qz1, splice_cl, splice_one, len_cl, reduceMod, reduceAdd, reduceSub, reduceMul, reduceDiv, reduceLT, reduceLeDiff, reduceEqDiff, qz5, eq_self, if_false, if_true, reduceIte, zero_mod, qz11, cl_one, qz2, zero_add, mod_eq_of_lt lr, mod_eq_of_lt lb, hl, hn, toNat_natCast, qz29, cl_get hi, bit_word, bit_fin', and_one', lit_ul0, lit_ul1, qz14, isAggD, qz0, agg_cl, reduceToNat, qz4, n_add_zero, qz15, length_map]; rfl); (focus (first | (simp only [lit_ul0, lit_ul1, qz14, length_cons, length_nil, len_cl, length_set, length_map, reduceAdd, zero_add, all_cons, all_nil, qz19, one_bv, PV.one, Value.oneCell', Bool.and_self, reduceLeDiff, Nat.le_refl, and_self, qz12]; done) | ((try simp only [lit_ul0, lit_ul1, qz14]); (focus ((repeat' apply And.intro) <;> first | exact True.intro | omega | (with_reducible rfl) | assumption | exact ⟨_, rfl⟩ | (simp only [sda]; done) | (simp only [len_cl]; omega) | (simp [Value.cells, Value.oneCell']; done))))))) | (refine kOps_bin (b := .add) (pre := ?_) (val := ?_) rfl rfl rfl rfl rfl ?_ ?_ ?_; rotate_left 2; (intro L; simp only [qz1, splice_cl, splice_one, len_cl, reduceMod, reduceAdd, reduceSub, reduceMul, reduceDiv, reduceLT, reduceLeDiff, reduceEqDiff, qz5, eq_self, if_false, if_true, reduceIte, zero_mod, qz11, cl_one, qz2, zero_add, mod_eq_of_lt lr, mod_eq_of_lt lb, hl, hn, toNat_natCast, qz29, cl_get hi, bit_word, bit_fin', and_one', bit_fin, eql_u4 ty24 ty22, neq_u4 ty24 ty22, lit_ul0, lit_ul1, qz34, Int.reduceAdd, Int.reduceSub, Int.reduceMul, Int.reduceNeg, Int.sub_zero, cast_ofNat_Int, ne_eq, Int.reduceLT, Int.reduceLE, Int.reduceEq, ty3]; (first | (rw [wrap_i64] <;> first | omega | rfl) | (rw [wrap_u8] <;> first | omega | rfl) | (rw [wrap_u16] <;> first | omega | rfl) | (rw [wrap_u32] <;> first | omega | rfl) | rfl)); exact trivial))
        · refine loopC_normal ⟨(i + 1, r * b % pP, b * b % pP), by omega, pin1 inv (by assumption)⟩ [0, 1, 2, 3] (by show N - (i + 1) < N - i; omega) ?_
          refine weak_mk (fun i h => absurd h (Nat.not_lt_zero i)) (by decide) (by simp) ?_ ?_
          · simp only [RenRows, qz16, qz6, qz3, qz28, closedL_bv, closedL_cl, qz12]
            all_goals (trivial)
          · simp only [RenEnv, qz7, Nat.reduceBEq]
            (repeat' apply And.intro) <;> first | trivial | exact ren_keep rfl | exact ren_keep (closed_u4 _) | (refine ren_int ?_; omega) | (refine ren_own rfl ?_; first | rfl | omega | (simp; done) | (omega; done)) | (refine ren_int ?_; omega; done) | (refine ren_int ?_; simp; done) | (refine ren_keep ?_; simp only [closed, closedL_bv, closedL_rows, closedL_cl]; done) | (refine ren_ptr rfl; done)
        · refine loopC_normal ⟨(i + 1, r, b * b % pP), by omega, pin0 inv (by assumption)⟩ [0, 1, 2, 3] (by show N - (i + 1) < N - i; omega) ?_
          refine weak_mk (fun i h => absurd h (Nat.not_lt_zero i)) (by decide) (by simp) ?_ ?_
          · simp only [RenRows, qz16, qz6, qz3, qz28, closedL_bv, closedL_cl, qz12]
            all_goals (trivial)
          · simp only [RenEnv, qz7, Nat.reduceBEq]
            (repeat' apply And.intro) <;> first | trivial | exact ren_keep rfl | exact ren_keep (closed_u4 _) | (refine ren_int ?_; omega) | (refine ren_own rfl ?_; first | rfl | omega | (simp; done) | (omega; done)) | (refine ren_int ?_; omega; done) | (refine ren_int ?_; simp; done) | (refine ren_keep ?_; simp only [closed, closedL_bv, closedL_rows, closedL_cl]; done) | (refine ren_ptr rfl; done)
  · exact hS.elim
noncomputable def B38 : Code := bodyOf Try.f38
theorem B38_eq : Try.f38.body = some B38 := by kernel_rfl
noncomputable def n38_0 := B38
noncomputable def n38_1 := codeAt B38 [0]
noncomputable def n38_2 := codeAt B38 [1]
noncomputable def n38_3 := codeAt B38 [1,0]
noncomputable def n38_4 := codeAt B38 [1,0,0]
noncomputable def n38_5 := codeAt B38 [1,0,1]
noncomputable def n38_6 := codeAt B38 [1,0,1,0]
noncomputable def n38_7 := codeAt B38 [1,0,1,0,0]
noncomputable def n38_8 := codeAt B38 [1,0,1,0,1]
noncomputable def n38_9 := codeAt B38 [1,0,1,1]
noncomputable def n38_10 := codeAt B38 [1,1]
noncomputable def n38_11 := codeAt B38 [1,1,0]
noncomputable def n38_12 := codeAt B38 [1,1,0,0]
noncomputable def n38_13 := codeAt B38 [1,1,0,1]
noncomputable def n38_14 := codeAt B38 [1,1,0,1,0]
noncomputable def n38_15 := codeAt B38 [1,1,0,1,1]
noncomputable def n38_16 := codeAt B38 [1,1,0,1,1,0]
noncomputable def n38_17 := codeAt B38 [1,1,0,1,1,0,0]
noncomputable def n38_18 := codeAt B38 [1,1,0,1,1,0,1]
noncomputable def n38_19 := codeAt B38 [1,1,0,1,1,1]
noncomputable def n38_20 := codeAt B38 [1,1,1]
noncomputable def n38_21 := codeAt B38 [1,1,1,0]
noncomputable def n38_22 := codeAt B38 [1,1,1,1]
theorem e38_0 : n38_0 = .seq n38_1 n38_2 := rfl
noncomputable def r38_1 := opsAt n38_1
theorem e38_1 : n38_1 = .region 0 (r38_1).toArray false := rfl
theorem e38_2 : n38_2 = .seq n38_3 n38_10 := rfl
theorem e38_3 : n38_3 = .seq n38_4 n38_5 := rfl
noncomputable def r38_4 := opsAt n38_4
theorem e38_4 : n38_4 = .region 1 (r38_4).toArray false := rfl
theorem e38_5 : n38_5 = .cond (.tmp 9) n38_6 n38_9 := rfl
theorem e38_6 : n38_6 = .seq n38_7 n38_8 := rfl
noncomputable def r38_7 := opsAt n38_7
theorem e38_7 : n38_7 = .region 2 (r38_7).toArray false := rfl
theorem e38_8 : n38_8 = .ret := rfl
theorem e38_9 : n38_9 = .skip := rfl
theorem e38_10 : n38_10 = .seq n38_11 n38_20 := rfl
theorem e38_11 : n38_11 = .seq n38_12 n38_13 := rfl
noncomputable def r38_12 := opsAt n38_12
theorem e38_12 : n38_12 = .region 3 (r38_12).toArray false := rfl
theorem e38_13 : n38_13 = .seq n38_14 n38_15 := rfl
noncomputable def r38_14 := opsAt n38_14
theorem e38_14 : n38_14 = .region 4 (r38_14).toArray false := rfl
theorem e38_15 : n38_15 = .cond (.tmp 16) n38_16 n38_19 := rfl
theorem e38_16 : n38_16 = .seq n38_17 n38_18 := rfl
noncomputable def r38_17 := opsAt n38_17
theorem e38_17 : n38_17 = .region 5 (r38_17).toArray false := rfl
theorem e38_18 : n38_18 = .ret := rfl
theorem e38_19 : n38_19 = .skip := rfl
theorem e38_20 : n38_20 = .seq n38_21 n38_22 := rfl
noncomputable def r38_21 := opsAt n38_21
theorem e38_21 : n38_21 = .region 6 (r38_21).toArray false := rfl
theorem e38_22 : n38_22 = .ret := rfl
theorem f_wide_Cmp : PureOk Try.prog 38 sCmp := by
  refine pureOk_of (c := n38_0) (Γ := conOf [(49, .pure sSub)]) (conOf_ok (conOf_one (S := .pure sSub) f_wide_Sub (conOf_end))) mixed Try.func38 B38_eq (by decide +kernel) Try.call38 ?_
  intro args hS
  unfold sCmp at hS ⊢
  split at hS
  · refine ⟨by rw [Try.ntmps38]; simp, vC_sound ?_⟩
    rename_i xa xb
    obtain ⟨ha, hb⟩ := hS
    obtain ⟨a, la, rfl⟩ := isU_out ha
    obtain ⟨b, lb, rfl⟩ := isU_out hb
    simp only [uv_u4, mod_eq_of_lt la, mod_eq_of_lt lb]
    clear ha hb
    simp only [qz26, reduceAdd]
    repeat' (first | (with_reducible first | apply seqC_normal | apply seqC_ret) | ((with_reducible apply wC_seq e38_0; apply wC_region e38_1); refine vOps_open (l := _ :: _) rfl ?_) | ((with_reducible apply wC_seq e38_2; apply wC_seq e38_3; apply wC_region e38_4); refine vOps_open (l := _ :: _) rfl ?_) | ((with_reducible apply kC_cond e38_5); (exact rfl); all_goals (intro hb; first | (cases hb; done) | cases hb | ((try simp only [dxe] at hb); try (exfalso; first | omega | exact hb trivial)))) | ((with_reducible apply wC_seq e38_6; apply wC_region e38_7); refine vOps_open (l := _ :: _) rfl ?_) | ((with_reducible apply wC_ret e38_8)) | ((with_reducible apply wC_skip e38_9)) | ((with_reducible apply wC_seq e38_10; apply wC_seq e38_11; apply wC_region e38_12); refine vOps_open (l := _ :: _) rfl ?_) | ((with_reducible apply wC_seq e38_13; apply wC_region e38_14); refine vOps_open (l := _ :: _) rfl ?_) | ((with_reducible apply kC_cond e38_15); (exact rfl); all_goals (intro hb; first | (cases hb; done) | cases hb | ((try simp only [dxe] at hb); try (exfalso; first | omega | exact hb trivial)))) | ((with_reducible apply wC_seq e38_16; apply wC_region e38_17); refine vOps_open (l := _ :: _) rfl ?_) | ((with_reducible apply wC_ret e38_18)) | ((with_reducible apply wC_skip e38_19)) | ((with_reducible apply wC_seq e38_20; apply wC_region e38_21); refine vOps_open (l := _ :: _) rfl ?_) | ((with_reducible apply wC_ret e38_22)) | ((with_reducible apply vOps_nil); try (with_reducible refine And.intro (by kernel_rfl) ?_)) | (refine kOps_box (row := ?_) (n := ?_) rfl rfl rfl rfl rfl ?_ ?_ ?_ ?_; rotate_left 2; (simp only [↓length_append, ↓length_set, ↓length_cons, length_nil, reduceAdd, zero_add]; rfl); (simp only [qz14, qz17]; rfl); (focus (first | rfl | exact one_cl _ _ | exact one_bv _ | (simp only [qz19, all_cons, all_nil, Bool.and_self, PV.one]; done) | (simp [PV.one, qz19, one_bv, Value.oneCell']; done)))) | (refine kOps_as rfl rfl rfl rfl ?_) | ((first | refine kOps_loadp (pre := ?_) (val := ?_) rfl rfl rfl rfl rfl ty24 ?_ ?_ ?_ | refine kOps_loadr (pre := ?_) (val := ?_) rfl rfl rfl rfl ty24 ?_ ?_ ?_); rotate_left 2; (simp only [partF, isAggD, qz0, if_false, qz3, qz10, length_cons, length_nil, qz6, zero_add, n_add_zero, qz4, reduceAdd, reduceMul, toNat_natCast, reduceToNat, agg_cl, len_cl]; rfl); (focus ((repeat' apply And.intro) <;> first | exact True.intro | omega | (with_reducible rfl) | assumption | exact ⟨_, rfl⟩ | (simp only [sda]; done) | (simp only [len_cl]; omega) | (simp [Value.cells, Value.oneCell']; done)))) | (refine kOps_bin (b := .eql) (pre := ?_) (val := ?_) rfl rfl rfl rfl rfl ?_ ?_ ?_; rotate_left 2; (intro L; simp only [eql_u4 ty24 ty22, neq_u4 ty24 ty22, lit_ul0, lit_ul1, qz31, Int.reduceAdd, Int.reduceSub, Int.reduceMul, Int.reduceNeg, Int.sub_zero, cast_ofNat_Int, ne_eq, Int.reduceLT, Int.reduceLE, Int.reduceEq, reduceMod, reduceLT, qz5, ty24, ty22]; (first | (rw [wrap_i64] <;> first | omega | rfl) | (rw [wrap_u8] <;> first | omega | rfl) | (rw [wrap_u16] <;> first | omega | rfl) | (rw [wrap_u32] <;> first | omega | rfl) | rfl)); (focus ((repeat' apply And.intro) <;> first | exact True.intro | omega | (with_reducible rfl) | assumption | exact ⟨_, rfl⟩ | (simp only [sda]; done) | (simp only [len_cl]; omega) | (simp [Value.cells, Value.oneCell']; done)))) | (refine kOps_callc (pre := ?_) (val := ?_) rfl rfl rfl rfl rfl ?_ ?_ ?_ ?_ ?_; rotate_left 2; (simp only [sSub, lit_ul0, lit_ul1, nrmC, qz9, qz8, qz25, ulv_ul, uv_u4, qz12, and_self, n_add_zero, zero_add, zero_mod, n_sub_zero]; rfl); (focus (first | rfl | (simp only [closed, closedL, qz18, closedL_bv, closedL_cl, Bool.and_self, Bool.and_true]; done))); (focus (first | rfl | (simp only [closed, closedL, qz18, closedL_bv, closedL_cl, Bool.and_self, Bool.and_true]; done))); (focus ((repeat' apply And.intro) <;> first | exact True.intro | omega | (with_reducible rfl) | assumption | exact ⟨_, rfl⟩ | (simp only [sda]; done) | (simp only [len_cl]; omega) | (simp [Value.cells, Value.oneCell']; done)))) | (refine kOps_mv rfl rfl rfl rfl ?_) | (refine kOps_ext rfl rfl rfl rfl rfl ?_) | (refine kOps_alloc (row := ?_) (n := ?_) rfl rfl rfl rfl ty24 ?_ ?_ ?_ ?_; rotate_left 2; (simp only [↓length_append, ↓length_set, ↓length_cons, length_nil, reduceAdd, zero_add]; rfl); (simp only [Value.cells, qz9, List.toList_toArray, zero_cl4, zero_cl8, lit_ul0]; rfl); (focus (first | (simp only [Value.cells, List.toList_toArray, qz23, Value.oneCell', and_self]; done) | (simp [Value.cells, Value.oneCell']; done)))) | (refine kOps_store (cs' := ?_) rfl rfl rfl rfl rfl rfl rfl ty24 ?_ ?_ ?_; rotate_left 1; (simp only [lit_ul0, lit_ul1, splice, qz14, qz17, isAggD, qz0, if_false, qz3, qz10, length_cons, length_nil, qz6, zero_add, n_add_zero, qz4, reduceAdd, reduceMul, toNat_natCast, reduceToNat, agg_cl, len_cl]; rfl); (focus (first | (simp only [lit_ul0, lit_ul1, qz14, qz17, length_cons, length_nil, len_cl, length_set, length_map, reduceAdd, zero_add, all_cons, all_nil, qz19, one_bv, PV.one, Value.oneCell', Bool.and_self, reduceLeDiff, Nat.le_refl, and_self, qz12]; done) | ((try simp only [lit_ul0, lit_ul1, qz14, qz17]); (focus ((repeat' apply And.intro) <;> first | exact True.intro | omega | (with_reducible rfl) | assumption | exact ⟨_, rfl⟩ | (simp only [sda]; done) | (simp only [len_cl]; omega) | (simp [Value.cells, Value.oneCell']; done))))))))
    all_goals (
    refine fin_c (p := ?_) (xs := [.tmp 4]) (by simp) rfl ?_ ?_ ?_ ?_
    rotate_left 2
    · simp only [rsx, qz9, evalIn_tmp, evalIn_const, evalIn_func, qz7, Nat.reduceBEq, lit_ul0, lit_ul1, loadF, partF, cast_ofNat_Int, qz22, qz10, Int.reduceSub, qz3, qz0, length_cons, length_nil, qz6, zero_add, n_add_zero, qz4, one_mul, reduceAdd, reduceMul, reduceSub, reduceLeDiff, reduceEqDiff, toNat_natCast, reduceToNat, reduceIte, if_true, if_false, isAggD, len_cl, agg_cl, qz15, length_map, qz16, qz12, and_self, ty22, ty24]; try rfl
    · first | rfl | (simp only [closed, closedL, qz18, closedL_cl, closedL_bv, Bool.and_self, Bool.and_true]; first | done | rfl)
    · refine int_eq ?_
      unfold cmpN
      (repeat' split) <;> omega
    · simp only [rsx, qz9, evalIn_tmp, evalIn_const, evalIn_func, qz7, Nat.reduceBEq, lit_ul0, lit_ul1, loadF, partF, cast_ofNat_Int, qz22, qz10, Int.reduceSub, qz3, qz0, length_cons, length_nil, qz6, zero_add, n_add_zero, qz4, one_mul, reduceAdd, reduceMul, reduceSub, reduceLeDiff, reduceEqDiff, toNat_natCast, reduceToNat, reduceIte, if_true, if_false, isAggD, len_cl, agg_cl, qz15, length_map, qz16, qz12, and_self, ty22, ty24]; try trivial)
  · exact hS.elim
end Go.Ab
