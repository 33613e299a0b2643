import Derived.Test.YtmnkapmcclhiiaaQZ
import Derived.Test.YtmnkapmcclhiiaaME
import Derived.Test.YtmnkapmcclhiiaaTY
import Derived.Test.YtmnkapmcclhiiaaZ0
import Derived.Test.YtmnkapmcclhiiaaZ6
import Derived.Test.YtmnkapmcclhiiaaZ7
import Derived.Test.YtmnkapmcclhiiaaMP
namespace Go.Ab
open Go Go.Proofs
open Nat (reduceAdd mod_eq_of_lt zero_add reduceMul reduceLeDiff reduceMod zero_mod reduceSub one_mul)
open List (length_cons length_nil all_nil all_cons length_map length_set length_append)
open Int (toNat_natCast reduceToNat cast_ofNat_Int)
set_option linter.unusedVariables false
set_option linter.unusedSimpArgs false
set_option maxRecDepth 8000
set_option maxHeartbeats 4000000
noncomputable def B61 : Code := bodyOf Try.f61
theorem B61_eq : Try.f61.body = some B61 := by kernel_rfl
noncomputable def n61_0 := B61
noncomputable def n61_1 := codeAt B61 [0]
noncomputable def n61_2 := codeAt B61 [1]
noncomputable def n61_3 := codeAt B61 [1,0]
noncomputable def n61_4 := codeAt B61 [1,1]
noncomputable def n61_5 := codeAt B61 [1,1,0]
noncomputable def n61_6 := codeAt B61 [1,1,0,0]
noncomputable def n61_7 := codeAt B61 [1,1,0,1]
noncomputable def n61_8 := codeAt B61 [1,1,0,1,0]
noncomputable def n61_9 := codeAt B61 [1,1,0,1,0,0]
noncomputable def n61_10 := codeAt B61 [1,1,0,1,0,0,0]
noncomputable def n61_11 := codeAt B61 [1,1,0,1,0,0,1]
noncomputable def n61_12 := codeAt B61 [1,1,0,1,0,0,1,0]
noncomputable def n61_13 := codeAt B61 [1,1,0,1,0,0,1,0,0]
noncomputable def n61_14 := codeAt B61 [1,1,0,1,0,0,1,0,1]
noncomputable def n61_15 := codeAt B61 [1,1,0,1,0,0,1,1]
noncomputable def n61_16 := codeAt B61 [1,1,0,1,0,0,1,1,0]
noncomputable def n61_17 := codeAt B61 [1,1,0,1,0,0,1,1,0,0]
noncomputable def n61_18 := codeAt B61 [1,1,0,1,0,0,1,1,0,0,0]
noncomputable def n61_19 := codeAt B61 [1,1,0,1,0,0,1,1,0,0,1]
noncomputable def n61_20 := codeAt B61 [1,1,0,1,0,0,1,1,0,0,1,0]
noncomputable def n61_21 := codeAt B61 [1,1,0,1,0,0,1,1,0,0,1,1]
noncomputable def n61_22 := codeAt B61 [1,1,0,1,0,0,1,1,0,0,1,1,0]
noncomputable def n61_23 := codeAt B61 [1,1,0,1,0,0,1,1,0,0,1,1,0,0]
noncomputable def n61_24 := codeAt B61 [1,1,0,1,0,0,1,1,0,0,1,1,0,1]
noncomputable def n61_25 := codeAt B61 [1,1,0,1,0,0,1,1,0,0,1,1,0,1,0]
noncomputable def n61_26 := codeAt B61 [1,1,0,1,0,0,1,1,0,0,1,1,0,1,0,0]
noncomputable def n61_27 := codeAt B61 [1,1,0,1,0,0,1,1,0,0,1,1,0,1,0,0,0]
noncomputable def n61_28 := codeAt B61 [1,1,0,1,0,0,1,1,0,0,1,1,0,1,0,0,1]
noncomputable def n61_29 := codeAt B61 [1,1,0,1,0,0,1,1,0,0,1,1,0,1,0,0,1,0]
noncomputable def n61_30 := codeAt B61 [1,1,0,1,0,0,1,1,0,0,1,1,0,1,0,0,1,0,0]
noncomputable def n61_31 := codeAt B61 [1,1,0,1,0,0,1,1,0,0,1,1,0,1,0,0,1,0,1]
noncomputable def n61_32 := codeAt B61 [1,1,0,1,0,0,1,1,0,0,1,1,0,1,0,0,1,1]
noncomputable def n61_33 := codeAt B61 [1,1,0,1,0,0,1,1,0,0,1,1,0,1,0,0,1,1,0]
noncomputable def n61_34 := codeAt B61 [1,1,0,1,0,0,1,1,0,0,1,1,0,1,0,0,1,1,0,0]
noncomputable def n61_35 := codeAt B61 [1,1,0,1,0,0,1,1,0,0,1,1,0,1,0,0,1,1,0,0,0]
noncomputable def n61_36 := codeAt B61 [1,1,0,1,0,0,1,1,0,0,1,1,0,1,0,0,1,1,0,0,1]
noncomputable def n61_37 := codeAt B61 [1,1,0,1,0,0,1,1,0,0,1,1,0,1,0,0,1,1,0,0,1,0]
noncomputable def n61_38 := codeAt B61 [1,1,0,1,0,0,1,1,0,0,1,1,0,1,0,0,1,1,0,0,1,1]
noncomputable def n61_39 := codeAt B61 [1,1,0,1,0,0,1,1,0,0,1,1,0,1,0,0,1,1,0,0,1,1,0]
noncomputable def n61_40 := codeAt B61 [1,1,0,1,0,0,1,1,0,0,1,1,0,1,0,0,1,1,0,0,1,1,1]
noncomputable def n61_41 := codeAt B61 [1,1,0,1,0,0,1,1,0,0,1,1,0,1,0,0,1,1,0,0,1,1,1,0]
noncomputable def n61_42 := codeAt B61 [1,1,0,1,0,0,1,1,0,0,1,1,0,1,0,0,1,1,0,0,1,1,1,1]
noncomputable def n61_43 := codeAt B61 [1,1,0,1,0,0,1,1,0,0,1,1,0,1,0,0,1,1,1]
noncomputable def n61_44 := codeAt B61 [1,1,0,1,0,0,1,1,0,0,1,1,1]
noncomputable def n61_45 := codeAt B61 [1,1,0,1,0,0,1,1,1]
noncomputable def n61_46 := codeAt B61 [1,1,1]
noncomputable def n61_47 := codeAt B61 [1,1,1,0]
noncomputable def n61_48 := codeAt B61 [1,1,1,1]
noncomputable def n61_49 := codeAt B61 [1,1,1,1,0]
noncomputable def n61_50 := codeAt B61 [1,1,1,1,1]
noncomputable def n61_51 := codeAt B61 [1,1,1,1,1,0]
noncomputable def n61_52 := codeAt B61 [1,1,1,1,1,1]
theorem e61_0 : n61_0 = .seq n61_1 n61_2 := rfl
noncomputable def r61_1 := opsAt n61_1
theorem e61_1 : n61_1 = .region 0 (r61_1).toArray false := rfl
theorem e61_2 : n61_2 = .seq n61_3 n61_4 := rfl
noncomputable def r61_3 := opsAt n61_3
theorem e61_3 : n61_3 = .region 1 (r61_3).toArray false := rfl
theorem e61_4 : n61_4 = .seq n61_5 n61_46 := rfl
theorem e61_5 : n61_5 = .seq n61_6 n61_7 := rfl
noncomputable def r61_6 := opsAt n61_6
theorem e61_6 : n61_6 = .region 2 (r61_6).toArray false := rfl
theorem e61_7 : n61_7 = .block 0 n61_8 := rfl
theorem e61_8 : n61_8 = .loop n61_9 := rfl
theorem e61_9 : n61_9 = .seq n61_10 n61_11 := rfl
noncomputable def r61_10 := opsAt n61_10
theorem e61_10 : n61_10 = .region 3 (r61_10).toArray false := rfl
theorem e61_11 : n61_11 = .seq n61_12 n61_15 := rfl
theorem e61_12 : n61_12 = .cond (.tmp 16) n61_13 n61_14 := rfl
theorem e61_13 : n61_13 = .skip := rfl
theorem e61_14 : n61_14 = .exit 0 := rfl
theorem e61_15 : n61_15 = .seq n61_16 n61_45 := rfl
theorem e61_16 : n61_16 = .block 1 n61_17 := rfl
theorem e61_17 : n61_17 = .seq n61_18 n61_19 := rfl
noncomputable def r61_18 := opsAt n61_18
theorem e61_18 : n61_18 = .region 4 (r61_18).toArray false := rfl
theorem e61_19 : n61_19 = .seq n61_20 n61_21 := rfl
noncomputable def r61_20 := opsAt n61_20
theorem e61_20 : n61_20 = .region 5 (r61_20).toArray false := rfl
theorem e61_21 : n61_21 = .seq n61_22 n61_44 := rfl
theorem e61_22 : n61_22 = .seq n61_23 n61_24 := rfl
noncomputable def r61_23 := opsAt n61_23
theorem e61_23 : n61_23 = .region 6 (r61_23).toArray false := rfl
theorem e61_24 : n61_24 = .block 2 n61_25 := rfl
theorem e61_25 : n61_25 = .loop n61_26 := rfl
theorem e61_26 : n61_26 = .seq n61_27 n61_28 := rfl
noncomputable def r61_27 := opsAt n61_27
theorem e61_27 : n61_27 = .region 7 (r61_27).toArray false := rfl
theorem e61_28 : n61_28 = .seq n61_29 n61_32 := rfl
theorem e61_29 : n61_29 = .cond (.tmp 19) n61_30 n61_31 := rfl
theorem e61_30 : n61_30 = .skip := rfl
theorem e61_31 : n61_31 = .exit 2 := rfl
theorem e61_32 : n61_32 = .seq n61_33 n61_43 := rfl
theorem e61_33 : n61_33 = .block 3 n61_34 := rfl
theorem e61_34 : n61_34 = .seq n61_35 n61_36 := rfl
noncomputable def r61_35 := opsAt n61_35
theorem e61_35 : n61_35 = .region 8 (r61_35).toArray false := rfl
theorem e61_36 : n61_36 = .seq n61_37 n61_38 := rfl
noncomputable def r61_37 := opsAt n61_37
theorem e61_37 : n61_37 = .region 9 (r61_37).toArray true := rfl
theorem a61_37 : anyOk r61_37 = true := by decide +kernel
theorem e61_38 : n61_38 = .seq n61_39 n61_40 := rfl
noncomputable def r61_39 := opsAt n61_39
theorem e61_39 : n61_39 = .region 10 (r61_39).toArray false := rfl
theorem e61_40 : n61_40 = .seq n61_41 n61_42 := rfl
noncomputable def r61_41 := opsAt n61_41
theorem e61_41 : n61_41 = .region 11 (r61_41).toArray false := rfl
noncomputable def r61_42 := opsAt n61_42
theorem e61_42 : n61_42 = .region 12 (r61_42).toArray false := rfl
noncomputable def r61_43 := opsAt n61_43
theorem e61_43 : n61_43 = .region 13 (r61_43).toArray false := rfl
noncomputable def r61_44 := opsAt n61_44
theorem e61_44 : n61_44 = .region 14 (r61_44).toArray false := rfl
noncomputable def r61_45 := opsAt n61_45
theorem e61_45 : n61_45 = .region 15 (r61_45).toArray false := rfl
theorem e61_46 : n61_46 = .seq n61_47 n61_48 := rfl
noncomputable def r61_47 := opsAt n61_47
theorem e61_47 : n61_47 = .region 16 (r61_47).toArray true := rfl
theorem a61_47 : anyOk r61_47 = true := by decide +kernel
theorem e61_48 : n61_48 = .seq n61_49 n61_50 := rfl
noncomputable def r61_49 := opsAt n61_49
theorem e61_49 : n61_49 = .region 17 (r61_49).toArray true := rfl
theorem a61_49 : anyOk r61_49 = true := by decide +kernel
theorem e61_50 : n61_50 = .seq n61_51 n61_52 := rfl
noncomputable def r61_51 := opsAt n61_51
theorem e61_51 : n61_51 = .region 18 (r61_51).toArray false := rfl
theorem e61_52 : n61_52 = .ret := rfl
theorem f_ref02_Mul : PureOk Try.prog 61 sMul := by
  refine pureOk_of (c := n61_0) (Γ := conOf [(66, .ext sAdd64), (67, .pure sMul64)]) (conOf_ok (conOf_one (S := .ext sAdd64) f_bits_Add64 (conOf_one (S := .pure sMul64) f_bits_Mul64 (conOf_end)))) mixed Try.func61 B61_eq (by decide +kernel) Try.call61 ?_
  intro args hS
  unfold sMul at hS ⊢
  split at hS
  · refine ⟨by rw [Try.ntmps61]; simp, vC_sound ?_⟩
    rename_i xa xb
    obtain ⟨ha, hb⟩ := hS
    obtain ⟨a, la, rfl⟩ := isU_out ha
    obtain ⟨b, lb, rfl⟩ := isU_out hb
    simp only [uv_u4, mod_eq_of_lt la, mod_eq_of_lt lb]
    clear ha hb
    simp only [qz26, reduceAdd]
    repeat' (first | (with_reducible first | apply seqC_normal | apply wunrC_normal | apply blockC_normal | apply seqC_exit | apply blockC_hit | apply wunrC_exit | apply seqC_ret | apply blockC_ret | apply wunrC_ret | apply loopC_ret | apply loopC_exit) | ((with_reducible apply blockC_miss); (exact rfl)) | ((with_reducible apply wC_seq e61_0; apply kC_less [0, 1] (c := n61_1)); (exact rfl); (exact rfl); (with_reducible apply wC_region e61_1); refine vOps_open (l := _ :: _) rfl ?_) | ((with_reducible apply wC_seq e61_2; apply wC_region e61_3); refine vOps_open (l := _ :: _) rfl ?_) | ((with_reducible apply wC_seq e61_4; apply wC_seq e61_5; apply wC_region e61_6); refine vOps_open (l := _ :: _) rfl ?_) | ((with_reducible apply wC_block e61_7; apply kC_unroll [2, 3, 4, 5, 6, 15] e61_8); (exact rfl); (exact rfl); (with_reducible apply wC_seq e61_9; apply wC_region e61_10); refine vOps_open (l := _ :: _) rfl ?_) | ((with_reducible apply kC_unroll [2, 3, 4, 5, 6, 15] e61_8); (exact rfl); (exact rfl); (with_reducible apply wC_seq e61_9; apply wC_region e61_10); refine vOps_open (l := _ :: _) rfl ?_) | ((with_reducible apply wC_seq e61_11; apply kC_cond e61_12); (exact rfl); all_goals (intro hb; first | (cases hb; done) | cases hb | ((try simp only [dxe] at hb); try (exfalso; first | omega | exact hb trivial)))) | ((with_reducible apply wC_skip e61_13)) | ((with_reducible apply wC_exit e61_14)) | ((with_reducible apply wC_seq e61_15; apply wC_block e61_16; apply wC_seq e61_17; apply wC_region e61_18); refine vOps_open (l := _ :: _) rfl ?_) | ((with_reducible apply wC_seq e61_19; apply wC_region e61_20); refine vOps_open (l := _ :: _) rfl ?_) | ((with_reducible apply wC_seq e61_21; apply wC_seq e61_22; apply wC_region e61_23); refine vOps_open (l := _ :: _) rfl ?_) | ((with_reducible apply wC_block e61_24; apply kC_unroll [2, 3, 4, 5, 6, 7, 8, 15, 18] e61_25); (exact rfl); (exact rfl); (with_reducible apply wC_seq e61_26; apply wC_region e61_27); refine vOps_open (l := _ :: _) rfl ?_) | ((with_reducible apply kC_unroll [2, 3, 4, 5, 6, 7, 8, 15, 18] e61_25); (exact rfl); (exact rfl); (with_reducible apply wC_seq e61_26; apply wC_region e61_27); refine vOps_open (l := _ :: _) rfl ?_) | ((with_reducible apply wC_seq e61_28; apply kC_cond e61_29); (exact rfl); all_goals (intro hb; first | (cases hb; done) | cases hb | ((try simp only [dxe] at hb); try (exfalso; first | omega | exact hb trivial)))) | ((with_reducible apply wC_skip e61_30)) | ((with_reducible apply wC_exit e61_31)) | ((with_reducible apply wC_seq e61_32; apply wC_block e61_33; apply wC_seq e61_34; apply wC_region e61_35); refine vOps_open (l := _ :: _) rfl ?_) | ((with_reducible apply wC_seq e61_36; apply kC_less [2, 3, 4, 5, 6, 7, 8, 9, 15, 18] (c := n61_37)); (exact rfl); (exact rfl); (with_reducible apply wC_any e61_37 a61_37); refine vOps_open (l := _ :: _) rfl ?_) | ((with_reducible apply wC_seq e61_38; apply kC_less [2, 3, 4, 5, 6, 7, 8, 9, 10, 11, 15, 18] (c := n61_39)); (exact rfl); (exact rfl); (with_reducible apply wC_region e61_39); refine vOps_open (l := _ :: _) rfl ?_) | ((with_reducible apply wC_seq e61_40; apply kC_less [2, 3, 4, 5, 6, 7, 8, 9, 10, 12, 13, 15, 18] (c := n61_41)); (exact rfl); (exact rfl); (with_reducible apply wC_region e61_41); refine vOps_open (l := _ :: _) rfl ?_) | ((with_reducible apply kC_less [2, 3, 4, 5, 6, 7, 9, 10, 12, 13, 14, 15, 18] (c := n61_42)); (exact rfl); (exact rfl); (with_reducible apply wC_region e61_42); refine vOps_open (l := _ :: _) rfl ?_) | ((with_reducible apply wC_region e61_43); refine vOps_open (l := _ :: _) rfl ?_) | ((with_reducible apply kC_less [2, 3, 4, 5, 6, 7, 8, 15] (c := n61_44)); (exact rfl); (exact rfl); (with_reducible apply wC_region e61_44); refine vOps_open (l := _ :: _) rfl ?_) | ((with_reducible apply wC_region e61_45); refine vOps_open (l := _ :: _) rfl ?_) | ((with_reducible apply wC_seq e61_46; apply wC_any e61_47 a61_47); refine vOps_open (l := _ :: _) rfl ?_) | ((with_reducible apply wC_seq e61_48; apply wC_any e61_49 a61_49); refine vOps_open (l := _ :: _) rfl ?_) | ((with_reducible apply wC_seq e61_50; apply kC_less [4, 5] (c := n61_51)); (exact rfl); (exact rfl); (with_reducible apply wC_region e61_51); refine vOps_open (l := _ :: _) rfl ?_) | ((with_reducible apply wC_ret e61_52)) | ((with_reducible apply vOps_nil); try (with_reducible refine And.intro (by kernel_rfl) ?_)) | (refine kOps_box (row := ?_) (n := ?_) rfl rfl rfl rfl rfl ?_ ?_ ?_ ?_; rotate_left 2; (simp only [↓length_append, ↓length_set, ↓length_cons, length_nil, reduceAdd, zero_add]; rfl); (simp only [cl4, zero_mod, Nat.zero_div, n_add_zero, zero_add, qz14, qz17]; rfl); (focus (first | rfl | exact one_cl _ _ | exact one_bv _ | (simp only [qz19, all_cons, all_nil, Bool.and_self, PV.one]; done) | (simp [PV.one, qz19, one_bv, Value.oneCell']; done)))) | (refine kOps_alloc (row := ?_) (n := ?_) rfl rfl rfl rfl ty24 ?_ ?_ ?_ ?_; rotate_left 2; (simp only [↓length_append, ↓length_set, ↓length_cons, length_nil, reduceAdd, zero_add]; rfl); (simp only [cl4, zero_mod, Nat.zero_div, n_add_zero, zero_add, Value.cells, qz9, List.toList_toArray, lit_ul0]; rfl); (focus (first | (simp only [Value.cells, List.toList_toArray, qz23, Value.oneCell', and_self]; done) | (simp [Value.cells, Value.oneCell']; done)))) | (refine kOps_alloc (row := ?_) (n := ?_) rfl rfl rfl rfl ty48 ?_ ?_ ?_ ?_; rotate_left 2; (simp only [↓length_append, ↓length_set, ↓length_cons, length_nil, reduceAdd, zero_add]; rfl); (simp only [cl4, zero_mod, Nat.zero_div, n_add_zero, zero_add, Value.cells, qz9, List.toList_toArray, lit_ul0]; rfl); (focus (first | (simp only [Value.cells, List.toList_toArray, qz23, Value.oneCell', and_self]; done) | (simp [Value.cells, Value.oneCell']; done)))) | (refine kOps_mv rfl rfl rfl rfl ?_) | (refine kOps_bin (b := .lss) (pre := ?_) (val := ?_) rfl rfl rfl rfl rfl ?_ ?_ ?_; rotate_left 2; (intro L; simp only [cl4, zero_mod, Nat.zero_div, n_add_zero, zero_add, refq, refc0, refc1, refq2, mulc01 a b, mulc02 a b, mulc10 a b, mulc11 a b, mulc12 a b, mulc20 a b, mulc21 a b, mulc22 a b, mulc30 a b, mulc31 a b, mulc32 a b, mulc03 a b lb, mulc13 a b lb, mulc23 a b lb, mulc33 a b lb, eql_u4 ty24 ty22, neq_u4 ty24 ty22, lit_ul0, lit_ul1, qz35, Int.reduceAdd, Int.reduceSub, Int.reduceMul, Int.reduceNeg, Int.sub_zero, cast_ofNat_Int, ne_eq, Int.reduceLT, Int.reduceLE, Int.reduceEq, reduceMod, Nat.reduceLT, qz5, ty3]; (first | (rw [wrap_i64] <;> first | omega | rfl) | (rw [wrap_u8] <;> first | omega | rfl) | (rw [wrap_u16] <;> first | omega | rfl) | (rw [wrap_u32] <;> first | omega | rfl) | rfl)); exact trivial) | (refine kOps_as rfl rfl rfl rfl ?_) | (refine kOps_asc rfl rfl rfl lit_ul0 ?_) | ((first | (refine kOps_ixap (off' := ?_) rfl rfl rfl rfl rfl rfl ty24 ty22 ?_ ?_ ?_; rotate_left 1; (simp only [cl4, zero_mod, Nat.zero_div, n_add_zero, zero_add, qz4, one_mul, toNat_natCast, reduceToNat, reduceMul, reduceAdd]; rfl)) | (refine kOps_ixaq (cs' := ?_) rfl rfl rfl rfl rfl ty24 ty22 ?_ ?_ ?_; rotate_left 1; (simp only [cl4, zero_mod, Nat.zero_div, n_add_zero, zero_add, elemAt, isAggD, qz0, if_false, qz3, qz10, length_cons, length_nil, qz6, qz4, reduceAdd, reduceMul, toNat_natCast, reduceToNat, agg_cl, len_cl]; rfl))); (focus ((repeat' apply And.intro) <;> first | exact True.intro | omega | (with_reducible rfl) | assumption | exact ⟨_, rfl⟩ | (simp only [sda]; done) | (simp only [len_cl]; omega) | (simp [Value.cells, Value.oneCell']; done)))) | ((first | refine kOps_loadp (pre := ?_) (val := ?_) rfl rfl rfl rfl rfl ty22 ?_ ?_ ?_ | refine kOps_loadr (pre := ?_) (val := ?_) rfl rfl rfl rfl ty22 ?_ ?_ ?_); rotate_left 2; (simp only [cl4, zero_mod, Nat.zero_div, n_add_zero, zero_add, partF, isAggD, qz0, if_false, qz3, qz10, length_cons, length_nil, qz6, qz4, reduceAdd, reduceMul, toNat_natCast, reduceToNat, agg_cl, len_cl]; rfl); (focus ((repeat' apply And.intro) <;> first | exact True.intro | omega | (with_reducible rfl) | assumption | exact ⟨_, rfl⟩ | (simp only [sda]; done) | (simp only [len_cl]; omega) | (simp [Value.cells, Value.oneCell']; done)))) | (refine kOps_callc (pre := ?_) (val := ?_) rfl rfl rfl rfl rfl ?_ ?_ ?_ ?_ ?_; rotate_left 2; (simp only [cl4, zero_mod, Nat.zero_div, n_add_zero, zero_add, Nat.mod_mod, mod_div_self, ul_mod, ul_add2, mule01 a b, mule02 a b, mule03 a b, mule10 a b, mule11 a b, mule12 a b, mule13 a b, mule20 a b, mule21 a b, mule22 a b, mule23 a b, mule30 a b, mule31 a b, mule32 a b, mule33 a b, sAdd64, sMul64, lit_ul0, lit_ul1, nrmC, qz9, qz8, qz25, ulv_ul, uv_u4, qz12, and_self, n_sub_zero]; rfl); (focus (first | rfl | (simp only [closed, closedL, qz18, closedL_bv, closedL_cl, Bool.and_self, Bool.and_true]; done))); (focus (first | rfl | (simp only [closed, closedL, qz18, closedL_bv, closedL_cl, Bool.and_self, Bool.and_true]; done))); (focus ((repeat' apply And.intro) <;> first | exact True.intro | omega | (with_reducible rfl) | assumption | exact ⟨_, rfl⟩ | (simp only [sda]; done) | (simp only [len_cl]; omega) | (simp [Value.cells, Value.oneCell']; done)))) | (refine kOps_ext rfl rfl rfl rfl rfl ?_) | (refine kOps_bin (b := .add) (pre := ?_) (val := ?_) rfl rfl rfl rfl rfl ?_ ?_ ?_; rotate_left 2; (intro L; simp only [cl4, zero_mod, Nat.zero_div, n_add_zero, zero_add, refq, refc0, refc1, refq2, mulc01 a b, mulc02 a b, mulc10 a b, mulc11 a b, mulc12 a b, mulc20 a b, mulc21 a b, mulc22 a b, mulc30 a b, mulc31 a b, mulc32 a b, mulc03 a b lb, mulc13 a b lb, mulc23 a b lb, mulc33 a b lb, eql_u4 ty24 ty22, neq_u4 ty24 ty22, lit_ul0, lit_ul1, qz34, Int.reduceAdd, Int.reduceSub, Int.reduceMul, Int.reduceNeg, Int.sub_zero, cast_ofNat_Int, ne_eq, Int.reduceLT, Int.reduceLE, Int.reduceEq, reduceMod, Nat.reduceLT, qz5, ty3]; (first | (rw [wrap_i64] <;> first | omega | rfl) | (rw [wrap_u8] <;> first | omega | rfl) | (rw [wrap_u16] <;> first | omega | rfl) | (rw [wrap_u32] <;> first | omega | rfl) | rfl)); exact trivial) | ((first | (refine kOps_ixap (off' := ?_) rfl rfl rfl rfl rfl rfl ty48 ty22 ?_ ?_ ?_; rotate_left 1; (simp only [cl4, zero_mod, Nat.zero_div, n_add_zero, zero_add, qz4, one_mul, toNat_natCast, reduceToNat, reduceMul, reduceAdd]; rfl)) | (refine kOps_ixaq (cs' := ?_) rfl rfl rfl rfl rfl ty48 ty22 ?_ ?_ ?_; rotate_left 1; (simp only [cl4, zero_mod, Nat.zero_div, n_add_zero, zero_add, elemAt, isAggD, qz0, if_false, qz3, qz10, length_cons, length_nil, qz6, qz4, reduceAdd, reduceMul, toNat_natCast, reduceToNat, agg_cl, len_cl]; rfl))); (focus ((repeat' apply And.intro) <;> first | exact True.intro | omega | (with_reducible rfl) | assumption | exact ⟨_, rfl⟩ | (simp only [sda]; done) | (simp only [len_cl]; omega) | (simp [Value.cells, Value.oneCell']; done)))) | (refine kOps_calle (pre := ?_) (val := ?_) rfl rfl rfl rfl rfl ?_ ?_ ?_; rotate_left 2; (simp only [cl4, zero_mod, Nat.zero_div, n_add_zero, zero_add, Nat.mod_mod, mod_div_self, ul_mod, ul_add2, mule01 a b, mule02 a b, mule03 a b, mule10 a b, mule11 a b, mule12 a b, mule13 a b, mule20 a b, mule21 a b, mule22 a b, mule23 a b, mule30 a b, mule31 a b, mule32 a b, mule33 a b, sAdd64, sMul64, lit_ul0, lit_ul1, nrmC, qz9, qz8, qz25, ulv_ul, uv_u4, qz12, and_self, n_sub_zero]; rfl); (focus ((repeat' apply And.intro) <;> first | exact True.intro | omega | (with_reducible rfl) | assumption | exact ⟨_, rfl⟩ | (simp only [sda]; done) | (simp only [len_cl]; omega) | (simp [Value.cells, Value.oneCell']; done)))) | (refine kOps_bin (b := .add) (pre := ?_) (val := ?_) rfl rfl rfl rfl rfl ?_ ?_ ?_; rotate_left 2; (intro L; simp only [cl4, zero_mod, Nat.zero_div, n_add_zero, zero_add, refq, refc0, refc1, refq2, mulc01 a b, mulc02 a b, mulc10 a b, mulc11 a b, mulc12 a b, mulc20 a b, mulc21 a b, mulc22 a b, mulc30 a b, mulc31 a b, mulc32 a b, mulc03 a b lb, mulc13 a b lb, mulc23 a b lb, mulc33 a b lb, eql_u4 ty24 ty22, neq_u4 ty24 ty22, lit_ul0, lit_ul1, qz34, Int.reduceAdd, Int.reduceSub, Int.reduceMul, Int.reduceNeg, Int.sub_zero, cast_ofNat_Int, ne_eq, Int.reduceLT, Int.reduceLE, Int.reduceEq, reduceMod, Nat.reduceLT, qz5, ty22]; (first | (rw [wrap_i64] <;> first | omega | rfl) | (rw [wrap_u8] <;> first | omega | rfl) | (rw [wrap_u16] <;> first | omega | rfl) | (rw [wrap_u32] <;> first | omega | rfl) | rfl)); exact trivial) | (refine kOps_store (cs' := ?_) rfl rfl rfl rfl rfl rfl rfl ty22 ?_ ?_ ?_; rotate_left 1; (simp only [cl4, zero_mod, Nat.zero_div, n_add_zero, zero_add, lit_ul0, lit_ul1, splice, qz14, qz17, isAggD, qz0, if_false, qz3, qz10, length_cons, length_nil, qz6, qz4, reduceAdd, reduceMul, toNat_natCast, reduceToNat, agg_cl, len_cl]; rfl); (focus (first | (simp only [lit_ul0, lit_ul1, qz14, qz17, length_cons, length_nil, len_cl, length_set, length_map, reduceAdd, zero_add, all_cons, all_nil, qz19, one_bv, PV.one, Value.oneCell', Bool.and_self, reduceLeDiff, Nat.le_refl, and_self, qz12]; done) | ((try simp only [lit_ul0, lit_ul1, qz14, qz17]); (focus ((repeat' apply And.intro) <;> first | exact True.intro | omega | (with_reducible rfl) | assumption | exact ⟨_, rfl⟩ | (simp only [sda]; done) | (simp only [len_cl]; omega) | (simp [Value.cells, Value.oneCell']; done))))))) | (refine vOps_slice (pre := ?_) (val := ?_) (L' := ?_) rfl rfl rfl ?_ ?_ ?_; rotate_left 3; (simp only [cl4, zero_mod, Nat.zero_div, n_add_zero, zero_add, evalIn_tmp, evalIn_const, evalIn_func, qz7, Nat.reduceBEq, lit_ul0, lit_ul1, sliceF, ints?, Option.map_some, Option.map_none, Int.sub_zero, Int.reduceSub, cast_ofNat_Int, qz22, qz10, qz3, qz0, length_cons, length_nil, qz6, qz4, one_mul, reduceAdd, reduceMul, reduceSub, reduceLeDiff, Nat.reduceEqDiff, toNat_natCast, reduceToNat, reduceIte, if_true, if_false, isAggD, len_cl, agg_cl, qz15, length_map, qz16, qz12, and_self, ty3, ty22, ty24, ty48, ty50]; (first | (rw [wrap_i64] <;> first | omega | rfl) | (rw [wrap_u8] <;> first | omega | rfl) | (rw [wrap_u16] <;> first | omega | rfl) | (rw [wrap_u32] <;> first | omega | rfl) | rfl)); (focus ((repeat' apply And.intro) <;> first | exact True.intro | omega | (with_reducible rfl) | assumption | exact ⟨_, rfl⟩ | (simp only [sda]; done) | (simp only [len_cl]; omega) | (simp [Value.cells, Value.oneCell']; done)))) | ((first | refine kOps_loadp (pre := ?_) (val := ?_) rfl rfl rfl rfl rfl ty24 ?_ ?_ ?_ | refine kOps_loadr (pre := ?_) (val := ?_) rfl rfl rfl rfl ty24 ?_ ?_ ?_); rotate_left 2; (simp only [cl4, zero_mod, Nat.zero_div, n_add_zero, zero_add, partF, isAggD, qz0, if_false, qz3, qz10, length_cons, length_nil, qz6, qz4, reduceAdd, reduceMul, toNat_natCast, reduceToNat, agg_cl, len_cl]; rfl); (focus ((repeat' apply And.intro) <;> first | exact True.intro | omega | (with_reducible rfl) | assumption | exact ⟨_, rfl⟩ | (simp only [sda]; done) | (simp only [len_cl]; omega) | (simp [Value.cells, Value.oneCell']; done)))) | (refine kOps_store (cs' := ?_) rfl rfl rfl rfl rfl rfl rfl ty24 ?_ ?_ ?_; rotate_left 1; (simp only [cl4, zero_mod, Nat.zero_div, n_add_zero, zero_add, lit_ul0, lit_ul1, splice, qz14, qz17, isAggD, qz0, if_false, qz3, qz10, length_cons, length_nil, qz6, qz4, reduceAdd, reduceMul, toNat_natCast, reduceToNat, agg_cl, len_cl]; rfl); (focus (first | (simp only [lit_ul0, lit_ul1, qz14, qz17, length_cons, length_nil, len_cl, length_set, length_map, reduceAdd, zero_add, all_cons, all_nil, qz19, one_bv, PV.one, Value.oneCell', Bool.and_self, reduceLeDiff, Nat.le_refl, and_self, qz12]; done) | ((try simp only [lit_ul0, lit_ul1, qz14, qz17]); (focus ((repeat' apply And.intro) <;> first | exact True.intro | omega | (with_reducible rfl) | assumption | exact ⟨_, rfl⟩ | (simp only [sda]; done) | (simp only [len_cl]; omega) | (simp [Value.cells, Value.oneCell']; done))))))) | (refine vOps_op (pre := ?_) (val := ?_) (L' := ?_) rfl rfl rfl ?_ ?_ ?_; rotate_left 3; (simp only [cl4, zero_mod, Nat.zero_div, n_add_zero, zero_add, Nat.mod_mod, mod_div_self, ul_mod, ul_add2, mule01 a b, mule02 a b, mule03 a b, mule10 a b, mule11 a b, mule12 a b, mule13 a b, mule20 a b, mule21 a b, mule22 a b, mule23 a b, mule30 a b, mule31 a b, mule32 a b, mule33 a b, refq, refc0, refc1, refq2, mulc01 a b, mulc02 a b, mulc10 a b, mulc11 a b, mulc12 a b, mulc20 a b, mulc21 a b, mulc22 a b, mulc30 a b, mulc31 a b, mulc32 a b, mulc03 a b lb, mulc13 a b lb, mulc23 a b lb, mulc33 a b lb, eql_u4 ty24 ty22, neq_u4 ty24 ty22, index_u4 ty24 ty22, sAdd64, sMul64, cast_ofNat_Int, qz22, qz10, opF, dm, md, cls, isW, qz11, evalIn_tmp, evalIn_const, evalIn_func, qz7, Nat.reduceBEq, dro_bv, droOk_bv, bytesOf_u8, ByteArray.toList_mk, qz34, qz36, binF_mul, binF_quo, binF_rem, qz35, binF_leq, binF_gtr, qz33, qz31, qz37, binF_and, qz43, binF_xor, qz40, qz41, qz38, lenF, capF, makeF, appF, news, kill, qz15, qz0, length_map, qz4, one_mul, List.reduceReplicate, sliceF, ints?, indexAddrF, elemAt, loadF, partF, isAggD, storeF, splice, boxF, allocF, buildSliceF, buildF, fillA, fillB, zeroCells, fieldF, fieldAddrF, indexF, extractF, copyF, fresh_own, fresh_ro, Int.sub_zero, Int.reduceSub, Int.reduceAdd, Int.reduceMul, Int.reduceNeg, rep_zero, rep_u8, rep_slice, reduceLeDiff, Value.cells, bv, qz3, length_cons, length_nil, reduceAdd, reduceSub, reduceMul, qz6, qz16, Option.map_some, Option.map_none, toNat_natCast, if_true, if_false, Nat.reduceEqDiff, reduceIte, IntKind.bits, qz9, List.toList_toArray, reduceToNat, callF, pureF, conOf, tabOf_cons, nrmC, adopt_closed, adopt_new, adopt_tnew, borrow, borrowOk, closed, closedL, closedL_bv, closedL_rows, dro, droOk, flat, flatL, flatL_bv, qz23, newB, qz8, bytesOf_one, isB_one, isRows, rowsOf, List.flatten_cons, List.flatten_nil, List.append_nil, all_nil, Bool.and_true, Bool.true_and, Bool.and_self, true_or, or_true, or_false, false_or, qz12, and_self, clr, and_false, false_and, qz17, slc_ro, slc_nil', slc_own', lit_ul0, lit_ul1, mul_ul, leq_ul, gtr_ul, and_ul, xor_ul, qz14, qz19, qz18, flat_ul, borrow_ul, qz25, ulv_ul, len_cl, closedL_cl, flatL_cl, agg_cl, flat_u4, borrow_u4, uv_u4, ty3, ty22, ty24, ty48, ty50]; (first | (rw [wrap_i64] <;> first | omega | rfl) | (rw [wrap_u8] <;> first | omega | rfl) | (rw [wrap_u16] <;> first | omega | rfl) | (rw [wrap_u32] <;> first | omega | rfl) | rfl)); (focus ((repeat' apply And.intro) <;> first | exact True.intro | omega | (with_reducible rfl) | assumption | exact ⟨_, rfl⟩ | (simp only [sda]; done) | (simp only [len_cl]; omega) | (simp [Value.cells, Value.oneCell']; done)))))
    refine fin_c (p := ?_) (xs := [.cell 4 24, .cell 5 24]) (by simp) rfl ?_ ?_ ?_ ?_
    rotate_left 2
    · simp only [rsx, qz9, cl4, zero_mod, Nat.zero_div, n_add_zero, zero_add, evalIn_tmp, evalIn_const, evalIn_func, qz7, Nat.reduceBEq, lit_ul0, lit_ul1, loadF, partF, cast_ofNat_Int, qz22, qz10, Int.reduceSub, qz3, qz0, length_cons, length_nil, qz6, qz4, one_mul, reduceAdd, reduceMul, reduceSub, reduceLeDiff, Nat.reduceEqDiff, toNat_natCast, reduceToNat, reduceIte, if_true, if_false, isAggD, len_cl, agg_cl, qz15, length_map, qz16, qz12, and_self, ty3, ty22, ty24, ty48, ty50]; try rfl
    · first | rfl | (simp only [closed, closedL, qz18, closedL_cl, closedL_bv, Bool.and_self, Bool.and_true]; first | done | rfl)
    · rw [muld00 a b]
      try simp only [← cl4, agg_cl]
      have e : PV.agg [ul (a % 18446744073709551616 * b), ul (a % 340282366920938463463374607431768211456 * b / 18446744073709551616), ul (a % 6277101735386680763835789423207666416102355444464034512896 * b / 340282366920938463463374607431768211456), ul (a % 115792089237316195423570985008687907853269984665640564039457584007913129639936 * b / 6277101735386680763835789423207666416102355444464034512896)] = u4 (a * b) := by
        rw [u4, cl4, ul_congr (mullo0 a b), ul_congr (mullo1 a b), ul_congr (mullo2 a b), mod_eq_of_lt la]
      refine tup2 ?_ ?_
      · rw [mod_eq_of_lt la]
        refine agg4 ?_
        generalize a * b = z
        omega
      · exact e
    · simp only [rsx, qz9, cl4, zero_mod, Nat.zero_div, n_add_zero, zero_add, evalIn_tmp, evalIn_const, evalIn_func, qz7, Nat.reduceBEq, lit_ul0, lit_ul1, loadF, partF, cast_ofNat_Int, qz22, qz10, Int.reduceSub, qz3, qz0, length_cons, length_nil, qz6, qz4, one_mul, reduceAdd, reduceMul, reduceSub, reduceLeDiff, Nat.reduceEqDiff, toNat_natCast, reduceToNat, reduceIte, if_true, if_false, isAggD, len_cl, agg_cl, qz15, length_map, qz16, qz12, and_self, ty3, ty22, ty24, ty48, ty50]; try trivial
  · exact hS.elim
noncomputable def B46 : Code := bodyOf Try.f46
theorem B46_eq : Try.f46.body = some B46 := by kernel_rfl
noncomputable def n46_0 := B46
noncomputable def n46_1 := codeAt B46 [0]
noncomputable def n46_2 := codeAt B46 [1]
noncomputable def n46_3 := codeAt B46 [1,0]
noncomputable def n46_4 := codeAt B46 [1,0,0]
noncomputable def n46_5 := codeAt B46 [1,0,1]
noncomputable def n46_6 := codeAt B46 [1,0,1,0]
noncomputable def n46_7 := codeAt B46 [1,0,1,0,0]
noncomputable def n46_8 := codeAt B46 [1,0,1,0,1]
noncomputable def n46_9 := codeAt B46 [1,0,1,1]
noncomputable def n46_10 := codeAt B46 [1,1]
noncomputable def n46_11 := codeAt B46 [1,1,0]
noncomputable def n46_12 := codeAt B46 [1,1,1]
noncomputable def n46_13 := codeAt B46 [1,1,1,0]
noncomputable def n46_14 := codeAt B46 [1,1,1,1]
noncomputable def n46_15 := codeAt B46 [1,1,1,1,0]
noncomputable def n46_16 := codeAt B46 [1,1,1,1,1]
theorem e46_0 : n46_0 = .seq n46_1 n46_2 := rfl
noncomputable def r46_1 := opsAt n46_1
theorem e46_1 : n46_1 = .region 0 (r46_1).toArray false := rfl
theorem e46_2 : n46_2 = .seq n46_3 n46_10 := rfl
theorem e46_3 : n46_3 = .seq n46_4 n46_5 := rfl
noncomputable def r46_4 := opsAt n46_4
theorem e46_4 : n46_4 = .region 1 (r46_4).toArray false := rfl
theorem e46_5 : n46_5 = .cond (.tmp 13) n46_6 n46_9 := rfl
theorem e46_6 : n46_6 = .seq n46_7 n46_8 := rfl
noncomputable def r46_7 := opsAt n46_7
theorem e46_7 : n46_7 = .region 2 (r46_7).toArray false := rfl
theorem e46_8 : n46_8 = .ret := rfl
theorem e46_9 : n46_9 = .skip := rfl
theorem e46_10 : n46_10 = .seq n46_11 n46_12 := rfl
noncomputable def r46_11 := opsAt n46_11
theorem e46_11 : n46_11 = .region 3 (r46_11).toArray true := rfl
noncomputable def r46_11a := ver1 10 11 r46_11
theorem a46_11a : anyOk r46_11a = true := by decide +kernel
noncomputable def r46_11b := ver2 10 11 r46_11
theorem a46_11b : anyOk r46_11b = true := by decide +kernel
theorem e46_12 : n46_12 = .seq n46_13 n46_14 := rfl
noncomputable def r46_13 := opsAt n46_13
theorem e46_13 : n46_13 = .region 4 (r46_13).toArray false := rfl
theorem e46_14 : n46_14 = .seq n46_15 n46_16 := rfl
noncomputable def r46_15 := opsAt n46_15
theorem e46_15 : n46_15 = .region 5 (r46_15).toArray false := rfl
theorem e46_16 : n46_16 = .ret := rfl
theorem f_ref02_MulMod : PureOk Try.prog 46 sMulMod := by
  refine pureOk_of (c := n46_0) (Γ := conOf [(40, .pure sZero), (55, .pure sReduce2), (61, .pure sMul), (62, .pure sDiv)]) (conOf_ok (conOf_one (S := .pure sZero) f_ref02_Zero (conOf_one (S := .pure sReduce2) f_ref02_reduce (conOf_one (S := .pure sMul) f_ref02_Mul (conOf_one (S := .pure sDiv) f_ref02_Div (conOf_end)))))) mixed Try.func46 B46_eq (by decide +kernel) Try.call46 ?_
  intro args hS
  unfold sMulMod at hS ⊢
  split at hS
  · refine ⟨by rw [Try.ntmps46]; simp, vC_sound ?_⟩
    rename_i xa xb xm
    obtain ⟨ha, hb, hm⟩ := hS
    obtain ⟨a, la, rfl⟩ := isU_out ha
    obtain ⟨b, lb, rfl⟩ := isU_out hb
    obtain ⟨m, lm, rfl⟩ := isU_out hm
    simp only [uv_u4, mod_eq_of_lt la, mod_eq_of_lt lb, mod_eq_of_lt lm]
    clear ha hb hm
    simp only [qz26, reduceAdd]
    by_cases hm : m = 0
    · repeat' (first | (with_reducible first | apply seqC_normal | apply seqC_ret) | ((with_reducible apply wC_seq e46_0; apply kC_less [0, 1, 2] (c := n46_1)); (exact rfl); (exact rfl); (with_reducible apply wC_region e46_1); refine vOps_open (l := _ :: _) rfl ?_; refine kOps_box (row := ?_) (n := ?_) rfl rfl rfl rfl rfl ?_ ?_ ?_ ?_; rotate_left 2; (simp only [↓length_append, ↓length_set, ↓length_cons, length_nil, reduceAdd, zero_add]; rfl); (simp only [qz1, splice_cl, splice_one, len_cl, mod_eq_of_lt la, mod_eq_of_lt lb, hm, if_true, if_false, qz24, reduceMod, qz5, eq_self, zero_mod, qz11, qz14]; rfl); (focus (first | rfl | exact one_cl _ _ | exact one_bv _ | (simp only [qz19, all_cons, all_nil, Bool.and_self, PV.one]; done) | (simp [PV.one, qz19, one_bv, Value.oneCell']; done))); refine kOps_box (row := ?_) (n := ?_) rfl rfl rfl rfl rfl ?_ ?_ ?_ ?_; rotate_left 2; (simp only [↓length_append, ↓length_set, ↓length_cons, length_nil, reduceAdd, zero_add]; rfl); (simp only [qz1, splice_cl, splice_one, len_cl, mod_eq_of_lt la, mod_eq_of_lt lb, hm, if_true, if_false, qz24, reduceMod, qz5, eq_self, zero_mod, qz11, qz14]; rfl); (focus (first | rfl | exact one_cl _ _ | exact one_bv _ | (simp only [qz19, all_cons, all_nil, Bool.and_self, PV.one]; done) | (simp [PV.one, qz19, one_bv, Value.oneCell']; done))); refine kOps_box (row := ?_) (n := ?_) rfl rfl rfl rfl rfl ?_ ?_ ?_ ?_; rotate_left 2; (simp only [↓length_append, ↓length_set, ↓length_cons, length_nil, reduceAdd, zero_add]; rfl); (simp only [qz1, splice_cl, splice_one, len_cl, mod_eq_of_lt la, mod_eq_of_lt lb, hm, if_true, if_false, qz24, reduceMod, qz5, eq_self, zero_mod, qz11, qz14]; rfl); (focus (first | rfl | exact one_cl _ _ | exact one_bv _ | (simp only [qz19, all_cons, all_nil, Bool.and_self, PV.one]; done) | (simp [PV.one, qz19, one_bv, Value.oneCell']; done))); refine kOps_alloc (row := ?_) (n := ?_) rfl rfl rfl rfl ty24 ?_ ?_ ?_ ?_; rotate_left 2; (simp only [↓length_append, ↓length_set, ↓length_cons, length_nil, reduceAdd, zero_add]; rfl); (simp only [qz1, splice_cl, splice_one, len_cl, mod_eq_of_lt la, mod_eq_of_lt lb, hm, if_true, if_false, qz24, reduceMod, qz5, eq_self, zero_mod, qz11, Value.cells, qz9, List.toList_toArray, zero_cl4, zero_cl8, lit_ul0]; rfl); (focus (first | (simp only [Value.cells, List.toList_toArray, qz23, Value.oneCell', and_self]; done) | (simp [Value.cells, Value.oneCell']; done))); refine vOps_nil ?_; (with_reducible apply seqC_normal; apply wC_seq e46_2; apply wC_seq e46_3; apply wC_region e46_4); refine vOps_open (l := _ :: _) rfl ?_; (first | refine kOps_loadp (pre := ?_) (val := ?_) rfl rfl rfl rfl rfl ty24 ?_ ?_ ?_ | refine kOps_loadr (pre := ?_) (val := ?_) rfl rfl rfl rfl ty24 ?_ ?_ ?_); rotate_left 2; (simp only [qz1, splice_cl, splice_one, len_cl, mod_eq_of_lt la, mod_eq_of_lt lb, hm, if_true, if_false, qz24, reduceMod, qz5, eq_self, zero_mod, qz11, partF, isAggD, qz0, reduceIte, agg_cl, toNat_natCast, reduceToNat, qz4, n_add_zero, reduceAdd, reduceMul, qz15, length_map]; rfl); (focus ((repeat' apply And.intro) <;> first | exact True.intro | omega | (with_reducible rfl) | assumption | exact ⟨_, rfl⟩ | (simp only [sda]; done) | (simp only [len_cl]; omega) | (simp [Value.cells, Value.oneCell']; done))); refine kOps_callc (pre := ?_) (val := ?_) rfl rfl rfl rfl rfl ?_ ?_ ?_ ?_ ?_; rotate_left 2; (simp only [qz1, splice_cl, splice_one, len_cl, mod_eq_of_lt la, mod_eq_of_lt lb, hm, if_true, if_false, qz24, reduceMod, qz5, eq_self, zero_mod, qz11, sZero, sReduce2, sMul, sDiv, nrmC, qz9, qz8, qz25, ulv_ul, uv_u4, qz12, and_self, n_add_zero, n_sub_zero]; rfl); (focus (first | rfl | (simp only [closed, closedL, qz18, closedL_bv, closedL_cl, Bool.and_self, Bool.and_true]; done))); (focus (first | rfl | (simp only [closed, closedL, qz18, closedL_bv, closedL_cl, Bool.and_self, Bool.and_true]; done))); (focus ((repeat' apply And.intro) <;> first | exact True.intro | omega | (with_reducible rfl) | assumption | exact ⟨_, rfl⟩ | (simp only [sda]; done) | (simp only [len_cl]; omega) | (simp [Value.cells, Value.oneCell']; done))); refine vOps_nil ?_; (with_reducible apply seqC_normal; apply kC_cond e46_5); (exact rfl); all_goals (intro hb; first | (cases hb; done) | cases hb | ((try simp only [dxe] at hb); try (exfalso; first | omega | exact hb trivial)))) | ((with_reducible apply wC_seq e46_6; apply wC_region e46_7); refine vOps_open (l := _ :: _) rfl ?_; (first | refine kOps_loadp (pre := ?_) (val := ?_) rfl rfl rfl rfl rfl ty24 ?_ ?_ ?_ | refine kOps_loadr (pre := ?_) (val := ?_) rfl rfl rfl rfl ty24 ?_ ?_ ?_); rotate_left 2; (simp only [qz1, splice_cl, splice_one, len_cl, mod_eq_of_lt la, mod_eq_of_lt lb, hm, if_true, if_false, qz24, reduceMod, qz5, eq_self, zero_mod, qz11, partF, isAggD, qz0, reduceIte, agg_cl, toNat_natCast, reduceToNat, qz4, n_add_zero, reduceAdd, reduceMul, qz15, length_map]; rfl); (focus ((repeat' apply And.intro) <;> first | exact True.intro | omega | (with_reducible rfl) | assumption | exact ⟨_, rfl⟩ | (simp only [sda]; done) | (simp only [len_cl]; omega) | (simp [Value.cells, Value.oneCell']; done))); refine kOps_store (cs' := ?_) rfl rfl rfl rfl rfl rfl rfl ty24 ?_ ?_ ?_; rotate_left 1; (simp only [qz1, splice_cl, splice_one, len_cl, mod_eq_of_lt la, mod_eq_of_lt lb, hm, if_true, if_false, qz24, reduceMod, qz5, eq_self, zero_mod, qz11, qz14, isAggD, qz0, reduceIte, agg_cl, toNat_natCast, reduceToNat, qz4, n_add_zero, reduceAdd, reduceMul, qz15, length_map]; rfl); (focus (first | (simp only [qz14, length_cons, length_nil, len_cl, length_set, length_map, reduceAdd, zero_add, all_cons, all_nil, qz19, one_bv, PV.one, Value.oneCell', Bool.and_self, reduceLeDiff, Nat.le_refl, and_self, qz12]; done) | ((try simp only [qz14]); (focus ((repeat' apply And.intro) <;> first | exact True.intro | omega | (with_reducible rfl) | assumption | exact ⟨_, rfl⟩ | (simp only [sda]; done) | (simp only [len_cl]; omega) | (simp [Value.cells, Value.oneCell']; done)))))); refine vOps_nil ?_; (with_reducible apply seqC_normal; apply wC_ret e46_8)) | ((with_reducible apply wC_skip e46_9)))
      all_goals (
        refine fin_c (p := ?_) (xs := [.cell 6 24]) (by simp) rfl ?_ ?_ ?_ ?_
        rotate_left 2
        · simp only [rsx, qz9, qz1, splice_cl, splice_one, len_cl, mod_eq_of_lt la, mod_eq_of_lt lb, hm, if_true, if_false, qz24, reduceMod, qz5, eq_self, zero_mod, qz11, evalIn_tmp, evalIn_const, evalIn_func, qz7, Nat.reduceBEq, lit_ul0, lit_ul1, loadF, partF, qz3, qz6, qz16, qz12, and_self, Nat.le_refl, reduceLeDiff, isAggD, qz0, reduceIte, agg_cl, toNat_natCast, reduceToNat, qz4, n_add_zero, zero_add, reduceAdd, reduceMul, qz15, length_map, ty22, ty24]; try rfl
        · first | rfl | (simp only [closed, closedL, qz18, closedL_cl, closedL_bv, Bool.and_self, Bool.and_true]; first | done | rfl)
        · rw [rem0_zero hm]
        · simp only [rsx, qz9, qz1, splice_cl, splice_one, len_cl, mod_eq_of_lt la, mod_eq_of_lt lb, hm, if_true, if_false, qz24, reduceMod, qz5, eq_self, zero_mod, qz11, evalIn_tmp, evalIn_const, evalIn_func, qz7, Nat.reduceBEq, lit_ul0, lit_ul1, loadF, partF, qz3, qz6, qz16, qz12, and_self, Nat.le_refl, reduceLeDiff, isAggD, qz0, reduceIte, agg_cl, toNat_natCast, reduceToNat, qz4, n_add_zero, zero_add, reduceAdd, reduceMul, qz15, length_map, ty22, ty24]; try trivial)
    · have h1 := Nat.mod_lt a (show 0 < m by omega)
      have h2 := Nat.mod_lt b (show 0 < m by omega)
      have la2 : a % m < 115792089237316195423570985008687907853269984665640564039457584007913129639936 := by omega
      have lb2 : b % m < 115792089237316195423570985008687907853269984665640564039457584007913129639936 := by omega
      have hh : a % m * (b % m) / 115792089237316195423570985008687907853269984665640564039457584007913129639936 < m := Nat.div_lt_of_lt_mul (Nat.lt_of_lt_of_le (Nat.mul_lt_mul'' h1 h2) (Nat.mul_le_mul_right _ (by omega)))
      have lhh : a % m * (b % m) / 115792089237316195423570985008687907853269984665640564039457584007913129639936 < 115792089237316195423570985008687907853269984665640564039457584007913129639936 := by omega
      have hmh : (m ≤ a % m * (b % m) / 115792089237316195423570985008687907853269984665640564039457584007913129639936) = False := eq_false (by omega)
      have c2 : (m ≤ 0) = False := eq_false (by omega)
      repeat' (first | (with_reducible first | apply seqC_normal | apply seqC_ret) | ((with_reducible apply wC_seq e46_0; apply kC_less [0, 1, 2] (c := n46_1)); (exact rfl); (exact rfl); (with_reducible apply wC_region e46_1); refine vOps_open (l := _ :: _) rfl ?_) | ((with_reducible apply wC_seq e46_2; apply wC_seq e46_3; apply wC_region e46_4); refine vOps_open (l := _ :: _) rfl ?_) | ((with_reducible apply kC_cond e46_5); (exact rfl); all_goals (intro hb; first | (cases hb; done) | cases hb | ((try simp only [dxe] at hb); try (exfalso; first | omega | exact hb trivial)))) | ((with_reducible apply wC_seq e46_6; apply wC_region e46_7); refine vOps_open (l := _ :: _) rfl ?_) | ((with_reducible apply wC_ret e46_8)) | ((with_reducible apply wC_skip e46_9)) | ((with_reducible apply wC_seq e46_10; apply kC_less [3, 4, 5, 6] (c := n46_11)); (exact rfl); (exact rfl); (with_reducible apply wC_two 10 11 e46_11 (l1 := r46_11a) (l2 := r46_11b) rfl rfl (by decide +kernel) a46_11a a46_11b); refine vOps_open (l := [_, _, _, _, _, _, _, _, _, _, _, _, _, _]) rfl ?_; (repeat' (first | ((first | refine kOps_loadp (pre := ?_) (val := ?_) rfl rfl rfl rfl rfl ty24 ?_ ?_ ?_ | refine kOps_loadr (pre := ?_) (val := ?_) rfl rfl rfl rfl ty24 ?_ ?_ ?_); rotate_left 2; (simp only [qz1, splice_cl, splice_one, len_cl, mod_eq_of_lt la, mod_eq_of_lt lb, mod_eq_of_lt lm, mod_eq_of_lt la2, mod_eq_of_lt lb2, mod_eq_of_lt lhh, hmh, c2, ne_eq, hm, not_false_eq_true, if_true, if_false, qz24, reduceMod, qz5, eq_self, zero_mod, qz11, partF, isAggD, qz0, reduceIte, agg_cl, toNat_natCast, reduceToNat, qz4, n_add_zero, reduceAdd, reduceMul, qz15, length_map]; rfl); (focus ((repeat' apply And.intro) <;> first | exact True.intro | omega | (with_reducible rfl) | assumption | exact ⟨_, rfl⟩ | (simp only [sda]; done) | (simp only [len_cl]; omega) | (simp [Value.cells, Value.oneCell']; done)))) | (refine kOps_callc (pre := ?_) (val := ?_) rfl rfl rfl rfl rfl ?_ ?_ ?_ ?_ ?_; rotate_left 2; (simp only [qz1, splice_cl, splice_one, len_cl, mod_eq_of_lt la, mod_eq_of_lt lb, mod_eq_of_lt lm, mod_eq_of_lt la2, mod_eq_of_lt lb2, mod_eq_of_lt lhh, hmh, c2, ne_eq, hm, not_false_eq_true, if_true, if_false, qz24, reduceMod, qz5, eq_self, zero_mod, qz11, sZero, sReduce2, sMul, sDiv, lit_ul0, lit_ul1, nrmC, qz9, qz8, qz25, ulv_ul, uv_u4, qz12, and_self, n_add_zero, n_sub_zero]; rfl); (focus (first | rfl | (simp only [closed, closedL, qz18, closedL_bv, closedL_cl, Bool.and_self, Bool.and_true]; done))); (focus (first | rfl | (simp only [closed, closedL, qz18, closedL_bv, closedL_cl, Bool.and_self, Bool.and_true]; done))); (focus ((repeat' apply And.intro) <;> first | exact True.intro | omega | (with_reducible rfl) | assumption | exact ⟨_, rfl⟩ | (simp only [sda]; done) | (simp only [len_cl]; omega) | (simp [Value.cells, Value.oneCell']; done)))) | (refine kOps_mv rfl rfl rfl rfl ?_) | (refine kOps_ext rfl rfl rfl rfl rfl ?_) | (refine kOps_alloc (row := ?_) (n := ?_) rfl rfl rfl rfl ty24 ?_ ?_ ?_ ?_; rotate_left 2; (simp only [↓length_append, ↓length_set, ↓length_cons, length_nil, reduceAdd, zero_add]; rfl); (simp only [qz1, splice_cl, splice_one, len_cl, mod_eq_of_lt la, mod_eq_of_lt lb, mod_eq_of_lt lm, mod_eq_of_lt la2, mod_eq_of_lt lb2, mod_eq_of_lt lhh, hmh, c2, ne_eq, hm, not_false_eq_true, if_true, if_false, qz24, reduceMod, qz5, eq_self, zero_mod, qz11, Value.cells, qz9, List.toList_toArray, zero_cl4, zero_cl8, lit_ul0]; rfl); (focus (first | (simp only [Value.cells, List.toList_toArray, qz23, Value.oneCell', and_self]; done) | (simp [Value.cells, Value.oneCell']; done)))) | (refine kOps_store (cs' := ?_) rfl rfl rfl rfl rfl rfl rfl ty24 ?_ ?_ ?_; rotate_left 1; (simp only [qz1, splice_cl, splice_one, len_cl, mod_eq_of_lt la, mod_eq_of_lt lb, mod_eq_of_lt lm, mod_eq_of_lt la2, mod_eq_of_lt lb2, mod_eq_of_lt lhh, hmh, c2, ne_eq, hm, not_false_eq_true, if_true, if_false, qz24, reduceMod, qz5, eq_self, zero_mod, qz11, lit_ul0, lit_ul1, qz14, isAggD, qz0, reduceIte, agg_cl, toNat_natCast, reduceToNat, qz4, n_add_zero, reduceAdd, reduceMul, qz15, length_map]; rfl); (focus (first | (simp only [lit_ul0, lit_ul1, qz14, length_cons, length_nil, len_cl, length_set, length_map, reduceAdd, zero_add, all_cons, all_nil, qz19, one_bv, PV.one, Value.oneCell', Bool.and_self, reduceLeDiff, Nat.le_refl, and_self, qz12]; done) | ((try simp only [lit_ul0, lit_ul1, qz14]); (focus ((repeat' apply And.intro) <;> first | exact True.intro | omega | (with_reducible rfl) | assumption | exact ⟨_, rfl⟩ | (simp only [sda]; done) | (simp only [len_cl]; omega) | (simp [Value.cells, Value.oneCell']; done))))))) | (refine vOps_nil ?_; refine And.intro (by kernel_rfl) ⟨[0, 1, 2, 3, 5, 4], ?_⟩; (refine weak_mk (fun i h => absurd h (Nat.not_lt_zero i)) (by decide) (by simp) ?_ ?_; (focus (simp only [RenRows, qz16, qz6, qz3, qz28, closedL_bv, closedL_cl, closedL_hl, qz12])); (focus (simp only [RenEnv, qz7, Nat.reduceBEq]; (repeat' apply And.intro) <;> first | trivial | (refine ren_ptr rfl; done) | exact ren_keep rfl | exact ren_keep (closed_u4 _) | exact ren_keep (closed_h32 _) | (refine ren_keep ?_; simp only [closed, closedL, qz18, closedL_cl, closed_h32, Bool.and_self]; done))))) | (refine vOps_nil ?_; refine And.intro (by kernel_rfl) (And.intro ?_ ?_); refine vOps_open (l := [_, _, _, _, _, _, _, _, _, _, _, _, _, _]) rfl ?_)))) | ((with_reducible apply wC_seq e46_12; apply kC_less [5, 6, 7, 8] (c := n46_13)); (exact rfl); (exact rfl); (with_reducible apply wC_region e46_13); refine vOps_open (l := _ :: _) rfl ?_) | ((with_reducible apply wC_seq e46_14; apply wC_region e46_15); refine vOps_open (l := _ :: _) rfl ?_) | ((with_reducible apply wC_ret e46_16)) | ((with_reducible apply vOps_nil); try (with_reducible refine And.intro (by kernel_rfl) ?_)) | (refine kOps_box (row := ?_) (n := ?_) rfl rfl rfl rfl rfl ?_ ?_ ?_ ?_; rotate_left 2; (simp only [↓length_append, ↓length_set, ↓length_cons, length_nil, reduceAdd, zero_add]; rfl); (simp only [qz1, splice_cl, splice_one, len_cl, mod_eq_of_lt la, mod_eq_of_lt lb, mod_eq_of_lt lm, mod_eq_of_lt la2, mod_eq_of_lt lb2, mod_eq_of_lt lhh, hmh, c2, ne_eq, hm, not_false_eq_true, if_true, if_false, qz24, reduceMod, qz5, eq_self, zero_mod, qz11, qz14]; rfl); (focus (first | rfl | exact one_cl _ _ | exact one_bv _ | (simp only [qz19, all_cons, all_nil, Bool.and_self, PV.one]; done) | (simp [PV.one, qz19, one_bv, Value.oneCell']; done)))) | (refine kOps_alloc (row := ?_) (n := ?_) rfl rfl rfl rfl ty24 ?_ ?_ ?_ ?_; rotate_left 2; (simp only [↓length_append, ↓length_set, ↓length_cons, length_nil, reduceAdd, zero_add]; rfl); (simp only [qz1, splice_cl, splice_one, len_cl, mod_eq_of_lt la, mod_eq_of_lt lb, mod_eq_of_lt lm, mod_eq_of_lt la2, mod_eq_of_lt lb2, mod_eq_of_lt lhh, hmh, c2, ne_eq, hm, not_false_eq_true, if_true, if_false, qz24, reduceMod, qz5, eq_self, zero_mod, qz11, Value.cells, qz9, List.toList_toArray, zero_cl4, zero_cl8, lit_ul0]; rfl); (focus (first | (simp only [Value.cells, List.toList_toArray, qz23, Value.oneCell', and_self]; done) | (simp [Value.cells, Value.oneCell']; done)))) | ((first | refine kOps_loadp (pre := ?_) (val := ?_) rfl rfl rfl rfl rfl ty24 ?_ ?_ ?_ | refine kOps_loadr (pre := ?_) (val := ?_) rfl rfl rfl rfl ty24 ?_ ?_ ?_); rotate_left 2; (simp only [qz1, splice_cl, splice_one, len_cl, mod_eq_of_lt la, mod_eq_of_lt lb, mod_eq_of_lt lm, mod_eq_of_lt la2, mod_eq_of_lt lb2, mod_eq_of_lt lhh, hmh, c2, ne_eq, hm, not_false_eq_true, if_true, if_false, qz24, reduceMod, qz5, eq_self, zero_mod, qz11, partF, isAggD, qz0, reduceIte, agg_cl, toNat_natCast, reduceToNat, qz4, n_add_zero, reduceAdd, reduceMul, qz15, length_map]; rfl); (focus ((repeat' apply And.intro) <;> first | exact True.intro | omega | (with_reducible rfl) | assumption | exact ⟨_, rfl⟩ | (simp only [sda]; done) | (simp only [len_cl]; omega) | (simp [Value.cells, Value.oneCell']; done)))) | (refine kOps_callc (pre := ?_) (val := ?_) rfl rfl rfl rfl rfl ?_ ?_ ?_ ?_ ?_; rotate_left 2; (simp only [qz1, splice_cl, splice_one, len_cl, mod_eq_of_lt la, mod_eq_of_lt lb, mod_eq_of_lt lm, mod_eq_of_lt la2, mod_eq_of_lt lb2, mod_eq_of_lt lhh, hmh, c2, ne_eq, hm, not_false_eq_true, if_true, if_false, qz24, reduceMod, qz5, eq_self, zero_mod, qz11, sZero, sReduce2, sMul, sDiv, lit_ul0, lit_ul1, nrmC, qz9, qz8, qz25, ulv_ul, uv_u4, qz12, and_self, n_add_zero, n_sub_zero]; rfl); (focus (first | rfl | (simp only [closed, closedL, qz18, closedL_bv, closedL_cl, Bool.and_self, Bool.and_true]; done))); (focus (first | rfl | (simp only [closed, closedL, qz18, closedL_bv, closedL_cl, Bool.and_self, Bool.and_true]; done))); (focus ((repeat' apply And.intro) <;> first | exact True.intro | omega | (with_reducible rfl) | assumption | exact ⟨_, rfl⟩ | (simp only [sda]; done) | (simp only [len_cl]; omega) | (simp [Value.cells, Value.oneCell']; done)))) | (refine kOps_store (cs' := ?_) rfl rfl rfl rfl rfl rfl rfl ty24 ?_ ?_ ?_; rotate_left 1; (simp only [qz1, splice_cl, splice_one, len_cl, mod_eq_of_lt la, mod_eq_of_lt lb, mod_eq_of_lt lm, mod_eq_of_lt la2, mod_eq_of_lt lb2, mod_eq_of_lt lhh, hmh, c2, ne_eq, hm, not_false_eq_true, if_true, if_false, qz24, reduceMod, qz5, eq_self, zero_mod, qz11, lit_ul0, lit_ul1, qz14, isAggD, qz0, reduceIte, agg_cl, toNat_natCast, reduceToNat, qz4, n_add_zero, reduceAdd, reduceMul, qz15, length_map]; rfl); (focus (first | (simp only [lit_ul0, lit_ul1, qz14, length_cons, length_nil, len_cl, length_set, length_map, reduceAdd, zero_add, all_cons, all_nil, qz19, one_bv, PV.one, Value.oneCell', Bool.and_self, reduceLeDiff, Nat.le_refl, and_self, qz12]; done) | ((try simp only [lit_ul0, lit_ul1, qz14]); (focus ((repeat' apply And.intro) <;> first | exact True.intro | omega | (with_reducible rfl) | assumption | exact ⟨_, rfl⟩ | (simp only [sda]; done) | (simp only [len_cl]; omega) | (simp [Value.cells, Value.oneCell']; done))))))) | (refine kOps_mv rfl rfl rfl rfl ?_) | (refine kOps_ext rfl rfl rfl rfl rfl ?_) | (refine kOps_as rfl rfl rfl rfl ?_))
      all_goals (
        refine fin_c (p := ?_) (xs := [.cell 6 24]) (by simp) rfl ?_ ?_ ?_ ?_
        rotate_left 2
        · simp only [rsx, qz9, qz1, splice_cl, splice_one, len_cl, mod_eq_of_lt la, mod_eq_of_lt lb, mod_eq_of_lt lm, mod_eq_of_lt la2, mod_eq_of_lt lb2, mod_eq_of_lt lhh, hmh, c2, ne_eq, hm, not_false_eq_true, if_true, if_false, qz24, reduceMod, qz5, eq_self, zero_mod, qz11, evalIn_tmp, evalIn_const, evalIn_func, qz7, Nat.reduceBEq, lit_ul0, lit_ul1, loadF, partF, qz3, qz6, qz16, qz12, and_self, Nat.le_refl, reduceLeDiff, isAggD, qz0, reduceIte, agg_cl, toNat_natCast, reduceToNat, qz4, n_add_zero, zero_add, reduceAdd, reduceMul, qz15, length_map, ty22, ty24]; try rfl
        · first | rfl | (simp only [closed, closedL, qz18, closedL_cl, closedL_bv, Bool.and_self, Bool.and_true]; first | done | rfl)
        · rw [rem0_pos hm, Nat.div_add_mod', ← Nat.mul_mod]
        · simp only [rsx, qz9, qz1, splice_cl, splice_one, len_cl, mod_eq_of_lt la, mod_eq_of_lt lb, mod_eq_of_lt lm, mod_eq_of_lt la2, mod_eq_of_lt lb2, mod_eq_of_lt lhh, hmh, c2, ne_eq, hm, not_false_eq_true, if_true, if_false, qz24, reduceMod, qz5, eq_self, zero_mod, qz11, evalIn_tmp, evalIn_const, evalIn_func, qz7, Nat.reduceBEq, lit_ul0, lit_ul1, loadF, partF, qz3, qz6, qz16, qz12, and_self, Nat.le_refl, reduceLeDiff, isAggD, qz0, reduceIte, agg_cl, toNat_natCast, reduceToNat, qz4, n_add_zero, zero_add, reduceAdd, reduceMul, qz15, length_map, ty22, ty24]; try trivial)
  · exact hS.elim
end Go.Ab
