import Derived.Test.YtgknomjgpkpjdaaTY
import Derived.Test.YtgknomjgpkpjdaaME
import Derived.Test.YtgknomjgpkpjdaaFbitsAdd64
import Derived.Test.YtgknomjgpkpjdaaFbitsMul64
namespace Go.Ab
open Go Go.Proofs
open Nat (reduceAdd zero_add reduceMul mul_one reduceLeDiff zero_mod reduceSub one_mul min_self)
open List (length_cons length_nil all_nil all_cons length_map getD_cons_zero drop_zero map_cons set_cons_zero set_cons_succ getElem?_cons_zero getElem?_cons_succ map_nil nil_append cons_append take_zero take_succ_cons getD_cons_succ drop_succ_cons length_set take_nil getD_nil)
open Int (toNat_natCast reduceToNat toNat_zero cast_ofNat_Int)
set_option linter.unusedVariables false
set_option linter.unusedSimpArgs false
set_option maxRecDepth 8000
set_option maxHeartbeats 4000000

noncomputable def B30 : Code := bodyOf Try.f30
theorem B30_eq : Try.f30.body = some B30 := by kernel_rfl
noncomputable def n30_0 := B30
noncomputable def n30_1 := codeAt B30 [0]
noncomputable def n30_2 := codeAt B30 [1]
noncomputable def n30_3 := codeAt B30 [1,0]
noncomputable def n30_4 := codeAt B30 [1,1]
noncomputable def n30_5 := codeAt B30 [1,1,0]
noncomputable def n30_6 := codeAt B30 [1,1,0,0]
noncomputable def n30_7 := codeAt B30 [1,1,0,1]
noncomputable def n30_8 := codeAt B30 [1,1,0,1,0]
noncomputable def n30_9 := codeAt B30 [1,1,0,1,0,0]
noncomputable def n30_10 := codeAt B30 [1,1,0,1,0,0,0]
noncomputable def n30_11 := codeAt B30 [1,1,0,1,0,0,1]
noncomputable def n30_12 := codeAt B30 [1,1,0,1,0,0,1,0]
noncomputable def n30_13 := codeAt B30 [1,1,0,1,0,0,1,0,0]
noncomputable def n30_14 := codeAt B30 [1,1,0,1,0,0,1,0,1]
noncomputable def n30_15 := codeAt B30 [1,1,0,1,0,0,1,1]
noncomputable def n30_16 := codeAt B30 [1,1,0,1,0,0,1,1,0]
noncomputable def n30_17 := codeAt B30 [1,1,0,1,0,0,1,1,0,0]
noncomputable def n30_18 := codeAt B30 [1,1,0,1,0,0,1,1,0,0,0]
noncomputable def n30_19 := codeAt B30 [1,1,0,1,0,0,1,1,0,0,1]
noncomputable def n30_20 := codeAt B30 [1,1,0,1,0,0,1,1,0,0,1,0]
noncomputable def n30_21 := codeAt B30 [1,1,0,1,0,0,1,1,0,0,1,1]
noncomputable def n30_22 := codeAt B30 [1,1,0,1,0,0,1,1,0,0,1,1,0]
noncomputable def n30_23 := codeAt B30 [1,1,0,1,0,0,1,1,0,0,1,1,0,0]
noncomputable def n30_24 := codeAt B30 [1,1,0,1,0,0,1,1,0,0,1,1,0,1]
noncomputable def n30_25 := codeAt B30 [1,1,0,1,0,0,1,1,0,0,1,1,0,1,0]
noncomputable def n30_26 := codeAt B30 [1,1,0,1,0,0,1,1,0,0,1,1,0,1,0,0]
noncomputable def n30_27 := codeAt B30 [1,1,0,1,0,0,1,1,0,0,1,1,0,1,0,0,0]
noncomputable def n30_28 := codeAt B30 [1,1,0,1,0,0,1,1,0,0,1,1,0,1,0,0,1]
noncomputable def n30_29 := codeAt B30 [1,1,0,1,0,0,1,1,0,0,1,1,0,1,0,0,1,0]
noncomputable def n30_30 := codeAt B30 [1,1,0,1,0,0,1,1,0,0,1,1,0,1,0,0,1,0,0]
noncomputable def n30_31 := codeAt B30 [1,1,0,1,0,0,1,1,0,0,1,1,0,1,0,0,1,0,1]
noncomputable def n30_32 := codeAt B30 [1,1,0,1,0,0,1,1,0,0,1,1,0,1,0,0,1,1]
noncomputable def n30_33 := codeAt B30 [1,1,0,1,0,0,1,1,0,0,1,1,0,1,0,0,1,1,0]
noncomputable def n30_34 := codeAt B30 [1,1,0,1,0,0,1,1,0,0,1,1,0,1,0,0,1,1,0,0]
noncomputable def n30_35 := codeAt B30 [1,1,0,1,0,0,1,1,0,0,1,1,0,1,0,0,1,1,0,0,0]
noncomputable def n30_36 := codeAt B30 [1,1,0,1,0,0,1,1,0,0,1,1,0,1,0,0,1,1,0,0,1]
noncomputable def n30_37 := codeAt B30 [1,1,0,1,0,0,1,1,0,0,1,1,0,1,0,0,1,1,0,0,1,0]
noncomputable def n30_38 := codeAt B30 [1,1,0,1,0,0,1,1,0,0,1,1,0,1,0,0,1,1,0,0,1,1]
noncomputable def n30_39 := codeAt B30 [1,1,0,1,0,0,1,1,0,0,1,1,0,1,0,0,1,1,0,0,1,1,0]
noncomputable def n30_40 := codeAt B30 [1,1,0,1,0,0,1,1,0,0,1,1,0,1,0,0,1,1,0,0,1,1,1]
noncomputable def n30_41 := codeAt B30 [1,1,0,1,0,0,1,1,0,0,1,1,0,1,0,0,1,1,0,0,1,1,1,0]
noncomputable def n30_42 := codeAt B30 [1,1,0,1,0,0,1,1,0,0,1,1,0,1,0,0,1,1,0,0,1,1,1,1]
noncomputable def n30_43 := codeAt B30 [1,1,0,1,0,0,1,1,0,0,1,1,0,1,0,0,1,1,1]
noncomputable def n30_44 := codeAt B30 [1,1,0,1,0,0,1,1,0,0,1,1,1]
noncomputable def n30_45 := codeAt B30 [1,1,0,1,0,0,1,1,1]
noncomputable def n30_46 := codeAt B30 [1,1,1]
noncomputable def n30_47 := codeAt B30 [1,1,1,0]
noncomputable def n30_48 := codeAt B30 [1,1,1,1]
noncomputable def n30_49 := codeAt B30 [1,1,1,1,0]
noncomputable def n30_50 := codeAt B30 [1,1,1,1,1]
noncomputable def n30_51 := codeAt B30 [1,1,1,1,1,0]
noncomputable def n30_52 := codeAt B30 [1,1,1,1,1,1]
theorem e30_0 : n30_0 = .seq n30_1 n30_2 := rfl
noncomputable def r30_1 := opsAt n30_1
theorem e30_1 : n30_1 = .region 0 (r30_1).toArray false := rfl
theorem e30_2 : n30_2 = .seq n30_3 n30_4 := rfl
noncomputable def r30_3 := opsAt n30_3
theorem e30_3 : n30_3 = .region 1 (r30_3).toArray false := rfl
theorem e30_4 : n30_4 = .seq n30_5 n30_46 := rfl
theorem e30_5 : n30_5 = .seq n30_6 n30_7 := rfl
noncomputable def r30_6 := opsAt n30_6
theorem e30_6 : n30_6 = .region 2 (r30_6).toArray false := rfl
theorem e30_7 : n30_7 = .block 0 n30_8 := rfl
theorem e30_8 : n30_8 = .loop n30_9 := rfl
theorem e30_9 : n30_9 = .seq n30_10 n30_11 := rfl
noncomputable def r30_10 := opsAt n30_10
theorem e30_10 : n30_10 = .region 3 (r30_10).toArray false := rfl
theorem e30_11 : n30_11 = .seq n30_12 n30_15 := rfl
theorem e30_12 : n30_12 = .cond (.tmp 16) n30_13 n30_14 := rfl
theorem e30_13 : n30_13 = .skip := rfl
theorem e30_14 : n30_14 = .exit 0 := rfl
theorem e30_15 : n30_15 = .seq n30_16 n30_45 := rfl
theorem e30_16 : n30_16 = .block 1 n30_17 := rfl
theorem e30_17 : n30_17 = .seq n30_18 n30_19 := rfl
noncomputable def r30_18 := opsAt n30_18
theorem e30_18 : n30_18 = .region 4 (r30_18).toArray false := rfl
theorem e30_19 : n30_19 = .seq n30_20 n30_21 := rfl
noncomputable def r30_20 := opsAt n30_20
theorem e30_20 : n30_20 = .region 5 (r30_20).toArray false := rfl
theorem e30_21 : n30_21 = .seq n30_22 n30_44 := rfl
theorem e30_22 : n30_22 = .seq n30_23 n30_24 := rfl
noncomputable def r30_23 := opsAt n30_23
theorem e30_23 : n30_23 = .region 6 (r30_23).toArray false := rfl
theorem e30_24 : n30_24 = .block 2 n30_25 := rfl
theorem e30_25 : n30_25 = .loop n30_26 := rfl
theorem e30_26 : n30_26 = .seq n30_27 n30_28 := rfl
noncomputable def r30_27 := opsAt n30_27
theorem e30_27 : n30_27 = .region 7 (r30_27).toArray false := rfl
theorem e30_28 : n30_28 = .seq n30_29 n30_32 := rfl
theorem e30_29 : n30_29 = .cond (.tmp 19) n30_30 n30_31 := rfl
theorem e30_30 : n30_30 = .skip := rfl
theorem e30_31 : n30_31 = .exit 2 := rfl
theorem e30_32 : n30_32 = .seq n30_33 n30_43 := rfl
theorem e30_33 : n30_33 = .block 3 n30_34 := rfl
theorem e30_34 : n30_34 = .seq n30_35 n30_36 := rfl
noncomputable def r30_35 := opsAt n30_35
theorem e30_35 : n30_35 = .region 8 (r30_35).toArray false := rfl
theorem e30_36 : n30_36 = .seq n30_37 n30_38 := rfl
noncomputable def r30_37 := opsAt n30_37
theorem e30_37 : n30_37 = .region 9 (r30_37).toArray true := rfl
theorem a30_37 : anyOk r30_37 = true := by decide +kernel
theorem e30_38 : n30_38 = .seq n30_39 n30_40 := rfl
noncomputable def r30_39 := opsAt n30_39
theorem e30_39 : n30_39 = .region 10 (r30_39).toArray false := rfl
theorem e30_40 : n30_40 = .seq n30_41 n30_42 := rfl
noncomputable def r30_41 := opsAt n30_41
theorem e30_41 : n30_41 = .region 11 (r30_41).toArray false := rfl
noncomputable def r30_42 := opsAt n30_42
theorem e30_42 : n30_42 = .region 12 (r30_42).toArray false := rfl
noncomputable def r30_43 := opsAt n30_43
theorem e30_43 : n30_43 = .region 13 (r30_43).toArray false := rfl
noncomputable def r30_44 := opsAt n30_44
theorem e30_44 : n30_44 = .region 14 (r30_44).toArray false := rfl
noncomputable def r30_45 := opsAt n30_45
theorem e30_45 : n30_45 = .region 15 (r30_45).toArray false := rfl
theorem e30_46 : n30_46 = .seq n30_47 n30_48 := rfl
noncomputable def r30_47 := opsAt n30_47
theorem e30_47 : n30_47 = .region 16 (r30_47).toArray true := rfl
theorem a30_47 : anyOk r30_47 = true := by decide +kernel
theorem e30_48 : n30_48 = .seq n30_49 n30_50 := rfl
noncomputable def r30_49 := opsAt n30_49
theorem e30_49 : n30_49 = .region 17 (r30_49).toArray true := rfl
theorem a30_49 : anyOk r30_49 = true := by decide +kernel
theorem e30_50 : n30_50 = .seq n30_51 n30_52 := rfl
noncomputable def r30_51 := opsAt n30_51
theorem e30_51 : n30_51 = .region 18 (r30_51).toArray false := rfl
theorem e30_52 : n30_52 = .ret := rfl
theorem f_ref02_Mul : PureOk Try.prog 30 sMul := by
  refine pureOk_of (c := n30_0) (Γ := conOf [(53, .ext sAdd64), (56, .pure sMul64)]) (conOf_ok (conOf_one (S := .ext sAdd64) f_bits_Add64 (conOf_one (S := .pure sMul64) f_bits_Mul64 (conOf_end)))) mixed Try.func30 B30_eq (by decide +kernel) Try.call30 ?_
  intro args hS
  unfold sMul at hS ⊢
  split at hS
  · refine ⟨by rw [Try.ntmps30]; simp, vC_sound ?_⟩
    rename_i xa xb
    obtain ⟨ha, hb⟩ := hS
    obtain ⟨a, la, rfl⟩ := isU_out ha
    obtain ⟨b, lb, rfl⟩ := isU_out hb
    simp only [uv_u4, Nat.mod_eq_of_lt la, Nat.mod_eq_of_lt lb]
    clear ha hb
    simp only [entry_cons, entry_nil, reduceAdd]
    repeat' (first | (with_reducible first | apply seqC_normal | apply wunrC_normal | apply blockC_normal | apply seqC_exit | apply blockC_hit | apply wunrC_exit | apply seqC_ret | apply blockC_ret | apply wunrC_ret | apply loopC_ret | apply loopC_exit) | ((with_reducible apply blockC_miss); (exact rfl)) | ((with_reducible apply wC_seq e30_0; apply kC_less [0, 1] (c := n30_1)); (exact rfl); (exact rfl); (with_reducible apply wC_region e30_1); refine vOps_open (l := _ :: _) rfl ?_) | ((with_reducible apply wC_seq e30_2; apply wC_region e30_3); refine vOps_open (l := _ :: _) rfl ?_) | ((with_reducible apply wC_seq e30_4; apply wC_seq e30_5; apply wC_region e30_6); refine vOps_open (l := _ :: _) rfl ?_) | ((with_reducible apply wC_block e30_7; apply kC_unroll [2, 3, 4, 5, 6, 15] e30_8); (exact rfl); (exact rfl); (with_reducible apply wC_seq e30_9; apply wC_region e30_10); refine vOps_open (l := _ :: _) rfl ?_) | ((with_reducible apply kC_unroll [2, 3, 4, 5, 6, 15] e30_8); (exact rfl); (exact rfl); (with_reducible apply wC_seq e30_9; apply wC_region e30_10); refine vOps_open (l := _ :: _) rfl ?_) | ((with_reducible apply wC_seq e30_11; apply kC_cond e30_12); (exact rfl); all_goals (intro hb; first | (cases hb; done) | cases hb | ((try simp only [dxe] at hb); try (exfalso; first | omega | exact hb trivial)))) | ((with_reducible apply wC_skip e30_13)) | ((with_reducible apply wC_exit e30_14)) | ((with_reducible apply wC_seq e30_15; apply wC_block e30_16; apply wC_seq e30_17; apply wC_region e30_18); refine vOps_open (l := _ :: _) rfl ?_) | ((with_reducible apply wC_seq e30_19; apply wC_region e30_20); refine vOps_open (l := _ :: _) rfl ?_) | ((with_reducible apply wC_seq e30_21; apply wC_seq e30_22; apply wC_region e30_23); refine vOps_open (l := _ :: _) rfl ?_) | ((with_reducible apply wC_block e30_24; apply kC_unroll [2, 3, 4, 5, 6, 7, 8, 15, 18] e30_25); (exact rfl); (exact rfl); (with_reducible apply wC_seq e30_26; apply wC_region e30_27); refine vOps_open (l := _ :: _) rfl ?_) | ((with_reducible apply kC_unroll [2, 3, 4, 5, 6, 7, 8, 15, 18] e30_25); (exact rfl); (exact rfl); (with_reducible apply wC_seq e30_26; apply wC_region e30_27); refine vOps_open (l := _ :: _) rfl ?_) | ((with_reducible apply wC_seq e30_28; apply kC_cond e30_29); (exact rfl); all_goals (intro hb; first | (cases hb; done) | cases hb | ((try simp only [dxe] at hb); try (exfalso; first | omega | exact hb trivial)))) | ((with_reducible apply wC_skip e30_30)) | ((with_reducible apply wC_exit e30_31)) | ((with_reducible apply wC_seq e30_32; apply wC_block e30_33; apply wC_seq e30_34; apply wC_region e30_35); refine vOps_open (l := _ :: _) rfl ?_) | ((with_reducible apply wC_seq e30_36; apply kC_less [2, 3, 4, 5, 6, 7, 8, 9, 15, 18] (c := n30_37)); (exact rfl); (exact rfl); (with_reducible apply wC_any e30_37 a30_37); refine vOps_open (l := _ :: _) rfl ?_) | ((with_reducible apply wC_seq e30_38; apply kC_less [2, 3, 4, 5, 6, 7, 8, 9, 10, 11, 15, 18] (c := n30_39)); (exact rfl); (exact rfl); (with_reducible apply wC_region e30_39); refine vOps_open (l := _ :: _) rfl ?_) | ((with_reducible apply wC_seq e30_40; apply kC_less [2, 3, 4, 5, 6, 7, 8, 9, 10, 12, 13, 15, 18] (c := n30_41)); (exact rfl); (exact rfl); (with_reducible apply wC_region e30_41); refine vOps_open (l := _ :: _) rfl ?_) | ((with_reducible apply kC_less [2, 3, 4, 5, 6, 7, 9, 10, 12, 13, 14, 15, 18] (c := n30_42)); (exact rfl); (exact rfl); (with_reducible apply wC_region e30_42); refine vOps_open (l := _ :: _) rfl ?_) | ((with_reducible apply wC_region e30_43); refine vOps_open (l := _ :: _) rfl ?_) | ((with_reducible apply kC_less [2, 3, 4, 5, 6, 7, 8, 15] (c := n30_44)); (exact rfl); (exact rfl); (with_reducible apply wC_region e30_44); refine vOps_open (l := _ :: _) rfl ?_) | ((with_reducible apply wC_region e30_45); refine vOps_open (l := _ :: _) rfl ?_) | ((with_reducible apply wC_seq e30_46; apply wC_any e30_47 a30_47); refine vOps_open (l := _ :: _) rfl ?_) | ((with_reducible apply wC_seq e30_48; apply wC_any e30_49 a30_49); refine vOps_open (l := _ :: _) rfl ?_) | ((with_reducible apply wC_seq e30_50; apply kC_less [4, 5] (c := n30_51)); (exact rfl); (exact rfl); (with_reducible apply wC_region e30_51); refine vOps_open (l := _ :: _) rfl ?_) | ((with_reducible apply wC_ret e30_52)) | ((with_reducible apply vOps_nil); try (with_reducible refine And.intro (by kernel_rfl) ?_)) | (refine kOps_gon (g := ?_) (p := ?_) rfl rfl ?_ ?_ ?_ ?_; rotate_left 2; fail; (exact rfl); (with_reducible rfl)) | (refine kOps_gofft (g := ?_) (p := ?_) rfl rfl ?_ ?_ ?_ ?_; rotate_left 2; fail; (exact rfl); (with_reducible rfl)) | (refine kOps_gofff (g := ?_) (p := ?_) rfl rfl ?_ ?_ ?_ ?_; rotate_left 2; fail; (exact rfl); (with_reducible rfl)) | (refine kOps_pickt rfl rfl rfl rfl ?_ rfl ?_; (with_reducible rfl)) | (refine kOps_pickf rfl rfl rfl rfl ?_ rfl ?_; (with_reducible rfl)) | (refine kOps_box (row := ?_) (n := ?_) rfl rfl rfl rfl rfl ?_ ?_ ?_ ?_; rotate_left 2; (simp only [↓List.length_append, ↓length_set, ↓length_cons, length_nil, reduceAdd, zero_add]; rfl); (simp only [cl4, zero_mod, Nat.zero_div, n_add_zero, zero_add, cells_ul, cells_u4, cells_agg, cells_int, cells_bool, cells_string, cells_slice, cells_ro, cells_rptr]; rfl); (focus (first | rfl | exact one_cl _ _ | exact one_bv _ | (simp only [one_cl, one_ul, all_cons, all_nil, Bool.and_self, PV.one]; done) | (simp [PV.one, one_ul, one_cl, one_bv, Value.oneCell']; done)))) | (refine kOps_alloc (row := ?_) (n := ?_) rfl rfl rfl rfl ty26 ?_ ?_ ?_ ?_; rotate_left 2; (simp only [↓List.length_append, ↓length_set, ↓length_cons, length_nil, reduceAdd, zero_add]; rfl); (simp only [cl4, zero_mod, Nat.zero_div, n_add_zero, zero_add, Value.cells, map_cons, map_nil, List.toList_toArray, lit_ul0]; rfl); (focus (first | (simp only [Value.cells, List.toList_toArray, List.forall_mem_cons, List.forall_mem_nil, Value.oneCell', and_self]; done) | (simp [Value.cells, Value.oneCell']; done)))) | (refine kOps_alloc (row := ?_) (n := ?_) rfl rfl rfl rfl ty57 ?_ ?_ ?_ ?_; rotate_left 2; (simp only [↓List.length_append, ↓length_set, ↓length_cons, length_nil, reduceAdd, zero_add]; rfl); (simp only [cl4, zero_mod, Nat.zero_div, n_add_zero, zero_add, Value.cells, map_cons, map_nil, List.toList_toArray, lit_ul0]; rfl); (focus (first | (simp only [Value.cells, List.toList_toArray, List.forall_mem_cons, List.forall_mem_nil, Value.oneCell', and_self]; done) | (simp [Value.cells, Value.oneCell']; done)))) | (refine kOps_mv rfl rfl rfl rfl ?_) | (refine kOps_bin (b := .lss) (pre := ?_) (val := ?_) rfl rfl rfl rfl rfl ?_ ?_ ?_; rotate_left 2; (intro L; simp only [cl4, zero_mod, Nat.zero_div, n_add_zero, zero_add, refq, refc0, refc1, refq2, mulc01 a b, mulc02 a b, mulc10 a b, mulc11 a b, mulc12 a b, mulc20 a b, mulc21 a b, mulc22 a b, mulc30 a b, mulc31 a b, mulc32 a b, mulc03 a b lb, mulc13 a b lb, mulc23 a b lb, mulc33 a b lb, eql_u4 ty26 ty22, neq_u4 ty26 ty22, lit_ul0, lit_ul1, lss_ul, binF_lss, Int.reduceAdd, Int.reduceSub, Int.reduceMul, Int.reduceNeg, Int.sub_zero, cast_ofNat_Int, ne_eq, Int.reduceLT, Int.reduceLE, Int.reduceEq, Nat.reduceMod, Nat.reduceLT, decide_true, decide_false, ty3]; (first | (rw [wrap_i64] <;> first | omega | rfl) | (rw [wrap_u8] <;> first | omega | rfl) | (rw [wrap_u16] <;> first | omega | rfl) | (rw [wrap_u32] <;> first | omega | rfl) | rfl)); exact trivial) | (refine kOps_as rfl rfl rfl rfl ?_) | (refine kOps_asc rfl rfl rfl lit_ul0 ?_) | ((first | (refine kOps_ixap (off' := ?_) rfl rfl rfl rfl rfl rfl ty26 ty22 ?_ ?_ ?_; rotate_left 1; (simp only [cl4, zero_mod, Nat.zero_div, n_add_zero, zero_add, mul_one, one_mul, toNat_natCast, reduceToNat, toNat_zero, reduceMul, reduceAdd]; rfl)) | (refine kOps_ixaq (cs' := ?_) rfl rfl rfl rfl rfl ty26 ty22 ?_ ?_ ?_; rotate_left 1; (simp only [cl4, zero_mod, Nat.zero_div, n_add_zero, zero_add, elemAt, isAggD, Bool.false_eq_true, if_false, getElem?_cons_zero, getElem?_cons_succ, getD_cons_zero, getD_cons_succ, drop_zero, drop_succ_cons, take_succ_cons, take_zero, length_cons, length_nil, set_cons_zero, set_cons_succ, mul_one, reduceAdd, reduceMul, toNat_natCast, reduceToNat, toNat_zero, take_cl, agg_cl, len_cl]; rfl))); (focus ((repeat' apply And.intro) <;> first | exact True.intro | omega | (with_reducible rfl) | assumption | exact ⟨_, rfl⟩ | (simp only [sda]; done) | (simp only [len_cl]; omega) | (simp [Value.cells, Value.oneCell']; done)))) | ((first | refine kOps_loadp (pre := ?_) (val := ?_) rfl rfl rfl rfl rfl ty22 ?_ ?_ ?_ | refine kOps_loadr (pre := ?_) (val := ?_) rfl rfl rfl rfl ty22 ?_ ?_ ?_); rotate_left 2; (simp only [cl4, zero_mod, Nat.zero_div, n_add_zero, zero_add, partF, isAggD, Bool.false_eq_true, if_false, getElem?_cons_zero, getElem?_cons_succ, getD_cons_zero, getD_cons_succ, drop_zero, drop_succ_cons, take_succ_cons, take_zero, length_cons, length_nil, set_cons_zero, set_cons_succ, mul_one, reduceAdd, reduceMul, toNat_natCast, reduceToNat, toNat_zero, take_cl, agg_cl, len_cl]; rfl); (focus ((repeat' apply And.intro) <;> first | exact True.intro | omega | (with_reducible rfl) | assumption | exact ⟨_, rfl⟩ | (simp only [sda]; done) | (simp only [len_cl]; omega) | (simp [Value.cells, Value.oneCell']; done)))) | (refine kOps_callc (pre := ?_) (val := ?_) rfl rfl rfl rfl rfl ?_ ?_ ?_ ?_ ?_; rotate_left 2; (simp only [cl4, zero_mod, Nat.zero_div, n_add_zero, zero_add, Nat.mod_mod, mod_div_self, ul_mod, ul_add2, mule01 a b, mule02 a b, mule03 a b, mule10 a b, mule11 a b, mule12 a b, mule13 a b, mule20 a b, mule21 a b, mule22 a b, mule23 a b, mule30 a b, mule31 a b, mule32 a b, mule33 a b, sAdd64, sMul64, lit_ul0, lit_ul1, nrmC, map_cons, map_nil, nrm_ul, nrm_u4, nrm_nil, nrm_int, nrm_bool, nrm_string, nrm_ro, nrm_agg, nrm_rptr, isul_ul, ulv_ul, isU_u4, uv_u4, bytesOf_bv, isB_bv, true_and, and_true, and_self, n_sub_zero]; rfl); (focus (first | rfl | (simp only [closed, closedL, closed_ul, closed_u4, closedL_bv, closedL_cl, Bool.and_self, Bool.and_true]; done))); (focus (first | rfl | (simp only [closed, closedL, closed_ul, closed_u4, closedL_bv, closedL_cl, Bool.and_self, Bool.and_true]; done))); (focus ((repeat' apply And.intro) <;> first | exact True.intro | omega | (with_reducible rfl) | assumption | exact ⟨_, rfl⟩ | (simp only [sda]; done) | (simp only [len_cl]; omega) | (simp [Value.cells, Value.oneCell']; done)))) | (refine kOps_ext rfl rfl rfl rfl rfl ?_) | (refine kOps_bin (b := .add) (pre := ?_) (val := ?_) rfl rfl rfl rfl rfl ?_ ?_ ?_; rotate_left 2; (intro L; simp only [cl4, zero_mod, Nat.zero_div, n_add_zero, zero_add, refq, refc0, refc1, refq2, mulc01 a b, mulc02 a b, mulc10 a b, mulc11 a b, mulc12 a b, mulc20 a b, mulc21 a b, mulc22 a b, mulc30 a b, mulc31 a b, mulc32 a b, mulc03 a b lb, mulc13 a b lb, mulc23 a b lb, mulc33 a b lb, eql_u4 ty26 ty22, neq_u4 ty26 ty22, lit_ul0, lit_ul1, add_ul, binF_add, Int.reduceAdd, Int.reduceSub, Int.reduceMul, Int.reduceNeg, Int.sub_zero, cast_ofNat_Int, ne_eq, Int.reduceLT, Int.reduceLE, Int.reduceEq, Nat.reduceMod, Nat.reduceLT, decide_true, decide_false, ty3]; (first | (rw [wrap_i64] <;> first | omega | rfl) | (rw [wrap_u8] <;> first | omega | rfl) | (rw [wrap_u16] <;> first | omega | rfl) | (rw [wrap_u32] <;> first | omega | rfl) | rfl)); exact trivial) | ((first | (refine kOps_ixap (off' := ?_) rfl rfl rfl rfl rfl rfl ty57 ty22 ?_ ?_ ?_; rotate_left 1; (simp only [cl4, zero_mod, Nat.zero_div, n_add_zero, zero_add, mul_one, one_mul, toNat_natCast, reduceToNat, toNat_zero, reduceMul, reduceAdd]; rfl)) | (refine kOps_ixaq (cs' := ?_) rfl rfl rfl rfl rfl ty57 ty22 ?_ ?_ ?_; rotate_left 1; (simp only [cl4, zero_mod, Nat.zero_div, n_add_zero, zero_add, elemAt, isAggD, Bool.false_eq_true, if_false, getElem?_cons_zero, getElem?_cons_succ, getD_cons_zero, getD_cons_succ, drop_zero, drop_succ_cons, take_succ_cons, take_zero, length_cons, length_nil, set_cons_zero, set_cons_succ, mul_one, reduceAdd, reduceMul, toNat_natCast, reduceToNat, toNat_zero, take_cl, agg_cl, len_cl]; rfl))); (focus ((repeat' apply And.intro) <;> first | exact True.intro | omega | (with_reducible rfl) | assumption | exact ⟨_, rfl⟩ | (simp only [sda]; done) | (simp only [len_cl]; omega) | (simp [Value.cells, Value.oneCell']; done)))) | (refine kOps_calle (pre := ?_) (val := ?_) rfl rfl rfl rfl rfl ?_ ?_ ?_; rotate_left 2; (simp only [cl4, zero_mod, Nat.zero_div, n_add_zero, zero_add, Nat.mod_mod, mod_div_self, ul_mod, ul_add2, mule01 a b, mule02 a b, mule03 a b, mule10 a b, mule11 a b, mule12 a b, mule13 a b, mule20 a b, mule21 a b, mule22 a b, mule23 a b, mule30 a b, mule31 a b, mule32 a b, mule33 a b, sAdd64, sMul64, lit_ul0, lit_ul1, nrmC, map_cons, map_nil, nrm_ul, nrm_u4, nrm_nil, nrm_int, nrm_bool, nrm_string, nrm_ro, nrm_agg, nrm_rptr, isul_ul, ulv_ul, isU_u4, uv_u4, bytesOf_bv, isB_bv, true_and, and_true, and_self, n_sub_zero]; rfl); (focus ((repeat' apply And.intro) <;> first | exact True.intro | omega | (with_reducible rfl) | assumption | exact ⟨_, rfl⟩ | (simp only [sda]; done) | (simp only [len_cl]; omega) | (simp [Value.cells, Value.oneCell']; done)))) | (refine kOps_bin (b := .add) (pre := ?_) (val := ?_) rfl rfl rfl rfl rfl ?_ ?_ ?_; rotate_left 2; (intro L; simp only [cl4, zero_mod, Nat.zero_div, n_add_zero, zero_add, refq, refc0, refc1, refq2, mulc01 a b, mulc02 a b, mulc10 a b, mulc11 a b, mulc12 a b, mulc20 a b, mulc21 a b, mulc22 a b, mulc30 a b, mulc31 a b, mulc32 a b, mulc03 a b lb, mulc13 a b lb, mulc23 a b lb, mulc33 a b lb, eql_u4 ty26 ty22, neq_u4 ty26 ty22, lit_ul0, lit_ul1, add_ul, binF_add, Int.reduceAdd, Int.reduceSub, Int.reduceMul, Int.reduceNeg, Int.sub_zero, cast_ofNat_Int, ne_eq, Int.reduceLT, Int.reduceLE, Int.reduceEq, Nat.reduceMod, Nat.reduceLT, decide_true, decide_false, ty22]; (first | (rw [wrap_i64] <;> first | omega | rfl) | (rw [wrap_u8] <;> first | omega | rfl) | (rw [wrap_u16] <;> first | omega | rfl) | (rw [wrap_u32] <;> first | omega | rfl) | rfl)); exact trivial) | (refine kOps_store (cs' := ?_) rfl rfl rfl rfl rfl rfl rfl ty22 ?_ ?_ ?_; rotate_left 1; (simp only [cl4, zero_mod, Nat.zero_div, n_add_zero, zero_add, lit_ul0, lit_ul1, splice, cells_ul, cells_u4, cells_agg, cells_int, cells_bool, cells_string, cells_slice, cells_ro, cells_rptr, isAggD, Bool.false_eq_true, if_false, getElem?_cons_zero, getElem?_cons_succ, getD_cons_zero, getD_cons_succ, drop_zero, drop_succ_cons, take_succ_cons, take_zero, length_cons, length_nil, set_cons_zero, set_cons_succ, mul_one, reduceAdd, reduceMul, toNat_natCast, reduceToNat, toNat_zero, take_cl, agg_cl, len_cl]; rfl); (focus (first | (simp only [lit_ul0, lit_ul1, cells_ul, cells_u4, cells_agg, cells_int, cells_bool, cells_string, cells_slice, cells_ro, cells_rptr, length_cons, length_nil, len_cl, length_set, length_map, reduceAdd, zero_add, all_cons, all_nil, one_ul, one_cl, one_bv, PV.one, Value.oneCell', Bool.and_self, reduceLeDiff, Nat.le_refl, and_self, true_and, and_true]; done) | ((try simp only [lit_ul0, lit_ul1, cells_ul, cells_u4, cells_agg, cells_int, cells_bool, cells_string, cells_slice, cells_ro, cells_rptr]); (focus ((repeat' apply And.intro) <;> first | exact True.intro | omega | (with_reducible rfl) | assumption | exact ⟨_, rfl⟩ | (simp only [sda]; done) | (simp only [len_cl]; omega) | (simp [Value.cells, Value.oneCell']; done))))))) | (refine vOps_slice (pre := ?_) (val := ?_) (L' := ?_) rfl rfl rfl ?_ ?_ ?_; rotate_left 3; (simp only [cl4, zero_mod, Nat.zero_div, n_add_zero, zero_add, evalIn_tmp, evalIn_const, evalIn_func, lookup_cons, Nat.reduceBEq, cond_true, cond_false, lit_ul0, lit_ul1, sliceF, ints?, Option.map_some, Option.map_none, Int.sub_zero, Int.reduceSub, cast_ofNat_Int, min_self, drop_succ_cons, getElem?_cons_zero, getElem?_cons_succ, getD_cons_zero, getD_cons_succ, getD_nil, drop_zero, take_succ_cons, take_zero, take_nil, length_cons, length_nil, set_cons_zero, set_cons_succ, mul_one, one_mul, reduceAdd, reduceMul, reduceSub, reduceLeDiff, Nat.reduceEqDiff, toNat_natCast, reduceToNat, toNat_zero, reduceIte, if_true, if_false, Bool.false_eq_true, isAggD, len_cl, take_cl, agg_cl, getD_bv, take_bytes, length_map, cons_append, nil_append, true_and, and_true, and_self, ty3, ty22, ty26, ty57, ty59]; (first | (rw [wrap_i64] <;> first | omega | rfl) | (rw [wrap_u8] <;> first | omega | rfl) | (rw [wrap_u16] <;> first | omega | rfl) | (rw [wrap_u32] <;> first | omega | rfl) | rfl)); (focus ((repeat' apply And.intro) <;> first | exact True.intro | omega | (with_reducible rfl) | assumption | exact ⟨_, rfl⟩ | (simp only [sda]; done) | (simp only [len_cl]; omega) | (simp [Value.cells, Value.oneCell']; done)))) | ((first | refine kOps_loadp (pre := ?_) (val := ?_) rfl rfl rfl rfl rfl ty26 ?_ ?_ ?_ | refine kOps_loadr (pre := ?_) (val := ?_) rfl rfl rfl rfl ty26 ?_ ?_ ?_); rotate_left 2; (simp only [cl4, zero_mod, Nat.zero_div, n_add_zero, zero_add, partF, isAggD, Bool.false_eq_true, if_false, getElem?_cons_zero, getElem?_cons_succ, getD_cons_zero, getD_cons_succ, drop_zero, drop_succ_cons, take_succ_cons, take_zero, length_cons, length_nil, set_cons_zero, set_cons_succ, mul_one, reduceAdd, reduceMul, toNat_natCast, reduceToNat, toNat_zero, take_cl, agg_cl, len_cl]; rfl); (focus ((repeat' apply And.intro) <;> first | exact True.intro | omega | (with_reducible rfl) | assumption | exact ⟨_, rfl⟩ | (simp only [sda]; done) | (simp only [len_cl]; omega) | (simp [Value.cells, Value.oneCell']; done)))) | (refine kOps_store (cs' := ?_) rfl rfl rfl rfl rfl rfl rfl ty26 ?_ ?_ ?_; rotate_left 1; (simp only [cl4, zero_mod, Nat.zero_div, n_add_zero, zero_add, lit_ul0, lit_ul1, splice, cells_ul, cells_u4, cells_agg, cells_int, cells_bool, cells_string, cells_slice, cells_ro, cells_rptr, isAggD, Bool.false_eq_true, if_false, getElem?_cons_zero, getElem?_cons_succ, getD_cons_zero, getD_cons_succ, drop_zero, drop_succ_cons, take_succ_cons, take_zero, length_cons, length_nil, set_cons_zero, set_cons_succ, mul_one, reduceAdd, reduceMul, toNat_natCast, reduceToNat, toNat_zero, take_cl, agg_cl, len_cl]; rfl); (focus (first | (simp only [lit_ul0, lit_ul1, cells_ul, cells_u4, cells_agg, cells_int, cells_bool, cells_string, cells_slice, cells_ro, cells_rptr, length_cons, length_nil, len_cl, length_set, length_map, reduceAdd, zero_add, all_cons, all_nil, one_ul, one_cl, one_bv, PV.one, Value.oneCell', Bool.and_self, reduceLeDiff, Nat.le_refl, and_self, true_and, and_true]; done) | ((try simp only [lit_ul0, lit_ul1, cells_ul, cells_u4, cells_agg, cells_int, cells_bool, cells_string, cells_slice, cells_ro, cells_rptr]); (focus ((repeat' apply And.intro) <;> first | exact True.intro | omega | (with_reducible rfl) | assumption | exact ⟨_, rfl⟩ | (simp only [sda]; done) | (simp only [len_cl]; omega) | (simp [Value.cells, Value.oneCell']; done))))))) | (refine vOps_op (pre := ?_) (val := ?_) (L' := ?_) rfl rfl rfl ?_ ?_ ?_; rotate_left 3; (simp only [cl4, zero_mod, Nat.zero_div, n_add_zero, zero_add, Nat.mod_mod, mod_div_self, ul_mod, ul_add2, mule01 a b, mule02 a b, mule03 a b, mule10 a b, mule11 a b, mule12 a b, mule13 a b, mule20 a b, mule21 a b, mule22 a b, mule23 a b, mule30 a b, mule31 a b, mule32 a b, mule33 a b, refq, refc0, refc1, refq2, mulc01 a b, mulc02 a b, mulc10 a b, mulc11 a b, mulc12 a b, mulc20 a b, mulc21 a b, mulc22 a b, mulc30 a b, mulc31 a b, mulc32 a b, mulc03 a b lb, mulc13 a b lb, mulc23 a b lb, mulc33 a b lb, eql_u4 ty26 ty22, neq_u4 ty26 ty22, index_u4 ty26 ty22, sAdd64, sMul64, cast_ofNat_Int, min_self, drop_succ_cons, opF, dm, md, cls, isW, Bool.not_true, Bool.not_false, evalIn_tmp, evalIn_const, evalIn_func, lookup_cons, Nat.reduceBEq, cond_true, cond_false, dro_bv, droOk_bv, bytesOf_u8, ByteArray.toList_mk, binF_add, binF_sub, binF_mul, binF_quo, binF_rem, binF_lss, binF_leq, binF_gtr, binF_geq, binF_eql, binF_neq, binF_and, binF_or, binF_xor, binF_shl, binF_shr, binF_seql, binF_sneq, unF_not, unF_neg, lenF, capF, makeF, appF, news, kill, take_bytes, drop_zero, take_succ_cons, take_zero, take_nil, length_map, mul_one, one_mul, List.reduceReplicate, sliceF, ints?, indexAddrF, elemAt, loadF, partF, isAggD, storeF, splice, boxF, allocF, buildSliceF, buildF, fillA, fillB, zeroCells, fieldF, fieldAddrF, indexF, extractF, copyF, fresh_own, fresh_ro, Int.sub_zero, Int.reduceSub, Int.reduceAdd, Int.reduceMul, Int.reduceNeg, rep_zero, rep_u8, rep_slice, reduceLeDiff, Value.cells, getD_bv, bv, getD_cons_zero, getD_cons_succ, getD_nil, getElem?_cons_zero, getElem?_cons_succ, length_cons, length_nil, reduceAdd, reduceSub, reduceMul, set_cons_zero, set_cons_succ, cons_append, nil_append, Option.map_some, Option.map_none, toNat_zero, toNat_natCast, if_true, if_false, Nat.reduceEqDiff, reduceIte, Bool.false_eq_true, IntKind.bits, map_cons, map_nil, List.toList_toArray, reduceToNat, callF, pureF, conOf, tabOf_cons, nrmC, adopt_closed, adopt_new, adopt_tnew, borrow, borrowOk, closed, closedL, closedL_bv, closedL_rows, dro, droOk, flat, flatL, flatL_bv, List.forall_mem_cons, List.forall_mem_nil, newB, bytesOf_bv, bytesOf_one, isB_bv, isB_one, isRows, rowsOf, List.flatten_cons, List.flatten_nil, List.append_nil, all_nil, Bool.and_true, Bool.true_and, Bool.and_self, true_or, or_true, or_false, false_or, true_and, and_true, and_self, clr, and_false, false_and, cells_agg, cells_int, cells_bool, cells_string, cells_slice, cells_ro, cells_rptr, nrm_nil, nrm_int, nrm_bool, nrm_string, nrm_ro, nrm_agg, nrm_rptr, slc_ro, slc_nil', slc_own', lit_ul0, lit_ul1, add_ul, sub_ul, mul_ul, lss_ul, leq_ul, gtr_ul, geq_ul, eql_ul, neq_ul, and_ul, or_ul, xor_ul, shl_z, shl_ul, shr_z, shr_ul, not_ul, cells_ul, one_ul, closed_ul, flat_ul, nrm_ul, borrow_ul, isul_ul, ulv_ul, len_cl, closedL_cl, flatL_cl, one_cl, take_cl, agg_cl, cells_u4, closed_u4, flat_u4, nrm_u4, borrow_u4, isU_u4, uv_u4, ty3, ty22, ty26, ty57, ty59]; (first | (rw [wrap_i64] <;> first | omega | rfl) | (rw [wrap_u8] <;> first | omega | rfl) | (rw [wrap_u16] <;> first | omega | rfl) | (rw [wrap_u32] <;> first | omega | rfl) | rfl)); (focus ((repeat' apply And.intro) <;> first | exact True.intro | omega | (with_reducible rfl) | assumption | exact ⟨_, rfl⟩ | (simp only [sda]; done) | (simp only [len_cl]; omega) | (simp [Value.cells, Value.oneCell']; done)))) | (refine vOps_gundef rfl rfl ?_ ?_; (focus (simp only [lookup_cons, Nat.reduceBEq, cond_true, cond_false]; done)); simp only [putIn]) | (refine vOps_gpick (t := ?_) (val := ?_) rfl rfl ?_ rfl rfl ?_ ?_ ?_; rotate_left 2; (focus (simp only [lookup_cons, Nat.reduceBEq, cond_true, cond_false]; done)); (simp only [evalIn_tmp, evalIn_const, lookup_cons, Nat.reduceBEq, cond_true, cond_false]; rfl); (simp only [evalIn_tmp, evalIn_const, lookup_cons, Nat.reduceBEq, cond_true, cond_false]; rfl)) | (refine vOps_pick (t := ?_) (val := ?_) rfl rfl rfl ?_ ?_ ?_; rotate_left 2; (simp only [evalIn_tmp, evalIn_const, lookup_cons, Nat.reduceBEq, cond_true, cond_false]; rfl); (simp only [evalIn_tmp, evalIn_const, lookup_cons, Nat.reduceBEq, cond_true, cond_false]; rfl)) | (refine vOps_fork (b := ?_) rfl rfl ?_ ?_ ?_; rotate_left 1; (simp only [lookup_cons, Nat.reduceBEq, cond_true, cond_false]; rfl); all_goals (intro hb; simp only [hb]; (try simp only [decide_eq_true_eq, decide_eq_false_iff_not] at hb); try (exfalso; first | omega | exact hb trivial))) | (refine vOps_forkp (b := ?_) rfl ?_ ?_ ?_; rotate_left 1; (simp only [evalIn_tmp, lookup_cons, Nat.reduceBEq, cond_true, cond_false]; rfl); all_goals (intro hb; simp only [hb]; (try simp only [decide_eq_true_eq, decide_eq_false_iff_not] at hb); try (exfalso; first | omega | exact hb trivial))))
    refine fin_c (p := ?_) (xs := [.cell 4 26, .cell 5 26]) (by simp) rfl ?_ ?_ ?_ ?_
    rotate_left 2
    · simp only [rsx, map_cons, map_nil, cl4, zero_mod, Nat.zero_div, n_add_zero, zero_add, evalIn_tmp, evalIn_const, evalIn_func, lookup_cons, Nat.reduceBEq, cond_true, cond_false, lit_ul0, lit_ul1, loadF, partF, cast_ofNat_Int, min_self, drop_succ_cons, Int.reduceSub, getElem?_cons_zero, getElem?_cons_succ, getD_cons_zero, getD_cons_succ, getD_nil, drop_zero, take_succ_cons, take_zero, take_nil, length_cons, length_nil, set_cons_zero, set_cons_succ, mul_one, one_mul, reduceAdd, reduceMul, reduceSub, reduceLeDiff, Nat.reduceEqDiff, toNat_natCast, reduceToNat, toNat_zero, reduceIte, if_true, if_false, Bool.false_eq_true, isAggD, len_cl, take_cl, agg_cl, getD_bv, take_bytes, length_map, cons_append, nil_append, true_and, and_true, and_self, ty3, ty22, ty26, ty57, ty59]; try rfl
    · first | rfl | (simp only [closed, closedL, closed_u4, closed_ul, closedL_cl, closedL_bv, Bool.and_self, Bool.and_true]; first | done | rfl)
    · rw [muld00 a b]
      try simp only [← cl4, agg_cl]
      have e : PV.agg [ul (a % 18446744073709551616 * b), ul (a % 340282366920938463463374607431768211456 * b / 18446744073709551616), ul (a % 6277101735386680763835789423207666416102355444464034512896 * b / 340282366920938463463374607431768211456), ul (a % 115792089237316195423570985008687907853269984665640564039457584007913129639936 * b / 6277101735386680763835789423207666416102355444464034512896)] = u4 (a * b) := by
        rw [u4, cl4, ul_congr (mullo0 a b), ul_congr (mullo1 a b), ul_congr (mullo2 a b), Nat.mod_eq_of_lt la]
      refine tup2 ?_ ?_
      · rw [Nat.mod_eq_of_lt la]
        refine agg4 ?_
        generalize a * b = z
        omega
      · exact e
    · simp only [rsx, map_cons, map_nil, cl4, zero_mod, Nat.zero_div, n_add_zero, zero_add, evalIn_tmp, evalIn_const, evalIn_func, lookup_cons, Nat.reduceBEq, cond_true, cond_false, lit_ul0, lit_ul1, loadF, partF, cast_ofNat_Int, min_self, drop_succ_cons, Int.reduceSub, getElem?_cons_zero, getElem?_cons_succ, getD_cons_zero, getD_cons_succ, getD_nil, drop_zero, take_succ_cons, take_zero, take_nil, length_cons, length_nil, set_cons_zero, set_cons_succ, mul_one, one_mul, reduceAdd, reduceMul, reduceSub, reduceLeDiff, Nat.reduceEqDiff, toNat_natCast, reduceToNat, toNat_zero, reduceIte, if_true, if_false, Bool.false_eq_true, isAggD, len_cl, take_cl, agg_cl, getD_bv, take_bytes, length_map, cons_append, nil_append, true_and, and_true, and_self, ty3, ty22, ty26, ty57, ty59]; try trivial
  · exact hS.elim
end Go.Ab
