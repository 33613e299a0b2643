import Derived.Test.YtgknomjgpkpjdaaME
import Derived.Test.YtgknomjgpkpjdaaTY
import Derived.Test.YtgknomjgpkpjdaaFwidemultiplyAdd
namespace Go.Ab
open Go Go.Proofs
set_option linter.unusedVariables false
set_option linter.unusedSimpArgs false
set_option maxRecDepth 8000
set_option maxHeartbeats 4000000

noncomputable def B29 : Code := bodyOf Try.f29
theorem B29_eq : Try.f29.body = some B29 := by kernel_rfl
noncomputable def n29_0 : Code := B29
noncomputable def n29_1 : Code := codeAt B29 [0]
noncomputable def n29_2 : Code := codeAt B29 [1]
noncomputable def n29_3 : Code := codeAt B29 [1,0]
noncomputable def n29_4 : Code := codeAt B29 [1,1]
noncomputable def n29_5 : Code := codeAt B29 [1,1,0]
noncomputable def n29_6 : Code := codeAt B29 [1,1,0,0]
noncomputable def n29_7 : Code := codeAt B29 [1,1,0,1]
noncomputable def n29_8 : Code := codeAt B29 [1,1,0,1,0]
noncomputable def n29_9 : Code := codeAt B29 [1,1,0,1,0,0]
noncomputable def n29_10 : Code := codeAt B29 [1,1,0,1,0,0,0]
noncomputable def n29_11 : Code := codeAt B29 [1,1,0,1,0,0,1]
noncomputable def n29_12 : Code := codeAt B29 [1,1,0,1,0,0,1,0]
noncomputable def n29_13 : Code := codeAt B29 [1,1,0,1,0,0,1,0,0]
noncomputable def n29_14 : Code := codeAt B29 [1,1,0,1,0,0,1,0,1]
noncomputable def n29_15 : Code := codeAt B29 [1,1,0,1,0,0,1,1]
noncomputable def n29_16 : Code := codeAt B29 [1,1,0,1,0,0,1,1,0]
noncomputable def n29_17 : Code := codeAt B29 [1,1,0,1,0,0,1,1,0,0]
noncomputable def n29_18 : Code := codeAt B29 [1,1,0,1,0,0,1,1,0,0,0]
noncomputable def n29_19 : Code := codeAt B29 [1,1,0,1,0,0,1,1,0,0,1]
noncomputable def n29_20 : Code := codeAt B29 [1,1,0,1,0,0,1,1,0,0,1,0]
noncomputable def n29_21 : Code := codeAt B29 [1,1,0,1,0,0,1,1,0,0,1,1]
noncomputable def n29_22 : Code := codeAt B29 [1,1,0,1,0,0,1,1,0,0,1,1,0]
noncomputable def n29_23 : Code := codeAt B29 [1,1,0,1,0,0,1,1,0,0,1,1,0,0]
noncomputable def n29_24 : Code := codeAt B29 [1,1,0,1,0,0,1,1,0,0,1,1,0,1]
noncomputable def n29_25 : Code := codeAt B29 [1,1,0,1,0,0,1,1,0,0,1,1,0,1,0]
noncomputable def n29_26 : Code := codeAt B29 [1,1,0,1,0,0,1,1,0,0,1,1,0,1,0,0]
noncomputable def n29_27 : Code := codeAt B29 [1,1,0,1,0,0,1,1,0,0,1,1,0,1,0,0,0]
noncomputable def n29_28 : Code := codeAt B29 [1,1,0,1,0,0,1,1,0,0,1,1,0,1,0,0,1]
noncomputable def n29_29 : Code := codeAt B29 [1,1,0,1,0,0,1,1,0,0,1,1,0,1,0,0,1,0]
noncomputable def n29_30 : Code := codeAt B29 [1,1,0,1,0,0,1,1,0,0,1,1,0,1,0,0,1,0,0]
noncomputable def n29_31 : Code := codeAt B29 [1,1,0,1,0,0,1,1,0,0,1,1,0,1,0,0,1,0,1]
noncomputable def n29_32 : Code := codeAt B29 [1,1,0,1,0,0,1,1,0,0,1,1,0,1,0,0,1,1]
noncomputable def n29_33 : Code := codeAt B29 [1,1,0,1,0,0,1,1,0,0,1,1,0,1,0,0,1,1,0]
noncomputable def n29_34 : Code := codeAt B29 [1,1,0,1,0,0,1,1,0,0,1,1,0,1,0,0,1,1,0,0]
noncomputable def n29_35 : Code := codeAt B29 [1,1,0,1,0,0,1,1,0,0,1,1,0,1,0,0,1,1,0,0,0]
noncomputable def n29_36 : Code := codeAt B29 [1,1,0,1,0,0,1,1,0,0,1,1,0,1,0,0,1,1,0,0,1]
noncomputable def n29_37 : Code := codeAt B29 [1,1,0,1,0,0,1,1,0,0,1,1,0,1,0,0,1,1,1]
noncomputable def n29_38 : Code := codeAt B29 [1,1,0,1,0,0,1,1,0,0,1,1,1]
noncomputable def n29_39 : Code := codeAt B29 [1,1,0,1,0,0,1,1,1]
noncomputable def n29_40 : Code := codeAt B29 [1,1,1]
noncomputable def n29_41 : Code := codeAt B29 [1,1,1,0]
noncomputable def n29_42 : Code := codeAt B29 [1,1,1,1]
noncomputable def n29_43 : Code := codeAt B29 [1,1,1,1,0]
noncomputable def n29_44 : Code := codeAt B29 [1,1,1,1,1]
noncomputable def n29_45 : Code := codeAt B29 [1,1,1,1,1,0]
noncomputable def n29_46 : Code := codeAt B29 [1,1,1,1,1,1]
theorem e29_0 : n29_0 = .seq n29_1 n29_2 := rfl
noncomputable def r29_1 := opsAt n29_1
theorem e29_1 : n29_1 = .region 0 (r29_1).toArray false := rfl
theorem e29_2 : n29_2 = .seq n29_3 n29_4 := rfl
noncomputable def r29_3 := opsAt n29_3
theorem e29_3 : n29_3 = .region 1 (r29_3).toArray false := rfl
theorem e29_4 : n29_4 = .seq n29_5 n29_40 := rfl
theorem e29_5 : n29_5 = .seq n29_6 n29_7 := rfl
noncomputable def r29_6 := opsAt n29_6
theorem e29_6 : n29_6 = .region 2 (r29_6).toArray false := rfl
theorem e29_7 : n29_7 = .block 0 n29_8 := rfl
theorem e29_8 : n29_8 = .loop n29_9 := rfl
theorem e29_9 : n29_9 = .seq n29_10 n29_11 := rfl
noncomputable def r29_10 := opsAt n29_10
theorem e29_10 : n29_10 = .region 3 (r29_10).toArray false := rfl
theorem e29_11 : n29_11 = .seq n29_12 n29_15 := rfl
theorem e29_12 : n29_12 = .cond (.tmp 14) n29_13 n29_14 := rfl
theorem e29_13 : n29_13 = .skip := rfl
theorem e29_14 : n29_14 = .exit 0 := rfl
theorem e29_15 : n29_15 = .seq n29_16 n29_39 := rfl
theorem e29_16 : n29_16 = .block 1 n29_17 := rfl
theorem e29_17 : n29_17 = .seq n29_18 n29_19 := rfl
noncomputable def r29_18 := opsAt n29_18
theorem e29_18 : n29_18 = .region 4 (r29_18).toArray false := rfl
theorem e29_19 : n29_19 = .seq n29_20 n29_21 := rfl
noncomputable def r29_20 := opsAt n29_20
theorem e29_20 : n29_20 = .region 5 (r29_20).toArray false := rfl
theorem e29_21 : n29_21 = .seq n29_22 n29_38 := rfl
theorem e29_22 : n29_22 = .seq n29_23 n29_24 := rfl
noncomputable def r29_23 := opsAt n29_23
theorem e29_23 : n29_23 = .region 6 (r29_23).toArray false := rfl
theorem e29_24 : n29_24 = .block 2 n29_25 := rfl
theorem e29_25 : n29_25 = .loop n29_26 := rfl
theorem e29_26 : n29_26 = .seq n29_27 n29_28 := rfl
noncomputable def r29_27 := opsAt n29_27
theorem e29_27 : n29_27 = .region 7 (r29_27).toArray false := rfl
theorem e29_28 : n29_28 = .seq n29_29 n29_32 := rfl
theorem e29_29 : n29_29 = .cond (.tmp 19) n29_30 n29_31 := rfl
theorem e29_30 : n29_30 = .skip := rfl
theorem e29_31 : n29_31 = .exit 2 := rfl
theorem e29_32 : n29_32 = .seq n29_33 n29_37 := rfl
theorem e29_33 : n29_33 = .block 3 n29_34 := rfl
theorem e29_34 : n29_34 = .seq n29_35 n29_36 := rfl
noncomputable def r29_35 := opsAt n29_35
theorem e29_35 : n29_35 = .region 8 (r29_35).toArray false := rfl
noncomputable def r29_36 := opsAt n29_36
theorem e29_36 : n29_36 = .region 9 (r29_36).toArray false := rfl
noncomputable def r29_37 := opsAt n29_37
theorem e29_37 : n29_37 = .region 10 (r29_37).toArray false := rfl
noncomputable def r29_38 := opsAt n29_38
theorem e29_38 : n29_38 = .region 11 (r29_38).toArray false := rfl
noncomputable def r29_39 := opsAt n29_39
theorem e29_39 : n29_39 = .region 12 (r29_39).toArray false := rfl
theorem e29_40 : n29_40 = .seq n29_41 n29_42 := rfl
noncomputable def r29_41 := opsAt n29_41
theorem e29_41 : n29_41 = .region 13 (r29_41).toArray true := rfl
theorem a29_41 : anyOk r29_41 = true := by decide +kernel
theorem e29_42 : n29_42 = .seq n29_43 n29_44 := rfl
noncomputable def r29_43 := opsAt n29_43
theorem e29_43 : n29_43 = .region 14 (r29_43).toArray true := rfl
theorem a29_43 : anyOk r29_43 = true := by decide +kernel
theorem e29_44 : n29_44 = .seq n29_45 n29_46 := rfl
noncomputable def r29_45 := opsAt n29_45
theorem e29_45 : n29_45 = .region 15 (r29_45).toArray false := rfl
theorem e29_46 : n29_46 = .ret := rfl
theorem f_wide_Mul : PureOk Try.prog 29 sMul := by
  refine pureOk_of (c := n29_0) (Γ := conOf [(55, .pure sMulAdd)]) (conOf_ok (conOf_one (S := .pure sMulAdd) f_wide_multiplyAdd (conOf_end))) mixed Try.func29 B29_eq (by decide +kernel) Try.call29 ?_
  intro args hS
  unfold sMul at hS ⊢
  split at hS
  · refine ⟨by rw [Try.ntmps29]; simp, vC_sound ?_⟩
    rename_i xa xb
    obtain ⟨ha, hb⟩ := hS
    obtain ⟨a, la, rfl⟩ := isU_out ha
    obtain ⟨b, lb, rfl⟩ := isU_out hb
    simp only [uv_u4, Nat.mod_eq_of_lt la, Nat.mod_eq_of_lt lb]
    clear ha hb
    simp only [entry_cons, entry_nil, Nat.reduceAdd]
    repeat' (first
      | (with_reducible first | apply seqC_normal | apply wunrC_normal | apply blockC_normal | apply seqC_exit | apply blockC_hit | apply wunrC_exit | apply seqC_ret | apply blockC_ret | apply wunrC_ret | apply loopC_ret | apply loopC_exit)
      | ((with_reducible apply blockC_miss); (exact rfl))
      | ((with_reducible apply wC_seq e29_0; apply wC_region e29_1); refine vOps_open (l := _ :: _) rfl ?_)
      | ((with_reducible apply wC_seq e29_2; apply wC_region e29_3); refine vOps_open (l := _ :: _) rfl ?_)
      | ((with_reducible apply wC_seq e29_4; apply wC_seq e29_5; apply wC_region e29_6); refine vOps_open (l := _ :: _) rfl ?_)
      | ((with_reducible apply wC_block e29_7; apply kC_unroll [3, 4, 5, 6, 12, 13] e29_8); (exact rfl); (exact rfl); (with_reducible apply wC_seq e29_9; apply wC_region e29_10); refine vOps_open (l := _ :: _) rfl ?_)
      | ((with_reducible apply kC_unroll [3, 4, 5, 6, 12, 13] e29_8); (exact rfl); (exact rfl); (with_reducible apply wC_seq e29_9; apply wC_region e29_10); refine vOps_open (l := _ :: _) rfl ?_)
      | ((with_reducible apply wC_seq e29_11; apply kC_cond e29_12); (exact rfl); all_goals (intro hb; first | (cases hb; done) | cases hb | ((try simp only [decide_eq_true_eq, decide_eq_false_iff_not, Bool.not_eq_true', Bool.not_eq_false'] at hb); try (exfalso; first | omega | exact hb trivial))))
      | ((with_reducible apply wC_skip e29_13))
      | ((with_reducible apply wC_exit e29_14))
      | ((with_reducible apply wC_seq e29_15; apply wC_block e29_16; apply wC_seq e29_17; apply wC_region e29_18); refine vOps_open (l := _ :: _) rfl ?_)
      | ((with_reducible apply wC_seq e29_19; apply wC_region e29_20); refine vOps_open (l := _ :: _) rfl ?_)
      | ((with_reducible apply wC_seq e29_21; apply wC_seq e29_22; apply wC_region e29_23); refine vOps_open (l := _ :: _) rfl ?_)
      | ((with_reducible apply wC_block e29_24; apply kC_unroll [3, 4, 5, 6, 7, 8, 9, 12, 13, 17, 18] e29_25); (exact rfl); (exact rfl); (with_reducible apply wC_seq e29_26; apply wC_region e29_27); refine vOps_open (l := _ :: _) rfl ?_)
      | ((with_reducible apply kC_unroll [3, 4, 5, 6, 7, 8, 9, 12, 13, 17, 18] e29_25); (exact rfl); (exact rfl); (with_reducible apply wC_seq e29_26; apply wC_region e29_27); refine vOps_open (l := _ :: _) rfl ?_)
      | ((with_reducible apply wC_seq e29_28; apply kC_cond e29_29); (exact rfl); all_goals (intro hb; first | (cases hb; done) | cases hb | ((try simp only [decide_eq_true_eq, decide_eq_false_iff_not, Bool.not_eq_true', Bool.not_eq_false'] at hb); try (exfalso; first | omega | exact hb trivial))))
      | ((with_reducible apply wC_skip e29_30))
      | ((with_reducible apply wC_exit e29_31))
      | ((with_reducible apply wC_seq e29_32; apply wC_block e29_33; apply wC_seq e29_34; apply wC_region e29_35); refine vOps_open (l := _ :: _) rfl ?_)
      | ((with_reducible apply wC_region e29_36); refine vOps_open (l := _ :: _) rfl ?_)
      | ((with_reducible apply wC_region e29_37); refine vOps_open (l := _ :: _) rfl ?_)
      | ((with_reducible apply wC_region e29_38); refine vOps_open (l := _ :: _) rfl ?_)
      | ((with_reducible apply wC_region e29_39); refine vOps_open (l := _ :: _) rfl ?_)
      | ((with_reducible apply wC_seq e29_40; apply wC_any e29_41 a29_41); refine vOps_open (l := _ :: _) rfl ?_)
      | ((with_reducible apply wC_seq e29_42; apply wC_any e29_43 a29_43); refine vOps_open (l := _ :: _) rfl ?_)
      | ((with_reducible apply wC_seq e29_44; apply wC_region e29_45); refine vOps_open (l := _ :: _) rfl ?_)
      | ((with_reducible apply wC_ret e29_46))
      | ((with_reducible apply vOps_nil); try (with_reducible refine And.intro (by kernel_rfl) ?_))
      | (refine kOps_gon (g := ?_) (p := ?_) rfl rfl ?_ ?_ ?_ ?_; rotate_left 2; fail; (exact rfl); (with_reducible rfl))
      | (refine kOps_gofft (g := ?_) (p := ?_) rfl rfl ?_ ?_ ?_ ?_; rotate_left 2; fail; (exact rfl); (with_reducible rfl))
      | (refine kOps_gofff (g := ?_) (p := ?_) rfl rfl ?_ ?_ ?_ ?_; rotate_left 2; fail; (exact rfl); (with_reducible rfl))
      | (refine kOps_pickt rfl rfl rfl rfl ?_ rfl ?_; (with_reducible rfl))
      | (refine kOps_pickf rfl rfl rfl rfl ?_ rfl ?_; (with_reducible rfl))
      | (refine kOps_box (row := ?_) (n := ?_) rfl rfl rfl rfl rfl ?_ ?_ ?_ ?_; rotate_left 2; (simp only [↓List.length_append, ↓List.length_set, ↓List.length_cons, List.length_nil, Nat.reduceAdd, Nat.zero_add]; rfl); (simp only [cl4, muld00, muld01, mulc01, muld02, mulc02, muld10, mulc10, muld11, mulc11, muld12, mulc12, muld20, mulc20, muld21, mulc21, muld22, mulc22, muld30, mulc30, muld31, mulc31, muld32, mulc32, muld03, muld13, muld23, muld33, mulc03 a b lb, mulc13 a b lb, mulc23 a b lb, mulc33 a b lb, Nat.zero_mod, zero_cl8, cells_ul, cells_u4, cells_agg, cells_int, cells_bool, cells_string, cells_slice, cells_ro, cells_rptr]; rfl); (focus (first | rfl | exact one_cl _ _ | exact one_bv _ | (simp only [one_cl, one_ul, List.all_cons, List.all_nil, Bool.and_self, PV.one]; done) | (simp [PV.one, one_ul, one_cl, one_bv, Value.oneCell']; done))))
      | (refine kOps_alloc (row := ?_) (n := ?_) rfl rfl rfl rfl ty26 ?_ ?_ ?_ ?_; rotate_left 2; (simp only [↓List.length_append, ↓List.length_set, ↓List.length_cons, List.length_nil, Nat.reduceAdd, Nat.zero_add]; rfl); (simp only [cl4, muld00, muld01, mulc01, muld02, mulc02, muld10, mulc10, muld11, mulc11, muld12, mulc12, muld20, mulc20, muld21, mulc21, muld22, mulc22, muld30, mulc30, muld31, mulc31, muld32, mulc32, muld03, muld13, muld23, muld33, mulc03 a b lb, mulc13 a b lb, mulc23 a b lb, mulc33 a b lb, Nat.zero_mod, zero_cl8, Value.cells, List.map_cons, List.map_nil, List.toList_toArray, zero_cl4, lit_ul0]; rfl); (focus (first | (simp only [Value.cells, List.toList_toArray, List.forall_mem_cons, List.forall_mem_nil, Value.oneCell', and_self]; done) | (simp [Value.cells, Value.oneCell']; done))))
      | (refine kOps_alloc (row := ?_) (n := ?_) rfl rfl rfl rfl ty57 ?_ ?_ ?_ ?_; rotate_left 2; (simp only [↓List.length_append, ↓List.length_set, ↓List.length_cons, List.length_nil, Nat.reduceAdd, Nat.zero_add]; rfl); (simp only [cl4, muld00, muld01, mulc01, muld02, mulc02, muld10, mulc10, muld11, mulc11, muld12, mulc12, muld20, mulc20, muld21, mulc21, muld22, mulc22, muld30, mulc30, muld31, mulc31, muld32, mulc32, muld03, muld13, muld23, muld33, mulc03 a b lb, mulc13 a b lb, mulc23 a b lb, mulc33 a b lb, Nat.zero_mod, zero_cl8, Value.cells, List.map_cons, List.map_nil, List.toList_toArray, zero_cl4, lit_ul0]; rfl); (focus (first | (simp only [Value.cells, List.toList_toArray, List.forall_mem_cons, List.forall_mem_nil, Value.oneCell', and_self]; done) | (simp [Value.cells, Value.oneCell']; done))))
      | ((first | refine kOps_loadp (pre := ?_) (val := ?_) rfl rfl rfl rfl rfl ty26 ?_ ?_ ?_ | refine kOps_loadr (pre := ?_) (val := ?_) rfl rfl rfl rfl ty26 ?_ ?_ ?_); rotate_left 2; (simp only [cl4, muld00, muld01, mulc01, muld02, mulc02, muld10, mulc10, muld11, mulc11, muld12, mulc12, muld20, mulc20, muld21, mulc21, muld22, mulc22, muld30, mulc30, muld31, mulc31, muld32, mulc32, muld03, muld13, muld23, muld33, mulc03 a b lb, mulc13 a b lb, mulc23 a b lb, mulc33 a b lb, Nat.zero_mod, zero_cl8, partF, isAggD, Bool.false_eq_true, if_false, List.getElem?_cons_zero, List.getElem?_cons_succ, List.getD_cons_zero, List.getD_cons_succ, List.drop_zero, List.drop_succ_cons, List.take_succ_cons, List.take_zero, List.length_cons, List.length_nil, List.set_cons_zero, List.set_cons_succ, Nat.zero_add, n_add_zero, Nat.mul_one, Nat.reduceAdd, Nat.reduceMul, Int.toNat_natCast, Int.reduceToNat, Int.toNat_zero, take_cl, agg_cl, len_cl]; rfl); (focus ((repeat' apply And.intro) <;> first | exact True.intro | omega | (with_reducible rfl) | assumption | exact ⟨_, rfl⟩ | (simp only [one_cl, one_ul, cells_u4, cells_ul, len_cl, List.all_cons, List.all_nil, Bool.and_self, List.length_cons, List.length_nil]; done) | (simp only [len_cl]; omega) | (simp [Value.cells, Value.oneCell']; done))))
      | (refine kOps_mv rfl rfl rfl rfl ?_)
      | (refine kOps_bin (b := .lss) (pre := ?_) (val := ?_) rfl rfl rfl rfl rfl ?_ ?_ ?_; rotate_left 2; (intro L; simp only [cl4, muld00, muld01, mulc01, muld02, mulc02, muld10, mulc10, muld11, mulc11, muld12, mulc12, muld20, mulc20, muld21, mulc21, muld22, mulc22, muld30, mulc30, muld31, mulc31, muld32, mulc32, muld03, muld13, muld23, muld33, mulc03 a b lb, mulc13 a b lb, mulc23 a b lb, mulc33 a b lb, Nat.zero_mod, zero_cl8, eql_u4 ty26 ty22, neq_u4 ty26 ty22, lit_ul0, lit_ul1, lss_ul, binF_lss, Int.reduceAdd, Int.reduceSub, Int.reduceMul, Int.reduceNeg, Int.sub_zero, Int.cast_ofNat_Int, ne_eq, Int.reduceLT, Int.reduceLE, Int.reduceEq, Nat.reduceMod, Nat.reduceLT, decide_true, decide_false, ty3]; (first | (rw [wrap_i64] <;> first | omega | rfl) | (rw [wrap_u8] <;> first | omega | rfl) | (rw [wrap_u16] <;> first | omega | rfl) | (rw [wrap_u32] <;> first | omega | rfl) | rfl)); exact trivial)
      | (refine kOps_ix (pre := ?_) (val := ?_) rfl rfl rfl rfl rfl ?_ ?_ ?_; rotate_left 2; (intro L; simp only [cl4, muld00, muld01, mulc01, muld02, mulc02, muld10, mulc10, muld11, mulc11, muld12, mulc12, muld20, mulc20, muld21, mulc21, muld22, mulc22, muld30, mulc30, muld31, mulc31, muld32, mulc32, muld03, muld13, muld23, muld33, mulc03 a b lb, mulc13 a b lb, mulc23 a b lb, mulc33 a b lb, Nat.zero_mod, zero_cl8, index_u4 ty26 ty22, indexF, partF, Int.cast_ofNat_Int, Nat.min_self, List.drop_succ_cons, Int.reduceSub, List.getElem?_cons_zero, List.getElem?_cons_succ, List.getD_cons_zero, List.getD_cons_succ, List.getD_nil, List.drop_zero, List.take_succ_cons, List.take_zero, List.take_nil, List.length_cons, List.length_nil, List.set_cons_zero, List.set_cons_succ, Nat.zero_add, n_add_zero, Nat.mul_one, Nat.one_mul, Nat.reduceAdd, Nat.reduceMul, Nat.reduceSub, Nat.reduceLeDiff, Nat.reduceEqDiff, Int.toNat_natCast, Int.reduceToNat, Int.toNat_zero, reduceIte, if_true, if_false, Bool.false_eq_true, isAggD, len_cl, take_cl, agg_cl, getD_bv, take_bytes, List.length_map, List.cons_append, List.nil_append, true_and, and_true, and_self, ty26, ty22]; rfl); (focus ((repeat' apply And.intro) <;> first | exact True.intro | omega | (with_reducible rfl) | assumption | exact ⟨_, rfl⟩ | (simp only [one_cl, one_ul, cells_u4, cells_ul, len_cl, List.all_cons, List.all_nil, Bool.and_self, List.length_cons, List.length_nil]; done) | (simp only [len_cl]; omega) | (simp [Value.cells, Value.oneCell']; done))))
      | (refine kOps_as rfl rfl rfl rfl ?_)
      | (refine kOps_asc rfl rfl rfl lit_ul0 ?_)
      | (refine kOps_bin (b := .add) (pre := ?_) (val := ?_) rfl rfl rfl rfl rfl ?_ ?_ ?_; rotate_left 2; (intro L; simp only [cl4, muld00, muld01, mulc01, muld02, mulc02, muld10, mulc10, muld11, mulc11, muld12, mulc12, muld20, mulc20, muld21, mulc21, muld22, mulc22, muld30, mulc30, muld31, mulc31, muld32, mulc32, muld03, muld13, muld23, muld33, mulc03 a b lb, mulc13 a b lb, mulc23 a b lb, mulc33 a b lb, Nat.zero_mod, zero_cl8, eql_u4 ty26 ty22, neq_u4 ty26 ty22, lit_ul0, lit_ul1, add_ul, binF_add, Int.reduceAdd, Int.reduceSub, Int.reduceMul, Int.reduceNeg, Int.sub_zero, Int.cast_ofNat_Int, ne_eq, Int.reduceLT, Int.reduceLE, Int.reduceEq, Nat.reduceMod, Nat.reduceLT, decide_true, decide_false, ty3]; (first | (rw [wrap_i64] <;> first | omega | rfl) | (rw [wrap_u8] <;> first | omega | rfl) | (rw [wrap_u16] <;> first | omega | rfl) | (rw [wrap_u32] <;> first | omega | rfl) | rfl)); exact trivial)
      | ((first | (refine kOps_ixap (off' := ?_) rfl rfl rfl rfl rfl rfl ty57 ty22 ?_ ?_ ?_; rotate_left 1; (simp only [cl4, muld00, muld01, mulc01, muld02, mulc02, muld10, mulc10, muld11, mulc11, muld12, mulc12, muld20, mulc20, muld21, mulc21, muld22, mulc22, muld30, mulc30, muld31, mulc31, muld32, mulc32, muld03, muld13, muld23, muld33, mulc03 a b lb, mulc13 a b lb, mulc23 a b lb, mulc33 a b lb, Nat.zero_mod, zero_cl8, Nat.zero_add, n_add_zero, Nat.mul_one, Nat.one_mul, Int.toNat_natCast, Int.reduceToNat, Int.toNat_zero, Nat.reduceMul, Nat.reduceAdd]; rfl)) | (refine kOps_ixaq (cs' := ?_) rfl rfl rfl rfl rfl ty57 ty22 ?_ ?_ ?_; rotate_left 1; (simp only [cl4, muld00, muld01, mulc01, muld02, mulc02, muld10, mulc10, muld11, mulc11, muld12, mulc12, muld20, mulc20, muld21, mulc21, muld22, mulc22, muld30, mulc30, muld31, mulc31, muld32, mulc32, muld03, muld13, muld23, muld33, mulc03 a b lb, mulc13 a b lb, mulc23 a b lb, mulc33 a b lb, Nat.zero_mod, zero_cl8, elemAt, isAggD, Bool.false_eq_true, if_false, List.getElem?_cons_zero, List.getElem?_cons_succ, List.getD_cons_zero, List.getD_cons_succ, List.drop_zero, List.drop_succ_cons, List.take_succ_cons, List.take_zero, List.length_cons, List.length_nil, List.set_cons_zero, List.set_cons_succ, Nat.zero_add, n_add_zero, Nat.mul_one, Nat.reduceAdd, Nat.reduceMul, Int.toNat_natCast, Int.reduceToNat, Int.toNat_zero, take_cl, agg_cl, len_cl]; rfl))); (focus ((repeat' apply And.intro) <;> first | exact True.intro | omega | (with_reducible rfl) | assumption | exact ⟨_, rfl⟩ | (simp only [one_cl, one_ul, cells_u4, cells_ul, len_cl, List.all_cons, List.all_nil, Bool.and_self, List.length_cons, List.length_nil]; done) | (simp only [len_cl]; omega) | (simp [Value.cells, Value.oneCell']; done))))
      | ((first | refine kOps_loadp (pre := ?_) (val := ?_) rfl rfl rfl rfl rfl ty22 ?_ ?_ ?_ | refine kOps_loadr (pre := ?_) (val := ?_) rfl rfl rfl rfl ty22 ?_ ?_ ?_); rotate_left 2; (simp only [cl4, muld00, muld01, mulc01, muld02, mulc02, muld10, mulc10, muld11, mulc11, muld12, mulc12, muld20, mulc20, muld21, mulc21, muld22, mulc22, muld30, mulc30, muld31, mulc31, muld32, mulc32, muld03, muld13, muld23, muld33, mulc03 a b lb, mulc13 a b lb, mulc23 a b lb, mulc33 a b lb, Nat.zero_mod, zero_cl8, partF, isAggD, Bool.false_eq_true, if_false, List.getElem?_cons_zero, List.getElem?_cons_succ, List.getD_cons_zero, List.getD_cons_succ, List.drop_zero, List.drop_succ_cons, List.take_succ_cons, List.take_zero, List.length_cons, List.length_nil, List.set_cons_zero, List.set_cons_succ, Nat.zero_add, n_add_zero, Nat.mul_one, Nat.reduceAdd, Nat.reduceMul, Int.toNat_natCast, Int.reduceToNat, Int.toNat_zero, take_cl, agg_cl, len_cl]; rfl); (focus ((repeat' apply And.intro) <;> first | exact True.intro | omega | (with_reducible rfl) | assumption | exact ⟨_, rfl⟩ | (simp only [one_cl, one_ul, cells_u4, cells_ul, len_cl, List.all_cons, List.all_nil, Bool.and_self, List.length_cons, List.length_nil]; done) | (simp only [len_cl]; omega) | (simp [Value.cells, Value.oneCell']; done))))
      | (refine kOps_callc (pre := ?_) (val := ?_) rfl rfl rfl rfl rfl ?_ ?_ ?_ ?_ ?_; rotate_left 2; (simp only [cl4, muld00, muld01, mulc01, muld02, mulc02, muld10, mulc10, muld11, mulc11, muld12, mulc12, muld20, mulc20, muld21, mulc21, muld22, mulc22, muld30, mulc30, muld31, mulc31, muld32, mulc32, muld03, muld13, muld23, muld33, mulc03 a b lb, mulc13 a b lb, mulc23 a b lb, mulc33 a b lb, Nat.zero_mod, zero_cl8, sMulAdd, lit_ul0, lit_ul1, nrmC, List.map_cons, List.map_nil, nrm_ul, nrm_u4, nrm_nil, nrm_int, nrm_bool, nrm_string, nrm_ro, nrm_agg, nrm_rptr, isul_ul, ulv_ul, isU_u4, uv_u4, bytesOf_bv, isB_bv, true_and, and_true, and_self, n_add_zero, Nat.zero_add, n_sub_zero]; rfl); (focus (first | rfl | (simp only [closed, closedL, closed_ul, closed_u4, closedL_bv, closedL_cl, Bool.and_self, Bool.and_true]; done))); (focus (first | rfl | (simp only [closed, closedL, closed_ul, closed_u4, closedL_bv, closedL_cl, Bool.and_self, Bool.and_true]; done))); (focus ((repeat' apply And.intro) <;> first | exact True.intro | omega | (with_reducible rfl) | assumption | exact ⟨_, rfl⟩ | (simp only [one_cl, one_ul, cells_u4, cells_ul, len_cl, List.all_cons, List.all_nil, Bool.and_self, List.length_cons, List.length_nil]; done) | (simp only [len_cl]; omega) | (simp [Value.cells, Value.oneCell']; done))))
      | (refine kOps_ext rfl rfl rfl rfl rfl ?_)
      | (refine kOps_store (cs' := ?_) rfl rfl rfl rfl rfl rfl rfl ty22 ?_ ?_ ?_; rotate_left 1; (simp only [cl4, muld00, muld01, mulc01, muld02, mulc02, muld10, mulc10, muld11, mulc11, muld12, mulc12, muld20, mulc20, muld21, mulc21, muld22, mulc22, muld30, mulc30, muld31, mulc31, muld32, mulc32, muld03, muld13, muld23, muld33, mulc03 a b lb, mulc13 a b lb, mulc23 a b lb, mulc33 a b lb, Nat.zero_mod, zero_cl8, lit_ul0, lit_ul1, splice, cells_ul, cells_u4, cells_agg, cells_int, cells_bool, cells_string, cells_slice, cells_ro, cells_rptr, isAggD, Bool.false_eq_true, if_false, List.getElem?_cons_zero, List.getElem?_cons_succ, List.getD_cons_zero, List.getD_cons_succ, List.drop_zero, List.drop_succ_cons, List.take_succ_cons, List.take_zero, List.length_cons, List.length_nil, List.set_cons_zero, List.set_cons_succ, Nat.zero_add, n_add_zero, Nat.mul_one, Nat.reduceAdd, Nat.reduceMul, Int.toNat_natCast, Int.reduceToNat, Int.toNat_zero, take_cl, agg_cl, len_cl]; rfl); (focus (first | (simp only [lit_ul0, lit_ul1, cells_ul, cells_u4, cells_agg, cells_int, cells_bool, cells_string, cells_slice, cells_ro, cells_rptr, List.length_cons, List.length_nil, len_cl, List.length_set, List.length_map, Nat.reduceAdd, Nat.zero_add, List.all_cons, List.all_nil, one_ul, one_cl, one_bv, PV.one, Value.oneCell', Bool.and_self, Nat.reduceLeDiff, Nat.le_refl, and_self, true_and, and_true]; done) | ((try simp only [lit_ul0, lit_ul1, cells_ul, cells_u4, cells_agg, cells_int, cells_bool, cells_string, cells_slice, cells_ro, cells_rptr]); (focus ((repeat' apply And.intro) <;> first | exact True.intro | omega | (with_reducible rfl) | assumption | exact ⟨_, rfl⟩ | (simp only [one_cl, one_ul, cells_u4, cells_ul, len_cl, List.all_cons, List.all_nil, Bool.and_self, List.length_cons, List.length_nil]; done) | (simp only [len_cl]; omega) | (simp [Value.cells, Value.oneCell']; done)))))))
      | (refine vOps_slice (pre := ?_) (val := ?_) (L' := ?_) rfl rfl rfl ?_ ?_ ?_; rotate_left 3; (simp only [cl4, muld00, muld01, mulc01, muld02, mulc02, muld10, mulc10, muld11, mulc11, muld12, mulc12, muld20, mulc20, muld21, mulc21, muld22, mulc22, muld30, mulc30, muld31, mulc31, muld32, mulc32, muld03, muld13, muld23, muld33, mulc03 a b lb, mulc13 a b lb, mulc23 a b lb, mulc33 a b lb, Nat.zero_mod, zero_cl8, evalIn_tmp, evalIn_const, evalIn_func, lookup_cons, Nat.reduceBEq, cond_true, cond_false, lit_ul0, lit_ul1, sliceF, ints?, Option.map_some, Option.map_none, Int.sub_zero, Int.reduceSub, Int.cast_ofNat_Int, Nat.min_self, List.drop_succ_cons, List.getElem?_cons_zero, List.getElem?_cons_succ, List.getD_cons_zero, List.getD_cons_succ, List.getD_nil, List.drop_zero, List.take_succ_cons, List.take_zero, List.take_nil, List.length_cons, List.length_nil, List.set_cons_zero, List.set_cons_succ, Nat.zero_add, n_add_zero, Nat.mul_one, Nat.one_mul, Nat.reduceAdd, Nat.reduceMul, Nat.reduceSub, Nat.reduceLeDiff, Nat.reduceEqDiff, Int.toNat_natCast, Int.reduceToNat, Int.toNat_zero, reduceIte, if_true, if_false, Bool.false_eq_true, isAggD, len_cl, take_cl, agg_cl, getD_bv, take_bytes, List.length_map, List.cons_append, List.nil_append, true_and, and_true, and_self, ty3, ty22, ty26, ty57, ty59]; (first | (rw [wrap_i64] <;> first | omega | rfl) | (rw [wrap_u8] <;> first | omega | rfl) | (rw [wrap_u16] <;> first | omega | rfl) | (rw [wrap_u32] <;> first | omega | rfl) | rfl)); (focus ((repeat' apply And.intro) <;> first | exact True.intro | omega | (with_reducible rfl) | assumption | exact ⟨_, rfl⟩ | (simp only [one_cl, one_ul, cells_u4, cells_ul, len_cl, List.all_cons, List.all_nil, Bool.and_self, List.length_cons, List.length_nil]; done) | (simp only [len_cl]; omega) | (simp [Value.cells, Value.oneCell']; done))))
      | (refine kOps_store (cs' := ?_) rfl rfl rfl rfl rfl rfl rfl ty26 ?_ ?_ ?_; rotate_left 1; (simp only [cl4, muld00, muld01, mulc01, muld02, mulc02, muld10, mulc10, muld11, mulc11, muld12, mulc12, muld20, mulc20, muld21, mulc21, muld22, mulc22, muld30, mulc30, muld31, mulc31, muld32, mulc32, muld03, muld13, muld23, muld33, mulc03 a b lb, mulc13 a b lb, mulc23 a b lb, mulc33 a b lb, Nat.zero_mod, zero_cl8, lit_ul0, lit_ul1, splice, cells_ul, cells_u4, cells_agg, cells_int, cells_bool, cells_string, cells_slice, cells_ro, cells_rptr, isAggD, Bool.false_eq_true, if_false, List.getElem?_cons_zero, List.getElem?_cons_succ, List.getD_cons_zero, List.getD_cons_succ, List.drop_zero, List.drop_succ_cons, List.take_succ_cons, List.take_zero, List.length_cons, List.length_nil, List.set_cons_zero, List.set_cons_succ, Nat.zero_add, n_add_zero, Nat.mul_one, Nat.reduceAdd, Nat.reduceMul, Int.toNat_natCast, Int.reduceToNat, Int.toNat_zero, take_cl, agg_cl, len_cl]; rfl); (focus (first | (simp only [lit_ul0, lit_ul1, cells_ul, cells_u4, cells_agg, cells_int, cells_bool, cells_string, cells_slice, cells_ro, cells_rptr, List.length_cons, List.length_nil, len_cl, List.length_set, List.length_map, Nat.reduceAdd, Nat.zero_add, List.all_cons, List.all_nil, one_ul, one_cl, one_bv, PV.one, Value.oneCell', Bool.and_self, Nat.reduceLeDiff, Nat.le_refl, and_self, true_and, and_true]; done) | ((try simp only [lit_ul0, lit_ul1, cells_ul, cells_u4, cells_agg, cells_int, cells_bool, cells_string, cells_slice, cells_ro, cells_rptr]); (focus ((repeat' apply And.intro) <;> first | exact True.intro | omega | (with_reducible rfl) | assumption | exact ⟨_, rfl⟩ | (simp only [one_cl, one_ul, cells_u4, cells_ul, len_cl, List.all_cons, List.all_nil, Bool.and_self, List.length_cons, List.length_nil]; done) | (simp only [len_cl]; omega) | (simp [Value.cells, Value.oneCell']; done)))))))
      | (refine vOps_op (pre := ?_) (val := ?_) (L' := ?_) rfl rfl rfl ?_ ?_ ?_; rotate_left 3; (simp only [cl4, muld00, muld01, mulc01, muld02, mulc02, muld10, mulc10, muld11, mulc11, muld12, mulc12, muld20, mulc20, muld21, mulc21, muld22, mulc22, muld30, mulc30, muld31, mulc31, muld32, mulc32, muld03, muld13, muld23, muld33, mulc03 a b lb, mulc13 a b lb, mulc23 a b lb, mulc33 a b lb, Nat.zero_mod, zero_cl8, eql_u4 ty26 ty22, neq_u4 ty26 ty22, index_u4 ty26 ty22, sMulAdd, Int.cast_ofNat_Int, Nat.min_self, List.drop_succ_cons, opF, dm, md, cls, isW, Bool.not_true, Bool.not_false, evalIn_tmp, evalIn_const, evalIn_func, lookup_cons, Nat.reduceBEq, cond_true, cond_false, dro_bv, droOk_bv, bytesOf_u8, ByteArray.toList_mk, binF_add, binF_sub, binF_mul, binF_quo, binF_rem, binF_lss, binF_leq, binF_gtr, binF_geq, binF_eql, binF_neq, binF_and, binF_or, binF_xor, binF_shl, binF_shr, binF_seql, binF_sneq, unF_not, unF_neg, lenF, capF, makeF, appF, news, kill, take_bytes, List.drop_zero, List.take_succ_cons, List.take_zero, List.take_nil, List.length_map, Nat.mul_one, Nat.zero_add, Nat.one_mul, List.reduceReplicate, sliceF, ints?, indexAddrF, elemAt, loadF, partF, isAggD, storeF, splice, boxF, allocF, buildSliceF, buildF, fillA, fillB, zeroCells, fieldF, fieldAddrF, indexF, extractF, copyF, fresh_own, fresh_ro, Int.sub_zero, Int.reduceSub, Int.reduceAdd, Int.reduceMul, Int.reduceNeg, rep_zero, rep_u8, rep_slice, Nat.reduceLeDiff, Value.cells, getD_bv, bv, List.getD_cons_zero, List.getD_cons_succ, List.getD_nil, List.getElem?_cons_zero, List.getElem?_cons_succ, List.length_cons, List.length_nil, Nat.reduceAdd, Nat.reduceSub, Nat.reduceMul, List.set_cons_zero, List.set_cons_succ, List.cons_append, List.nil_append, Option.map_some, Option.map_none, Int.toNat_zero, Int.toNat_natCast, if_true, if_false, Nat.reduceEqDiff, reduceIte, Bool.false_eq_true, IntKind.bits, List.map_cons, List.map_nil, List.toList_toArray, Int.reduceToNat, callF, pureF, conOf, tabOf_cons, nrmC, adopt_closed, adopt_new, adopt_tnew, borrow, borrowOk, closed, closedL, closedL_bv, closedL_rows, dro, droOk, flat, flatL, flatL_bv, List.forall_mem_cons, List.forall_mem_nil, newB, bytesOf_bv, bytesOf_one, isB_bv, isB_one, isRows, rowsOf, List.flatten_cons, List.flatten_nil, List.append_nil, List.all_nil, Bool.and_true, Bool.true_and, Bool.and_self, true_or, or_true, or_false, false_or, true_and, and_true, and_self, clr, n_add_zero, and_false, false_and, cells_agg, cells_int, cells_bool, cells_string, cells_slice, cells_ro, cells_rptr, nrm_nil, nrm_int, nrm_bool, nrm_string, nrm_ro, nrm_agg, nrm_rptr, slc_ro, slc_nil', slc_own', lit_ul0, lit_ul1, add_ul, sub_ul, mul_ul, lss_ul, leq_ul, gtr_ul, geq_ul, eql_ul, neq_ul, and_ul, or_ul, xor_ul, shl_z, shl_ul, shr_z, shr_ul, not_ul, cells_ul, one_ul, closed_ul, flat_ul, nrm_ul, borrow_ul, isul_ul, ulv_ul, len_cl, closedL_cl, flatL_cl, one_cl, take_cl, agg_cl, cells_u4, closed_u4, flat_u4, nrm_u4, borrow_u4, isU_u4, uv_u4, zero_cl4, ty3, ty22, ty26, ty57, ty59]; (first | (rw [wrap_i64] <;> first | omega | rfl) | (rw [wrap_u8] <;> first | omega | rfl) | (rw [wrap_u16] <;> first | omega | rfl) | (rw [wrap_u32] <;> first | omega | rfl) | rfl)); (focus ((repeat' apply And.intro) <;> first | exact True.intro | omega | (with_reducible rfl) | assumption | exact ⟨_, rfl⟩ | (simp only [one_cl, one_ul, cells_u4, cells_ul, len_cl, List.all_cons, List.all_nil, Bool.and_self, List.length_cons, List.length_nil]; done) | (simp only [len_cl]; omega) | (simp [Value.cells, Value.oneCell']; done))))
      | (refine vOps_gundef rfl rfl ?_ ?_; (focus (simp only [lookup_cons, Nat.reduceBEq, cond_true, cond_false]; done)); simp only [putIn])
      | (refine vOps_gpick (t := ?_) (val := ?_) rfl rfl ?_ rfl rfl ?_ ?_ ?_; rotate_left 2; (focus (simp only [lookup_cons, Nat.reduceBEq, cond_true, cond_false]; done)); (simp only [evalIn_tmp, evalIn_const, lookup_cons, Nat.reduceBEq, cond_true, cond_false]; rfl); (simp only [evalIn_tmp, evalIn_const, lookup_cons, Nat.reduceBEq, cond_true, cond_false]; rfl))
      | (refine vOps_pick (t := ?_) (val := ?_) rfl rfl rfl ?_ ?_ ?_; rotate_left 2; (simp only [evalIn_tmp, evalIn_const, lookup_cons, Nat.reduceBEq, cond_true, cond_false]; rfl); (simp only [evalIn_tmp, evalIn_const, lookup_cons, Nat.reduceBEq, cond_true, cond_false]; rfl))
      | (refine vOps_fork (b := ?_) rfl rfl ?_ ?_ ?_; rotate_left 1; (simp only [lookup_cons, Nat.reduceBEq, cond_true, cond_false]; rfl); all_goals (intro hb; simp only [hb]; (try simp only [decide_eq_true_eq, decide_eq_false_iff_not] at hb); try (exfalso; first | omega | exact hb trivial)))
      | (refine vOps_forkp (b := ?_) rfl ?_ ?_ ?_; rotate_left 1; (simp only [evalIn_tmp, lookup_cons, Nat.reduceBEq, cond_true, cond_false]; rfl); all_goals (intro hb; simp only [hb]; (try simp only [decide_eq_true_eq, decide_eq_false_iff_not] at hb); try (exfalso; first | omega | exact hb trivial))))
    refine fin_c (p := ?_) (xs := [.cell 4 26, .cell 5 26]) (by simp) rfl ?_ ?_ ?_ ?_
    rotate_left 2
    · simp only [resAll_cons, resAll_nil, resPVl_0, resPVl_1, resPVl_2, resOne_tmp, resOne_cell, List.map_cons, List.map_nil, cl4, muld00, muld01, mulc01, muld02, mulc02, muld10, mulc10, muld11, mulc11, muld12, mulc12, muld20, mulc20, muld21, mulc21, muld22, mulc22, muld30, mulc30, muld31, mulc31, muld32, mulc32, muld03, muld13, muld23, muld33, mulc03 a b lb, mulc13 a b lb, mulc23 a b lb, mulc33 a b lb, Nat.zero_mod, zero_cl8, evalIn_tmp, evalIn_const, evalIn_func, lookup_cons, Nat.reduceBEq, cond_true, cond_false, lit_ul0, lit_ul1, loadF, partF, Int.cast_ofNat_Int, Nat.min_self, List.drop_succ_cons, Int.reduceSub, List.getElem?_cons_zero, List.getElem?_cons_succ, List.getD_cons_zero, List.getD_cons_succ, List.getD_nil, List.drop_zero, List.take_succ_cons, List.take_zero, List.take_nil, List.length_cons, List.length_nil, List.set_cons_zero, List.set_cons_succ, Nat.zero_add, n_add_zero, Nat.mul_one, Nat.one_mul, Nat.reduceAdd, Nat.reduceMul, Nat.reduceSub, Nat.reduceLeDiff, Nat.reduceEqDiff, Int.toNat_natCast, Int.reduceToNat, Int.toNat_zero, reduceIte, if_true, if_false, Bool.false_eq_true, isAggD, len_cl, take_cl, agg_cl, getD_bv, take_bytes, List.length_map, List.cons_append, List.nil_append, true_and, and_true, and_self, ty3, ty22, ty26, ty57, ty59]; try rfl
    · first | rfl | (simp only [closed, closedL, closed_u4, closed_ul, closedL_cl, closedL_bv, Bool.and_self, Bool.and_true]; done) | (simp only [closed, closedL, closed_u4, closed_ul, closedL_cl, closedL_bv, Bool.and_self, Bool.and_true]; rfl)
    · try simp only [← cl4, agg_cl]
      have e : PV.agg [ul (a % 18446744073709551616 * b), ul (a % 340282366920938463463374607431768211456 * b / 18446744073709551616), ul (a % 6277101735386680763835789423207666416102355444464034512896 * b / 340282366920938463463374607431768211456), ul (a % 115792089237316195423570985008687907853269984665640564039457584007913129639936 * b / 6277101735386680763835789423207666416102355444464034512896)] = u4 (a * b) := by
        rw [u4, cl4, ul_congr (mullo0 a b), ul_congr (mullo1 a b), ul_congr (mullo2 a b), Nat.mod_eq_of_lt la]
      refine tup2 ?_ ?_
      · rw [Nat.mod_eq_of_lt la]
        refine agg4 ?_
        generalize a * b = z
        omega
      · exact e
    · simp only [resAll_cons, resAll_nil, resPVl_0, resPVl_1, resPVl_2, resOne_tmp, resOne_cell, List.map_cons, List.map_nil, cl4, muld00, muld01, mulc01, muld02, mulc02, muld10, mulc10, muld11, mulc11, muld12, mulc12, muld20, mulc20, muld21, mulc21, muld22, mulc22, muld30, mulc30, muld31, mulc31, muld32, mulc32, muld03, muld13, muld23, muld33, mulc03 a b lb, mulc13 a b lb, mulc23 a b lb, mulc33 a b lb, Nat.zero_mod, zero_cl8, evalIn_tmp, evalIn_const, evalIn_func, lookup_cons, Nat.reduceBEq, cond_true, cond_false, lit_ul0, lit_ul1, loadF, partF, Int.cast_ofNat_Int, Nat.min_self, List.drop_succ_cons, Int.reduceSub, List.getElem?_cons_zero, List.getElem?_cons_succ, List.getD_cons_zero, List.getD_cons_succ, List.getD_nil, List.drop_zero, List.take_succ_cons, List.take_zero, List.take_nil, List.length_cons, List.length_nil, List.set_cons_zero, List.set_cons_succ, Nat.zero_add, n_add_zero, Nat.mul_one, Nat.one_mul, Nat.reduceAdd, Nat.reduceMul, Nat.reduceSub, Nat.reduceLeDiff, Nat.reduceEqDiff, Int.toNat_natCast, Int.reduceToNat, Int.toNat_zero, reduceIte, if_true, if_false, Bool.false_eq_true, isAggD, len_cl, take_cl, agg_cl, getD_bv, take_bytes, List.length_map, List.cons_append, List.nil_append, true_and, and_true, and_self, ty3, ty22, ty26, ty57, ty59]; try trivial
  · exact hS.elim
end Go.Ab
