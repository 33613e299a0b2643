import Derived.Test.YtgknomjgpkpjdaaME
import Derived.Test.YtgknomjgpkpjdaaTY
import Derived.Test.YtgknomjgpkpjdaaFref02Cmp
import Derived.Test.YtgknomjgpkpjdaaFref02Add
import Derived.Test.YtgknomjgpkpjdaaFref02Sub
import Derived.Test.YtgknomjgpkpjdaaFref02Bit
import Derived.Test.YtgknomjgpkpjdaaMF
namespace Go.Ab
open Go Go.Proofs
set_option linter.unusedVariables false
set_option linter.unusedSimpArgs false
set_option maxRecDepth 8000
set_option maxHeartbeats 4000000

noncomputable def B34 : Code := bodyOf Try.f34
theorem B34_eq : Try.f34.body = some B34 := by kernel_rfl
noncomputable def n34_0 : Code := B34
noncomputable def n34_1 : Code := codeAt B34 [0]
noncomputable def n34_2 : Code := codeAt B34 [1]
noncomputable def n34_3 : Code := codeAt B34 [1,0]
noncomputable def n34_4 : Code := codeAt B34 [1,0,0]
noncomputable def n34_5 : Code := codeAt B34 [1,0,1]
noncomputable def n34_6 : Code := codeAt B34 [1,0,1,0]
noncomputable def n34_7 : Code := codeAt B34 [1,0,1,0,0]
noncomputable def n34_8 : Code := codeAt B34 [1,0,1,0,1]
noncomputable def n34_9 : Code := codeAt B34 [1,0,1,1]
noncomputable def n34_10 : Code := codeAt B34 [1,1]
noncomputable def n34_11 : Code := codeAt B34 [1,1,0]
noncomputable def n34_12 : Code := codeAt B34 [1,1,1]
noncomputable def n34_13 : Code := codeAt B34 [1,1,1,0]
noncomputable def n34_14 : Code := codeAt B34 [1,1,1,0,0]
noncomputable def n34_15 : Code := codeAt B34 [1,1,1,0,1]
noncomputable def n34_16 : Code := codeAt B34 [1,1,1,0,1,0]
noncomputable def n34_17 : Code := codeAt B34 [1,1,1,0,1,0,0]
noncomputable def n34_18 : Code := codeAt B34 [1,1,1,0,1,0,0,0]
noncomputable def n34_19 : Code := codeAt B34 [1,1,1,0,1,0,0,0,0]
noncomputable def n34_20 : Code := codeAt B34 [1,1,1,0,1,0,0,0,1]
noncomputable def n34_21 : Code := codeAt B34 [1,1,1,0,1,0,0,0,1,0]
noncomputable def n34_22 : Code := codeAt B34 [1,1,1,0,1,0,0,0,1,1]
noncomputable def n34_23 : Code := codeAt B34 [1,1,1,0,1,0,0,1]
noncomputable def n34_24 : Code := codeAt B34 [1,1,1,0,1,0,0,1,0]
noncomputable def n34_25 : Code := codeAt B34 [1,1,1,0,1,0,0,1,0,0]
noncomputable def n34_26 : Code := codeAt B34 [1,1,1,0,1,0,0,1,0,0,0]
noncomputable def n34_27 : Code := codeAt B34 [1,1,1,0,1,0,0,1,0,0,1]
noncomputable def n34_28 : Code := codeAt B34 [1,1,1,0,1,0,0,1,0,0,1,0]
noncomputable def n34_29 : Code := codeAt B34 [1,1,1,0,1,0,0,1,0,0,1,1]
noncomputable def n34_30 : Code := codeAt B34 [1,1,1,0,1,0,0,1,0,0,1,1,0]
noncomputable def n34_31 : Code := codeAt B34 [1,1,1,0,1,0,0,1,0,0,1,1,0,0]
noncomputable def n34_32 : Code := codeAt B34 [1,1,1,0,1,0,0,1,0,0,1,1,0,1]
noncomputable def n34_33 : Code := codeAt B34 [1,1,1,0,1,0,0,1,0,0,1,1,0,1,0]
noncomputable def n34_34 : Code := codeAt B34 [1,1,1,0,1,0,0,1,0,0,1,1,0,1,1]
noncomputable def n34_35 : Code := codeAt B34 [1,1,1,0,1,0,0,1,0,0,1,1,1]
noncomputable def n34_36 : Code := codeAt B34 [1,1,1,0,1,0,0,1,0,0,1,1,1,0]
noncomputable def n34_37 : Code := codeAt B34 [1,1,1,0,1,0,0,1,0,0,1,1,1,1]
noncomputable def n34_38 : Code := codeAt B34 [1,1,1,0,1,0,0,1,0,0,1,1,1,1,0]
noncomputable def n34_39 : Code := codeAt B34 [1,1,1,0,1,0,0,1,0,0,1,1,1,1,0,0]
noncomputable def n34_40 : Code := codeAt B34 [1,1,1,0,1,0,0,1,0,0,1,1,1,1,0,1]
noncomputable def n34_41 : Code := codeAt B34 [1,1,1,0,1,0,0,1,0,0,1,1,1,1,1]
noncomputable def n34_42 : Code := codeAt B34 [1,1,1,0,1,0,0,1,1]
noncomputable def n34_43 : Code := codeAt B34 [1,1,1,1]
noncomputable def n34_44 : Code := codeAt B34 [1,1,1,1,0]
noncomputable def n34_45 : Code := codeAt B34 [1,1,1,1,1]
theorem e34_0 : n34_0 = .seq n34_1 n34_2 := rfl
noncomputable def r34_1 := opsAt n34_1
theorem e34_1 : n34_1 = .region 0 (r34_1).toArray false := rfl
theorem e34_2 : n34_2 = .seq n34_3 n34_10 := rfl
theorem e34_3 : n34_3 = .seq n34_4 n34_5 := rfl
noncomputable def r34_4 := opsAt n34_4
theorem e34_4 : n34_4 = .region 1 (r34_4).toArray false := rfl
theorem e34_5 : n34_5 = .cond (.tmp 14) n34_6 n34_9 := rfl
theorem e34_6 : n34_6 = .seq n34_7 n34_8 := rfl
noncomputable def r34_7 := opsAt n34_7
theorem e34_7 : n34_7 = .region 2 (r34_7).toArray true := rfl
theorem a34_7 : anyOk r34_7 = true := by decide +kernel
theorem e34_8 : n34_8 = .ret := rfl
theorem e34_9 : n34_9 = .skip := rfl
theorem e34_10 : n34_10 = .seq n34_11 n34_12 := rfl
noncomputable def r34_11 := opsAt n34_11
theorem e34_11 : n34_11 = .region 3 (r34_11).toArray false := rfl
theorem e34_12 : n34_12 = .seq n34_13 n34_43 := rfl
theorem e34_13 : n34_13 = .seq n34_14 n34_15 := rfl
noncomputable def r34_14 := opsAt n34_14
theorem e34_14 : n34_14 = .region 4 (r34_14).toArray false := rfl
theorem e34_15 : n34_15 = .block 0 n34_16 := rfl
theorem e34_16 : n34_16 = .loop n34_17 := rfl
theorem e34_17 : n34_17 = .seq n34_18 n34_23 := rfl
theorem e34_18 : n34_18 = .seq n34_19 n34_20 := rfl
noncomputable def r34_19 := opsAt n34_19
theorem e34_19 : n34_19 = .region 5 (r34_19).toArray false := rfl
theorem e34_20 : n34_20 = .cond (.tmp 19) n34_21 n34_22 := rfl
theorem e34_21 : n34_21 = .skip := rfl
theorem e34_22 : n34_22 = .exit 0 := rfl
theorem e34_23 : n34_23 = .seq n34_24 n34_42 := rfl
theorem e34_24 : n34_24 = .block 1 n34_25 := rfl
theorem e34_25 : n34_25 = .seq n34_26 n34_27 := rfl
noncomputable def r34_26 := opsAt n34_26
theorem e34_26 : n34_26 = .region 7 (r34_26).toArray false := rfl
theorem e34_27 : n34_27 = .seq n34_28 n34_29 := rfl
noncomputable def r34_28 := opsAt n34_28
theorem e34_28 : n34_28 = .region 8 (r34_28).toArray false := rfl
theorem e34_29 : n34_29 = .seq n34_30 n34_35 := rfl
theorem e34_30 : n34_30 = .seq n34_31 n34_32 := rfl
noncomputable def r34_31 := opsAt n34_31
theorem e34_31 : n34_31 = .region 9 (r34_31).toArray false := rfl
theorem e34_32 : n34_32 = .cond (.tmp 32) n34_33 n34_34 := rfl
noncomputable def r34_33 := opsAt n34_33
theorem e34_33 : n34_33 = .region 10 (r34_33).toArray false := rfl
theorem e34_34 : n34_34 = .skip := rfl
theorem e34_35 : n34_35 = .seq n34_36 n34_37 := rfl
noncomputable def r34_36 := opsAt n34_36
theorem e34_36 : n34_36 = .region 11 (r34_36).toArray false := rfl
theorem g34_36_1 : (r34_36[1]?).bind (·.dst) = some 38 := by decide +kernel
theorem e34_37 : n34_37 = .cond (.tmp 43) n34_38 n34_41 := rfl
theorem e34_38 : n34_38 = .seq n34_39 n34_40 := rfl
noncomputable def r34_39 := opsAt n34_39
theorem e34_39 : n34_39 = .region 12 (r34_39).toArray false := rfl
noncomputable def r34_40 := opsAt n34_40
theorem e34_40 : n34_40 = .region 13 (r34_40).toArray true := rfl
theorem a34_40 : anyOk r34_40 = true := by decide +kernel
theorem e34_41 : n34_41 = .skip := rfl
noncomputable def r34_42 := opsAt n34_42
theorem e34_42 : n34_42 = .region 6 (r34_42).toArray false := rfl
theorem e34_43 : n34_43 = .seq n34_44 n34_45 := rfl
noncomputable def r34_44 := opsAt n34_44
theorem e34_44 : n34_44 = .region 14 (r34_44).toArray true := rfl
theorem a34_44 : anyOk r34_44 = true := by decide +kernel
theorem e34_45 : n34_45 = .ret := rfl
theorem f_ref02_Div : PureOk Try.prog 34 sDiv := by
  refine pureOk_of (c := n34_0) (Γ := conOf [(22, .pure sCmp), (26, .pure sAdd), (28, .pure sSub), (52, .pure sBit)]) (conOf_ok (conOf_one (S := .pure sCmp) f_ref02_Cmp (conOf_one (S := .pure sAdd) f_ref02_Add (conOf_one (S := .pure sSub) f_ref02_Sub (conOf_one (S := .pure sBit) f_ref02_Bit (conOf_end)))))) mixed Try.func34 B34_eq (by decide +kernel) Try.call34 ?_
  intro args hS
  unfold sDiv at hS ⊢
  split at hS
  · refine ⟨by rw [Try.ntmps34]; simp, vC_sound ?_⟩
    rename_i xh xl xb
    obtain ⟨hh, hl, hb⟩ := hS
    obtain ⟨h, lh, rfl⟩ := isU_out hh
    obtain ⟨l, ll, rfl⟩ := isU_out hl
    obtain ⟨b, lb, rfl⟩ := isU_out hb
    simp only [uv_u4, Nat.mod_eq_of_lt lh, Nat.mod_eq_of_lt ll, Nat.mod_eq_of_lt lb]
    clear hh hl hb
    simp only [entry_cons, entry_nil, Nat.reduceAdd]
    repeat' (first
      | (with_reducible first | apply seqC_normal | apply blockC_normal | apply seqC_exit | apply blockC_hit | apply seqC_ret | apply blockC_ret | apply loopC_ret | apply loopC_exit)
      | ((with_reducible apply blockC_miss); (exact rfl))
      | ((with_reducible apply wC_seq e34_0; apply wC_region e34_1); refine vOps_open (l := _ :: _) rfl ?_)
      | ((with_reducible apply wC_seq e34_2; apply wC_seq e34_3; apply wC_region e34_4); refine vOps_open (l := _ :: _) rfl ?_)
      | ((with_reducible apply kC_cond e34_5); (exact rfl); all_goals (intro hb; first | (cases hb; done) | cases hb | ((try simp only [decide_eq_true_eq, decide_eq_false_iff_not, Bool.not_eq_true', Bool.not_eq_false'] at hb); try (exfalso; first | omega | exact hb trivial))))
      | ((with_reducible apply wC_seq e34_6; apply wC_any e34_7 a34_7); refine vOps_open (l := _ :: _) rfl ?_)
      | ((with_reducible apply wC_ret e34_8))
      | ((with_reducible apply wC_skip e34_9))
      | ((with_reducible apply wC_seq e34_10; apply wC_region e34_11); refine vOps_open (l := _ :: _) rfl ?_)
      | ((with_reducible apply wC_seq e34_12; apply wC_seq e34_13; apply wC_region e34_14); refine vOps_open (l := _ :: _) rfl ?_)
      | ((with_reducible apply wC_block e34_15))
      | ((with_reducible apply wC_seq e34_43; apply wC_any e34_44 a34_44); refine vOps_open (l := _ :: _) rfl ?_)
      | ((with_reducible apply wC_ret e34_45))
      | ((with_reducible apply vOps_nil); try (with_reducible refine And.intro (by kernel_rfl) ?_))
      | (refine kOps_gon (g := ?_) (p := ?_) rfl rfl ?_ ?_ ?_ ?_; rotate_left 2; fail; (exact rfl); (with_reducible rfl))
      | (refine kOps_gofft (g := ?_) (p := ?_) rfl rfl ?_ ?_ ?_ ?_; rotate_left 2; fail; (exact rfl); (with_reducible rfl))
      | (refine kOps_gofff (g := ?_) (p := ?_) rfl rfl ?_ ?_ ?_ ?_; rotate_left 2; fail; (exact rfl); (with_reducible rfl))
      | (refine kOps_pickt rfl rfl rfl rfl ?_ rfl ?_; (with_reducible rfl))
      | (refine kOps_pickf rfl rfl rfl rfl ?_ rfl ?_; (with_reducible rfl))
      | (refine kOps_box (row := ?_) (n := ?_) rfl rfl rfl rfl rfl ?_ ?_ ?_ ?_; rotate_left 2; (simp only [↓List.length_append, ↓List.length_set, ↓List.length_cons, List.length_nil, Nat.reduceAdd, Nat.zero_add]; rfl); (simp only [clg0, clg1, clg2, clg3, splice_cl, splice_one, len_cl, Nat.mod_eq_of_lt lb, Nat.mod_eq_of_lt lh, cells_ul, cells_u4]; rfl); (focus (first | rfl | exact one_cl _ _ | exact one_bv _ | (simp only [one_cl, one_ul, List.all_cons, List.all_nil, Bool.and_self, PV.one]; done) | (simp [PV.one, one_ul, one_cl, one_bv, Value.oneCell']; done))))
      | (refine kOps_alloc (row := ?_) (n := ?_) rfl rfl rfl rfl ty26 ?_ ?_ ?_ ?_; rotate_left 2; (simp only [↓List.length_append, ↓List.length_set, ↓List.length_cons, List.length_nil, Nat.reduceAdd, Nat.zero_add]; rfl); (simp only [clg0, clg1, clg2, clg3, splice_cl, splice_one, len_cl, Nat.mod_eq_of_lt lb, Nat.mod_eq_of_lt lh, Value.cells, List.map_cons, List.map_nil, List.toList_toArray, zero_cl4, zero_cl8, lit_ul0]; rfl); (focus (first | (simp only [Value.cells, List.toList_toArray, List.forall_mem_cons, List.forall_mem_nil, Value.oneCell', and_self]; done) | (simp [Value.cells, Value.oneCell']; done))))
      | (refine kOps_as rfl rfl rfl rfl ?_)
      | ((first | refine kOps_loadp (pre := ?_) (val := ?_) rfl rfl rfl rfl rfl ty26 ?_ ?_ ?_ | refine kOps_loadr (pre := ?_) (val := ?_) rfl rfl rfl rfl ty26 ?_ ?_ ?_); rotate_left 2; (simp only [clg0, clg1, clg2, clg3, splice_cl, splice_one, len_cl, Nat.mod_eq_of_lt lb, Nat.mod_eq_of_lt lh, partF, isAggD, Bool.false_eq_true, if_false, if_true, reduceIte, take_cl, agg_cl, List.drop_zero, Int.toNat_natCast, Int.reduceToNat, Int.toNat_zero, n_add_zero, Nat.mul_one, Nat.zero_add, Nat.reduceAdd, Nat.reduceMul, getD_bv, take_bytes, List.length_map, List.getD_cons_zero]; rfl); (focus ((repeat' apply And.intro) <;> first | exact True.intro | omega | (with_reducible rfl) | assumption | exact ⟨_, rfl⟩ | (simp only [one_cl, one_ul, cells_u4, cells_ul, len_cl, List.all_cons, List.all_nil, Bool.and_self, List.length_cons, List.length_nil]; done) | (simp only [len_cl]; omega) | (simp [Value.cells, Value.oneCell']; done))))
      | (refine kOps_callc (pre := ?_) (val := ?_) rfl rfl rfl rfl rfl ?_ ?_ ?_ ?_ ?_; rotate_left 2; (simp only [clg0, clg1, clg2, clg3, splice_cl, splice_one, len_cl, Nat.mod_eq_of_lt lb, Nat.mod_eq_of_lt lh, sCmp, sAdd, sSub, sBit, lit_ul0, lit_ul1, nrmC, List.map_cons, List.map_nil, nrm_ul, nrm_u4, nrm_nil, nrm_int, nrm_bool, nrm_string, nrm_ro, nrm_agg, nrm_rptr, isul_ul, ulv_ul, isU_u4, uv_u4, bytesOf_bv, isB_bv, true_and, and_true, and_self, n_add_zero, Nat.zero_add, Nat.zero_mod, n_sub_zero]; rfl); (focus (first | rfl | (simp only [closed, closedL, closed_ul, closed_u4, closedL_bv, closedL_cl, Bool.and_self, Bool.and_true]; done))); (focus (first | rfl | (simp only [closed, closedL, closed_ul, closed_u4, closedL_bv, closedL_cl, Bool.and_self, Bool.and_true]; done))); (focus ((repeat' apply And.intro) <;> first | exact True.intro | omega | (with_reducible rfl) | assumption | exact ⟨_, rfl⟩ | (simp only [one_cl, one_ul, cells_u4, cells_ul, len_cl, List.all_cons, List.all_nil, Bool.and_self, List.length_cons, List.length_nil]; done) | (simp only [len_cl]; omega) | (simp [Value.cells, Value.oneCell']; done))))
      | (refine kOps_bin (b := .leq) (pre := ?_) (val := ?_) rfl rfl rfl rfl rfl ?_ ?_ ?_; rotate_left 2; (intro L; simp only [clg0, clg1, clg2, clg3, splice_cl, splice_one, len_cl, Nat.mod_eq_of_lt lb, Nat.mod_eq_of_lt lh, eql_u4 ty26 ty22, neq_u4 ty26 ty22, lit_ul0, lit_ul1, leq_ul, binF_leq, Int.reduceAdd, Int.reduceSub, Int.reduceMul, Int.reduceNeg, Int.sub_zero, Int.cast_ofNat_Int, ne_eq, Int.reduceLT, Int.reduceLE, Int.reduceEq, Nat.reduceMod, Nat.reduceLT, decide_true, decide_false, ty3]; (first | (rw [wrap_i64] <;> first | omega | rfl) | (rw [wrap_u8] <;> first | omega | rfl) | (rw [wrap_u16] <;> first | omega | rfl) | (rw [wrap_u32] <;> first | omega | rfl) | rfl)); exact trivial)
      | (refine kOps_store (cs' := ?_) rfl rfl rfl rfl rfl rfl rfl ty26 ?_ ?_ ?_; rotate_left 1; (simp only [clg0, clg1, clg2, clg3, splice_cl, splice_one, len_cl, Nat.mod_eq_of_lt lb, Nat.mod_eq_of_lt lh, lit_ul0, lit_ul1, cells_ul, cells_u4, isAggD, Bool.false_eq_true, if_false, if_true, reduceIte, take_cl, agg_cl, List.drop_zero, Int.toNat_natCast, Int.reduceToNat, Int.toNat_zero, n_add_zero, Nat.mul_one, Nat.zero_add, Nat.reduceAdd, Nat.reduceMul, getD_bv, take_bytes, List.length_map, List.getD_cons_zero]; rfl); (focus (first | (simp only [lit_ul0, lit_ul1, cells_ul, cells_u4, List.length_cons, List.length_nil, len_cl, List.length_set, List.length_map, Nat.reduceAdd, Nat.zero_add, List.all_cons, List.all_nil, one_ul, one_cl, one_bv, PV.one, Value.oneCell', Bool.and_self, Nat.reduceLeDiff, Nat.le_refl, and_self, true_and, and_true]; done) | ((try simp only [lit_ul0, lit_ul1, cells_ul, cells_u4]); (focus ((repeat' apply And.intro) <;> first | exact True.intro | omega | (with_reducible rfl) | assumption | exact ⟨_, rfl⟩ | (simp only [one_cl, one_ul, cells_u4, cells_ul, len_cl, List.all_cons, List.all_nil, Bool.and_self, List.length_cons, List.length_nil]; done) | (simp only [len_cl]; omega) | (simp [Value.cells, Value.oneCell']; done)))))))
      | (refine vOps_gundef rfl rfl ?_ ?_; (focus (simp only [lookup_cons, Nat.reduceBEq, cond_true, cond_false]; done)); simp only [putIn])
      | (refine vOps_gpick (t := ?_) (val := ?_) rfl rfl ?_ rfl rfl ?_ ?_ ?_; rotate_left 2; (focus (simp only [lookup_cons, Nat.reduceBEq, cond_true, cond_false]; done)); (simp only [evalIn_tmp, evalIn_const, lookup_cons, Nat.reduceBEq, cond_true, cond_false]; rfl); (simp only [evalIn_tmp, evalIn_const, lookup_cons, Nat.reduceBEq, cond_true, cond_false]; rfl))
      | (refine vOps_pick (t := ?_) (val := ?_) rfl rfl rfl ?_ ?_ ?_; rotate_left 2; (simp only [evalIn_tmp, evalIn_const, lookup_cons, Nat.reduceBEq, cond_true, cond_false]; rfl); (simp only [evalIn_tmp, evalIn_const, lookup_cons, Nat.reduceBEq, cond_true, cond_false]; rfl))
      | (refine vOps_fork (b := ?_) rfl rfl ?_ ?_ ?_; rotate_left 1; (simp only [lookup_cons, Nat.reduceBEq, cond_true, cond_false]; rfl); all_goals (intro hb; simp only [hb]; (try simp only [decide_eq_true_eq, decide_eq_false_iff_not] at hb); try (exfalso; first | omega | exact hb trivial)))
      | (refine vOps_forkp (b := ?_) rfl ?_ ?_ ?_; rotate_left 1; (simp only [evalIn_tmp, lookup_cons, Nat.reduceBEq, cond_true, cond_false]; rfl); all_goals (intro hb; simp only [hb]; (try simp only [decide_eq_true_eq, decide_eq_false_iff_not] at hb); try (exfalso; first | omega | exact hb trivial))))
    · refine fin_c (p := ?_) (xs := [.cell 6 26, .cell 7 26, .tmp 8]) (by simp) rfl ?_ ?_ ?_ ?_
      rotate_left 2
      · simp only [resAll_cons, resAll_nil, resPVl_0, resPVl_1, resPVl_2, resOne_tmp, resOne_cell, List.map_cons, List.map_nil, clg0, clg1, clg2, clg3, splice_cl, splice_one, len_cl, Nat.mod_eq_of_lt lb, Nat.mod_eq_of_lt lh, evalIn_tmp, evalIn_const, evalIn_func, lookup_cons, Nat.reduceBEq, cond_true, cond_false, lit_ul0, lit_ul1, loadF, partF, List.getElem?_cons_zero, List.getElem?_cons_succ, List.set_cons_zero, List.set_cons_succ, List.cons_append, List.nil_append, true_and, and_true, and_self, Nat.le_refl, Nat.reduceLeDiff, isAggD, Bool.false_eq_true, if_false, if_true, reduceIte, take_cl, agg_cl, List.drop_zero, Int.toNat_natCast, Int.reduceToNat, Int.toNat_zero, n_add_zero, Nat.mul_one, Nat.zero_add, Nat.reduceAdd, Nat.reduceMul, getD_bv, take_bytes, List.length_map, List.getD_cons_zero, ty3, ty22, ty26]; try rfl
      · first | rfl | (simp only [closed, closedL, closed_u4, closed_ul, closedL_cl, closedL_bv, Bool.and_self, Bool.and_true]; done) | (simp only [closed, closedL, closed_u4, closed_ul, closedL_cl, closedL_bv, Bool.and_self, Bool.and_true]; rfl)
      · rw [if_pos (cmp_le hb)]
      · simp only [resAll_cons, resAll_nil, resPVl_0, resPVl_1, resPVl_2, resOne_tmp, resOne_cell, List.map_cons, List.map_nil, clg0, clg1, clg2, clg3, splice_cl, splice_one, len_cl, Nat.mod_eq_of_lt lb, Nat.mod_eq_of_lt lh, evalIn_tmp, evalIn_const, evalIn_func, lookup_cons, Nat.reduceBEq, cond_true, cond_false, lit_ul0, lit_ul1, loadF, partF, List.getElem?_cons_zero, List.getElem?_cons_succ, List.set_cons_zero, List.set_cons_succ, List.cons_append, List.nil_append, true_and, and_true, and_self, Nat.le_refl, Nat.reduceLeDiff, isAggD, Bool.false_eq_true, if_false, if_true, reduceIte, take_cl, agg_cl, List.drop_zero, Int.toNat_natCast, Int.reduceToNat, Int.toNat_zero, n_add_zero, Nat.mul_one, Nat.zero_add, Nat.reduceAdd, Nat.reduceMul, getD_bv, take_bytes, List.length_map, List.getD_cons_zero, ty3, ty22, ty26]; try trivial
    · have hlt : h < b := cmp_gt hb
      have inv : DivInv (2 ^ 256) (h * 115792089237316195423570985008687907853269984665640564039457584007913129639936 + l) b 0 h (l % 2 ^ 256) := by
        have e : (2 : Nat) ^ 256 = 115792089237316195423570985008687907853269984665640564039457584007913129639936 := by decide
        rw [e, Nat.mod_eq_of_lt ll]; exact DivInv.start hlt ll
      refine wC_loopI (ι := {x : Nat × Nat × Nat // x.1 ≤ 256 ∧ DivInv (2 ^ x.1) (h * 115792089237316195423570985008687907853269984665640564039457584007913129639936 + l) b x.2.1 x.2.2 (l % 2 ^ x.1)}) e34_16 (fun x => ([(4, .ptr 1 0), (5, .ptr 2 0), (6, .ptr 3 0), (7, .ptr 4 0), (9, .lit (.int .i64 ((x.1.1 : Int) - 1)))], [.cells (cl 4 h), .cells (cl 4 l), .cells (cl 4 b), .cells (cl 4 x.1.2.1), .cells (cl 4 x.1.2.2)])) (fun x => x.1.1) ⟨(256, 0, h), Nat.le_refl _, inv⟩ [0, 1, 2, 3, 4] ?_ ?_
      · show Weak _ _ _ _ _ _
        refine weak_mk (fun i h => absurd h (Nat.not_lt_zero i)) (by decide) (by simp) ?_ ?_
        · simp only [RenRows, List.nil_append, List.cons_append, List.set_cons_zero, List.set_cons_succ, List.getElem?_cons_zero, List.getElem?_cons_succ, Option.some.injEq, LE.cells.injEq, closedL_bv, closedL_cl, and_true, true_and]
          all_goals (trivial)
        · simp only [RenEnv, lookup_cons, Nat.reduceBEq, cond_true, cond_false]
          (repeat' apply And.intro) <;> first | trivial | exact ren_keep rfl | exact ren_keep (closed_u4 _) | (refine ren_int ?_; omega) | (refine ren_own rfl ?_; first | rfl | omega | (simp; done) | (omega; done)) | (refine ren_int ?_; omega; done) | (refine ren_int ?_; simp; done) | (refine ren_keep ?_; simp only [closed, closedL_bv, closedL_rows, closedL_cl]; done) | (refine ren_ptr rfl; done)
      · clear inv
        rintro ⟨⟨t, q, r⟩, ht, inv⟩
        dsimp only at ht inv ⊢
        rcases t with _ | m
        · simp only [show ((0 : Nat) : Int) - 1 = -1 from rfl]
          simp only [Nat.pow_zero, Nat.mod_one] at inv
          repeat' (first
            | (with_reducible first | apply seqC_normal | apply blockC_normal | apply seqC_exit | apply blockC_hit | apply seqC_ret | apply blockC_ret | apply loopC_ret | apply loopC_exit)
            | ((with_reducible apply blockC_miss); (exact rfl))
            | ((with_reducible apply wC_seq e34_17; apply wC_seq e34_18; apply wC_region e34_19); refine vOps_open (l := _ :: _) rfl ?_; refine kOps_mv rfl rfl rfl rfl ?_; refine kOps_bin (b := .geq) (pre := ?_) (val := ?_) rfl rfl rfl rfl rfl ?_ ?_ ?_; rotate_left 2; (intro L; simp only [clg0, clg1, clg2, clg3, splice_cl, splice_one, len_cl, eql_u4 ty26 ty22, neq_u4 ty26 ty22, geq_ul, binF_geq, Int.reduceAdd, Int.reduceSub, Int.reduceMul, Int.reduceNeg, Int.sub_zero, Int.cast_ofNat_Int, ne_eq, Int.reduceLT, Int.reduceLE, Int.reduceEq, Nat.reduceMod, Nat.reduceLT, decide_true, decide_false, ty3]; (first | (rw [wrap_i64] <;> first | omega | rfl) | (rw [wrap_u8] <;> first | omega | rfl) | (rw [wrap_u16] <;> first | omega | rfl) | (rw [wrap_u32] <;> first | omega | rfl) | rfl)); exact trivial; refine vOps_nil ?_; (with_reducible apply seqC_normal; apply kC_cond e34_20); (exact rfl); all_goals (intro hb; first | (cases hb; done) | cases hb | ((try simp only [decide_eq_true_eq, decide_eq_false_iff_not, Bool.not_eq_true', Bool.not_eq_false'] at hb); try (exfalso; first | omega | exact hb trivial))))
            | ((with_reducible apply wC_skip e34_21))
            | ((with_reducible apply wC_exit e34_22))
            | ((with_reducible apply wC_seq e34_43; apply wC_any e34_44 a34_44); refine vOps_open (l := _ :: _) rfl ?_; (first | refine kOps_loadp (pre := ?_) (val := ?_) rfl rfl rfl rfl rfl ty26 ?_ ?_ ?_ | refine kOps_loadr (pre := ?_) (val := ?_) rfl rfl rfl rfl ty26 ?_ ?_ ?_); rotate_left 2; (simp only [clg0, clg1, clg2, clg3, splice_cl, splice_one, len_cl, partF, isAggD, Bool.false_eq_true, if_false, if_true, reduceIte, take_cl, agg_cl, List.drop_zero, Int.toNat_natCast, Int.reduceToNat, Int.toNat_zero, n_add_zero, Nat.mul_one, Nat.zero_add, Nat.reduceAdd, Nat.reduceMul, getD_bv, take_bytes, List.length_map, List.getD_cons_zero]; rfl); (focus ((repeat' apply And.intro) <;> first | exact True.intro | omega | (with_reducible rfl) | assumption | exact ⟨_, rfl⟩ | (simp only [one_cl, one_ul, cells_u4, cells_ul, len_cl, List.all_cons, List.all_nil, Bool.and_self, List.length_cons, List.length_nil]; done) | (simp only [len_cl]; omega) | (simp [Value.cells, Value.oneCell']; done))); (first | refine kOps_loadp (pre := ?_) (val := ?_) rfl rfl rfl rfl rfl ty26 ?_ ?_ ?_ | refine kOps_loadr (pre := ?_) (val := ?_) rfl rfl rfl rfl ty26 ?_ ?_ ?_); rotate_left 2; (simp only [clg0, clg1, clg2, clg3, splice_cl, splice_one, len_cl, partF, isAggD, Bool.false_eq_true, if_false, if_true, reduceIte, take_cl, agg_cl, List.drop_zero, Int.toNat_natCast, Int.reduceToNat, Int.toNat_zero, n_add_zero, Nat.mul_one, Nat.zero_add, Nat.reduceAdd, Nat.reduceMul, getD_bv, take_bytes, List.length_map, List.getD_cons_zero]; rfl); (focus ((repeat' apply And.intro) <;> first | exact True.intro | omega | (with_reducible rfl) | assumption | exact ⟨_, rfl⟩ | (simp only [one_cl, one_ul, cells_u4, cells_ul, len_cl, List.all_cons, List.all_nil, Bool.and_self, List.length_cons, List.length_nil]; done) | (simp only [len_cl]; omega) | (simp [Value.cells, Value.oneCell']; done))); refine kOps_store (cs' := ?_) rfl rfl rfl rfl rfl rfl rfl ty26 ?_ ?_ ?_; rotate_left 1; (simp only [clg0, clg1, clg2, clg3, splice_cl, splice_one, len_cl, cells_ul, cells_u4, isAggD, Bool.false_eq_true, if_false, if_true, reduceIte, take_cl, agg_cl, List.drop_zero, Int.toNat_natCast, Int.reduceToNat, Int.toNat_zero, n_add_zero, Nat.mul_one, Nat.zero_add, Nat.reduceAdd, Nat.reduceMul, getD_bv, take_bytes, List.length_map, List.getD_cons_zero]; rfl); (focus (first | (simp only [cells_ul, cells_u4, List.length_cons, List.length_nil, len_cl, List.length_set, List.length_map, Nat.reduceAdd, Nat.zero_add, List.all_cons, List.all_nil, one_ul, one_cl, one_bv, PV.one, Value.oneCell', Bool.and_self, Nat.reduceLeDiff, Nat.le_refl, and_self, true_and, and_true]; done) | ((try simp only [cells_ul, cells_u4]); (focus ((repeat' apply And.intro) <;> first | exact True.intro | omega | (with_reducible rfl) | assumption | exact ⟨_, rfl⟩ | (simp only [one_cl, one_ul, cells_u4, cells_ul, len_cl, List.all_cons, List.all_nil, Bool.and_self, List.length_cons, List.length_nil]; done) | (simp only [len_cl]; omega) | (simp [Value.cells, Value.oneCell']; done)))))); refine kOps_store (cs' := ?_) rfl rfl rfl rfl rfl rfl rfl ty26 ?_ ?_ ?_; rotate_left 1; (simp only [clg0, clg1, clg2, clg3, splice_cl, splice_one, len_cl, cells_ul, cells_u4, isAggD, Bool.false_eq_true, if_false, if_true, reduceIte, take_cl, agg_cl, List.drop_zero, Int.toNat_natCast, Int.reduceToNat, Int.toNat_zero, n_add_zero, Nat.mul_one, Nat.zero_add, Nat.reduceAdd, Nat.reduceMul, getD_bv, take_bytes, List.length_map, List.getD_cons_zero]; rfl); (focus (first | (simp only [cells_ul, cells_u4, List.length_cons, List.length_nil, len_cl, List.length_set, List.length_map, Nat.reduceAdd, Nat.zero_add, List.all_cons, List.all_nil, one_ul, one_cl, one_bv, PV.one, Value.oneCell', Bool.and_self, Nat.reduceLeDiff, Nat.le_refl, and_self, true_and, and_true]; done) | ((try simp only [cells_ul, cells_u4]); (focus ((repeat' apply And.intro) <;> first | exact True.intro | omega | (with_reducible rfl) | assumption | exact ⟨_, rfl⟩ | (simp only [one_cl, one_ul, cells_u4, cells_ul, len_cl, List.all_cons, List.all_nil, Bool.and_self, List.length_cons, List.length_nil]; done) | (simp only [len_cl]; omega) | (simp [Value.cells, Value.oneCell']; done)))))); refine kOps_as rfl rfl rfl rfl ?_; refine vOps_nil ?_; refine And.intro (by kernel_rfl) ?_; (with_reducible apply seqC_normal; apply wC_ret e34_45)))
          refine fin_c (p := ?_) (xs := [.cell 6 26, .cell 7 26, .tmp 8]) (by simp) rfl ?_ ?_ ?_ ?_
          rotate_left 2
          · simp only [resAll_cons, resAll_nil, resPVl_0, resPVl_1, resPVl_2, resOne_tmp, resOne_cell, List.map_cons, List.map_nil, clg0, clg1, clg2, clg3, splice_cl, splice_one, len_cl, evalIn_tmp, evalIn_const, evalIn_func, lookup_cons, Nat.reduceBEq, cond_true, cond_false, lit_ul0, lit_ul1, loadF, partF, List.getElem?_cons_zero, List.getElem?_cons_succ, List.set_cons_zero, List.set_cons_succ, List.cons_append, List.nil_append, true_and, and_true, and_self, Nat.le_refl, Nat.reduceLeDiff, isAggD, Bool.false_eq_true, if_false, if_true, reduceIte, take_cl, agg_cl, List.drop_zero, Int.toNat_natCast, Int.reduceToNat, Int.toNat_zero, n_add_zero, Nat.mul_one, Nat.zero_add, Nat.reduceAdd, Nat.reduceMul, getD_bv, take_bytes, List.length_map, List.getD_cons_zero, ty3, ty22, ty26]; try rfl
          · first | rfl | (simp only [closed, closedL, closed_u4, closed_ul, closedL_cl, closedL_bv, Bool.and_self, Bool.and_true]; done) | (simp only [closed, closedL, closed_u4, closed_ul, closedL_cl, closedL_bv, Bool.and_self, Bool.and_true]; rfl)
          · rw [if_neg (by omega), (DivInv.done inv).1, (DivInv.done inv).2]
          · simp only [resAll_cons, resAll_nil, resPVl_0, resPVl_1, resPVl_2, resOne_tmp, resOne_cell, List.map_cons, List.map_nil, clg0, clg1, clg2, clg3, splice_cl, splice_one, len_cl, evalIn_tmp, evalIn_const, evalIn_func, lookup_cons, Nat.reduceBEq, cond_true, cond_false, lit_ul0, lit_ul1, loadF, partF, List.getElem?_cons_zero, List.getElem?_cons_succ, List.set_cons_zero, List.set_cons_succ, List.cons_append, List.nil_append, true_and, and_true, and_self, Nat.le_refl, Nat.reduceLeDiff, isAggD, Bool.false_eq_true, if_false, if_true, reduceIte, take_cl, agg_cl, List.drop_zero, Int.toNat_natCast, Int.reduceToNat, Int.toNat_zero, n_add_zero, Nat.mul_one, Nat.zero_add, Nat.reduceAdd, Nat.reduceMul, getD_bv, take_bytes, List.length_map, List.getD_cons_zero, ty3, ty22, ty26]; try trivial
        · simp only [show ((m + 1 : Nat) : Int) - 1 = (m : Int) by omega]
          have hm : m < 256 := by omega
          have hlr := inv.lr
          have lr4 : r < 115792089237316195423570985008687907853269984665640564039457584007913129639936 := by omega
          have hb255 := top_bit lr4
          have hquo := ref_quo hm inv.lq inv.qlt
          repeat' (first
            | (with_reducible first | apply seqC_normal | apply blockC_normal | apply seqC_exit | apply blockC_hit | apply seqC_ret | apply blockC_ret | apply loopC_ret | apply loopC_exit)
            | ((with_reducible apply blockC_miss); (exact rfl))
            | ((with_reducible apply wC_seq e34_17; apply wC_seq e34_18; apply wC_region e34_19); refine vOps_open (l := _ :: _) rfl ?_)
            | ((with_reducible apply kC_cond e34_20); (exact rfl); all_goals (intro hb; first | (cases hb; done) | cases hb | ((try simp only [decide_eq_true_eq, decide_eq_false_iff_not, Bool.not_eq_true', Bool.not_eq_false'] at hb); try (exfalso; first | omega | exact hb trivial))))
            | ((with_reducible apply wC_skip e34_21))
            | ((with_reducible apply wC_exit e34_22))
            | ((with_reducible apply wC_seq e34_23; apply wC_block e34_24; apply wC_seq e34_25; apply wC_region e34_26); refine vOps_open (l := _ :: _) rfl ?_)
            | ((with_reducible apply wC_seq e34_27; apply wC_region e34_28); refine vOps_open (l := _ :: _) rfl ?_)
            | ((with_reducible apply wC_seq e34_29; apply wC_seq e34_30; apply wC_region e34_31); refine vOps_open (l := _ :: _) rfl ?_)
            | ((with_reducible apply kC_cond e34_32); (exact rfl); all_goals (intro hb; first | (cases hb; done) | cases hb | ((try simp only [decide_eq_true_eq, decide_eq_false_iff_not, Bool.not_eq_true', Bool.not_eq_false'] at hb); try (exfalso; first | omega | exact hb trivial))))
            | ((with_reducible apply wC_region e34_33); refine vOps_open (l := _ :: _) rfl ?_)
            | ((with_reducible apply wC_skip e34_34))
            | ((with_reducible apply wC_seq e34_35; apply wC_region e34_36); refine vOps_open (l := _ :: _) rfl ?_)
            | ((with_reducible apply kC_cond e34_37); (exact rfl); all_goals (intro hb; first | (cases hb; done) | cases hb | ((try simp only [decide_eq_true_eq, decide_eq_false_iff_not, Bool.not_eq_true', Bool.not_eq_false'] at hb); try (exfalso; first | omega | exact hb trivial))))
            | ((with_reducible apply wC_seq e34_38; apply wC_region e34_39); refine vOps_open (l := _ :: _) rfl ?_)
            | ((with_reducible apply wC_any e34_40 a34_40); refine vOps_open (l := _ :: _) rfl ?_)
            | ((with_reducible apply wC_skip e34_41))
            | ((with_reducible apply wC_region e34_42); refine vOps_open (l := _ :: _) rfl ?_)
            | ((with_reducible apply wC_seq e34_43; apply wC_any e34_44 a34_44); refine vOps_open (l := _ :: _) rfl ?_)
            | ((with_reducible apply wC_ret e34_45))
            | ((with_reducible apply vOps_nil); try (with_reducible refine And.intro (by kernel_rfl) ?_))
            | (refine kOps_gon (g := ?_) (p := ?_) rfl rfl ?_ ?_ ?_ ?_; rotate_left 2; (with_reducible first | exact g34_36_1); (exact rfl); (with_reducible rfl))
            | (refine kOps_gofft (g := ?_) (p := ?_) rfl rfl ?_ ?_ ?_ ?_; rotate_left 2; (with_reducible first | exact g34_36_1); (exact rfl); (with_reducible rfl))
            | (refine kOps_gofff (g := ?_) (p := ?_) rfl rfl ?_ ?_ ?_ ?_; rotate_left 2; (with_reducible first | exact g34_36_1); (exact rfl); (with_reducible rfl))
            | (refine kOps_pickt rfl rfl rfl rfl ?_ rfl ?_; (with_reducible rfl))
            | (refine kOps_pickf rfl rfl rfl rfl ?_ rfl ?_; (with_reducible rfl))
            | (refine kOps_mv rfl rfl rfl rfl ?_)
            | (refine kOps_bin (b := .geq) (pre := ?_) (val := ?_) rfl rfl rfl rfl rfl ?_ ?_ ?_; rotate_left 2; (intro L; simp only [clg0, clg1, clg2, clg3, splice_cl, splice_one, len_cl, Nat.mod_eq_of_lt lb, Nat.mod_eq_of_lt lr4, Nat.mod_eq_of_lt ll, Nat.one_mul, Int.toNat_natCast, Int.reduceToNat, hb255, cmp_ge, tdiv64, tmod64, cl_get hm, ref_low, hquo, eql_u4 ty26 ty22, neq_u4 ty26 ty22, lit_ul0, lit_ul1, geq_ul, binF_geq, Int.reduceAdd, Int.reduceSub, Int.reduceMul, Int.reduceNeg, Int.sub_zero, Int.cast_ofNat_Int, ne_eq, Int.reduceLT, Int.reduceLE, Int.reduceEq, Nat.reduceMod, Nat.reduceLT, decide_true, decide_false, ty3]; (first | (rw [wrap_i64] <;> first | omega | rfl) | (rw [wrap_u8] <;> first | omega | rfl) | (rw [wrap_u16] <;> first | omega | rfl) | (rw [wrap_u32] <;> first | omega | rfl) | rfl)); exact trivial)
            | ((first | refine kOps_loadp (pre := ?_) (val := ?_) rfl rfl rfl rfl rfl ty26 ?_ ?_ ?_ | refine kOps_loadr (pre := ?_) (val := ?_) rfl rfl rfl rfl ty26 ?_ ?_ ?_); rotate_left 2; (simp only [clg0, clg1, clg2, clg3, splice_cl, splice_one, len_cl, Nat.mod_eq_of_lt lb, Nat.mod_eq_of_lt lr4, Nat.mod_eq_of_lt ll, Nat.one_mul, Int.toNat_natCast, Int.reduceToNat, hb255, cmp_ge, tdiv64, tmod64, cl_get hm, ref_low, hquo, partF, isAggD, Bool.false_eq_true, if_false, if_true, reduceIte, take_cl, agg_cl, List.drop_zero, Int.toNat_zero, n_add_zero, Nat.mul_one, Nat.zero_add, Nat.reduceAdd, Nat.reduceMul, getD_bv, take_bytes, List.length_map, List.getD_cons_zero]; rfl); (focus ((repeat' apply And.intro) <;> first | exact True.intro | omega | (with_reducible rfl) | assumption | exact ⟨_, rfl⟩ | (simp only [one_cl, one_ul, cells_u4, cells_ul, len_cl, List.all_cons, List.all_nil, Bool.and_self, List.length_cons, List.length_nil]; done) | (simp only [len_cl]; omega) | (simp [Value.cells, Value.oneCell']; done))))
            | (refine kOps_callc (pre := ?_) (val := ?_) rfl rfl rfl rfl rfl ?_ ?_ ?_ ?_ ?_; rotate_left 2; (simp only [clg0, clg1, clg2, clg3, splice_cl, splice_one, len_cl, Nat.mod_eq_of_lt lb, Nat.mod_eq_of_lt lr4, Nat.mod_eq_of_lt ll, Nat.one_mul, Int.toNat_natCast, Int.reduceToNat, hb255, cmp_ge, tdiv64, tmod64, cl_get hm, ref_low, hquo, sCmp, sAdd, sSub, sBit, lit_ul0, lit_ul1, nrmC, List.map_cons, List.map_nil, nrm_ul, nrm_u4, nrm_nil, nrm_int, nrm_bool, nrm_string, nrm_ro, nrm_agg, nrm_rptr, isul_ul, ulv_ul, isU_u4, uv_u4, bytesOf_bv, isB_bv, true_and, and_true, and_self, n_add_zero, Nat.zero_add, Nat.zero_mod, n_sub_zero]; rfl); (focus (first | rfl | (simp only [closed, closedL, closed_ul, closed_u4, closedL_bv, closedL_cl, Bool.and_self, Bool.and_true]; done))); (focus (first | rfl | (simp only [closed, closedL, closed_ul, closed_u4, closedL_bv, closedL_cl, Bool.and_self, Bool.and_true]; done))); (focus ((repeat' apply And.intro) <;> first | exact True.intro | omega | (with_reducible rfl) | assumption | exact ⟨_, rfl⟩ | (simp only [one_cl, one_ul, cells_u4, cells_ul, len_cl, List.all_cons, List.all_nil, Bool.and_self, List.length_cons, List.length_nil]; done) | (simp only [len_cl]; omega) | (simp [Value.cells, Value.oneCell']; done))))
            | (refine kOps_as rfl rfl rfl rfl ?_)
            | (refine kOps_ext rfl rfl rfl rfl rfl ?_)
            | (refine kOps_store (cs' := ?_) rfl rfl rfl rfl rfl rfl rfl ty26 ?_ ?_ ?_; rotate_left 1; (simp only [clg0, clg1, clg2, clg3, splice_cl, splice_one, len_cl, Nat.mod_eq_of_lt lb, Nat.mod_eq_of_lt lr4, Nat.mod_eq_of_lt ll, Nat.one_mul, Int.toNat_natCast, Int.reduceToNat, hb255, cmp_ge, tdiv64, tmod64, cl_get hm, ref_low, hquo, lit_ul0, lit_ul1, cells_ul, cells_u4, isAggD, Bool.false_eq_true, if_false, if_true, reduceIte, take_cl, agg_cl, List.drop_zero, Int.toNat_zero, n_add_zero, Nat.mul_one, Nat.zero_add, Nat.reduceAdd, Nat.reduceMul, getD_bv, take_bytes, List.length_map, List.getD_cons_zero]; rfl); (focus (first | (simp only [lit_ul0, lit_ul1, cells_ul, cells_u4, List.length_cons, List.length_nil, len_cl, List.length_set, List.length_map, Nat.reduceAdd, Nat.zero_add, List.all_cons, List.all_nil, one_ul, one_cl, one_bv, PV.one, Value.oneCell', Bool.and_self, Nat.reduceLeDiff, Nat.le_refl, and_self, true_and, and_true]; done) | ((try simp only [lit_ul0, lit_ul1, cells_ul, cells_u4]); (focus ((repeat' apply And.intro) <;> first | exact True.intro | omega | (with_reducible rfl) | assumption | exact ⟨_, rfl⟩ | (simp only [one_cl, one_ul, cells_u4, cells_ul, len_cl, List.all_cons, List.all_nil, Bool.and_self, List.length_cons, List.length_nil]; done) | (simp only [len_cl]; omega) | (simp [Value.cells, Value.oneCell']; done)))))))
            | ((first | (refine kOps_ixap (off' := ?_) rfl rfl rfl rfl rfl rfl ty26 ty22 ?_ ?_ ?_; rotate_left 1; (simp only [clg0, clg1, clg2, clg3, splice_cl, splice_one, len_cl, Nat.mod_eq_of_lt lb, Nat.mod_eq_of_lt lr4, Nat.mod_eq_of_lt ll, Nat.one_mul, Int.toNat_natCast, Int.reduceToNat, hb255, cmp_ge, tdiv64, tmod64, cl_get hm, ref_low, hquo, Nat.zero_add, n_add_zero, Nat.mul_one, Int.toNat_zero, Nat.reduceMul, Nat.reduceAdd]; rfl)) | (refine kOps_ixaq (cs' := ?_) rfl rfl rfl rfl rfl ty26 ty22 ?_ ?_ ?_; rotate_left 1; (simp only [clg0, clg1, clg2, clg3, splice_cl, splice_one, len_cl, Nat.mod_eq_of_lt lb, Nat.mod_eq_of_lt lr4, Nat.mod_eq_of_lt ll, Nat.one_mul, Int.toNat_natCast, Int.reduceToNat, hb255, cmp_ge, tdiv64, tmod64, cl_get hm, ref_low, hquo, elemAt, isAggD, Bool.false_eq_true, if_false, if_true, reduceIte, take_cl, agg_cl, List.drop_zero, Int.toNat_zero, n_add_zero, Nat.mul_one, Nat.zero_add, Nat.reduceAdd, Nat.reduceMul, getD_bv, take_bytes, List.length_map, List.getD_cons_zero]; rfl))); (focus ((repeat' apply And.intro) <;> first | exact True.intro | omega | (with_reducible rfl) | assumption | exact ⟨_, rfl⟩ | (simp only [one_cl, one_ul, cells_u4, cells_ul, len_cl, List.all_cons, List.all_nil, Bool.and_self, List.length_cons, List.length_nil]; done) | (simp only [len_cl]; omega) | (simp [Value.cells, Value.oneCell']; done))))
            | ((first | refine kOps_loadp (pre := ?_) (val := ?_) rfl rfl rfl rfl rfl ty22 ?_ ?_ ?_ | refine kOps_loadr (pre := ?_) (val := ?_) rfl rfl rfl rfl ty22 ?_ ?_ ?_); rotate_left 2; (simp only [clg0, clg1, clg2, clg3, splice_cl, splice_one, len_cl, Nat.mod_eq_of_lt lb, Nat.mod_eq_of_lt lr4, Nat.mod_eq_of_lt ll, Nat.one_mul, Int.toNat_natCast, Int.reduceToNat, hb255, cmp_ge, tdiv64, tmod64, cl_get hm, ref_low, hquo, partF, isAggD, Bool.false_eq_true, if_false, if_true, reduceIte, take_cl, agg_cl, List.drop_zero, Int.toNat_zero, n_add_zero, Nat.mul_one, Nat.zero_add, Nat.reduceAdd, Nat.reduceMul, getD_bv, take_bytes, List.length_map, List.getD_cons_zero]; rfl); (focus ((repeat' apply And.intro) <;> first | exact True.intro | omega | (with_reducible rfl) | assumption | exact ⟨_, rfl⟩ | (simp only [one_cl, one_ul, cells_u4, cells_ul, len_cl, List.all_cons, List.all_nil, Bool.and_self, List.length_cons, List.length_nil]; done) | (simp only [len_cl]; omega) | (simp [Value.cells, Value.oneCell']; done))))
            | (refine kOps_bin (b := .or) (pre := ?_) (val := ?_) rfl rfl rfl rfl rfl ?_ ?_ ?_; rotate_left 2; (intro L; simp only [clg0, clg1, clg2, clg3, splice_cl, splice_one, len_cl, Nat.mod_eq_of_lt lb, Nat.mod_eq_of_lt lr4, Nat.mod_eq_of_lt ll, Nat.one_mul, Int.toNat_natCast, Int.reduceToNat, hb255, cmp_ge, tdiv64, tmod64, cl_get hm, ref_low, hquo, eql_u4 ty26 ty22, neq_u4 ty26 ty22, lit_ul0, lit_ul1, or_ul, binF_or, Int.reduceAdd, Int.reduceSub, Int.reduceMul, Int.reduceNeg, Int.sub_zero, Int.cast_ofNat_Int, ne_eq, Int.reduceLT, Int.reduceLE, Int.reduceEq, Nat.reduceMod, Nat.reduceLT, decide_true, decide_false, ty22]; (first | (rw [wrap_i64] <;> first | omega | rfl) | (rw [wrap_u8] <;> first | omega | rfl) | (rw [wrap_u16] <;> first | omega | rfl) | (rw [wrap_u32] <;> first | omega | rfl) | rfl)); exact trivial)
            | (refine kOps_store (cs' := ?_) rfl rfl rfl rfl rfl rfl rfl ty22 ?_ ?_ ?_; rotate_left 1; (simp only [clg0, clg1, clg2, clg3, splice_cl, splice_one, len_cl, Nat.mod_eq_of_lt lb, Nat.mod_eq_of_lt lr4, Nat.mod_eq_of_lt ll, Nat.one_mul, Int.toNat_natCast, Int.reduceToNat, hb255, cmp_ge, tdiv64, tmod64, cl_get hm, ref_low, hquo, lit_ul0, lit_ul1, cells_ul, cells_u4, isAggD, Bool.false_eq_true, if_false, if_true, reduceIte, take_cl, agg_cl, List.drop_zero, Int.toNat_zero, n_add_zero, Nat.mul_one, Nat.zero_add, Nat.reduceAdd, Nat.reduceMul, getD_bv, take_bytes, List.length_map, List.getD_cons_zero]; rfl); (focus (first | (simp only [lit_ul0, lit_ul1, cells_ul, cells_u4, List.length_cons, List.length_nil, len_cl, List.length_set, List.length_map, Nat.reduceAdd, Nat.zero_add, List.all_cons, List.all_nil, one_ul, one_cl, one_bv, PV.one, Value.oneCell', Bool.and_self, Nat.reduceLeDiff, Nat.le_refl, and_self, true_and, and_true]; done) | ((try simp only [lit_ul0, lit_ul1, cells_ul, cells_u4]); (focus ((repeat' apply And.intro) <;> first | exact True.intro | omega | (with_reducible rfl) | assumption | exact ⟨_, rfl⟩ | (simp only [one_cl, one_ul, cells_u4, cells_ul, len_cl, List.all_cons, List.all_nil, Bool.and_self, List.length_cons, List.length_nil]; done) | (simp only [len_cl]; omega) | (simp [Value.cells, Value.oneCell']; done)))))))
            | (refine kOps_bin (b := .quo) (pre := ?_) (val := ?_) rfl rfl rfl rfl rfl ?_ ?_ ?_; rotate_left 2; (intro L; simp only [clg0, clg1, clg2, clg3, splice_cl, splice_one, len_cl, Nat.mod_eq_of_lt lb, Nat.mod_eq_of_lt lr4, Nat.mod_eq_of_lt ll, Nat.one_mul, Int.toNat_natCast, Int.reduceToNat, hb255, cmp_ge, tdiv64, tmod64, cl_get hm, ref_low, hquo, eql_u4 ty26 ty22, neq_u4 ty26 ty22, lit_ul0, lit_ul1, binF_quo, Int.reduceAdd, Int.reduceSub, Int.reduceMul, Int.reduceNeg, Int.sub_zero, Int.cast_ofNat_Int, ne_eq, Int.reduceLT, Int.reduceLE, Int.reduceEq, Nat.reduceMod, Nat.reduceLT, decide_true, decide_false, ty3]; (first | (rw [wrap_i64] <;> first | omega | rfl) | (rw [wrap_u8] <;> first | omega | rfl) | (rw [wrap_u16] <;> first | omega | rfl) | (rw [wrap_u32] <;> first | omega | rfl) | rfl)); (focus ((repeat' apply And.intro) <;> first | exact True.intro | omega | (with_reducible rfl) | assumption | exact ⟨_, rfl⟩ | (simp only [one_cl, one_ul, cells_u4, cells_ul, len_cl, List.all_cons, List.all_nil, Bool.and_self, List.length_cons, List.length_nil]; done) | (simp only [len_cl]; omega) | (simp [Value.cells, Value.oneCell']; done))))
            | (refine kOps_bin (b := .rem) (pre := ?_) (val := ?_) rfl rfl rfl rfl rfl ?_ ?_ ?_; rotate_left 2; (intro L; simp only [clg0, clg1, clg2, clg3, splice_cl, splice_one, len_cl, Nat.mod_eq_of_lt lb, Nat.mod_eq_of_lt lr4, Nat.mod_eq_of_lt ll, Nat.one_mul, Int.toNat_natCast, Int.reduceToNat, hb255, cmp_ge, tdiv64, tmod64, cl_get hm, ref_low, hquo, eql_u4 ty26 ty22, neq_u4 ty26 ty22, lit_ul0, lit_ul1, binF_rem, Int.reduceAdd, Int.reduceSub, Int.reduceMul, Int.reduceNeg, Int.sub_zero, Int.cast_ofNat_Int, ne_eq, Int.reduceLT, Int.reduceLE, Int.reduceEq, Nat.reduceMod, Nat.reduceLT, decide_true, decide_false, ty3]; (first | (rw [wrap_i64] <;> first | omega | rfl) | (rw [wrap_u8] <;> first | omega | rfl) | (rw [wrap_u16] <;> first | omega | rfl) | (rw [wrap_u32] <;> first | omega | rfl) | rfl)); (focus ((repeat' apply And.intro) <;> first | exact True.intro | omega | (with_reducible rfl) | assumption | exact ⟨_, rfl⟩ | (simp only [one_cl, one_ul, cells_u4, cells_ul, len_cl, List.all_cons, List.all_nil, Bool.and_self, List.length_cons, List.length_nil]; done) | (simp only [len_cl]; omega) | (simp [Value.cells, Value.oneCell']; done))))
            | (refine kOps_bin (b := .shl) (pre := ?_) (val := ?_) rfl rfl rfl rfl rfl ?_ ?_ ?_; rotate_left 2; (intro L; simp only [clg0, clg1, clg2, clg3, splice_cl, splice_one, len_cl, Nat.mod_eq_of_lt lb, Nat.mod_eq_of_lt lr4, Nat.mod_eq_of_lt ll, Nat.one_mul, Int.toNat_natCast, Int.reduceToNat, hb255, cmp_ge, tdiv64, tmod64, cl_get hm, ref_low, hquo, eql_u4 ty26 ty22, neq_u4 ty26 ty22, lit_ul0, lit_ul1, shl_z, shl_ul, binF_shl, Int.reduceAdd, Int.reduceSub, Int.reduceMul, Int.reduceNeg, Int.sub_zero, Int.cast_ofNat_Int, ne_eq, Int.reduceLT, Int.reduceLE, Int.reduceEq, Nat.reduceMod, Nat.reduceLT, decide_true, decide_false, ty22]; (first | (rw [wrap_i64] <;> first | omega | rfl) | (rw [wrap_u8] <;> first | omega | rfl) | (rw [wrap_u16] <;> first | omega | rfl) | (rw [wrap_u32] <;> first | omega | rfl) | rfl)); (focus ((repeat' apply And.intro) <;> first | exact True.intro | omega | (with_reducible rfl) | assumption | exact ⟨_, rfl⟩ | (simp only [one_cl, one_ul, cells_u4, cells_ul, len_cl, List.all_cons, List.all_nil, Bool.and_self, List.length_cons, List.length_nil]; done) | (simp only [len_cl]; omega) | (simp [Value.cells, Value.oneCell']; done))))
            | (refine kOps_bin (b := .sub) (pre := ?_) (val := ?_) rfl rfl rfl rfl rfl ?_ ?_ ?_; rotate_left 2; (intro L; simp only [clg0, clg1, clg2, clg3, splice_cl, splice_one, len_cl, Nat.mod_eq_of_lt lb, Nat.mod_eq_of_lt lr4, Nat.mod_eq_of_lt ll, Nat.one_mul, Int.toNat_natCast, Int.reduceToNat, hb255, cmp_ge, tdiv64, tmod64, cl_get hm, ref_low, hquo, eql_u4 ty26 ty22, neq_u4 ty26 ty22, lit_ul0, lit_ul1, sub_ul, binF_sub, Int.reduceAdd, Int.reduceSub, Int.reduceMul, Int.reduceNeg, Int.sub_zero, Int.cast_ofNat_Int, ne_eq, Int.reduceLT, Int.reduceLE, Int.reduceEq, Nat.reduceMod, Nat.reduceLT, decide_true, decide_false, ty3]; (first | (rw [wrap_i64] <;> first | omega | rfl) | (rw [wrap_u8] <;> first | omega | rfl) | (rw [wrap_u16] <;> first | omega | rfl) | (rw [wrap_u32] <;> first | omega | rfl) | rfl)); exact trivial)
            | (refine vOps_gundef rfl rfl ?_ ?_; (focus (simp only [lookup_cons, Nat.reduceBEq, cond_true, cond_false]; done)); simp only [putIn])
            | (refine vOps_gpick (t := ?_) (val := ?_) rfl rfl ?_ rfl rfl ?_ ?_ ?_; rotate_left 2; (focus (simp only [lookup_cons, Nat.reduceBEq, cond_true, cond_false]; done)); (simp only [evalIn_tmp, evalIn_const, lookup_cons, Nat.reduceBEq, cond_true, cond_false]; rfl); (simp only [evalIn_tmp, evalIn_const, lookup_cons, Nat.reduceBEq, cond_true, cond_false]; rfl))
            | (refine vOps_pick (t := ?_) (val := ?_) rfl rfl rfl ?_ ?_ ?_; rotate_left 2; (simp only [evalIn_tmp, evalIn_const, lookup_cons, Nat.reduceBEq, cond_true, cond_false]; rfl); (simp only [evalIn_tmp, evalIn_const, lookup_cons, Nat.reduceBEq, cond_true, cond_false]; rfl))
            | (refine vOps_fork (b := ?_) rfl rfl ?_ ?_ ?_; rotate_left 1; (simp only [lookup_cons, Nat.reduceBEq, cond_true, cond_false]; rfl); all_goals (intro hb; simp only [hb]; (try simp only [decide_eq_true_eq, decide_eq_false_iff_not] at hb); try (exfalso; first | omega | exact hb trivial)))
            | (refine vOps_forkp (b := ?_) rfl ?_ ?_ ?_; rotate_left 1; (simp only [evalIn_tmp, lookup_cons, Nat.reduceBEq, cond_true, cond_false]; rfl); all_goals (intro hb; simp only [hb]; (try simp only [decide_eq_true_eq, decide_eq_false_iff_not] at hb); try (exfalso; first | omega | exact hb trivial))))
          all_goals first
            | (have hd : (l.testBit m).toNat = 1 := by rw [show l.testBit m = true by assumption]; rfl
               have hst := ref_step inv hd
               first
               | (have hc : b ≤ 2 * r + 1 := by omega
                  refine loopC_normal ⟨(m, q + 2 ^ m, 2 * r + 1 - b), by omega, hst.2 hc⟩ [0, 1, 2, 3, 4] (by show m < m + 1; omega) ?_
                  refine weak_mk (fun i h => absurd h (Nat.not_lt_zero i)) (by decide) (by simp) ?_ ?_
                  · simp only [RenRows, List.nil_append, List.cons_append, List.set_cons_zero, List.set_cons_succ, List.getElem?_cons_zero, List.getElem?_cons_succ, Option.some.injEq, LE.cells.injEq, closedL_bv, closedL_cl, and_true, true_and]
                    all_goals (exact cl4_congr (by omega))
                  · simp only [RenEnv, lookup_cons, Nat.reduceBEq, cond_true, cond_false]
                    (repeat' apply And.intro) <;> first | trivial | exact ren_keep rfl | exact ren_keep (closed_u4 _) | (refine ren_int ?_; omega) | (refine ren_own rfl ?_; first | rfl | omega | (simp; done) | (omega; done)) | (refine ren_int ?_; omega; done) | (refine ren_int ?_; simp; done) | (refine ren_keep ?_; simp only [closed, closedL_bv, closedL_rows, closedL_cl]; done) | (refine ren_ptr rfl; done))
               | (have hc : 2 * r + 1 < b := by omega
                  refine loopC_normal ⟨(m, q, 2 * r + 1), by omega, hst.1 hc⟩ [0, 1, 2, 3, 4] (by show m < m + 1; omega) ?_
                  refine weak_mk (fun i h => absurd h (Nat.not_lt_zero i)) (by decide) (by simp) ?_ ?_
                  · simp only [RenRows, List.nil_append, List.cons_append, List.set_cons_zero, List.set_cons_succ, List.getElem?_cons_zero, List.getElem?_cons_succ, Option.some.injEq, LE.cells.injEq, closedL_bv, closedL_cl, and_true, true_and]
                    all_goals (exact cl4_congr (by omega))
                  · simp only [RenEnv, lookup_cons, Nat.reduceBEq, cond_true, cond_false]
                    (repeat' apply And.intro) <;> first | trivial | exact ren_keep rfl | exact ren_keep (closed_u4 _) | (refine ren_int ?_; omega) | (refine ren_own rfl ?_; first | rfl | omega | (simp; done) | (omega; done)) | (refine ren_int ?_; omega; done) | (refine ren_int ?_; simp; done) | (refine ren_keep ?_; simp only [closed, closedL_bv, closedL_rows, closedL_cl]; done) | (refine ren_ptr rfl; done)))
            | (have hd : (l.testBit m).toNat = 0 := by rw [show l.testBit m = false by assumption]; rfl
               have hst := ref_step inv hd
               first
               | (have hc : b ≤ 2 * r + 0 := by omega
                  refine loopC_normal ⟨(m, q + 2 ^ m, 2 * r + 0 - b), by omega, hst.2 hc⟩ [0, 1, 2, 3, 4] (by show m < m + 1; omega) ?_
                  refine weak_mk (fun i h => absurd h (Nat.not_lt_zero i)) (by decide) (by simp) ?_ ?_
                  · simp only [RenRows, List.nil_append, List.cons_append, List.set_cons_zero, List.set_cons_succ, List.getElem?_cons_zero, List.getElem?_cons_succ, Option.some.injEq, LE.cells.injEq, closedL_bv, closedL_cl, and_true, true_and]
                    all_goals (exact cl4_congr (by omega))
                  · simp only [RenEnv, lookup_cons, Nat.reduceBEq, cond_true, cond_false]
                    (repeat' apply And.intro) <;> first | trivial | exact ren_keep rfl | exact ren_keep (closed_u4 _) | (refine ren_int ?_; omega) | (refine ren_own rfl ?_; first | rfl | omega | (simp; done) | (omega; done)) | (refine ren_int ?_; omega; done) | (refine ren_int ?_; simp; done) | (refine ren_keep ?_; simp only [closed, closedL_bv, closedL_rows, closedL_cl]; done) | (refine ren_ptr rfl; done))
               | (have hc : 2 * r + 0 < b := by omega
                  refine loopC_normal ⟨(m, q, 2 * r + 0), by omega, hst.1 hc⟩ [0, 1, 2, 3, 4] (by show m < m + 1; omega) ?_
                  refine weak_mk (fun i h => absurd h (Nat.not_lt_zero i)) (by decide) (by simp) ?_ ?_
                  · simp only [RenRows, List.nil_append, List.cons_append, List.set_cons_zero, List.set_cons_succ, List.getElem?_cons_zero, List.getElem?_cons_succ, Option.some.injEq, LE.cells.injEq, closedL_bv, closedL_cl, and_true, true_and]
                    all_goals (exact cl4_congr (by omega))
                  · simp only [RenEnv, lookup_cons, Nat.reduceBEq, cond_true, cond_false]
                    (repeat' apply And.intro) <;> first | trivial | exact ren_keep rfl | exact ren_keep (closed_u4 _) | (refine ren_int ?_; omega) | (refine ren_own rfl ?_; first | rfl | omega | (simp; done) | (omega; done)) | (refine ren_int ?_; omega; done) | (refine ren_int ?_; simp; done) | (refine ren_keep ?_; simp only [closed, closedL_bv, closedL_rows, closedL_cl]; done) | (refine ren_ptr rfl; done)))

  · exact hS.elim
end Go.Ab
