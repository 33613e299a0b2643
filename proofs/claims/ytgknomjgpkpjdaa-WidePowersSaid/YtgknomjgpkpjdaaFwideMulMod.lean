import Derived.Test.YtgknomjgpkpjdaaME
import Derived.Test.YtgknomjgpkpjdaaTY
import Derived.Test.YtgknomjgpkpjdaaFwideMul
import Derived.Test.YtgknomjgpkpjdaaFwidereduce
import Derived.Test.YtgknomjgpkpjdaaMG
namespace Go.Ab
open Go Go.Proofs
set_option linter.unusedVariables false
set_option linter.unusedSimpArgs false
set_option maxRecDepth 8000
set_option maxHeartbeats 4000000

noncomputable def B43 : Code := bodyOf Try.f43
theorem B43_eq : Try.f43.body = some B43 := by kernel_rfl
noncomputable def n43_0 : Code := B43
noncomputable def n43_1 : Code := codeAt B43 [0]
noncomputable def n43_2 : Code := codeAt B43 [1]
noncomputable def n43_3 : Code := codeAt B43 [1,0]
noncomputable def n43_4 : Code := codeAt B43 [1,1]
noncomputable def n43_5 : Code := codeAt B43 [1,1,0]
noncomputable def n43_6 : Code := codeAt B43 [1,1,1]
theorem e43_0 : n43_0 = .seq n43_1 n43_2 := rfl
noncomputable def r43_1 := opsAt n43_1
theorem e43_1 : n43_1 = .region 0 (r43_1).toArray false := rfl
theorem e43_2 : n43_2 = .seq n43_3 n43_4 := rfl
noncomputable def r43_3 := opsAt n43_3
theorem e43_3 : n43_3 = .region 1 (r43_3).toArray false := rfl
theorem e43_4 : n43_4 = .seq n43_5 n43_6 := rfl
noncomputable def r43_5 := opsAt n43_5
theorem e43_5 : n43_5 = .region 2 (r43_5).toArray false := rfl
theorem e43_6 : n43_6 = .ret := rfl
theorem f_wide_MulMod : PureOk Try.prog 43 sMulMod := by
  refine pureOk_of (c := n43_0) (Γ := conOf [(29, .pure sMul), (59, .pure sReduce)]) (conOf_ok (conOf_one (S := .pure sMul) f_wide_Mul (conOf_one (S := .pure sReduce) f_wide_reduce (conOf_end)))) mixed Try.func43 B43_eq (by decide +kernel) Try.call43 ?_
  intro args hS
  unfold sMulMod at hS ⊢
  split at hS
  · refine ⟨by rw [Try.ntmps43]; simp, vC_sound ?_⟩
    rename_i xa xb xm
    obtain ⟨ha, hb, hm⟩ := hS
    obtain ⟨a, la, rfl⟩ := isU_out ha
    obtain ⟨b, lb, rfl⟩ := isU_out hb
    obtain ⟨m, lm, rfl⟩ := isU_out hm
    simp only [uv_u4, Nat.mod_eq_of_lt la, Nat.mod_eq_of_lt lb, Nat.mod_eq_of_lt lm]
    clear ha hb hm
    simp only [entry_cons, entry_nil, Nat.reduceAdd]
    have hrm := rem0_mod lm
    repeat' (first
      | (with_reducible first | apply seqC_normal | apply seqC_ret)
      | ((with_reducible apply wC_seq e43_0; apply kC_less [0, 1, 2] (c := n43_1)); (exact rfl); (exact rfl); (with_reducible apply wC_region e43_1); refine vOps_open (l := _ :: _) rfl ?_)
      | ((with_reducible apply wC_seq e43_2; apply kC_less [3, 4, 5, 6] (c := n43_3)); (exact rfl); (exact rfl); (with_reducible apply wC_region e43_3); refine vOps_open (l := _ :: _) rfl ?_)
      | ((with_reducible apply wC_seq e43_4; apply kC_less [5, 6, 7, 8] (c := n43_5)); (exact rfl); (exact rfl); (with_reducible apply wC_region e43_5); refine vOps_open (l := _ :: _) rfl ?_)
      | ((with_reducible apply wC_ret e43_6))
      | ((with_reducible apply vOps_nil); try (with_reducible refine And.intro (by kernel_rfl) ?_))
      | (refine kOps_gon (g := ?_) (p := ?_) rfl rfl ?_ ?_ ?_ ?_; rotate_left 2; fail; (exact rfl); (with_reducible rfl))
      | (refine kOps_gofft (g := ?_) (p := ?_) rfl rfl ?_ ?_ ?_ ?_; rotate_left 2; fail; (exact rfl); (with_reducible rfl))
      | (refine kOps_gofff (g := ?_) (p := ?_) rfl rfl ?_ ?_ ?_ ?_; rotate_left 2; fail; (exact rfl); (with_reducible rfl))
      | (refine kOps_pickt rfl rfl rfl rfl ?_ rfl ?_; (with_reducible rfl))
      | (refine kOps_pickf rfl rfl rfl rfl ?_ rfl ?_; (with_reducible rfl))
      | (refine kOps_box (row := ?_) (n := ?_) rfl rfl rfl rfl rfl ?_ ?_ ?_ ?_; rotate_left 2; (simp only [↓List.length_append, ↓List.length_set, ↓List.length_cons, List.length_nil, Nat.reduceAdd, Nat.zero_add]; rfl); (simp only [clg0, clg1, clg2, clg3, splice_cl, splice_one, len_cl, Nat.mod_eq_of_lt la, Nat.mod_eq_of_lt lb, Nat.mod_eq_of_lt lm, hrm, Nat.mod_eq_of_lt (mul_hi la lb), if_true, if_false, n_zero_mul, n_zero_add, Nat.reduceMod, decide_true, decide_false, eq_self, Nat.zero_mod, Bool.not_true, Bool.not_false, cells_ul, cells_u4]; rfl); (focus (first | rfl | exact one_cl _ _ | exact one_bv _ | (simp only [one_cl, one_ul, List.all_cons, List.all_nil, Bool.and_self, PV.one]; done) | (simp [PV.one, one_ul, one_cl, one_bv, Value.oneCell']; done))))
      | (refine kOps_alloc (row := ?_) (n := ?_) rfl rfl rfl rfl ty26 ?_ ?_ ?_ ?_; rotate_left 2; (simp only [↓List.length_append, ↓List.length_set, ↓List.length_cons, List.length_nil, Nat.reduceAdd, Nat.zero_add]; rfl); (simp only [clg0, clg1, clg2, clg3, splice_cl, splice_one, len_cl, Nat.mod_eq_of_lt la, Nat.mod_eq_of_lt lb, Nat.mod_eq_of_lt lm, hrm, Nat.mod_eq_of_lt (mul_hi la lb), if_true, if_false, n_zero_mul, n_zero_add, Nat.reduceMod, decide_true, decide_false, eq_self, Nat.zero_mod, Bool.not_true, Bool.not_false, Value.cells, List.map_cons, List.map_nil, List.toList_toArray, zero_cl4, zero_cl8, lit_ul0]; rfl); (focus (first | (simp only [Value.cells, List.toList_toArray, List.forall_mem_cons, List.forall_mem_nil, Value.oneCell', and_self]; done) | (simp [Value.cells, Value.oneCell']; done))))
      | ((first | refine kOps_loadp (pre := ?_) (val := ?_) rfl rfl rfl rfl rfl ty26 ?_ ?_ ?_ | refine kOps_loadr (pre := ?_) (val := ?_) rfl rfl rfl rfl ty26 ?_ ?_ ?_); rotate_left 2; (simp only [clg0, clg1, clg2, clg3, splice_cl, splice_one, len_cl, Nat.mod_eq_of_lt la, Nat.mod_eq_of_lt lb, Nat.mod_eq_of_lt lm, hrm, Nat.mod_eq_of_lt (mul_hi la lb), if_true, if_false, n_zero_mul, n_zero_add, Nat.reduceMod, decide_true, decide_false, eq_self, Nat.zero_mod, Bool.not_true, Bool.not_false, partF, isAggD, Bool.false_eq_true, reduceIte, take_cl, agg_cl, List.drop_zero, Int.toNat_natCast, Int.reduceToNat, Int.toNat_zero, n_add_zero, Nat.mul_one, Nat.reduceAdd, Nat.reduceMul, getD_bv, take_bytes, List.length_map, List.getD_cons_zero]; rfl); (focus ((repeat' apply And.intro) <;> first | exact True.intro | omega | (with_reducible rfl) | assumption | exact ⟨_, rfl⟩ | (simp only [one_cl, one_ul, cells_u4, cells_ul, len_cl, List.all_cons, List.all_nil, Bool.and_self, List.length_cons, List.length_nil]; done) | (simp only [len_cl]; omega) | (simp [Value.cells, Value.oneCell']; done))))
      | (refine kOps_callc (pre := ?_) (val := ?_) rfl rfl rfl rfl rfl ?_ ?_ ?_ ?_ ?_; rotate_left 2; (simp only [clg0, clg1, clg2, clg3, splice_cl, splice_one, len_cl, Nat.mod_eq_of_lt la, Nat.mod_eq_of_lt lb, Nat.mod_eq_of_lt lm, hrm, Nat.mod_eq_of_lt (mul_hi la lb), if_true, if_false, n_zero_mul, n_zero_add, Nat.reduceMod, decide_true, decide_false, eq_self, Nat.zero_mod, Bool.not_true, Bool.not_false, sMul, sReduce, lit_ul0, lit_ul1, nrmC, List.map_cons, List.map_nil, nrm_ul, nrm_u4, nrm_nil, nrm_int, nrm_bool, nrm_string, nrm_ro, nrm_agg, nrm_rptr, isul_ul, ulv_ul, isU_u4, uv_u4, bytesOf_bv, isB_bv, true_and, and_true, and_self, n_add_zero, n_sub_zero]; rfl); (focus (first | rfl | (simp only [closed, closedL, closed_ul, closed_u4, closedL_bv, closedL_cl, Bool.and_self, Bool.and_true]; done))); (focus (first | rfl | (simp only [closed, closedL, closed_ul, closed_u4, closedL_bv, closedL_cl, Bool.and_self, Bool.and_true]; done))); (focus ((repeat' apply And.intro) <;> first | exact True.intro | omega | (with_reducible rfl) | assumption | exact ⟨_, rfl⟩ | (simp only [one_cl, one_ul, cells_u4, cells_ul, len_cl, List.all_cons, List.all_nil, Bool.and_self, List.length_cons, List.length_nil]; done) | (simp only [len_cl]; omega) | (simp [Value.cells, Value.oneCell']; done))))
      | (refine kOps_mv rfl rfl rfl rfl ?_)
      | (refine kOps_ext rfl rfl rfl rfl rfl ?_)
      | (refine kOps_store (cs' := ?_) rfl rfl rfl rfl rfl rfl rfl ty26 ?_ ?_ ?_; rotate_left 1; (simp only [clg0, clg1, clg2, clg3, splice_cl, splice_one, len_cl, Nat.mod_eq_of_lt la, Nat.mod_eq_of_lt lb, Nat.mod_eq_of_lt lm, hrm, Nat.mod_eq_of_lt (mul_hi la lb), if_true, if_false, n_zero_mul, n_zero_add, Nat.reduceMod, decide_true, decide_false, eq_self, Nat.zero_mod, Bool.not_true, Bool.not_false, lit_ul0, lit_ul1, cells_ul, cells_u4, isAggD, Bool.false_eq_true, reduceIte, take_cl, agg_cl, List.drop_zero, Int.toNat_natCast, Int.reduceToNat, Int.toNat_zero, n_add_zero, Nat.mul_one, Nat.reduceAdd, Nat.reduceMul, getD_bv, take_bytes, List.length_map, List.getD_cons_zero]; rfl); (focus (first | (simp only [lit_ul0, lit_ul1, cells_ul, cells_u4, List.length_cons, List.length_nil, len_cl, List.length_set, List.length_map, Nat.reduceAdd, Nat.zero_add, List.all_cons, List.all_nil, one_ul, one_cl, one_bv, PV.one, Value.oneCell', Bool.and_self, Nat.reduceLeDiff, Nat.le_refl, and_self, true_and, and_true]; done) | ((try simp only [lit_ul0, lit_ul1, cells_ul, cells_u4]); (focus ((repeat' apply And.intro) <;> first | exact True.intro | omega | (with_reducible rfl) | assumption | exact ⟨_, rfl⟩ | (simp only [one_cl, one_ul, cells_u4, cells_ul, len_cl, List.all_cons, List.all_nil, Bool.and_self, List.length_cons, List.length_nil]; done) | (simp only [len_cl]; omega) | (simp [Value.cells, Value.oneCell']; done)))))))
      | (refine vOps_gundef rfl rfl ?_ ?_; (focus (simp only [lookup_cons, Nat.reduceBEq, cond_true, cond_false]; done)); simp only [putIn])
      | (refine vOps_gpick (t := ?_) (val := ?_) rfl rfl ?_ rfl rfl ?_ ?_ ?_; rotate_left 2; (focus (simp only [lookup_cons, Nat.reduceBEq, cond_true, cond_false]; done)); (simp only [evalIn_tmp, evalIn_const, lookup_cons, Nat.reduceBEq, cond_true, cond_false]; rfl); (simp only [evalIn_tmp, evalIn_const, lookup_cons, Nat.reduceBEq, cond_true, cond_false]; rfl))
      | (refine vOps_pick (t := ?_) (val := ?_) rfl rfl rfl ?_ ?_ ?_; rotate_left 2; (simp only [evalIn_tmp, evalIn_const, lookup_cons, Nat.reduceBEq, cond_true, cond_false]; rfl); (simp only [evalIn_tmp, evalIn_const, lookup_cons, Nat.reduceBEq, cond_true, cond_false]; rfl))
      | (refine vOps_fork (b := ?_) rfl rfl ?_ ?_ ?_; rotate_left 1; (simp only [lookup_cons, Nat.reduceBEq, cond_true, cond_false]; rfl); all_goals (intro hb; simp only [hb]; (try simp only [decide_eq_true_eq, decide_eq_false_iff_not] at hb); try (exfalso; first | omega | exact hb trivial)))
      | (refine vOps_forkp (b := ?_) rfl ?_ ?_ ?_; rotate_left 1; (simp only [evalIn_tmp, lookup_cons, Nat.reduceBEq, cond_true, cond_false]; rfl); all_goals (intro hb; simp only [hb]; (try simp only [decide_eq_true_eq, decide_eq_false_iff_not] at hb); try (exfalso; first | omega | exact hb trivial))))
    all_goals (
      refine fin_c (p := ?_) (xs := [.cell 6 26]) (by simp) rfl ?_ ?_ ?_ ?_
      rotate_left 2
      · simp only [resAll_cons, resAll_nil, resPVl_0, resPVl_1, resPVl_2, resOne_tmp, resOne_cell, List.map_cons, List.map_nil, clg0, clg1, clg2, clg3, splice_cl, splice_one, len_cl, Nat.mod_eq_of_lt la, Nat.mod_eq_of_lt lb, Nat.mod_eq_of_lt lm, hrm, Nat.mod_eq_of_lt (mul_hi la lb), if_true, if_false, n_zero_mul, n_zero_add, Nat.reduceMod, decide_true, decide_false, eq_self, Nat.zero_mod, Bool.not_true, Bool.not_false, evalIn_tmp, evalIn_const, evalIn_func, lookup_cons, Nat.reduceBEq, cond_true, cond_false, lit_ul0, lit_ul1, loadF, partF, List.getElem?_cons_zero, List.getElem?_cons_succ, List.set_cons_zero, List.set_cons_succ, List.cons_append, List.nil_append, true_and, and_true, and_self, Nat.le_refl, Nat.reduceLeDiff, isAggD, Bool.false_eq_true, reduceIte, take_cl, agg_cl, List.drop_zero, Int.toNat_natCast, Int.reduceToNat, Int.toNat_zero, n_add_zero, Nat.mul_one, Nat.zero_add, Nat.reduceAdd, Nat.reduceMul, getD_bv, take_bytes, List.length_map, List.getD_cons_zero, ty22, ty26]; try rfl
      · first | rfl | (simp only [closed, closedL, closed_u4, closed_ul, closedL_cl, closedL_bv, Bool.and_self, Bool.and_true]; done) | (simp only [closed, closedL, closed_u4, closed_ul, closedL_cl, closedL_bv, Bool.and_self, Bool.and_true]; rfl)
      · exact congrArg (fun z => u4 (rem0 z m)) (by omega)
      · simp only [resAll_cons, resAll_nil, resPVl_0, resPVl_1, resPVl_2, resOne_tmp, resOne_cell, List.map_cons, List.map_nil, clg0, clg1, clg2, clg3, splice_cl, splice_one, len_cl, Nat.mod_eq_of_lt la, Nat.mod_eq_of_lt lb, Nat.mod_eq_of_lt lm, hrm, Nat.mod_eq_of_lt (mul_hi la lb), if_true, if_false, n_zero_mul, n_zero_add, Nat.reduceMod, decide_true, decide_false, eq_self, Nat.zero_mod, Bool.not_true, Bool.not_false, evalIn_tmp, evalIn_const, evalIn_func, lookup_cons, Nat.reduceBEq, cond_true, cond_false, lit_ul0, lit_ul1, loadF, partF, List.getElem?_cons_zero, List.getElem?_cons_succ, List.set_cons_zero, List.set_cons_succ, List.cons_append, List.nil_append, true_and, and_true, and_self, Nat.le_refl, Nat.reduceLeDiff, isAggD, Bool.false_eq_true, reduceIte, take_cl, agg_cl, List.drop_zero, Int.toNat_natCast, Int.reduceToNat, Int.toNat_zero, n_add_zero, Nat.mul_one, Nat.zero_add, Nat.reduceAdd, Nat.reduceMul, getD_bv, take_bytes, List.length_map, List.getD_cons_zero, ty22, ty26]; try trivial)
  · exact hS.elim
end Go.Ab
