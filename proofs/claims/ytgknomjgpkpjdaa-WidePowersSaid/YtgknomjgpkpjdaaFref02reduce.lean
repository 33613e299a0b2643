import Derived.Test.YtgknomjgpkpjdaaME
import Derived.Test.YtgknomjgpkpjdaaTY
import Derived.Test.YtgknomjgpkpjdaaFref02Div
import Derived.Test.YtgknomjgpkpjdaaMG
namespace Go.Ab
open Go Go.Proofs
set_option linter.unusedVariables false
set_option linter.unusedSimpArgs false
set_option maxRecDepth 8000
set_option maxHeartbeats 4000000

noncomputable def B61 : Code := bodyOf Try.f61
theorem B61_eq : Try.f61.body = some B61 := by kernel_rfl
noncomputable def n61_0 : Code := B61
noncomputable def n61_1 : Code := codeAt B61 [0]
noncomputable def n61_2 : Code := codeAt B61 [1]
noncomputable def n61_3 : Code := codeAt B61 [1,0]
noncomputable def n61_4 : Code := codeAt B61 [1,1]
noncomputable def n61_5 : Code := codeAt B61 [1,1,0]
noncomputable def n61_6 : Code := codeAt B61 [1,1,1]
theorem e61_0 : n61_0 = .seq n61_1 n61_2 := rfl
noncomputable def r61_1 := opsAt n61_1
theorem e61_1 : n61_1 = .region 0 (r61_1).toArray false := rfl
theorem e61_2 : n61_2 = .seq n61_3 n61_4 := rfl
noncomputable def r61_3 := opsAt n61_3
theorem e61_3 : n61_3 = .region 1 (r61_3).toArray false := rfl
theorem e61_4 : n61_4 = .seq n61_5 n61_6 := rfl
noncomputable def r61_5 := opsAt n61_5
theorem e61_5 : n61_5 = .region 2 (r61_5).toArray false := rfl
theorem e61_6 : n61_6 = .ret := rfl
theorem f_ref02_reduce : PureOk Try.prog 61 sReduce2 := by
  refine pureOk_of (c := n61_0) (Γ := conOf [(34, .pure sDiv)]) (conOf_ok (conOf_one (S := .pure sDiv) f_ref02_Div (conOf_end))) mixed Try.func61 B61_eq (by decide +kernel) Try.call61 ?_
  intro args hS
  unfold sReduce2 at hS ⊢
  split at hS
  · refine ⟨by rw [Try.ntmps61]; simp, vC_sound ?_⟩
    rename_i xa xm
    obtain ⟨ha, hb, hm⟩ := hS
    obtain ⟨a, la, rfl⟩ := isU_out ha
    obtain ⟨m, lm, rfl⟩ := isU_out hb
    simp only [uv_u4, Nat.mod_eq_of_lt la, Nat.mod_eq_of_lt lm] at hm ⊢
    clear ha hb
    simp only [entry_cons, entry_nil, Nat.reduceAdd]
    have c2 : (m ≤ 0) = False := eq_false (by omega)
    repeat' (first
      | (with_reducible first | apply seqC_normal | apply seqC_ret)
      | ((with_reducible apply wC_seq e61_0; apply wC_region e61_1); refine vOps_open (l := _ :: _) rfl ?_)
      | ((with_reducible apply wC_seq e61_2; apply kC_less [2, 3, 4] (c := n61_3)); (exact rfl); (exact rfl); (with_reducible apply wC_region e61_3); refine vOps_open (l := _ :: _) rfl ?_)
      | ((with_reducible apply wC_seq e61_4; apply wC_region e61_5); refine vOps_open (l := _ :: _) rfl ?_)
      | ((with_reducible apply wC_ret e61_6))
      | ((with_reducible apply vOps_nil); try (with_reducible refine And.intro (by kernel_rfl) ?_))
      | (refine kOps_gon (g := ?_) (p := ?_) rfl rfl ?_ ?_ ?_ ?_; rotate_left 2; fail; (exact rfl); (with_reducible rfl))
      | (refine kOps_gofft (g := ?_) (p := ?_) rfl rfl ?_ ?_ ?_ ?_; rotate_left 2; fail; (exact rfl); (with_reducible rfl))
      | (refine kOps_gofff (g := ?_) (p := ?_) rfl rfl ?_ ?_ ?_ ?_; rotate_left 2; fail; (exact rfl); (with_reducible rfl))
      | (refine kOps_pickt rfl rfl rfl rfl ?_ rfl ?_; (with_reducible rfl))
      | (refine kOps_pickf rfl rfl rfl rfl ?_ rfl ?_; (with_reducible rfl))
      | (refine kOps_box (row := ?_) (n := ?_) rfl rfl rfl rfl rfl ?_ ?_ ?_ ?_; rotate_left 2; (simp only [↓List.length_append, ↓List.length_set, ↓List.length_cons, List.length_nil, Nat.reduceAdd, Nat.zero_add]; rfl); (simp only [clg0, clg1, clg2, clg3, splice_cl, splice_one, len_cl, Nat.mod_eq_of_lt la, Nat.mod_eq_of_lt lm, c2, if_true, if_false, n_zero_mul, n_zero_add, Nat.reduceMod, decide_true, decide_false, eq_self, Nat.zero_mod, Bool.not_true, Bool.not_false, cells_ul, cells_u4]; rfl); (focus (first | rfl | exact one_cl _ _ | exact one_bv _ | (simp only [one_cl, one_ul, List.all_cons, List.all_nil, Bool.and_self, PV.one]; done) | (simp [PV.one, one_ul, one_cl, one_bv, Value.oneCell']; done))))
      | (refine kOps_alloc (row := ?_) (n := ?_) rfl rfl rfl rfl ty26 ?_ ?_ ?_ ?_; rotate_left 2; (simp only [↓List.length_append, ↓List.length_set, ↓List.length_cons, List.length_nil, Nat.reduceAdd, Nat.zero_add]; rfl); (simp only [clg0, clg1, clg2, clg3, splice_cl, splice_one, len_cl, Nat.mod_eq_of_lt la, Nat.mod_eq_of_lt lm, c2, if_true, if_false, n_zero_mul, n_zero_add, Nat.reduceMod, decide_true, decide_false, eq_self, Nat.zero_mod, Bool.not_true, Bool.not_false, Value.cells, List.map_cons, List.map_nil, List.toList_toArray, zero_cl4, zero_cl8, lit_ul0]; rfl); (focus (first | (simp only [Value.cells, List.toList_toArray, List.forall_mem_cons, List.forall_mem_nil, Value.oneCell', and_self]; done) | (simp [Value.cells, Value.oneCell']; done))))
      | (refine kOps_build (pre := ?_) (val := ?_) rfl rfl rfl rfl ?_ ?_ ?_; rotate_left 2; (intro L; simp only [clg0, clg1, clg2, clg3, splice_cl, splice_one, len_cl, Nat.mod_eq_of_lt la, Nat.mod_eq_of_lt lm, c2, if_true, if_false, n_zero_mul, n_zero_add, Nat.reduceMod, decide_true, decide_false, eq_self, Nat.zero_mod, Bool.not_true, Bool.not_false, buildF, fillB, zeroCells, Value.cells, List.map_cons, List.map_nil, List.toList_toArray, zero_cl4, lit_ul0, cells_ul, cells_u4, Int.cast_ofNat_Int, Nat.min_self, List.drop_succ_cons, Int.reduceSub, List.getElem?_cons_zero, List.getElem?_cons_succ, List.getD_cons_zero, List.getD_cons_succ, List.getD_nil, List.drop_zero, List.take_succ_cons, List.take_zero, List.take_nil, List.length_cons, List.length_nil, List.set_cons_zero, List.set_cons_succ, n_add_zero, Nat.mul_one, Nat.one_mul, Nat.reduceAdd, Nat.reduceMul, Nat.reduceSub, Nat.reduceLeDiff, Nat.reduceEqDiff, Int.toNat_natCast, Int.reduceToNat, Int.toNat_zero, reduceIte, Bool.false_eq_true, isAggD, take_cl, agg_cl, getD_bv, take_bytes, List.length_map, List.cons_append, List.nil_append, true_and, and_true, and_self, ty26, ty22]; rfl); (focus ((repeat' apply And.intro) <;> first | exact True.intro | omega | (with_reducible rfl) | assumption | exact ⟨_, rfl⟩ | (simp only [one_cl, one_ul, cells_u4, cells_ul, len_cl, List.all_cons, List.all_nil, Bool.and_self, List.length_cons, List.length_nil]; done) | (simp only [len_cl]; omega) | (simp [Value.cells, Value.oneCell']; done))))
      | ((first | refine kOps_loadp (pre := ?_) (val := ?_) rfl rfl rfl rfl rfl ty26 ?_ ?_ ?_ | refine kOps_loadr (pre := ?_) (val := ?_) rfl rfl rfl rfl ty26 ?_ ?_ ?_); rotate_left 2; (simp only [clg0, clg1, clg2, clg3, splice_cl, splice_one, len_cl, Nat.mod_eq_of_lt la, Nat.mod_eq_of_lt lm, c2, if_true, if_false, n_zero_mul, n_zero_add, Nat.reduceMod, decide_true, decide_false, eq_self, Nat.zero_mod, Bool.not_true, Bool.not_false, partF, isAggD, Bool.false_eq_true, reduceIte, take_cl, agg_cl, List.drop_zero, Int.toNat_natCast, Int.reduceToNat, Int.toNat_zero, n_add_zero, Nat.mul_one, Nat.reduceAdd, Nat.reduceMul, getD_bv, take_bytes, List.length_map, List.getD_cons_zero]; rfl); (focus ((repeat' apply And.intro) <;> first | exact True.intro | omega | (with_reducible rfl) | assumption | exact ⟨_, rfl⟩ | (simp only [one_cl, one_ul, cells_u4, cells_ul, len_cl, List.all_cons, List.all_nil, Bool.and_self, List.length_cons, List.length_nil]; done) | (simp only [len_cl]; omega) | (simp [Value.cells, Value.oneCell']; done))))
      | (refine kOps_callc (pre := ?_) (val := ?_) rfl rfl rfl rfl rfl ?_ ?_ ?_ ?_ ?_; rotate_left 2; (simp only [clg0, clg1, clg2, clg3, splice_cl, splice_one, len_cl, Nat.mod_eq_of_lt la, Nat.mod_eq_of_lt lm, c2, if_true, if_false, n_zero_mul, n_zero_add, Nat.reduceMod, decide_true, decide_false, eq_self, Nat.zero_mod, Bool.not_true, Bool.not_false, sDiv, lit_ul0, lit_ul1, nrmC, List.map_cons, List.map_nil, nrm_ul, nrm_u4, nrm_nil, nrm_int, nrm_bool, nrm_string, nrm_ro, nrm_agg, nrm_rptr, isul_ul, ulv_ul, isU_u4, uv_u4, bytesOf_bv, isB_bv, true_and, and_true, and_self, n_add_zero, n_sub_zero]; rfl); (focus (first | rfl | (simp only [closed, closedL, closed_ul, closed_u4, closedL_bv, closedL_cl, Bool.and_self, Bool.and_true]; done))); (focus (first | rfl | (simp only [closed, closedL, closed_ul, closed_u4, closedL_bv, closedL_cl, Bool.and_self, Bool.and_true]; done))); (focus ((repeat' apply And.intro) <;> first | exact True.intro | omega | (with_reducible rfl) | assumption | exact ⟨_, rfl⟩ | (simp only [one_cl, one_ul, cells_u4, cells_ul, len_cl, List.all_cons, List.all_nil, Bool.and_self, List.length_cons, List.length_nil]; done) | (simp only [len_cl]; omega) | (simp [Value.cells, Value.oneCell']; done))))
      | (refine kOps_mv rfl rfl rfl rfl ?_)
      | (refine kOps_ext rfl rfl rfl rfl rfl ?_)
      | (refine kOps_store (cs' := ?_) rfl rfl rfl rfl rfl rfl rfl ty26 ?_ ?_ ?_; rotate_left 1; (simp only [clg0, clg1, clg2, clg3, splice_cl, splice_one, len_cl, Nat.mod_eq_of_lt la, Nat.mod_eq_of_lt lm, c2, if_true, if_false, n_zero_mul, n_zero_add, Nat.reduceMod, decide_true, decide_false, eq_self, Nat.zero_mod, Bool.not_true, Bool.not_false, lit_ul0, lit_ul1, cells_ul, cells_u4, isAggD, Bool.false_eq_true, reduceIte, take_cl, agg_cl, List.drop_zero, Int.toNat_natCast, Int.reduceToNat, Int.toNat_zero, n_add_zero, Nat.mul_one, Nat.reduceAdd, Nat.reduceMul, getD_bv, take_bytes, List.length_map, List.getD_cons_zero]; rfl); (focus (first | (simp only [lit_ul0, lit_ul1, cells_ul, cells_u4, List.length_cons, List.length_nil, len_cl, List.length_set, List.length_map, Nat.reduceAdd, Nat.zero_add, List.all_cons, List.all_nil, one_ul, one_cl, one_bv, PV.one, Value.oneCell', Bool.and_self, Nat.reduceLeDiff, Nat.le_refl, and_self, true_and, and_true]; done) | ((try simp only [lit_ul0, lit_ul1, cells_ul, cells_u4]); (focus ((repeat' apply And.intro) <;> first | exact True.intro | omega | (with_reducible rfl) | assumption | exact ⟨_, rfl⟩ | (simp only [one_cl, one_ul, cells_u4, cells_ul, len_cl, List.all_cons, List.all_nil, Bool.and_self, List.length_cons, List.length_nil]; done) | (simp only [len_cl]; omega) | (simp [Value.cells, Value.oneCell']; done)))))))
      | (refine kOps_as rfl rfl rfl rfl ?_)
      | (refine vOps_gundef rfl rfl ?_ ?_; (focus (simp only [lookup_cons, Nat.reduceBEq, cond_true, cond_false]; done)); simp only [putIn])
      | (refine vOps_gpick (t := ?_) (val := ?_) rfl rfl ?_ rfl rfl ?_ ?_ ?_; rotate_left 2; (focus (simp only [lookup_cons, Nat.reduceBEq, cond_true, cond_false]; done)); (simp only [evalIn_tmp, evalIn_const, lookup_cons, Nat.reduceBEq, cond_true, cond_false]; rfl); (simp only [evalIn_tmp, evalIn_const, lookup_cons, Nat.reduceBEq, cond_true, cond_false]; rfl))
      | (refine vOps_pick (t := ?_) (val := ?_) rfl rfl rfl ?_ ?_ ?_; rotate_left 2; (simp only [evalIn_tmp, evalIn_const, lookup_cons, Nat.reduceBEq, cond_true, cond_false]; rfl); (simp only [evalIn_tmp, evalIn_const, lookup_cons, Nat.reduceBEq, cond_true, cond_false]; rfl))
      | (refine vOps_fork (b := ?_) rfl rfl ?_ ?_ ?_; rotate_left 1; (simp only [lookup_cons, Nat.reduceBEq, cond_true, cond_false]; rfl); all_goals (intro hb; simp only [hb]; (try simp only [decide_eq_true_eq, decide_eq_false_iff_not] at hb); try (exfalso; first | omega | exact hb trivial)))
      | (refine vOps_forkp (b := ?_) rfl ?_ ?_ ?_; rotate_left 1; (simp only [evalIn_tmp, lookup_cons, Nat.reduceBEq, cond_true, cond_false]; rfl); all_goals (intro hb; simp only [hb]; (try simp only [decide_eq_true_eq, decide_eq_false_iff_not] at hb); try (exfalso; first | omega | exact hb trivial))))
    all_goals (
      refine fin_c (p := ?_) (xs := [.cell 4 26]) (by simp) rfl ?_ ?_ ?_ ?_
      rotate_left 2
      · simp only [resAll_cons, resAll_nil, resPVl_0, resPVl_1, resPVl_2, resOne_tmp, resOne_cell, List.map_cons, List.map_nil, clg0, clg1, clg2, clg3, splice_cl, splice_one, len_cl, Nat.mod_eq_of_lt la, Nat.mod_eq_of_lt lm, c2, if_true, if_false, n_zero_mul, n_zero_add, Nat.reduceMod, decide_true, decide_false, eq_self, Nat.zero_mod, Bool.not_true, Bool.not_false, evalIn_tmp, evalIn_const, evalIn_func, lookup_cons, Nat.reduceBEq, cond_true, cond_false, lit_ul0, lit_ul1, loadF, partF, List.getElem?_cons_zero, List.getElem?_cons_succ, List.set_cons_zero, List.set_cons_succ, List.cons_append, List.nil_append, true_and, and_true, and_self, Nat.le_refl, Nat.reduceLeDiff, isAggD, Bool.false_eq_true, reduceIte, take_cl, agg_cl, List.drop_zero, Int.toNat_natCast, Int.reduceToNat, Int.toNat_zero, n_add_zero, Nat.mul_one, Nat.zero_add, Nat.reduceAdd, Nat.reduceMul, getD_bv, take_bytes, List.length_map, List.getD_cons_zero, ty22, ty26]; try rfl
      · first | rfl | (simp only [closed, closedL, closed_u4, closed_ul, closedL_cl, closedL_bv, Bool.and_self, Bool.and_true]; done) | (simp only [closed, closedL, closed_u4, closed_ul, closedL_cl, closedL_bv, Bool.and_self, Bool.and_true]; rfl)
      · rfl
      · simp only [resAll_cons, resAll_nil, resPVl_0, resPVl_1, resPVl_2, resOne_tmp, resOne_cell, List.map_cons, List.map_nil, clg0, clg1, clg2, clg3, splice_cl, splice_one, len_cl, Nat.mod_eq_of_lt la, Nat.mod_eq_of_lt lm, c2, if_true, if_false, n_zero_mul, n_zero_add, Nat.reduceMod, decide_true, decide_false, eq_self, Nat.zero_mod, Bool.not_true, Bool.not_false, evalIn_tmp, evalIn_const, evalIn_func, lookup_cons, Nat.reduceBEq, cond_true, cond_false, lit_ul0, lit_ul1, loadF, partF, List.getElem?_cons_zero, List.getElem?_cons_succ, List.set_cons_zero, List.set_cons_succ, List.cons_append, List.nil_append, true_and, and_true, and_self, Nat.le_refl, Nat.reduceLeDiff, isAggD, Bool.false_eq_true, reduceIte, take_cl, agg_cl, List.drop_zero, Int.toNat_natCast, Int.reduceToNat, Int.toNat_zero, n_add_zero, Nat.mul_one, Nat.zero_add, Nat.reduceAdd, Nat.reduceMul, getD_bv, take_bytes, List.length_map, List.getD_cons_zero, ty22, ty26]; try trivial)
  · exact hS.elim
end Go.Ab
