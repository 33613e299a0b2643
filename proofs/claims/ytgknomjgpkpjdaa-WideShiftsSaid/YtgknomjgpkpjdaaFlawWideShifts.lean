import Derived.Test.YtgknomjgpkpjdaaME
import Derived.Test.YtgknomjgpkpjdaaTY
import Derived.Test.YtgknomjgpkpjdaaFlawsane
import Derived.Test.YtgknomjgpkpjdaaFwideShl
import Derived.Test.YtgknomjgpkpjdaaFref02Shl
import Derived.Test.YtgknomjgpkpjdaaFwideShr
import Derived.Test.YtgknomjgpkpjdaaFref02Shr
import Derived.Test.YtgknomjgpkpjdaaMH
namespace Go.Ab
open Go Go.Proofs
set_option linter.unusedVariables false
set_option linter.unusedSimpArgs false
set_option maxRecDepth 8000
set_option maxHeartbeats 4000000

noncomputable def B6 : Code := bodyOf Try.f6
theorem B6_eq : Try.f6.body = some B6 := by kernel_rfl
noncomputable def n6_0 : Code := B6
noncomputable def n6_1 : Code := codeAt B6 [0]
noncomputable def n6_2 : Code := codeAt B6 [1]
noncomputable def n6_3 : Code := codeAt B6 [1, 0]
noncomputable def n6_4 : Code := codeAt B6 [1, 1]
theorem e6_0 : n6_0 = .seq n6_1 n6_2 := rfl
noncomputable def r6_1 : List Oper := opsAt n6_1
theorem e6_1 : n6_1 = .region 0 (r6_1).toArray false := rfl
theorem e6_2 : n6_2 = .seq n6_3 n6_4 := rfl
noncomputable def r6_3 : List Oper := opsAt n6_3
theorem e6_3 : n6_3 = .region 1 (r6_3).toArray true := rfl
theorem a6_3 : anyOk r6_3 = true := by decide +kernel
theorem g6_3_1 : (r6_3[1]?).bind (·.dst) = some 6 := by decide +kernel
theorem g6_3_10 : (r6_3[10]?).bind (·.dst) = some 15 := by decide +kernel
theorem e6_4 : n6_4 = .ret := rfl
theorem f_law_WideShifts : PureOk Try.prog 6 sLSh := by
  refine pureOk_of (c := n6_0) (Γ := conOf [(14, .pure sSane), (35, .pure sShl), (36, .pure sShl), (37, .pure sShr), (38, .pure sShr)]) (conOf_ok (conOf_one (S := .pure sSane) f_law_sane (conOf_one (S := .pure sShl) f_wide_Shl (conOf_one (S := .pure sShl) f_ref02_Shl (conOf_one (S := .pure sShr) f_wide_Shr (conOf_one (S := .pure sShr) f_ref02_Shr (conOf_end))))))) mixed Try.func6 B6_eq (by decide +kernel) Try.call6 ?_
  intro args hS
  unfold sLSh at hS ⊢
  split at hS
  · refine ⟨by rw [Try.ntmps6]; simp, vC_sound ?_⟩
    rename_i xa n
    obtain ⟨ha, hn0, hn1⟩ := hS
    obtain ⟨a, la, rfl⟩ := isU_out ha
    simp only [uv_u4, Nat.mod_eq_of_lt la]
    clear ha

    simp only [entry_cons, entry_nil, Nat.reduceAdd]
    repeat' (first
      | (with_reducible apply seqC_normal)
      | (with_reducible apply seqC_ret)
      | ((with_reducible apply wC_seq e6_0); (with_reducible apply wC_region e6_1); refine vOps_open (l := _ :: _) rfl ?_; refine kOps_box (row := ?_) (n := ?_) rfl rfl rfl rfl rfl ?_ ?_ ?_ ?_; rotate_left 2; (simp only [↓List.length_append, ↓List.length_set, ↓List.length_cons, List.length_nil, Nat.reduceAdd, Nat.zero_add]; rfl); (simp only [clg0, clg1, clg2, clg3, splice_cl, splice_one, len_cl, Nat.reduceMod, Nat.reduceAdd, Nat.reduceSub, Nat.reduceMul, Nat.reduceDiv, Nat.reduceLT, Nat.reduceLeDiff, Nat.reduceEqDiff, decide_true, decide_false, eq_self, if_false, if_true, reduceIte, Nat.zero_mod, Bool.not_true, Bool.not_false, binF_beql, binF_bneq, beq_self_eq_true, Option.map_some, cells_ul, cells_u4]; rfl); (focus (first | rfl | exact one_cl _ _ | exact one_bv _ | (simp only [one_cl, one_ul, List.all_cons, List.all_nil, Bool.and_self, PV.one]; done) | (simp [PV.one, one_ul, one_cl, one_bv, Value.oneCell']; done))); refine kOps_as rfl rfl rfl rfl ?_; refine vOps_nil ?_; (with_reducible apply seqC_normal); (with_reducible apply wC_seq e6_2); (with_reducible apply kC_less [1, 2] (c := n6_3)); (exact rfl); (exact rfl); (with_reducible apply wC_any e6_3 a6_3); refine vOps_open (l := _ :: _) rfl ?_)
      | ((with_reducible apply wC_ret e6_4))
      | ((with_reducible apply vOps_nil); try (with_reducible refine And.intro (by kernel_rfl) ?_))
      | (refine kOps_gon (g := ?_) (p := ?_) rfl rfl ?_ ?_ ?_ ?_; rotate_left 2; (with_reducible first | exact g6_3_1 | exact g6_3_10); (exact rfl); (with_reducible rfl))
      | (refine kOps_gofft (g := ?_) (p := ?_) rfl rfl ?_ ?_ ?_ ?_; rotate_left 2; (with_reducible first | exact g6_3_1 | exact g6_3_10); (exact rfl); (with_reducible rfl))
      | (refine kOps_gofff (g := ?_) (p := ?_) rfl rfl ?_ ?_ ?_ ?_; rotate_left 2; (with_reducible first | exact g6_3_1 | exact g6_3_10); (exact rfl); (with_reducible rfl))
      | (refine kOps_pickt rfl rfl rfl rfl ?_ rfl ?_; (with_reducible rfl))
      | (refine kOps_pickf rfl rfl rfl rfl ?_ rfl ?_; (with_reducible rfl))
      | (refine kOps_callc (pre := ?_) (val := ?_) rfl rfl rfl rfl rfl ?_ ?_ ?_ ?_ ?_; rotate_left 2; (simp only [clg0, clg1, clg2, clg3, splice_cl, splice_one, len_cl, Nat.reduceMod, Nat.reduceAdd, Nat.reduceSub, Nat.reduceMul, Nat.reduceDiv, Nat.reduceLT, Nat.reduceLeDiff, Nat.reduceEqDiff, decide_true, decide_false, eq_self, if_false, if_true, reduceIte, Nat.zero_mod, Bool.not_true, Bool.not_false, binF_beql, binF_bneq, beq_self_eq_true, Option.map_some, sSane, sShl, sShr, nrmC, List.map_cons, List.map_nil, nrm_ul, nrm_u4, nrm_nil, nrm_int, nrm_bool, nrm_string, nrm_ro, nrm_agg, nrm_rptr, isul_ul, ulv_ul, isU_u4, uv_u4, bytesOf_bv, isB_bv, true_and, and_true, and_self, n_add_zero, Nat.zero_add, n_sub_zero]; rfl); (focus (first | rfl | (simp only [closed, closedL, closed_ul, closed_u4, closedL_bv, closedL_cl, Bool.and_self, Bool.and_true]; done))); (focus (first | rfl | (simp only [closed, closedL, closed_ul, closed_u4, closedL_bv, closedL_cl, Bool.and_self, Bool.and_true]; done))); (focus ((repeat' apply And.intro) <;> first | exact True.intro | omega | (with_reducible rfl) | assumption | exact ⟨_, rfl⟩ | (simp only [one_cl, one_ul, cells_u4, cells_ul, len_cl, List.all_cons, List.all_nil, Bool.and_self, List.forall_mem_cons, List.forall_mem_nil, Value.oneCell', and_self, closed_ul, closed_u4, List.length_cons, List.length_nil]; done) | exact (isByte_bv _).2 trivial | exact one_bv _ | (simp [Value.oneCell', PV.one, one_bv, closedL_bv, flatL_bv, closedL, closed, isByte_bv, Value.cells, PV.cells, cells_u4, cells_ul, one_ul, one_cl, len_cl]; first | done | omega))))
      | (refine kOps_mv rfl rfl rfl rfl ?_)
      | ((first | refine kOps_loadp (pre := ?_) (val := ?_) rfl rfl rfl rfl rfl ty26 ?_ ?_ ?_ | refine kOps_loadr (pre := ?_) (val := ?_) rfl rfl rfl rfl ty26 ?_ ?_ ?_); rotate_left 2; (simp only [clg0, clg1, clg2, clg3, splice_cl, splice_one, len_cl, Nat.reduceMod, Nat.reduceAdd, Nat.reduceSub, Nat.reduceMul, Nat.reduceDiv, Nat.reduceLT, Nat.reduceLeDiff, Nat.reduceEqDiff, decide_true, decide_false, eq_self, if_false, if_true, reduceIte, Nat.zero_mod, Bool.not_true, Bool.not_false, binF_beql, binF_bneq, beq_self_eq_true, Option.map_some, partF, isAggD, Bool.false_eq_true, take_cl, agg_cl, List.drop_zero, Int.toNat_natCast, Int.reduceToNat, Int.toNat_zero, n_add_zero, Nat.mul_one, Nat.zero_add, getD_bv, take_bytes, List.length_map, List.getD_cons_zero]; rfl); (focus ((repeat' apply And.intro) <;> first | exact True.intro | omega | (with_reducible rfl) | assumption | exact ⟨_, rfl⟩ | (simp only [one_cl, one_ul, cells_u4, cells_ul, len_cl, List.all_cons, List.all_nil, Bool.and_self, List.forall_mem_cons, List.forall_mem_nil, Value.oneCell', and_self, closed_ul, closed_u4, List.length_cons, List.length_nil]; done) | exact (isByte_bv _).2 trivial | exact one_bv _ | (simp [Value.oneCell', PV.one, one_bv, closedL_bv, flatL_bv, closedL, closed, isByte_bv, Value.cells, PV.cells, cells_u4, cells_ul, one_ul, one_cl, len_cl]; first | done | omega))))
      | (refine kOps_callc (pre := ?_) (val := ?_) rfl rfl rfl rfl rfl ?_ ?_ ?_ ?_ ?_; rotate_left 2; (simp only [clg0, clg1, clg2, clg3, splice_cl, splice_one, len_cl, Nat.reduceMod, Nat.reduceAdd, Nat.reduceSub, Nat.reduceMul, Nat.reduceDiv, Nat.reduceLT, Nat.reduceLeDiff, Nat.reduceEqDiff, decide_true, decide_false, eq_self, if_false, if_true, reduceIte, Nat.zero_mod, Bool.not_true, Bool.not_false, binF_beql, binF_bneq, beq_self_eq_true, Option.map_some, sSane, sShl, sShr, lit_ul0, lit_ul1, nrmC, List.map_cons, List.map_nil, nrm_ul, nrm_u4, nrm_nil, nrm_int, nrm_bool, nrm_string, nrm_ro, nrm_agg, nrm_rptr, isul_ul, ulv_ul, isU_u4, uv_u4, bytesOf_bv, isB_bv, true_and, and_true, and_self, n_add_zero, Nat.zero_add, n_sub_zero]; rfl); (focus (first | rfl | (simp only [closed, closedL, closed_ul, closed_u4, closedL_bv, closedL_cl, Bool.and_self, Bool.and_true]; done))); (focus (first | rfl | (simp only [closed, closedL, closed_ul, closed_u4, closedL_bv, closedL_cl, Bool.and_self, Bool.and_true]; done))); (focus ((repeat' apply And.intro) <;> first | exact True.intro | omega | (with_reducible rfl) | assumption | exact ⟨_, rfl⟩ | (simp only [one_cl, one_ul, cells_u4, cells_ul, len_cl, List.all_cons, List.all_nil, Bool.and_self, List.forall_mem_cons, List.forall_mem_nil, Value.oneCell', and_self, closed_ul, closed_u4, List.length_cons, List.length_nil]; done) | exact (isByte_bv _).2 trivial | exact one_bv _ | (simp [Value.oneCell', PV.one, one_bv, closedL_bv, flatL_bv, closedL, closed, isByte_bv, Value.cells, PV.cells, cells_u4, cells_ul, one_ul, one_cl, len_cl]; first | done | omega))))
      | (refine kOps_bin (b := .eql) (pre := ?_) (val := ?_) rfl rfl rfl rfl rfl ?_ ?_ ?_; rotate_left 2; (intro L; simp only [clg0, clg1, clg2, clg3, splice_cl, splice_one, len_cl, Nat.reduceMod, Nat.reduceAdd, Nat.reduceSub, Nat.reduceMul, Nat.reduceDiv, Nat.reduceLT, Nat.reduceLeDiff, Nat.reduceEqDiff, decide_true, decide_false, eq_self, if_false, if_true, reduceIte, Nat.zero_mod, Bool.not_true, Bool.not_false, binF_beql, binF_bneq, beq_self_eq_true, Option.map_some, eql_u4 ty26 ty22, neq_u4 ty26 ty22, lit_ul0, lit_ul1, eql_ul, binF_eql, binF_seql, Int.reduceAdd, Int.reduceSub, Int.reduceMul, Int.reduceNeg, Int.sub_zero, Int.cast_ofNat_Int, ne_eq, Int.reduceLT, Int.reduceLE, Int.reduceEq, ty26, ty22]; (first | (rw [wrap_i64] <;> first | omega | rfl) | (rw [wrap_u8] <;> first | omega | rfl) | (rw [wrap_u16] <;> first | omega | rfl) | (rw [wrap_u32] <;> first | omega | rfl) | rfl)); (focus ((repeat' apply And.intro) <;> first | exact True.intro | omega | (with_reducible rfl) | assumption | exact ⟨_, rfl⟩ | (simp only [one_cl, one_ul, cells_u4, cells_ul, len_cl, List.all_cons, List.all_nil, Bool.and_self, List.forall_mem_cons, List.forall_mem_nil, Value.oneCell', and_self, closed_ul, closed_u4, List.length_cons, List.length_nil]; done) | exact (isByte_bv _).2 trivial | exact one_bv _ | (simp [Value.oneCell', PV.one, one_bv, closedL_bv, flatL_bv, closedL, closed, isByte_bv, Value.cells, PV.cells, cells_u4, cells_ul, one_ul, one_cl, len_cl]; first | done | omega))))
      | (refine kOps_as rfl rfl rfl rfl ?_)
      | (refine vOps_gundef rfl rfl ?_ ?_; (focus (simp only [lookup_cons, Nat.reduceBEq, cond_true, cond_false]; done)); simp only [putIn])
      | (refine vOps_gpick (t := ?_) (val := ?_) rfl rfl ?_ rfl rfl ?_ ?_ ?_; rotate_left 2; (focus (simp only [lookup_cons, Nat.reduceBEq, cond_true, cond_false]; done)); (simp only [evalIn_tmp, evalIn_const, lookup_cons, Nat.reduceBEq, cond_true, cond_false]; rfl); (simp only [evalIn_tmp, evalIn_const, lookup_cons, Nat.reduceBEq, cond_true, cond_false]; rfl))
      | (refine vOps_pick (t := ?_) (val := ?_) rfl rfl rfl ?_ ?_ ?_; rotate_left 2; (simp only [evalIn_tmp, evalIn_const, lookup_cons, Nat.reduceBEq, cond_true, cond_false]; rfl); (simp only [evalIn_tmp, evalIn_const, lookup_cons, Nat.reduceBEq, cond_true, cond_false]; rfl))
      | (refine vOps_fork (b := ?_) rfl rfl ?_ ?_ ?_; rotate_left 1; (simp only [lookup_cons, Nat.reduceBEq, cond_true, cond_false]; rfl); all_goals (intro hb; simp only [hb]; (try simp only [decide_eq_true_eq, decide_eq_false_iff_not] at hb); try (exfalso; first | omega | exact hb trivial)))
      | (refine vOps_forkp (b := ?_) rfl ?_ ?_ ?_; rotate_left 1; (simp only [evalIn_tmp, lookup_cons, Nat.reduceBEq, cond_true, cond_false]; rfl); all_goals (intro hb; simp only [hb]; (try simp only [decide_eq_true_eq, decide_eq_false_iff_not] at hb); try (exfalso; first | omega | exact hb trivial))))
    refine fin_c (p := ?_) (xs := [.tmp 4]) (by simp) rfl ?_ ?_ ?_ ?_
    rotate_left 2
    · simp only [resAll_cons, resAll_nil, resPVl_0, resPVl_1, resPVl_2, resOne_tmp, resOne_cell, List.map_cons, List.map_nil, clg0, clg1, clg2, clg3, splice_cl, splice_one, len_cl, Nat.reduceMod, Nat.reduceAdd, Nat.reduceSub, Nat.reduceMul, Nat.reduceDiv, Nat.reduceLT, Nat.reduceLeDiff, Nat.reduceEqDiff, decide_true, decide_false, eq_self, if_false, if_true, reduceIte, Nat.zero_mod, Bool.not_true, Bool.not_false, binF_beql, binF_bneq, beq_self_eq_true, Option.map_some, evalIn_tmp, evalIn_const, evalIn_func, lookup_cons, Nat.reduceBEq, cond_true, cond_false, lit_ul0, lit_ul1, loadF, partF, List.getElem?_cons_zero, List.getElem?_cons_succ, List.set_cons_zero, List.set_cons_succ, List.cons_append, List.nil_append, true_and, and_true, and_self, Nat.le_refl, isAggD, Bool.false_eq_true, take_cl, agg_cl, List.drop_zero, Int.toNat_natCast, Int.reduceToNat, Int.toNat_zero, n_add_zero, Nat.mul_one, Nat.zero_add, getD_bv, take_bytes, List.length_map, List.getD_cons_zero, ty3, ty22, ty26]; try rfl
    · first | rfl | (simp only [closed, closedL, closed_u4, closed_ul, closedL_cl, closedL_bv, Bool.and_self, Bool.and_true]; done) | (simp only [closed, closedL, closed_u4, closed_ul, closedL_cl, closedL_bv, Bool.and_self, Bool.and_true]; rfl)
    · rfl
    · simp only [resAll_cons, resAll_nil, resPVl_0, resPVl_1, resPVl_2, resOne_tmp, resOne_cell, List.map_cons, List.map_nil, clg0, clg1, clg2, clg3, splice_cl, splice_one, len_cl, Nat.reduceMod, Nat.reduceAdd, Nat.reduceSub, Nat.reduceMul, Nat.reduceDiv, Nat.reduceLT, Nat.reduceLeDiff, Nat.reduceEqDiff, decide_true, decide_false, eq_self, if_false, if_true, reduceIte, Nat.zero_mod, Bool.not_true, Bool.not_false, binF_beql, binF_bneq, beq_self_eq_true, Option.map_some, evalIn_tmp, evalIn_const, evalIn_func, lookup_cons, Nat.reduceBEq, cond_true, cond_false, lit_ul0, lit_ul1, loadF, partF, List.getElem?_cons_zero, List.getElem?_cons_succ, List.set_cons_zero, List.set_cons_succ, List.cons_append, List.nil_append, true_and, and_true, and_self, Nat.le_refl, isAggD, Bool.false_eq_true, take_cl, agg_cl, List.drop_zero, Int.toNat_natCast, Int.reduceToNat, Int.toNat_zero, n_add_zero, Nat.mul_one, Nat.zero_add, getD_bv, take_bytes, List.length_map, List.getD_cons_zero, ty3, ty22, ty26]; try trivial
  · exact hS.elim
end Go.Ab
