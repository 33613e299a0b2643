import Derived.Test.YtgknomjgpkpjdaaTY
import Derived.Test.YtgknomjgpkpjdaaME
namespace Go.Ab
open Go Go.Proofs
open Nat (reduceAdd zero_add reduceMul mul_one zero_mod one_mul)
open List (length_cons length_nil length_map getD_cons_zero drop_zero map_cons set_cons_zero set_cons_succ map_nil nil_append take_zero take_succ_cons getD_cons_succ drop_succ_cons take_nil getD_nil)
open Int (reduceToNat toNat_zero)
set_option linter.unusedVariables false
set_option linter.unusedSimpArgs false
set_option maxRecDepth 8000
set_option maxHeartbeats 4000000

noncomputable def B60 : Code := bodyOf Try.f60
theorem B60_eq : Try.f60.body = some B60 := by kernel_rfl
noncomputable def n60_0 := B60
noncomputable def n60_1 := codeAt B60 [0]
noncomputable def n60_2 := codeAt B60 [1]
noncomputable def n60_3 := codeAt B60 [1,0]
noncomputable def n60_4 := codeAt B60 [1,1]
theorem e60_0 : n60_0 = .seq n60_1 n60_2 := rfl
noncomputable def r60_1 := opsAt n60_1
theorem e60_1 : n60_1 = .region 0 (r60_1).toArray false := rfl
theorem e60_2 : n60_2 = .seq n60_3 n60_4 := rfl
noncomputable def r60_3 := opsAt n60_3
theorem e60_3 : n60_3 = .region 1 (r60_3).toArray false := rfl
theorem e60_4 : n60_4 = .ret := rfl
theorem f_ref02_Zero : PureOk Try.prog 60 sZero := by
  refine pureOk_of (c := n60_0) (Γ := conOf []) (conOf_ok (conOf_end)) mixed Try.func60 B60_eq (by decide +kernel) Try.call60 ?_
  intro args hS
  unfold sZero at hS ⊢
  split at hS
  · refine ⟨by rw [Try.ntmps60]; simp, vC_sound ?_⟩
    rename_i xa
    have ha := hS
    obtain ⟨a, la, rfl⟩ := isU_out ha
    simp only [uv_u4, Nat.mod_eq_of_lt la]
    clear ha
    simp only [entry_cons, entry_nil, reduceAdd]
    repeat' (first | (with_reducible first | apply seqC_normal | apply seqC_ret) | ((with_reducible apply wC_seq e60_0; apply wC_region e60_1); refine vOps_open (l := _ :: _) rfl ?_; refine kOps_box (row := ?_) (n := ?_) rfl rfl rfl rfl rfl ?_ ?_ ?_ ?_; rotate_left 2; (simp only [↓List.length_append, ↓List.length_set, ↓length_cons, length_nil, reduceAdd, zero_add]; rfl); (simp only [zero_mod, cells_ul, cells_u4, cells_agg, cells_int, cells_bool, cells_string, cells_slice, cells_ro, cells_rptr]; rfl); (focus (first | rfl | exact one_cl _ _ | exact one_bv _ | (simp only [one_cl, one_ul, List.all_cons, List.all_nil, Bool.and_self, PV.one]; done) | (simp [PV.one, one_ul, one_cl, one_bv, Value.oneCell']; done))); refine kOps_as rfl rfl rfl rfl ?_; refine vOps_nil ?_; (with_reducible apply seqC_normal; apply wC_seq e60_2; apply wC_region e60_3); refine vOps_open (l := _ :: _) rfl ?_; (first | refine kOps_loadp (pre := ?_) (val := ?_) rfl rfl rfl rfl rfl ty26 ?_ ?_ ?_ | refine kOps_loadr (pre := ?_) (val := ?_) rfl rfl rfl rfl ty26 ?_ ?_ ?_); rotate_left 2; (simp only [zero_mod, partF, isAggD, Bool.false_eq_true, if_false, List.getElem?_cons_zero, List.getElem?_cons_succ, getD_cons_zero, getD_cons_succ, drop_zero, drop_succ_cons, take_succ_cons, take_zero, length_cons, length_nil, set_cons_zero, set_cons_succ, zero_add, n_add_zero, mul_one, reduceAdd, reduceMul, Int.toNat_natCast, reduceToNat, toNat_zero, take_cl, agg_cl, len_cl]; rfl); (focus ((repeat' apply And.intro) <;> first | exact True.intro | omega | (with_reducible rfl) | assumption | exact ⟨_, rfl⟩ | (simp only [sda]; done) | (simp only [len_cl]; omega) | (simp [Value.cells, Value.oneCell']; done))); refine kOps_build (pre := ?_) (val := ?_) rfl rfl rfl rfl ?_ ?_ ?_; rotate_left 2; (intro L; simp only [zero_mod, buildF, fillB, zeroCells, splice, Value.cells, map_cons, map_nil, List.toList_toArray, zero_cl4, lit_ul0, cells_ul, cells_u4, cells_agg, cells_int, cells_bool, cells_string, cells_slice, cells_ro, cells_rptr, Int.cast_ofNat_Int, Nat.min_self, drop_succ_cons, Int.reduceSub, List.getElem?_cons_zero, List.getElem?_cons_succ, getD_cons_zero, getD_cons_succ, getD_nil, drop_zero, take_succ_cons, take_zero, take_nil, length_cons, length_nil, set_cons_zero, set_cons_succ, zero_add, n_add_zero, mul_one, one_mul, reduceAdd, reduceMul, Nat.reduceSub, Nat.reduceLeDiff, Nat.reduceEqDiff, Int.toNat_natCast, reduceToNat, toNat_zero, reduceIte, if_true, if_false, Bool.false_eq_true, isAggD, len_cl, take_cl, agg_cl, getD_bv, take_bytes, length_map, List.cons_append, nil_append, true_and, and_true, and_self, ty26, ty22]; rfl); (focus ((repeat' apply And.intro) <;> first | exact True.intro | omega | (with_reducible rfl) | assumption | exact ⟨_, rfl⟩ | (simp only [sda]; done) | (simp only [len_cl]; omega) | (simp [Value.cells, Value.oneCell']; done))); refine kOps_bin (b := .eql) (pre := ?_) (val := ?_) rfl rfl rfl rfl rfl ?_ ?_ ?_; rotate_left 2; (intro L; simp only [zero_mod, eql_u4 ty26 ty22, neq_u4 ty26 ty22, eql_ul, binF_eql, binF_seql, Int.reduceAdd, Int.reduceSub, Int.reduceMul, Int.reduceNeg, Int.sub_zero, Int.cast_ofNat_Int, ne_eq, Int.reduceLT, Int.reduceLE, Int.reduceEq, Nat.reduceMod, Nat.reduceLT, decide_true, decide_false, ty26, ty22]; (first | (rw [wrap_i64] <;> first | omega | rfl) | (rw [wrap_u8] <;> first | omega | rfl) | (rw [wrap_u16] <;> first | omega | rfl) | (rw [wrap_u32] <;> first | omega | rfl) | rfl)); (focus ((repeat' apply And.intro) <;> first | exact True.intro | omega | (with_reducible rfl) | assumption | exact ⟨_, rfl⟩ | (simp only [sda]; done) | (simp only [len_cl]; omega) | (simp [Value.cells, Value.oneCell']; done))); refine kOps_as rfl rfl rfl rfl ?_; refine vOps_nil ?_; (with_reducible apply seqC_normal; apply wC_ret e60_4)))
    refine fin_c (p := ?_) (xs := [.tmp 2]) (by simp) rfl ?_ ?_ ?_ ?_
    rotate_left 2
    · simp only [rsx, map_cons, map_nil, zero_mod, evalIn_tmp, evalIn_const, evalIn_func, lookup_cons, Nat.reduceBEq, cond_true, cond_false, lit_ul0, lit_ul1, loadF, partF, Int.cast_ofNat_Int, Nat.min_self, drop_succ_cons, Int.reduceSub, List.getElem?_cons_zero, List.getElem?_cons_succ, getD_cons_zero, getD_cons_succ, getD_nil, drop_zero, take_succ_cons, take_zero, take_nil, length_cons, length_nil, set_cons_zero, set_cons_succ, zero_add, n_add_zero, mul_one, one_mul, reduceAdd, reduceMul, Nat.reduceSub, Nat.reduceLeDiff, Nat.reduceEqDiff, Int.toNat_natCast, reduceToNat, toNat_zero, reduceIte, if_true, if_false, Bool.false_eq_true, isAggD, len_cl, take_cl, agg_cl, getD_bv, take_bytes, length_map, List.cons_append, nil_append, true_and, and_true, and_self, ty22, ty26]; try rfl
    · first | rfl | (simp only [closed, closedL, closed_u4, closed_ul, closedL_cl, closedL_bv, Bool.and_self, Bool.and_true]; first | done | rfl)
    · exact bool_eq (by omega)
    · simp only [rsx, map_cons, map_nil, zero_mod, evalIn_tmp, evalIn_const, evalIn_func, lookup_cons, Nat.reduceBEq, cond_true, cond_false, lit_ul0, lit_ul1, loadF, partF, Int.cast_ofNat_Int, Nat.min_self, drop_succ_cons, Int.reduceSub, List.getElem?_cons_zero, List.getElem?_cons_succ, getD_cons_zero, getD_cons_succ, getD_nil, drop_zero, take_succ_cons, take_zero, take_nil, length_cons, length_nil, set_cons_zero, set_cons_succ, zero_add, n_add_zero, mul_one, one_mul, reduceAdd, reduceMul, Nat.reduceSub, Nat.reduceLeDiff, Nat.reduceEqDiff, Int.toNat_natCast, reduceToNat, toNat_zero, reduceIte, if_true, if_false, Bool.false_eq_true, isAggD, len_cl, take_cl, agg_cl, getD_bv, take_bytes, length_map, List.cons_append, nil_append, true_and, and_true, and_self, ty22, ty26]; try trivial
  · exact hS.elim
end Go.Ab
