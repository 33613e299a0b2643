import Derived.Test.YtgknomjgpkpjdaaTY
import Derived.Test.YtgknomjgpkpjdaaME
namespace Go.Ab
open Go Go.Proofs
open Nat (reduceAdd zero_add reduceMul mul_one one_mul)
open List (length_cons length_nil length_map getD_cons_zero drop_zero map_cons set_cons_zero set_cons_succ map_nil nil_append take_zero take_succ_cons getD_cons_succ drop_succ_cons take_nil getD_nil)
open Int (reduceToNat toNat_zero)
set_option linter.unusedVariables false
set_option linter.unusedSimpArgs false
set_option maxRecDepth 8000
set_option maxHeartbeats 4000000

noncomputable def B16 : Code := bodyOf Try.f16
theorem B16_eq : Try.f16.body = some B16 := by kernel_rfl
noncomputable def n16_0 := B16
noncomputable def n16_1 := codeAt B16 [0]
noncomputable def n16_2 := codeAt B16 [1]
noncomputable def n16_3 := codeAt B16 [1,0]
noncomputable def n16_4 := codeAt B16 [1,1]
theorem e16_0 : n16_0 = .seq n16_1 n16_2 := rfl
noncomputable def r16_1 := opsAt n16_1
theorem e16_1 : n16_1 = .region 0 (r16_1).toArray false := rfl
theorem e16_2 : n16_2 = .seq n16_3 n16_4 := rfl
noncomputable def r16_3 := opsAt n16_3
theorem e16_3 : n16_3 = .region 1 (r16_3).toArray false := rfl
theorem e16_4 : n16_4 = .ret := rfl
theorem f_ref02_FromUint : PureOk Try.prog 16 sFromUint := by
  refine pureOk_of (c := n16_0) (Γ := conOf []) (conOf_ok (conOf_end)) mixed Try.func16 B16_eq (by decide +kernel) Try.call16 ?_
  intro args hS
  unfold sFromUint at hS ⊢
  split at hS
  · refine ⟨by rw [Try.ntmps16]; simp, vC_sound ?_⟩
    rename_i xa
    have ha := hS
    obtain ⟨a, la, rfl⟩ := isul_out ha
    simp only [ulv_ul, Nat.mod_eq_of_lt la]
    clear ha
    simp only [entry_cons, entry_nil, reduceAdd]
    repeat' (first | (with_reducible first | apply seqC_normal | apply seqC_ret) | ((with_reducible apply wC_seq e16_0; apply wC_region e16_1); refine vOps_open (l := _ :: _) rfl ?_; refine kOps_alloc (row := ?_) (n := ?_) rfl rfl rfl rfl ty26 ?_ ?_ ?_ ?_; rotate_left 2; (simp only [↓List.length_append, ↓List.length_set, ↓length_cons, length_nil, reduceAdd, zero_add]; rfl); (simp only [cl4, Value.cells, map_cons, map_nil, List.toList_toArray, zero_cl4, zero_cl8, lit_ul0]; rfl); (focus (first | (simp only [Value.cells, List.toList_toArray, List.forall_mem_cons, List.forall_mem_nil, Value.oneCell', and_self]; done) | (simp [Value.cells, Value.oneCell']; done))); refine vOps_nil ?_; (with_reducible apply seqC_normal; apply wC_seq e16_2; apply wC_region e16_3); refine vOps_open (l := _ :: _) rfl ?_; refine kOps_mv rfl rfl rfl rfl ?_; refine kOps_build (pre := ?_) (val := ?_) rfl rfl rfl rfl ?_ ?_ ?_; rotate_left 2; (intro L; simp only [cl4, buildF, fillB, zeroCells, splice, Value.cells, map_cons, map_nil, List.toList_toArray, zero_cl4, lit_ul0, cells_ul, cells_u4, cells_agg, cells_int, cells_bool, cells_string, cells_slice, cells_ro, cells_rptr, Int.cast_ofNat_Int, Nat.min_self, drop_succ_cons, Int.reduceSub, List.getElem?_cons_zero, List.getElem?_cons_succ, getD_cons_zero, getD_cons_succ, getD_nil, drop_zero, take_succ_cons, take_zero, take_nil, length_cons, length_nil, set_cons_zero, set_cons_succ, zero_add, n_add_zero, mul_one, one_mul, reduceAdd, reduceMul, Nat.reduceSub, Nat.reduceLeDiff, Nat.reduceEqDiff, Int.toNat_natCast, reduceToNat, toNat_zero, reduceIte, if_true, if_false, Bool.false_eq_true, isAggD, len_cl, take_cl, agg_cl, getD_bv, take_bytes, length_map, List.cons_append, nil_append, true_and, and_true, and_self, ty26, ty22]; rfl); (focus ((repeat' apply And.intro) <;> first | exact True.intro | omega | (with_reducible rfl) | assumption | exact ⟨_, rfl⟩ | (simp only [sda]; done) | (simp only [len_cl]; omega) | (simp [Value.cells, Value.oneCell']; done))); refine kOps_store (cs' := ?_) rfl rfl rfl rfl rfl rfl rfl ty26 ?_ ?_ ?_; rotate_left 1; (simp only [cl4, splice, cells_ul, cells_u4, cells_agg, cells_int, cells_bool, cells_string, cells_slice, cells_ro, cells_rptr, isAggD, Bool.false_eq_true, if_false, List.getElem?_cons_zero, List.getElem?_cons_succ, getD_cons_zero, getD_cons_succ, drop_zero, drop_succ_cons, take_succ_cons, take_zero, length_cons, length_nil, set_cons_zero, set_cons_succ, zero_add, n_add_zero, mul_one, reduceAdd, reduceMul, Int.toNat_natCast, reduceToNat, toNat_zero, take_cl, agg_cl, len_cl]; rfl); (focus (first | (simp only [cells_ul, cells_u4, cells_agg, cells_int, cells_bool, cells_string, cells_slice, cells_ro, cells_rptr, length_cons, length_nil, len_cl, List.length_set, length_map, reduceAdd, zero_add, List.all_cons, List.all_nil, one_ul, one_cl, one_bv, PV.one, Value.oneCell', Bool.and_self, Nat.reduceLeDiff, Nat.le_refl, and_self, true_and, and_true]; done) | ((try simp only [cells_ul, cells_u4, cells_agg, cells_int, cells_bool, cells_string, cells_slice, cells_ro, cells_rptr]); (focus ((repeat' apply And.intro) <;> first | exact True.intro | omega | (with_reducible rfl) | assumption | exact ⟨_, rfl⟩ | (simp only [sda]; done) | (simp only [len_cl]; omega) | (simp [Value.cells, Value.oneCell']; done)))))); refine vOps_nil ?_; (with_reducible apply seqC_normal; apply wC_ret e16_4)))
    refine fin_c (p := ?_) (xs := [.cell 2 26]) (by simp) rfl ?_ ?_ ?_ ?_
    rotate_left 2
    · simp only [rsx, map_cons, map_nil, cl4, evalIn_tmp, evalIn_const, evalIn_func, lookup_cons, Nat.reduceBEq, cond_true, cond_false, lit_ul0, lit_ul1, loadF, partF, Int.cast_ofNat_Int, Nat.min_self, drop_succ_cons, Int.reduceSub, List.getElem?_cons_zero, List.getElem?_cons_succ, getD_cons_zero, getD_cons_succ, getD_nil, drop_zero, take_succ_cons, take_zero, take_nil, length_cons, length_nil, set_cons_zero, set_cons_succ, zero_add, n_add_zero, mul_one, one_mul, reduceAdd, reduceMul, Nat.reduceSub, Nat.reduceLeDiff, Nat.reduceEqDiff, Int.toNat_natCast, reduceToNat, toNat_zero, reduceIte, if_true, if_false, Bool.false_eq_true, isAggD, len_cl, take_cl, agg_cl, getD_bv, take_bytes, length_map, List.cons_append, nil_append, true_and, and_true, and_self, ty22, ty26]; try rfl
    · first | rfl | (simp only [closed, closedL, closed_u4, closed_ul, closedL_cl, closedL_bv, Bool.and_self, Bool.and_true]; first | done | rfl)
    · try simp only [← cl4, agg_cl]
      exact agg4 (by omega)
    · simp only [rsx, map_cons, map_nil, cl4, evalIn_tmp, evalIn_const, evalIn_func, lookup_cons, Nat.reduceBEq, cond_true, cond_false, lit_ul0, lit_ul1, loadF, partF, Int.cast_ofNat_Int, Nat.min_self, drop_succ_cons, Int.reduceSub, List.getElem?_cons_zero, List.getElem?_cons_succ, getD_cons_zero, getD_cons_succ, getD_nil, drop_zero, take_succ_cons, take_zero, take_nil, length_cons, length_nil, set_cons_zero, set_cons_succ, zero_add, n_add_zero, mul_one, one_mul, reduceAdd, reduceMul, Nat.reduceSub, Nat.reduceLeDiff, Nat.reduceEqDiff, Int.toNat_natCast, reduceToNat, toNat_zero, reduceIte, if_true, if_false, Bool.false_eq_true, isAggD, len_cl, take_cl, agg_cl, getD_bv, take_bytes, length_map, List.cons_append, nil_append, true_and, and_true, and_self, ty22, ty26]; try trivial
  · exact hS.elim
end Go.Ab
