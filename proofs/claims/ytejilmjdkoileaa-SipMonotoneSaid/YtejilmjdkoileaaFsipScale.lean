import Derived.Test.YtejilmjdkoileaaMP
import Derived.Test.YtejilmjdkoileaaTY
import Derived.Test.YtejilmjdkoileaaFbitsMul64
namespace Go.Ab
open Go Go.Proofs
set_option linter.unusedVariables false
set_option linter.unusedSimpArgs false
set_option maxRecDepth 8000
set_option maxHeartbeats 4000000

noncomputable def B10 : Code := bodyOf Try.f10
theorem B10_eq : Try.f10.body = some B10 := by kernel_rfl
noncomputable def n10_0 : Code := B10
noncomputable def n10_1 : Code := codeAt B10 [0]
noncomputable def n10_2 : Code := codeAt B10 [1]
noncomputable def n10_3 : Code := codeAt B10 [1,0]
noncomputable def n10_4 : Code := codeAt B10 [1,1]
noncomputable def n10_5 : Code := codeAt B10 [1,1,0]
noncomputable def n10_6 : Code := codeAt B10 [1,1,1]
theorem e10_0 : n10_0 = .seq n10_1 n10_2 := rfl
noncomputable def r10_1 := opsAt n10_1
theorem e10_1 : n10_1 = .region 0 (r10_1).toArray false := rfl
theorem e10_2 : n10_2 = .seq n10_3 n10_4 := rfl
noncomputable def r10_3 := opsAt n10_3
theorem e10_3 : n10_3 = .region 1 (r10_3).toArray false := rfl
theorem e10_4 : n10_4 = .seq n10_5 n10_6 := rfl
noncomputable def r10_5 := opsAt n10_5
theorem e10_5 : n10_5 = .region 2 (r10_5).toArray false := rfl
theorem e10_6 : n10_6 = .ret := rfl
theorem f_sip_Scale : PureOk Try.prog 10 sScale := by
  refine pureOk_of (c := n10_0) (Γ := conOf [(21, .pure sMul64)]) (conOf_ok (conOf_one (S := .pure sMul64) f_bits_Mul64 (conOf_end))) mixed Try.func10 B10_eq (by decide +kernel) Try.call10 ?_
  intro args hS
  unfold sScale at hS ⊢
  split at hS
  · refine ⟨by rw [Try.ntmps10]; simp, vC_sound ?_⟩
    rename_i xa xb
    obtain ⟨ha, hb⟩ := hS
    obtain ⟨a, la, rfl⟩ := isul_out ha
    obtain ⟨b, lb, rfl⟩ := isul_out hb
    simp only [ulv_ul, Nat.mod_eq_of_lt la, Nat.mod_eq_of_lt lb]
    clear ha hb
    simp only [entry_cons, entry_nil, Nat.reduceAdd]
    repeat' (first
      | (with_reducible first | apply seqC_normal | apply seqC_ret)
      | ((with_reducible apply wC_seq e10_0; apply wC_region e10_1); refine vOps_open (l := _ :: _) rfl ?_; refine kOps_asc rfl rfl rfl lit_ul0 ?_; refine vOps_nil ?_; (with_reducible apply seqC_normal; apply wC_seq e10_2; apply wC_region e10_3); refine vOps_open (l := _ :: _) rfl ?_; refine kOps_mv rfl rfl rfl rfl ?_; refine kOps_mv rfl rfl rfl rfl ?_; refine kOps_callc (pre := ?_) (val := ?_) rfl rfl rfl rfl rfl ?_ ?_ ?_ ?_ ?_; rotate_left 2; (simp only [cells_s4, cells_k2, List.nil_append, List.append_nil, List.cons_append, if_true, getD_bv, isul_ul, ulv_ul, Nat.mod_eq_of_lt la, Nat.mod_eq_of_lt lb, dOf_ul, isS4_s4, isS4_l, s4Of_l, s4Of_s4, s4_eta, isK2_k2, k2a_k2, k2b_k2, isK2_l, k2a_l, k2b_l, d_back, isB_bv, bytesOf_bv, Int.reduceToNat, sMul64, nrmC, List.map_cons, List.map_nil, nrm_ul, nrm_u4, nrm_nil, nrm_int, nrm_bool, nrm_string, nrm_ro, nrm_agg, nrm_rptr, isU_u4, uv_u4, true_and, and_true, and_self, n_add_zero, Nat.zero_add, Nat.zero_mod, n_sub_zero]; rfl); (focus (first | (with_reducible rfl) | (simp only [closed, closedL, closed_ul, closed_u4, closedL_bv, closedL_cl, Bool.and_self, Bool.and_true, closedL_wr, closed_uw, closed_sv, closed_s4, closed_k2]; done))); (focus (first | (with_reducible rfl) | (simp only [closed, closedL, closed_ul, closed_u4, closedL_bv, closedL_cl, Bool.and_self, Bool.and_true, closedL_wr, closed_uw, closed_sv, closed_s4, closed_k2]; done))); (focus ((repeat' apply And.intro) <;> first | exact True.intro | omega | (with_reducible rfl) | assumption | (simp only [List.length_map, List.length_set, List.length_replicate, List.length_cons, List.length_nil, List.length_append, List.length_take, List.length_drop, len_cnt]; omega) | (simp only [cells_s4, cells_k2, cells_agg, one_ul, List.length_cons, List.length_nil, List.all_cons, List.all_nil, Bool.and_self, Nat.reduceAdd, Nat.zero_add, Nat.le_refl, Nat.reduceLeDiff, and_self, true_and, and_true]; done) | (simp only [cells_agg, one_bv, List.length_map, List.length_set, List.length_replicate, List.length_cons, List.length_nil, List.length_append, List.length_take, List.length_drop, len_cnt, and_self, true_and, Nat.le_refl, Nat.reduceAdd, Nat.zero_add]; done) | exact ⟨_, rfl⟩ | (simp only [one_cl, one_ul, cells_u4, cells_ul, len_cl, List.all_cons, List.all_nil, Bool.and_self, List.length_cons, List.length_nil]; done) | (simp only [len_cl]; omega) | (simp [Value.cells, Value.oneCell']; done))); refine kOps_mv rfl rfl rfl rfl ?_; refine kOps_ext rfl rfl rfl rfl rfl ?_; refine kOps_ext rfl rfl rfl rfl rfl ?_; refine kOps_as rfl rfl rfl rfl ?_; refine kOps_as rfl rfl rfl rfl ?_; refine vOps_nil ?_; (with_reducible apply seqC_normal; apply wC_seq e10_4; apply wC_region e10_5); refine vOps_open (l := _ :: _) rfl ?_; refine kOps_mv rfl rfl rfl rfl ?_; refine kOps_as rfl rfl rfl rfl ?_; refine vOps_nil ?_; (with_reducible apply seqC_normal; apply wC_ret e10_6)))
    refine fin_c (p := ?_) (xs := [.tmp 4]) (by simp) rfl ?_ ?_ ?_ ?_
    rotate_left 2
    · simp only [resAll_cons, resAll_nil, resPVl_0, resPVl_1, resPVl_2, resOne_tmp, resOne_cell, List.map_cons, List.map_nil, cells_s4, cells_k2, List.nil_append, List.append_nil, List.cons_append, if_true, getD_bv, evalIn_tmp, evalIn_const, evalIn_func, lookup_cons, Nat.reduceBEq, cond_true, cond_false, lit_ul0, lit_ul1, loadF, partF, Int.cast_ofNat_Int, Nat.min_self, List.drop_succ_cons, Int.reduceSub, List.getElem?_cons_zero, List.getElem?_cons_succ, List.getD_cons_zero, List.getD_cons_succ, List.getD_nil, List.drop_zero, List.take_succ_cons, List.take_zero, List.take_nil, List.length_cons, List.length_nil, List.set_cons_zero, List.set_cons_succ, Nat.zero_add, n_add_zero, Nat.mul_one, Nat.one_mul, Nat.reduceAdd, Nat.reduceMul, Nat.reduceSub, Nat.reduceLeDiff, Nat.reduceEqDiff, Int.toNat_natCast, Int.reduceToNat, Int.toNat_zero, reduceIte, if_false, Bool.false_eq_true, isAggD, len_cl, take_cl, agg_cl, take_bytes, List.length_map, true_and, and_true, and_self, ty22]; try rfl
    · first | (with_reducible rfl) | (simp only [closed, closedL, closed_u4, closed_ul, closed_s4, closed_k2, closedL_bv, Bool.and_self, Bool.and_true]; done) | (simp only [closed, closedL, closed_u4, closed_ul, closed_s4, closed_k2, closedL_bv, Bool.and_self, Bool.and_true]; rfl)
    · rfl
    · simp only [resAll_cons, resAll_nil, resPVl_0, resPVl_1, resPVl_2, resOne_tmp, resOne_cell, List.map_cons, List.map_nil, cells_s4, cells_k2, List.nil_append, List.append_nil, List.cons_append, if_true, getD_bv, evalIn_tmp, evalIn_const, evalIn_func, lookup_cons, Nat.reduceBEq, cond_true, cond_false, lit_ul0, lit_ul1, loadF, partF, Int.cast_ofNat_Int, Nat.min_self, List.drop_succ_cons, Int.reduceSub, List.getElem?_cons_zero, List.getElem?_cons_succ, List.getD_cons_zero, List.getD_cons_succ, List.getD_nil, List.drop_zero, List.take_succ_cons, List.take_zero, List.take_nil, List.length_cons, List.length_nil, List.set_cons_zero, List.set_cons_succ, Nat.zero_add, n_add_zero, Nat.mul_one, Nat.one_mul, Nat.reduceAdd, Nat.reduceMul, Nat.reduceSub, Nat.reduceLeDiff, Nat.reduceEqDiff, Int.toNat_natCast, Int.reduceToNat, Int.toNat_zero, reduceIte, if_false, Bool.false_eq_true, isAggD, len_cl, take_cl, agg_cl, take_bytes, List.length_map, true_and, and_true, and_self, ty22]; try trivial
  · exact hS.elim
end Go.Ab
