import Derived.Test.YtaofjdaclnagnaaMG
import Derived.Test.YtaofjdaclnagnaaTY
import Derived.Test.YtaofjdaclnagnaaFcodecintegeruint8
namespace Go.Ab
open Go Go.Proofs
set_option linter.unusedVariables false
set_option linter.unusedSimpArgs false
set_option maxRecDepth 8000
set_option maxHeartbeats 4000000

noncomputable def B26 : Code := bodyOf Try.f26
theorem B26_eq : Try.f26.body = some B26 := by kernel_rfl
noncomputable def n26_0 : Code := B26
noncomputable def n26_1 : Code := codeAt B26 [0]
noncomputable def n26_2 : Code := codeAt B26 [1]
noncomputable def n26_3 : Code := codeAt B26 [1,0]
noncomputable def n26_4 : Code := codeAt B26 [1,1]
theorem e26_0 : n26_0 = .seq n26_1 n26_2 := rfl
noncomputable def r26_1 := opsAt n26_1
theorem e26_1 : n26_1 = .region 0 (r26_1).toArray false := rfl
theorem e26_2 : n26_2 = .seq n26_3 n26_4 := rfl
noncomputable def r26_3 := opsAt n26_3
theorem e26_3 : n26_3 = .region 1 (r26_3).toArray false := rfl
theorem e26_4 : n26_4 = .ret := rfl
theorem f_codec_U8 : PureOk Try.prog 26 sInt8 := by
  refine pureOk_of (c := n26_0) (Γ := conOf [(51, .pure sInt8)]) (conOf_ok (conOf_one (S := .pure sInt8) f_codec_integer_uint8 (conOf_end))) mixed Try.func26 B26_eq (by decide +kernel) Try.call26 ?_
  intro args hS
  unfold sInt8 at hS ⊢
  split at hS
  · refine ⟨by rw [Try.ntmps26]; simp, vC_sound ?_⟩
    rename_i n cs a
    obtain ⟨hB, hn, ha0, ha1⟩ := hS
    obtain ⟨b, rfl, rfl⟩ := isB_out hB
    simp only [bytesOf_bv]
    clear hB
    simp only [entry_cons, entry_nil, Nat.reduceAdd]
    by_cases hz : needE b.length a 1 = 0
    · rw [if_pos hz]
      repeat' (first
        | (with_reducible first | apply seqC_normal | apply seqC_ret)
        | ((with_reducible apply wC_seq e26_0; apply wC_region e26_1); refine vOps_open (l := _ :: _) rfl ?_; refine kOps_as rfl rfl rfl rfl ?_; refine kOps_as rfl rfl rfl rfl ?_; refine kOps_as rfl rfl rfl rfl ?_; refine vOps_nil ?_; (with_reducible apply seqC_normal; apply wC_seq e26_2; apply wC_region e26_3); refine vOps_open (l := _ :: _) rfl ?_; refine kOps_mv rfl rfl rfl rfl ?_; refine kOps_mv rfl rfl rfl rfl ?_; refine kOps_callc (pre := ?_) (val := ?_) rfl rfl rfl rfl rfl ?_ ?_ ?_ ?_ ?_; rotate_left 2; (simp only [splice_one, cells_bv, getD_bv, set_bv, cells_agg, hz, if_true, if_false, reduceIte, isB_bv, bytesOf_bv, sInt8, nrmC, List.map_cons, List.map_nil, nrm_ul, nrm_u4, nrm_nil, nrm_int, nrm_bool, nrm_string, nrm_ro, nrm_agg, nrm_rptr, isul_ul, ulv_ul, isU_u4, uv_u4, true_and, and_true, and_self, n_add_zero, Nat.zero_add, Nat.zero_mod, n_sub_zero]; rfl); (focus (first | (with_reducible rfl) | (simp only [closed, closedL, closed_ul, closed_u4, closedL_bv, closedL_cl, Bool.and_self, Bool.and_true, closedL_wr, closed_uw, closed_sv, closed_tp]; done))); (focus (first | (with_reducible rfl) | (simp only [closed, closedL, closed_ul, closed_u4, closedL_bv, closedL_cl, Bool.and_self, Bool.and_true, closedL_wr, closed_uw, closed_sv, closed_tp]; done))); (focus ((repeat' apply And.intro) <;> first | exact True.intro | omega | (with_reducible rfl) | assumption | (simp only [lns]; first | done | omega) | (simp only [one_bv, cells_bv, one_bv1, List.length_cons, List.length_nil, List.all_cons, List.all_nil, Bool.and_self]; done) | (simp only [cells_agg, one_bv, lns, and_self, true_and, Nat.le_refl, Nat.reduceAdd, Nat.zero_add]; done) | exact one_bv _ | exact ⟨_, rfl⟩ | (simp [PV.one, one_bv, PV.cells, Value.cells, Value.oneCell']; done))); refine kOps_ext rfl rfl rfl rfl rfl ?_; refine kOps_ext rfl rfl rfl rfl rfl ?_; refine kOps_ext rfl rfl rfl rfl rfl ?_; refine kOps_as rfl rfl rfl rfl ?_; refine kOps_as rfl rfl rfl rfl ?_; refine kOps_as rfl rfl rfl rfl ?_; refine vOps_nil ?_; (with_reducible apply seqC_normal; apply wC_ret e26_4)))
      refine fin_c (p := ?_) (xs := [.tmp 4, .tmp 5, .tmp 6]) (by simp) rfl ?_ ?_ ?_ ?_
      rotate_left 2
      · simp only [resAll_cons, resAll_nil, resPVl_0, resPVl_1, resPVl_2, resOne_tmp, resOne_cell, List.map_cons, List.map_nil, splice_one, cells_bv, getD_bv, set_bv, cells_agg, hz, if_true, if_false, reduceIte, evalIn_tmp, evalIn_const, evalIn_func, lookup_cons, Nat.reduceBEq, cond_true, cond_false, lit_ul0, lit_ul1, loadF, partF, List.getElem?_cons_zero, List.getElem?_cons_succ, List.set_cons_zero, List.set_cons_succ, List.cons_append, List.nil_append, true_and, and_true, and_self, Nat.le_refl, Nat.reduceLeDiff, isAggD, Bool.false_eq_true, take_cl, agg_cl, len_cl, List.drop_zero, Int.toNat_natCast, Int.reduceToNat, Int.toNat_zero, n_add_zero, Nat.mul_one, Nat.zero_add, Nat.reduceAdd, Nat.reduceMul, take_bytes, List.length_map, List.getD_cons_zero, ty3, ty5, ty22]; try rfl
      · first | (with_reducible rfl) | (simp only [closed, closedL, closed_u4, closed_ul, closed_uw, closed_sv, closedL_bv, closedL_wr, Bool.and_self, Bool.and_true]; done) | (simp only [closed, closedL, closed_u4, closed_ul, closed_uw, closed_sv, closedL_bv, closedL_wr, Bool.and_self, Bool.and_true]; rfl)
      · rfl
      · simp only [resAll_cons, resAll_nil, resPVl_0, resPVl_1, resPVl_2, resOne_tmp, resOne_cell, List.map_cons, List.map_nil, splice_one, cells_bv, getD_bv, set_bv, cells_agg, hz, if_true, if_false, reduceIte, evalIn_tmp, evalIn_const, evalIn_func, lookup_cons, Nat.reduceBEq, cond_true, cond_false, lit_ul0, lit_ul1, loadF, partF, List.getElem?_cons_zero, List.getElem?_cons_succ, List.set_cons_zero, List.set_cons_succ, List.cons_append, List.nil_append, true_and, and_true, and_self, Nat.le_refl, Nat.reduceLeDiff, isAggD, Bool.false_eq_true, take_cl, agg_cl, len_cl, List.drop_zero, Int.toNat_natCast, Int.reduceToNat, Int.toNat_zero, n_add_zero, Nat.mul_one, Nat.zero_add, Nat.reduceAdd, Nat.reduceMul, take_bytes, List.length_map, List.getD_cons_zero, ty3, ty5, ty22]; try trivial
    · rw [if_neg hz]
      have hn0 : (needE b.length a 1 = 0) = False := eq_false hz
      repeat' (first
        | (with_reducible first | apply seqC_normal | apply seqC_ret)
        | ((with_reducible apply wC_seq e26_0; apply wC_region e26_1); refine vOps_open (l := _ :: _) rfl ?_; refine kOps_as rfl rfl rfl rfl ?_; refine kOps_as rfl rfl rfl rfl ?_; refine kOps_as rfl rfl rfl rfl ?_; refine vOps_nil ?_; (with_reducible apply seqC_normal; apply wC_seq e26_2; apply wC_region e26_3); refine vOps_open (l := _ :: _) rfl ?_; refine kOps_mv rfl rfl rfl rfl ?_; refine kOps_mv rfl rfl rfl rfl ?_; refine kOps_callc (pre := ?_) (val := ?_) rfl rfl rfl rfl rfl ?_ ?_ ?_ ?_ ?_; rotate_left 2; (simp only [splice_one, cells_bv, getD_bv, set_bv, cells_agg, hn0, if_false, reduceIte, isB_bv, bytesOf_bv, sInt8, nrmC, List.map_cons, List.map_nil, nrm_ul, nrm_u4, nrm_nil, nrm_int, nrm_bool, nrm_string, nrm_ro, nrm_agg, nrm_rptr, isul_ul, ulv_ul, isU_u4, uv_u4, true_and, and_true, and_self, n_add_zero, Nat.zero_add, Nat.zero_mod, n_sub_zero]; rfl); (focus (first | (with_reducible rfl) | (simp only [closed, closedL, closed_ul, closed_u4, closedL_bv, closedL_cl, Bool.and_self, Bool.and_true, closedL_wr, closed_uw, closed_sv, closed_tp]; done))); (focus (first | (with_reducible rfl) | (simp only [closed, closedL, closed_ul, closed_u4, closedL_bv, closedL_cl, Bool.and_self, Bool.and_true, closedL_wr, closed_uw, closed_sv, closed_tp]; done))); (focus ((repeat' apply And.intro) <;> first | exact True.intro | omega | (with_reducible rfl) | assumption | (simp only [lns]; first | done | omega) | (simp only [one_bv, cells_bv, one_bv1, List.length_cons, List.length_nil, List.all_cons, List.all_nil, Bool.and_self]; done) | (simp only [cells_agg, one_bv, lns, and_self, true_and, Nat.le_refl, Nat.reduceAdd, Nat.zero_add]; done) | exact one_bv _ | exact ⟨_, rfl⟩ | (simp [PV.one, one_bv, PV.cells, Value.cells, Value.oneCell']; done))); refine kOps_ext rfl rfl rfl rfl rfl ?_; refine kOps_ext rfl rfl rfl rfl rfl ?_; refine kOps_ext rfl rfl rfl rfl rfl ?_; refine kOps_as rfl rfl rfl rfl ?_; refine kOps_as rfl rfl rfl rfl ?_; refine kOps_as rfl rfl rfl rfl ?_; refine vOps_nil ?_; (with_reducible apply seqC_normal; apply wC_ret e26_4)))
      refine fin_c (p := ?_) (xs := [.tmp 4, .tmp 5, .tmp 6]) (by simp) rfl ?_ ?_ ?_ ?_
      rotate_left 2
      · simp only [resAll_cons, resAll_nil, resPVl_0, resPVl_1, resPVl_2, resOne_tmp, resOne_cell, List.map_cons, List.map_nil, splice_one, cells_bv, getD_bv, set_bv, cells_agg, hn0, if_false, reduceIte, evalIn_tmp, evalIn_const, evalIn_func, lookup_cons, Nat.reduceBEq, cond_true, cond_false, lit_ul0, lit_ul1, loadF, partF, List.getElem?_cons_zero, List.getElem?_cons_succ, List.set_cons_zero, List.set_cons_succ, List.cons_append, List.nil_append, true_and, and_true, and_self, Nat.le_refl, Nat.reduceLeDiff, isAggD, Bool.false_eq_true, if_true, take_cl, agg_cl, len_cl, List.drop_zero, Int.toNat_natCast, Int.reduceToNat, Int.toNat_zero, n_add_zero, Nat.mul_one, Nat.zero_add, Nat.reduceAdd, Nat.reduceMul, take_bytes, List.length_map, List.getD_cons_zero, ty3, ty5, ty22]; try rfl
      · first | (with_reducible rfl) | (simp only [closed, closedL, closed_u4, closed_ul, closed_uw, closed_sv, closedL_bv, closedL_wr, Bool.and_self, Bool.and_true]; done) | (simp only [closed, closedL, closed_u4, closed_ul, closed_uw, closed_sv, closedL_bv, closedL_wr, Bool.and_self, Bool.and_true]; rfl)
      · rfl
      · simp only [resAll_cons, resAll_nil, resPVl_0, resPVl_1, resPVl_2, resOne_tmp, resOne_cell, List.map_cons, List.map_nil, splice_one, cells_bv, getD_bv, set_bv, cells_agg, hn0, if_false, reduceIte, evalIn_tmp, evalIn_const, evalIn_func, lookup_cons, Nat.reduceBEq, cond_true, cond_false, lit_ul0, lit_ul1, loadF, partF, List.getElem?_cons_zero, List.getElem?_cons_succ, List.set_cons_zero, List.set_cons_succ, List.cons_append, List.nil_append, true_and, and_true, and_self, Nat.le_refl, Nat.reduceLeDiff, isAggD, Bool.false_eq_true, if_true, take_cl, agg_cl, len_cl, List.drop_zero, Int.toNat_natCast, Int.reduceToNat, Int.toNat_zero, n_add_zero, Nat.mul_one, Nat.zero_add, Nat.reduceAdd, Nat.reduceMul, take_bytes, List.length_map, List.getD_cons_zero, ty3, ty5, ty22]; try trivial
  · exact hS.elim
end Go.Ab
