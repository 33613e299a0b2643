import Derived.Test.YtgknomjgpkpjdaaME
import Derived.Test.YtgknomjgpkpjdaaTY
import Derived.Test.YtgknomjgpkpjdaaFlawsane
import Derived.Test.YtgknomjgpkpjdaaFwideAdd
import Derived.Test.YtgknomjgpkpjdaaFref02Add
import Derived.Test.YtgknomjgpkpjdaaFwideSub
import Derived.Test.YtgknomjgpkpjdaaFref02Sub
import Derived.Test.YtgknomjgpkpjdaaFwideMul
import Derived.Test.YtgknomjgpkpjdaaFref02Mul
import Derived.Test.YtgknomjgpkpjdaaFwideNot
import Derived.Test.YtgknomjgpkpjdaaFref02Not
namespace Go.Ab
open Go Go.Proofs
set_option linter.unusedVariables false
set_option linter.unusedSimpArgs false
set_option maxRecDepth 8000
set_option maxHeartbeats 4000000

noncomputable def B4 : Code := bodyOf Try.f4
theorem B4_eq : Try.f4.body = some B4 := by kernel_rfl
noncomputable def n4_0 : Code := B4
noncomputable def n4_1 : Code := codeAt B4 [0]
noncomputable def n4_2 : Code := codeAt B4 [1]
noncomputable def n4_3 : Code := codeAt B4 [1, 0]
noncomputable def n4_4 : Code := codeAt B4 [1, 1]
noncomputable def n4_5 : Code := codeAt B4 [1, 1, 0]
noncomputable def n4_6 : Code := codeAt B4 [1, 1, 1]
noncomputable def n4_7 : Code := codeAt B4 [1, 1, 1, 0]
noncomputable def n4_8 : Code := codeAt B4 [1, 1, 1, 1]
noncomputable def n4_9 : Code := codeAt B4 [1, 1, 1, 1, 0]
noncomputable def n4_10 : Code := codeAt B4 [1, 1, 1, 1, 1]
noncomputable def n4_11 : Code := codeAt B4 [1, 1, 1, 1, 1, 0]
noncomputable def n4_12 : Code := codeAt B4 [1, 1, 1, 1, 1, 1]
noncomputable def n4_13 : Code := codeAt B4 [1, 1, 1, 1, 1, 1, 0]
noncomputable def n4_14 : Code := codeAt B4 [1, 1, 1, 1, 1, 1, 1]
noncomputable def n4_15 : Code := codeAt B4 [1, 1, 1, 1, 1, 1, 1, 0]
noncomputable def n4_16 : Code := codeAt B4 [1, 1, 1, 1, 1, 1, 1, 1]
theorem e4_0 : n4_0 = .seq n4_1 n4_2 := rfl
noncomputable def r4_1 : List Oper := opsAt n4_1
theorem e4_1 : n4_1 = .region 0 (r4_1).toArray false := rfl
theorem e4_2 : n4_2 = .seq n4_3 n4_4 := rfl
noncomputable def r4_3 : List Oper := opsAt n4_3
theorem e4_3 : n4_3 = .region 1 (r4_3).toArray false := rfl
theorem e4_4 : n4_4 = .seq n4_5 n4_6 := rfl
noncomputable def r4_5 : List Oper := opsAt n4_5
theorem e4_5 : n4_5 = .region 2 (r4_5).toArray false := rfl
theorem e4_6 : n4_6 = .seq n4_7 n4_8 := rfl
noncomputable def r4_7 : List Oper := opsAt n4_7
theorem e4_7 : n4_7 = .region 3 (r4_7).toArray false := rfl
theorem e4_8 : n4_8 = .seq n4_9 n4_10 := rfl
noncomputable def r4_9 : List Oper := opsAt n4_9
theorem e4_9 : n4_9 = .region 4 (r4_9).toArray false := rfl
theorem e4_10 : n4_10 = .seq n4_11 n4_12 := rfl
noncomputable def r4_11 : List Oper := opsAt n4_11
theorem e4_11 : n4_11 = .region 5 (r4_11).toArray false := rfl
theorem e4_12 : n4_12 = .seq n4_13 n4_14 := rfl
noncomputable def r4_13 : List Oper := opsAt n4_13
theorem e4_13 : n4_13 = .region 6 (r4_13).toArray false := rfl
theorem e4_14 : n4_14 = .seq n4_15 n4_16 := rfl
noncomputable def r4_15 : List Oper := opsAt n4_15
theorem e4_15 : n4_15 = .region 7 (r4_15).toArray true := rfl
theorem a4_15 : anyOk r4_15 = true := by decide +kernel
theorem g4_15_1 : (r4_15[1]?).bind (·.dst) = some 54 := by decide +kernel
theorem g4_15_6 : (r4_15[6]?).bind (·.dst) = some 59 := by decide +kernel
theorem g4_15_11 : (r4_15[11]?).bind (·.dst) = some 64 := by decide +kernel
theorem g4_15_16 : (r4_15[16]?).bind (·.dst) = some 69 := by decide +kernel
theorem g4_15_21 : (r4_15[21]?).bind (·.dst) = some 74 := by decide +kernel
theorem g4_15_26 : (r4_15[26]?).bind (·.dst) = some 79 := by decide +kernel
theorem g4_15_31 : (r4_15[31]?).bind (·.dst) = some 84 := by decide +kernel
theorem e4_16 : n4_16 = .ret := rfl
theorem f_law_WideSums : PureOk Try.prog 4 sL2 := by
  refine pureOk_of (c := n4_0) (Γ := conOf [(14, .pure sSane), (25, .pure sAdd), (26, .pure sAdd), (27, .pure sSub), (28, .pure sSub), (29, .pure sMul), (30, .pure sMul), (31, .pure sNot), (32, .pure sNot)]) (conOf_ok (conOf_one (S := .pure sSane) f_law_sane (conOf_one (S := .pure sAdd) f_wide_Add (conOf_one (S := .pure sAdd) f_ref02_Add (conOf_one (S := .pure sSub) f_wide_Sub (conOf_one (S := .pure sSub) f_ref02_Sub (conOf_one (S := .pure sMul) f_wide_Mul (conOf_one (S := .pure sMul) f_ref02_Mul (conOf_one (S := .pure sNot) f_wide_Not (conOf_one (S := .pure sNot) f_ref02_Not (conOf_end))))))))))) mixed Try.func4 B4_eq (by decide +kernel) Try.call4 ?_
  intro args hS
  unfold sL2 at hS ⊢
  split at hS
  · refine ⟨by rw [Try.ntmps4]; simp, vC_sound ?_⟩
    rename_i xa xb
    obtain ⟨ha, hb⟩ := hS
    obtain ⟨a, la, rfl⟩ := isU_out ha
    obtain ⟨b, lb, rfl⟩ := isU_out hb
    simp only [uv_u4, Nat.mod_eq_of_lt la, Nat.mod_eq_of_lt lb]
    clear ha hb
    simp only [entry_cons, entry_nil, Nat.reduceAdd]
    repeat' (first
      | (with_reducible apply seqC_normal)
      | (with_reducible apply seqC_ret)
      | ((with_reducible apply wC_seq e4_0); (with_reducible apply wC_region e4_1); refine vOps_open (l := _ :: _) rfl ?_)
      | ((with_reducible apply wC_seq e4_2); (with_reducible apply kC_less [2, 3] (c := n4_3)); (exact rfl); (exact rfl); (with_reducible apply wC_region e4_3); refine vOps_open (l := _ :: _) rfl ?_)
      | ((with_reducible apply wC_seq e4_4); (with_reducible apply kC_less [2, 3, 5, 6] (c := n4_5)); (exact rfl); (exact rfl); (with_reducible apply wC_region e4_5); refine vOps_open (l := _ :: _) rfl ?_)
      | ((with_reducible apply wC_seq e4_6); (with_reducible apply kC_less [2, 3, 5, 6, 7, 8] (c := n4_7)); (exact rfl); (exact rfl); (with_reducible apply wC_region e4_7); refine vOps_open (l := _ :: _) rfl ?_)
      | ((with_reducible apply wC_seq e4_8); (with_reducible apply kC_less [2, 3, 5, 6, 7, 8, 9, 10] (c := n4_9)); (exact rfl); (exact rfl); (with_reducible apply wC_region e4_9); refine vOps_open (l := _ :: _) rfl ?_)
      | ((with_reducible apply wC_seq e4_10); (with_reducible apply kC_less [2, 3, 5, 6, 7, 8, 9, 10, 11, 12] (c := n4_11)); (exact rfl); (exact rfl); (with_reducible apply wC_region e4_11); refine vOps_open (l := _ :: _) rfl ?_)
      | ((with_reducible apply wC_seq e4_12); (with_reducible apply kC_less [2, 3, 5, 6, 7, 8, 9, 10, 11, 12, 13, 14] (c := n4_13)); (exact rfl); (exact rfl); (with_reducible apply wC_region e4_13); refine vOps_open (l := _ :: _) rfl ?_)
      | ((with_reducible apply wC_seq e4_14); (with_reducible apply kC_less [2, 5, 6, 7, 8, 9, 10, 11, 12, 13, 14, 15, 16] (c := n4_15)); (exact rfl); (exact rfl); (with_reducible apply wC_any e4_15 a4_15); refine vOps_open (l := _ :: _) rfl ?_)
      | ((with_reducible apply wC_ret e4_16))
      | ((with_reducible apply vOps_nil); try (with_reducible refine And.intro (by kernel_rfl) ?_))
      | (refine kOps_gon (g := ?_) (p := ?_) rfl rfl ?_ ?_ ?_ ?_; rotate_left 2; (with_reducible first | exact g4_15_1 | exact g4_15_6 | exact g4_15_11 | exact g4_15_16 | exact g4_15_21 | exact g4_15_26 | exact g4_15_31); (exact rfl); (with_reducible rfl))
      | (refine kOps_gofft (g := ?_) (p := ?_) rfl rfl ?_ ?_ ?_ ?_; rotate_left 2; (with_reducible first | exact g4_15_1 | exact g4_15_6 | exact g4_15_11 | exact g4_15_16 | exact g4_15_21 | exact g4_15_26 | exact g4_15_31); (exact rfl); (with_reducible rfl))
      | (refine kOps_gofff (g := ?_) (p := ?_) rfl rfl ?_ ?_ ?_ ?_; rotate_left 2; (with_reducible first | exact g4_15_1 | exact g4_15_6 | exact g4_15_11 | exact g4_15_16 | exact g4_15_21 | exact g4_15_26 | exact g4_15_31); (exact rfl); (with_reducible rfl))
      | (refine kOps_pickt rfl rfl rfl rfl ?_ rfl ?_; (with_reducible rfl))
      | (refine kOps_pickf rfl rfl rfl rfl ?_ rfl ?_; (with_reducible rfl))
      | (refine kOps_box (row := ?_) (n := ?_) rfl rfl rfl rfl rfl ?_ ?_ ?_ ?_; rotate_left 2; (simp only [↓List.length_append, ↓List.length_set, ↓List.length_cons, List.length_nil, Nat.reduceAdd, Nat.zero_add]; rfl); (simp only [clg0, clg1, clg2, clg3, splice_cl, splice_one, len_cl, Nat.reduceMod, Nat.reduceAdd, Nat.reduceSub, Nat.reduceMul, Nat.reduceDiv, Nat.reduceLT, Nat.reduceLeDiff, Nat.reduceEqDiff, decide_true, decide_false, eq_self, if_false, if_true, reduceIte, Nat.zero_mod, Bool.not_true, Bool.not_false, binF_beql, binF_bneq, beq_self_eq_true, Option.map_some, cells_ul, cells_u4]; rfl); (focus (first | rfl | exact one_cl _ _ | exact one_bv _ | (simp only [one_cl, one_ul, List.all_cons, List.all_nil, Bool.and_self, PV.one]; done) | (simp [PV.one, one_ul, one_cl, one_bv, Value.oneCell']; done))))
      | (refine kOps_as rfl rfl rfl rfl ?_)
      | ((first | refine kOps_loadp (pre := ?_) (val := ?_) rfl rfl rfl rfl rfl ty26 ?_ ?_ ?_ | refine kOps_loadr (pre := ?_) (val := ?_) rfl rfl rfl rfl ty26 ?_ ?_ ?_); rotate_left 2; (simp only [clg0, clg1, clg2, clg3, splice_cl, splice_one, len_cl, Nat.reduceMod, Nat.reduceAdd, Nat.reduceSub, Nat.reduceMul, Nat.reduceDiv, Nat.reduceLT, Nat.reduceLeDiff, Nat.reduceEqDiff, decide_true, decide_false, eq_self, if_false, if_true, reduceIte, Nat.zero_mod, Bool.not_true, Bool.not_false, binF_beql, binF_bneq, beq_self_eq_true, Option.map_some, partF, isAggD, Bool.false_eq_true, take_cl, agg_cl, List.drop_zero, Int.toNat_natCast, Int.reduceToNat, Int.toNat_zero, n_add_zero, Nat.mul_one, Nat.zero_add, getD_bv, take_bytes, List.length_map, List.getD_cons_zero]; rfl); (focus ((repeat' apply And.intro) <;> first | exact True.intro | omega | (with_reducible rfl) | assumption | exact ⟨_, rfl⟩ | (simp only [one_cl, one_ul, cells_u4, cells_ul, len_cl, List.all_cons, List.all_nil, Bool.and_self, List.forall_mem_cons, List.forall_mem_nil, Value.oneCell', and_self, closed_ul, closed_u4, List.length_cons, List.length_nil]; done) | exact (isByte_bv _).2 trivial | exact one_bv _ | (simp [Value.oneCell', PV.one, one_bv, closedL_bv, flatL_bv, closedL, closed, isByte_bv, Value.cells, PV.cells, cells_u4, cells_ul, one_ul, one_cl, len_cl]; first | done | omega))))
      | (refine kOps_callc (pre := ?_) (val := ?_) rfl rfl rfl rfl rfl ?_ ?_ ?_ ?_ ?_; rotate_left 2; (simp only [clg0, clg1, clg2, clg3, splice_cl, splice_one, len_cl, Nat.reduceMod, Nat.reduceAdd, Nat.reduceSub, Nat.reduceMul, Nat.reduceDiv, Nat.reduceLT, Nat.reduceLeDiff, Nat.reduceEqDiff, decide_true, decide_false, eq_self, if_false, if_true, reduceIte, Nat.zero_mod, Bool.not_true, Bool.not_false, binF_beql, binF_bneq, beq_self_eq_true, Option.map_some, sSane, sAdd, sSub, sMul, sNot, lit_ul0, lit_ul1, nrmC, List.map_cons, List.map_nil, nrm_ul, nrm_u4, nrm_nil, nrm_int, nrm_bool, nrm_string, nrm_ro, nrm_agg, nrm_rptr, isul_ul, ulv_ul, isU_u4, uv_u4, bytesOf_bv, isB_bv, true_and, and_true, and_self, n_add_zero, Nat.zero_add, n_sub_zero]; rfl); (focus (first | rfl | (simp only [closed, closedL, closed_ul, closed_u4, closedL_bv, closedL_cl, Bool.and_self, Bool.and_true]; done))); (focus (first | rfl | (simp only [closed, closedL, closed_ul, closed_u4, closedL_bv, closedL_cl, Bool.and_self, Bool.and_true]; done))); (focus ((repeat' apply And.intro) <;> first | exact True.intro | omega | (with_reducible rfl) | assumption | exact ⟨_, rfl⟩ | (simp only [one_cl, one_ul, cells_u4, cells_ul, len_cl, List.all_cons, List.all_nil, Bool.and_self, List.forall_mem_cons, List.forall_mem_nil, Value.oneCell', and_self, closed_ul, closed_u4, List.length_cons, List.length_nil]; done) | exact (isByte_bv _).2 trivial | exact one_bv _ | (simp [Value.oneCell', PV.one, one_bv, closedL_bv, flatL_bv, closedL, closed, isByte_bv, Value.cells, PV.cells, cells_u4, cells_ul, one_ul, one_cl, len_cl]; first | done | omega))))
      | (refine kOps_mv rfl rfl rfl rfl ?_)
      | (refine kOps_ext rfl rfl rfl rfl rfl ?_)
      | (refine kOps_alloc (row := ?_) (n := ?_) rfl rfl rfl rfl ty26 ?_ ?_ ?_ ?_; rotate_left 2; (simp only [↓List.length_append, ↓List.length_set, ↓List.length_cons, List.length_nil, Nat.reduceAdd, Nat.zero_add]; rfl); (simp only [clg0, clg1, clg2, clg3, splice_cl, splice_one, len_cl, Nat.reduceMod, Nat.reduceAdd, Nat.reduceSub, Nat.reduceMul, Nat.reduceDiv, Nat.reduceLT, Nat.reduceLeDiff, Nat.reduceEqDiff, decide_true, decide_false, eq_self, if_false, if_true, reduceIte, Nat.zero_mod, Bool.not_true, Bool.not_false, binF_beql, binF_bneq, beq_self_eq_true, Option.map_some, Value.cells, List.map_cons, List.map_nil, List.toList_toArray, zero_cl4, zero_cl8, lit_ul0]; rfl); (focus (first | (simp only [Value.cells, List.toList_toArray, List.forall_mem_cons, List.forall_mem_nil, Value.oneCell', and_self]; done) | (simp [Value.cells, Value.oneCell']; done))))
      | (refine kOps_store (cs' := ?_) rfl rfl rfl rfl rfl rfl rfl ty26 ?_ ?_ ?_; rotate_left 1; (simp only [clg0, clg1, clg2, clg3, splice_cl, splice_one, len_cl, Nat.reduceMod, Nat.reduceAdd, Nat.reduceSub, Nat.reduceMul, Nat.reduceDiv, Nat.reduceLT, Nat.reduceLeDiff, Nat.reduceEqDiff, decide_true, decide_false, eq_self, if_false, if_true, reduceIte, Nat.zero_mod, Bool.not_true, Bool.not_false, binF_beql, binF_bneq, beq_self_eq_true, Option.map_some, lit_ul0, lit_ul1, cells_ul, cells_u4, isAggD, Bool.false_eq_true, take_cl, agg_cl, List.drop_zero, Int.toNat_natCast, Int.reduceToNat, Int.toNat_zero, n_add_zero, Nat.mul_one, Nat.zero_add, getD_bv, take_bytes, List.length_map, List.getD_cons_zero]; rfl); (focus (first | (simp only [lit_ul0, lit_ul1, cells_ul, cells_u4, List.length_cons, List.length_nil, len_cl, List.length_set, List.length_map, Nat.reduceAdd, Nat.zero_add, List.all_cons, List.all_nil, one_ul, one_cl, one_bv, PV.one, Value.oneCell', Bool.and_self, Nat.reduceLeDiff, Nat.le_refl, and_self, true_and, and_true]; done) | ((try simp only [lit_ul0, lit_ul1, cells_ul, cells_u4]); (focus ((repeat' apply And.intro) <;> first | exact True.intro | omega | (with_reducible rfl) | assumption | exact ⟨_, rfl⟩ | (simp only [one_cl, one_ul, cells_u4, cells_ul, len_cl, List.all_cons, List.all_nil, Bool.and_self, List.forall_mem_cons, List.forall_mem_nil, Value.oneCell', and_self, closed_ul, closed_u4, List.length_cons, List.length_nil]; done) | exact (isByte_bv _).2 trivial | exact one_bv _ | (simp [Value.oneCell', PV.one, one_bv, closedL_bv, flatL_bv, closedL, closed, isByte_bv, Value.cells, PV.cells, cells_u4, cells_ul, one_ul, one_cl, len_cl]; first | done | omega)))))))
      | (refine kOps_callc (pre := ?_) (val := ?_) rfl rfl rfl rfl rfl ?_ ?_ ?_ ?_ ?_; rotate_left 2; (simp only [clg0, clg1, clg2, clg3, splice_cl, splice_one, len_cl, Nat.reduceMod, Nat.reduceAdd, Nat.reduceSub, Nat.reduceMul, Nat.reduceDiv, Nat.reduceLT, Nat.reduceLeDiff, Nat.reduceEqDiff, decide_true, decide_false, eq_self, if_false, if_true, reduceIte, Nat.zero_mod, Bool.not_true, Bool.not_false, binF_beql, binF_bneq, beq_self_eq_true, Option.map_some, sSane, sAdd, sSub, sMul, sNot, nrmC, List.map_cons, List.map_nil, nrm_ul, nrm_u4, nrm_nil, nrm_int, nrm_bool, nrm_string, nrm_ro, nrm_agg, nrm_rptr, isul_ul, ulv_ul, isU_u4, uv_u4, bytesOf_bv, isB_bv, true_and, and_true, and_self, n_add_zero, Nat.zero_add, n_sub_zero]; rfl); (focus (first | rfl | (simp only [closed, closedL, closed_ul, closed_u4, closedL_bv, closedL_cl, Bool.and_self, Bool.and_true]; done))); (focus (first | rfl | (simp only [closed, closedL, closed_ul, closed_u4, closedL_bv, closedL_cl, Bool.and_self, Bool.and_true]; done))); (focus ((repeat' apply And.intro) <;> first | exact True.intro | omega | (with_reducible rfl) | assumption | exact ⟨_, rfl⟩ | (simp only [one_cl, one_ul, cells_u4, cells_ul, len_cl, List.all_cons, List.all_nil, Bool.and_self, List.forall_mem_cons, List.forall_mem_nil, Value.oneCell', and_self, closed_ul, closed_u4, List.length_cons, List.length_nil]; done) | exact (isByte_bv _).2 trivial | exact one_bv _ | (simp [Value.oneCell', PV.one, one_bv, closedL_bv, flatL_bv, closedL, closed, isByte_bv, Value.cells, PV.cells, cells_u4, cells_ul, one_ul, one_cl, len_cl]; first | done | omega))))
      | (refine kOps_bin (b := .eql) (pre := ?_) (val := ?_) rfl rfl rfl rfl rfl ?_ ?_ ?_; rotate_left 2; (intro L; simp only [clg0, clg1, clg2, clg3, splice_cl, splice_one, len_cl, Nat.reduceMod, Nat.reduceAdd, Nat.reduceSub, Nat.reduceMul, Nat.reduceDiv, Nat.reduceLT, Nat.reduceLeDiff, Nat.reduceEqDiff, decide_true, decide_false, eq_self, if_false, if_true, reduceIte, Nat.zero_mod, Bool.not_true, Bool.not_false, binF_beql, binF_bneq, beq_self_eq_true, Option.map_some, eql_u4 ty26 ty22, neq_u4 ty26 ty22, lit_ul0, lit_ul1, eql_ul, binF_eql, binF_seql, Int.reduceAdd, Int.reduceSub, Int.reduceMul, Int.reduceNeg, Int.sub_zero, Int.cast_ofNat_Int, ne_eq, Int.reduceLT, Int.reduceLE, Int.reduceEq, ty26, ty22]; (first | (rw [wrap_i64] <;> first | omega | rfl) | (rw [wrap_u8] <;> first | omega | rfl) | (rw [wrap_u16] <;> first | omega | rfl) | (rw [wrap_u32] <;> first | omega | rfl) | rfl)); (focus ((repeat' apply And.intro) <;> first | exact True.intro | omega | (with_reducible rfl) | assumption | exact ⟨_, rfl⟩ | (simp only [one_cl, one_ul, cells_u4, cells_ul, len_cl, List.all_cons, List.all_nil, Bool.and_self, List.forall_mem_cons, List.forall_mem_nil, Value.oneCell', and_self, closed_ul, closed_u4, List.length_cons, List.length_nil]; done) | exact (isByte_bv _).2 trivial | exact one_bv _ | (simp [Value.oneCell', PV.one, one_bv, closedL_bv, flatL_bv, closedL, closed, isByte_bv, Value.cells, PV.cells, cells_u4, cells_ul, one_ul, one_cl, len_cl]; first | done | omega))))
      | (refine kOps_bin (b := .eql) (pre := ?_) (val := ?_) rfl rfl rfl rfl rfl ?_ ?_ ?_; rotate_left 2; (intro L; simp only [clg0, clg1, clg2, clg3, splice_cl, splice_one, len_cl, Nat.reduceMod, Nat.reduceAdd, Nat.reduceSub, Nat.reduceMul, Nat.reduceDiv, Nat.reduceLT, Nat.reduceLeDiff, Nat.reduceEqDiff, decide_true, decide_false, eq_self, if_false, if_true, reduceIte, Nat.zero_mod, Bool.not_true, Bool.not_false, binF_beql, binF_bneq, beq_self_eq_true, Option.map_some, eql_u4 ty26 ty22, neq_u4 ty26 ty22, lit_ul0, lit_ul1, eql_ul, binF_eql, binF_seql, Int.reduceAdd, Int.reduceSub, Int.reduceMul, Int.reduceNeg, Int.sub_zero, Int.cast_ofNat_Int, ne_eq, Int.reduceLT, Int.reduceLE, Int.reduceEq, ty4]; (first | (rw [wrap_i64] <;> first | omega | rfl) | (rw [wrap_u8] <;> first | omega | rfl) | (rw [wrap_u16] <;> first | omega | rfl) | (rw [wrap_u32] <;> first | omega | rfl) | rfl)); (focus ((repeat' apply And.intro) <;> first | exact True.intro | omega | (with_reducible rfl) | assumption | exact ⟨_, rfl⟩ | (simp only [one_cl, one_ul, cells_u4, cells_ul, len_cl, List.all_cons, List.all_nil, Bool.and_self, List.forall_mem_cons, List.forall_mem_nil, Value.oneCell', and_self, closed_ul, closed_u4, List.length_cons, List.length_nil]; done) | exact (isByte_bv _).2 trivial | exact one_bv _ | (simp [Value.oneCell', PV.one, one_bv, closedL_bv, flatL_bv, closedL, closed, isByte_bv, Value.cells, PV.cells, cells_u4, cells_ul, one_ul, one_cl, len_cl]; first | done | omega))))
      | (refine vOps_gundef rfl rfl ?_ ?_; (focus (simp only [lookup_cons, Nat.reduceBEq, cond_true, cond_false]; done)); simp only [putIn])
      | (refine vOps_gpick (t := ?_) (val := ?_) rfl rfl ?_ rfl rfl ?_ ?_ ?_; rotate_left 2; (focus (simp only [lookup_cons, Nat.reduceBEq, cond_true, cond_false]; done)); (simp only [evalIn_tmp, evalIn_const, lookup_cons, Nat.reduceBEq, cond_true, cond_false]; rfl); (simp only [evalIn_tmp, evalIn_const, lookup_cons, Nat.reduceBEq, cond_true, cond_false]; rfl))
      | (refine vOps_pick (t := ?_) (val := ?_) rfl rfl rfl ?_ ?_ ?_; rotate_left 2; (simp only [evalIn_tmp, evalIn_const, lookup_cons, Nat.reduceBEq, cond_true, cond_false]; rfl); (simp only [evalIn_tmp, evalIn_const, lookup_cons, Nat.reduceBEq, cond_true, cond_false]; rfl))
      | (refine vOps_fork (b := ?_) rfl rfl ?_ ?_ ?_; rotate_left 1; (simp only [lookup_cons, Nat.reduceBEq, cond_true, cond_false]; rfl); all_goals (intro hb; simp only [hb]; (try simp only [decide_eq_true_eq, decide_eq_false_iff_not] at hb); try (exfalso; first | omega | exact hb trivial)))
      | (refine vOps_forkp (b := ?_) rfl ?_ ?_ ?_; rotate_left 1; (simp only [evalIn_tmp, lookup_cons, Nat.reduceBEq, cond_true, cond_false]; rfl); all_goals (intro hb; simp only [hb]; (try simp only [decide_eq_true_eq, decide_eq_false_iff_not] at hb); try (exfalso; first | omega | exact hb trivial))))
    refine fin_c (p := ?_) (xs := [.tmp 4]) (by simp) rfl ?_ ?_ ?_ ?_
    rotate_left 2
    · simp only [resAll_cons, resAll_nil, resPVl_0, resPVl_1, resPVl_2, resOne_tmp, resOne_cell, List.map_cons, List.map_nil, clg0, clg1, clg2, clg3, splice_cl, splice_one, len_cl, Nat.reduceMod, Nat.reduceAdd, Nat.reduceSub, Nat.reduceMul, Nat.reduceDiv, Nat.reduceLT, Nat.reduceLeDiff, Nat.reduceEqDiff, decide_true, decide_false, eq_self, if_false, if_true, reduceIte, Nat.zero_mod, Bool.not_true, Bool.not_false, binF_beql, binF_bneq, beq_self_eq_true, Option.map_some, evalIn_tmp, evalIn_const, evalIn_func, lookup_cons, Nat.reduceBEq, cond_true, cond_false, lit_ul0, lit_ul1, loadF, partF, List.getElem?_cons_zero, List.getElem?_cons_succ, List.set_cons_zero, List.set_cons_succ, List.cons_append, List.nil_append, true_and, and_true, and_self, Nat.le_refl, isAggD, Bool.false_eq_true, take_cl, agg_cl, List.drop_zero, Int.toNat_natCast, Int.reduceToNat, Int.toNat_zero, n_add_zero, Nat.mul_one, Nat.zero_add, getD_bv, take_bytes, List.length_map, List.getD_cons_zero, ty4, ty22, ty26]; try rfl
    · first | rfl | (simp only [closed, closedL, closed_u4, closed_ul, closedL_cl, closedL_bv, Bool.and_self, Bool.and_true]; done) | (simp only [closed, closedL, closed_u4, closed_ul, closedL_cl, closedL_bv, Bool.and_self, Bool.and_true]; rfl)
    · rfl
    · simp only [resAll_cons, resAll_nil, resPVl_0, resPVl_1, resPVl_2, resOne_tmp, resOne_cell, List.map_cons, List.map_nil, clg0, clg1, clg2, clg3, splice_cl, splice_one, len_cl, Nat.reduceMod, Nat.reduceAdd, Nat.reduceSub, Nat.reduceMul, Nat.reduceDiv, Nat.reduceLT, Nat.reduceLeDiff, Nat.reduceEqDiff, decide_true, decide_false, eq_self, if_false, if_true, reduceIte, Nat.zero_mod, Bool.not_true, Bool.not_false, binF_beql, binF_bneq, beq_self_eq_true, Option.map_some, evalIn_tmp, evalIn_const, evalIn_func, lookup_cons, Nat.reduceBEq, cond_true, cond_false, lit_ul0, lit_ul1, loadF, partF, List.getElem?_cons_zero, List.getElem?_cons_succ, List.set_cons_zero, List.set_cons_succ, List.cons_append, List.nil_append, true_and, and_true, and_self, Nat.le_refl, isAggD, Bool.false_eq_true, take_cl, agg_cl, List.drop_zero, Int.toNat_natCast, Int.reduceToNat, Int.toNat_zero, n_add_zero, Nat.mul_one, Nat.zero_add, getD_bv, take_bytes, List.length_map, List.getD_cons_zero, ty4, ty22, ty26]; try trivial
  · exact hS.elim
end Go.Ab
