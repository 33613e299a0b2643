import Derived.Test.YtgknomjgpkpjdaaME
import Derived.Test.YtgknomjgpkpjdaaTY
import Derived.Test.YtgknomjgpkpjdaaFlawsane
import Derived.Test.YtgknomjgpkpjdaaFwideAdd
import Derived.Test.YtgknomjgpkpjdaaFwideMul
import Derived.Test.YtgknomjgpkpjdaaFwideMulMod
import Derived.Test.YtgknomjgpkpjdaaFwideExpMod
import Derived.Test.YtgknomjgpkpjdaaMJ
namespace Go.Ab
open Go Go.Proofs
set_option linter.unusedVariables false
set_option linter.unusedSimpArgs false
set_option maxRecDepth 8000
set_option maxHeartbeats 4000000

noncomputable def B12 : Code := bodyOf Try.f12
theorem B12_eq : Try.f12.body = some B12 := by kernel_rfl
noncomputable def n12_0 : Code := B12
noncomputable def n12_1 : Code := codeAt B12 [0]
noncomputable def n12_2 : Code := codeAt B12 [1]
noncomputable def n12_3 : Code := codeAt B12 [1, 0]
noncomputable def n12_4 : Code := codeAt B12 [1, 0, 0]
noncomputable def n12_5 : Code := codeAt B12 [1, 0, 1]
noncomputable def n12_6 : Code := codeAt B12 [1, 0, 1, 0]
noncomputable def n12_7 : Code := codeAt B12 [1, 0, 1, 0, 0]
noncomputable def n12_8 : Code := codeAt B12 [1, 0, 1, 0, 1]
noncomputable def n12_9 : Code := codeAt B12 [1, 0, 1, 1]
noncomputable def n12_10 : Code := codeAt B12 [1, 1]
noncomputable def n12_11 : Code := codeAt B12 [1, 1, 0]
noncomputable def n12_12 : Code := codeAt B12 [1, 1, 1]
noncomputable def n12_13 : Code := codeAt B12 [1, 1, 1, 0]
noncomputable def n12_14 : Code := codeAt B12 [1, 1, 1, 1]
noncomputable def n12_15 : Code := codeAt B12 [1, 1, 1, 1, 0]
noncomputable def n12_16 : Code := codeAt B12 [1, 1, 1, 1, 1]
noncomputable def n12_17 : Code := codeAt B12 [1, 1, 1, 1, 1, 0]
noncomputable def n12_18 : Code := codeAt B12 [1, 1, 1, 1, 1, 1]
theorem e12_0 : n12_0 = .seq n12_1 n12_2 := rfl
noncomputable def r12_1 : List Oper := opsAt n12_1
theorem e12_1 : n12_1 = .region 0 (r12_1).toArray false := rfl
theorem e12_2 : n12_2 = .seq n12_3 n12_10 := rfl
theorem e12_3 : n12_3 = .seq n12_4 n12_5 := rfl
noncomputable def r12_4 : List Oper := opsAt n12_4
theorem e12_4 : n12_4 = .region 1 (r12_4).toArray false := rfl
theorem e12_5 : n12_5 = .cond (.tmp 16) n12_6 n12_9 := rfl
theorem e12_6 : n12_6 = .seq n12_7 n12_8 := rfl
noncomputable def r12_7 : List Oper := opsAt n12_7
theorem e12_7 : n12_7 = .region 2 (r12_7).toArray false := rfl
theorem e12_8 : n12_8 = .ret := rfl
theorem e12_9 : n12_9 = .skip := rfl
theorem e12_10 : n12_10 = .seq n12_11 n12_12 := rfl
noncomputable def r12_11 : List Oper := opsAt n12_11
theorem e12_11 : n12_11 = .region 3 (r12_11).toArray false := rfl
theorem e12_12 : n12_12 = .seq n12_13 n12_14 := rfl
noncomputable def r12_13 : List Oper := opsAt n12_13
theorem e12_13 : n12_13 = .region 4 (r12_13).toArray false := rfl
theorem e12_14 : n12_14 = .seq n12_15 n12_16 := rfl
noncomputable def r12_15 : List Oper := opsAt n12_15
theorem e12_15 : n12_15 = .region 5 (r12_15).toArray false := rfl
theorem e12_16 : n12_16 = .seq n12_17 n12_18 := rfl
noncomputable def r12_17 : List Oper := opsAt n12_17
theorem e12_17 : n12_17 = .region 6 (r12_17).toArray true := rfl
theorem a12_17 : anyOk r12_17 = true := by decide +kernel
theorem g12_17_15 : (r12_17[15]?).bind (·.dst) = some 48 := by decide +kernel
theorem e12_18 : n12_18 = .ret := rfl
theorem f_law_WideExponents : PureOk Try.prog 12 sLExp := by
  refine pureOk_of (c := n12_0) (Γ := conOf [(14, .pure sSane), (25, .pure sAdd), (29, .pure sMul), (43, .pure sMulMod), (45, .pure sExpMod)]) (conOf_ok (conOf_one (S := .pure sSane) f_law_sane (conOf_one (S := .pure sAdd) f_wide_Add (conOf_one (S := .pure sMul) f_wide_Mul (conOf_one (S := .pure sMulMod) f_wide_MulMod (conOf_one (S := .pure sExpMod) f_wide_ExpMod (conOf_end))))))) mixed Try.func12 B12_eq (by decide +kernel) Try.call12 ?_
  intro args hS
  unfold sLExp at hS ⊢
  split at hS
  · refine ⟨by rw [Try.ntmps12]; simp, vC_sound ?_⟩
    rename_i xa xm xx xy
    obtain ⟨ha, hm, hx, hy⟩ := hS
    obtain ⟨a, la, rfl⟩ := isU_out ha
    obtain ⟨m, lm, rfl⟩ := isU_out hm
    obtain ⟨x, lx, rfl⟩ := isul_out hx
    obtain ⟨y, ly, rfl⟩ := isul_out hy
    clear ha hm hx hy
    have lx4 : x < 115792089237316195423570985008687907853269984665640564039457584007913129639936 := by omega
    have ly4 : y < 115792089237316195423570985008687907853269984665640564039457584007913129639936 := by omega
    have ls : x + y < 115792089237316195423570985008687907853269984665640564039457584007913129639936 := by omega
    have hp : x * y ≤ 18446744073709551615 * 18446744073709551615 := Nat.mul_le_mul (by omega) (by omega)
    have lp : x * y < 115792089237316195423570985008687907853269984665640564039457584007913129639936 := by omega
    have hrm := rem0_mod lm
    have eqs := exp_sum a x y m
    have eqp := exp_prod a x y m

    simp only [entry_cons, entry_nil, Nat.reduceAdd]
    repeat' (first
      | (with_reducible apply seqC_normal)
      | (with_reducible apply seqC_ret)
      | ((with_reducible apply wC_seq e12_0); (with_reducible apply wC_region e12_1); refine vOps_open (l := _ :: _) rfl ?_)
      | ((with_reducible apply wC_seq e12_2); (with_reducible apply wC_seq e12_3); (with_reducible apply wC_region e12_4); refine vOps_open (l := _ :: _) rfl ?_)
      | ((with_reducible apply kC_cond e12_5); (exact rfl); all_goals (intro hb; first | (cases hb; done) | cases hb | ((try simp only [decide_eq_true_eq, decide_eq_false_iff_not, Bool.not_eq_true', Bool.not_eq_false'] at hb); try (exfalso; first | omega | exact hb trivial))))
      | ((with_reducible apply wC_seq e12_6); (with_reducible apply wC_region e12_7); refine vOps_open (l := _ :: _) rfl ?_)
      | ((with_reducible apply wC_ret e12_8))
      | ((with_reducible apply wC_skip e12_9))
      | ((with_reducible apply wC_seq e12_10); (with_reducible apply kC_less [2, 3, 4, 5] (c := n12_11)); (exact rfl); (exact rfl); (with_reducible apply wC_region e12_11); refine vOps_open (l := _ :: _) rfl ?_)
      | ((with_reducible apply wC_seq e12_12); (with_reducible apply kC_less [4, 5, 9, 10] (c := n12_13)); (exact rfl); (exact rfl); (with_reducible apply wC_region e12_13); refine vOps_open (l := _ :: _) rfl ?_)
      | ((with_reducible apply wC_seq e12_14); (with_reducible apply kC_less [4, 5, 9, 10, 11] (c := n12_15)); (exact rfl); (exact rfl); (with_reducible apply wC_region e12_15); refine vOps_open (l := _ :: _) rfl ?_)
      | ((with_reducible apply wC_seq e12_16); (with_reducible apply kC_less [4, 5, 9, 10, 11, 14] (c := n12_17)); (exact rfl); (exact rfl); (with_reducible apply wC_any e12_17 a12_17); refine vOps_open (l := _ :: _) rfl ?_)
      | ((with_reducible apply wC_ret e12_18))
      | ((with_reducible apply vOps_nil); try (with_reducible refine And.intro (by kernel_rfl) ?_))
      | (refine kOps_gon (g := ?_) (p := ?_) rfl rfl ?_ ?_ ?_ ?_; rotate_left 2; (with_reducible first | exact g12_17_15); (exact rfl); (with_reducible rfl))
      | (refine kOps_gofft (g := ?_) (p := ?_) rfl rfl ?_ ?_ ?_ ?_; rotate_left 2; (with_reducible first | exact g12_17_15); (exact rfl); (with_reducible rfl))
      | (refine kOps_gofff (g := ?_) (p := ?_) rfl rfl ?_ ?_ ?_ ?_; rotate_left 2; (with_reducible first | exact g12_17_15); (exact rfl); (with_reducible rfl))
      | (refine kOps_pickt rfl rfl rfl rfl ?_ rfl ?_; (with_reducible rfl))
      | (refine kOps_pickf rfl rfl rfl rfl ?_ rfl ?_; (with_reducible rfl))
      | (refine kOps_box (row := ?_) (n := ?_) rfl rfl rfl rfl rfl ?_ ?_ ?_ ?_; rotate_left 2; (simp only [↓List.length_append, ↓List.length_set, ↓List.length_cons, List.length_nil, Nat.reduceAdd, Nat.zero_add]; rfl); (simp only [clg0, clg1, clg2, clg3, splice_cl, splice_one, len_cl, Nat.reduceMod, Nat.reduceAdd, Nat.reduceSub, Nat.reduceMul, Nat.reduceDiv, Nat.reduceLT, Nat.reduceLeDiff, Nat.reduceEqDiff, decide_true, decide_false, eq_self, if_false, if_true, reduceIte, Nat.zero_mod, Bool.not_true, Bool.not_false, binF_beql, beq_self_eq_true, Option.map_some, cl_one, Nat.mod_eq_of_lt la, Nat.mod_eq_of_lt lm, Nat.mod_eq_of_lt lx, Nat.mod_eq_of_lt ly, Nat.mod_eq_of_lt lx4, Nat.mod_eq_of_lt ly4, Nat.mod_eq_of_lt ls, Nat.mod_eq_of_lt lp, hrm, eqs, eqp, cells_ul, cells_u4]; rfl); (focus (first | rfl | exact one_cl _ _ | exact one_bv _ | (simp only [one_cl, one_ul, List.all_cons, List.all_nil, Bool.and_self, PV.one]; done) | (simp [PV.one, one_ul, one_cl, one_bv, Value.oneCell']; done))))
      | (refine kOps_as rfl rfl rfl rfl ?_)
      | (refine kOps_callc (pre := ?_) (val := ?_) rfl rfl rfl rfl rfl ?_ ?_ ?_ ?_ ?_; rotate_left 2; (simp only [clg0, clg1, clg2, clg3, splice_cl, splice_one, len_cl, Nat.reduceMod, Nat.reduceAdd, Nat.reduceSub, Nat.reduceMul, Nat.reduceDiv, Nat.reduceLT, Nat.reduceLeDiff, Nat.reduceEqDiff, decide_true, decide_false, eq_self, if_false, if_true, reduceIte, Nat.zero_mod, Bool.not_true, Bool.not_false, binF_beql, beq_self_eq_true, Option.map_some, cl_one, Nat.mod_eq_of_lt la, Nat.mod_eq_of_lt lm, Nat.mod_eq_of_lt lx, Nat.mod_eq_of_lt ly, Nat.mod_eq_of_lt lx4, Nat.mod_eq_of_lt ly4, Nat.mod_eq_of_lt ls, Nat.mod_eq_of_lt lp, hrm, eqs, eqp, sSane, sAdd, sMul, sMulMod, sExpMod, nrmC, List.map_cons, List.map_nil, nrm_ul, nrm_u4, nrm_nil, nrm_int, nrm_bool, nrm_string, nrm_ro, nrm_agg, nrm_rptr, isul_ul, ulv_ul, isU_u4, uv_u4, bytesOf_bv, isB_bv, true_and, and_true, and_self, n_add_zero, Nat.zero_add, n_sub_zero]; rfl); (focus (first | rfl | (simp only [closed, closedL, closed_ul, closed_u4, closedL_bv, closedL_cl, Bool.and_self, Bool.and_true]; done))); (focus (first | rfl | (simp only [closed, closedL, closed_ul, closed_u4, closedL_bv, closedL_cl, Bool.and_self, Bool.and_true]; done))); (focus ((repeat' apply And.intro) <;> first | exact True.intro | omega | (with_reducible rfl) | assumption | exact ⟨_, rfl⟩ | (simp only [one_cl, one_ul, cells_u4, cells_ul, len_cl, List.all_cons, List.all_nil, Bool.and_self, List.forall_mem_cons, List.forall_mem_nil, Value.oneCell', and_self, closed_ul, closed_u4, List.length_cons, List.length_nil]; done) | exact (isByte_bv _).2 trivial | exact one_bv _ | (simp [Value.oneCell', PV.one, one_bv, closedL_bv, flatL_bv, closedL, closed, isByte_bv, Value.cells, PV.cells, cells_u4, cells_ul, one_ul, one_cl, len_cl]; first | done | omega))))
      | (refine kOps_un (b := .not) (pre := ?_) (val := ?_) rfl rfl rfl rfl ?_ ?_ ?_; rotate_left 2; (intro L; simp only [clg0, clg1, clg2, clg3, splice_cl, splice_one, len_cl, Nat.reduceMod, Nat.reduceAdd, Nat.reduceSub, Nat.reduceMul, Nat.reduceDiv, Nat.reduceLT, Nat.reduceLeDiff, Nat.reduceEqDiff, decide_true, decide_false, eq_self, if_false, if_true, reduceIte, Nat.zero_mod, Bool.not_true, Bool.not_false, binF_beql, beq_self_eq_true, Option.map_some, cl_one, Nat.mod_eq_of_lt la, Nat.mod_eq_of_lt lm, Nat.mod_eq_of_lt lx, Nat.mod_eq_of_lt ly, Nat.mod_eq_of_lt lx4, Nat.mod_eq_of_lt ly4, Nat.mod_eq_of_lt ls, Nat.mod_eq_of_lt lp, hrm, eqs, eqp, not_ul, unF_not, unF_neg]; (first | (rw [wrap_i64] <;> first | omega | rfl) | (rw [wrap_u8] <;> first | omega | rfl) | (rw [wrap_u16] <;> first | omega | rfl) | (rw [wrap_u32] <;> first | omega | rfl) | rfl)); exact trivial)
      | (refine kOps_mv rfl rfl rfl rfl ?_)
      | (refine kOps_build (pre := ?_) (val := ?_) rfl rfl rfl rfl ?_ ?_ ?_; rotate_left 2; (intro L; simp only [clg0, clg1, clg2, clg3, splice_cl, splice_one, len_cl, Nat.reduceMod, Nat.reduceAdd, Nat.reduceSub, Nat.reduceMul, Nat.reduceDiv, Nat.reduceLT, Nat.reduceLeDiff, Nat.reduceEqDiff, decide_true, decide_false, eq_self, if_false, if_true, reduceIte, Nat.zero_mod, Bool.not_true, Bool.not_false, binF_beql, beq_self_eq_true, Option.map_some, cl_one, Nat.mod_eq_of_lt la, Nat.mod_eq_of_lt lm, Nat.mod_eq_of_lt lx, Nat.mod_eq_of_lt ly, Nat.mod_eq_of_lt lx4, Nat.mod_eq_of_lt ly4, Nat.mod_eq_of_lt ls, Nat.mod_eq_of_lt lp, hrm, eqs, eqp, lit_ul0, lit_ul1, buildF, fillB, zeroCells, Value.cells, List.map_cons, List.map_nil, List.toList_toArray, zero_cl4, cells_ul, cells_u4, Int.cast_ofNat_Int, Nat.min_self, List.drop_succ_cons, Int.reduceSub, List.getElem?_cons_zero, List.getElem?_cons_succ, List.getD_cons_zero, List.getD_cons_succ, List.getD_nil, List.drop_zero, List.take_succ_cons, List.take_zero, List.take_nil, List.length_cons, List.length_nil, List.set_cons_zero, List.set_cons_succ, Nat.zero_add, n_add_zero, Nat.mul_one, Nat.one_mul, Int.toNat_natCast, Int.reduceToNat, Int.toNat_zero, Bool.false_eq_true, isAggD, take_cl, agg_cl, getD_bv, take_bytes, List.length_map, List.cons_append, List.nil_append, true_and, and_true, and_self, ty26, ty22]; rfl); (focus ((repeat' apply And.intro) <;> first | exact True.intro | omega | (with_reducible rfl) | assumption | exact ⟨_, rfl⟩ | (simp only [one_cl, one_ul, cells_u4, cells_ul, len_cl, List.all_cons, List.all_nil, Bool.and_self, List.forall_mem_cons, List.forall_mem_nil, Value.oneCell', and_self, closed_ul, closed_u4, List.length_cons, List.length_nil]; done) | exact (isByte_bv _).2 trivial | exact one_bv _ | (simp [Value.oneCell', PV.one, one_bv, closedL_bv, flatL_bv, closedL, closed, isByte_bv, Value.cells, PV.cells, cells_u4, cells_ul, one_ul, one_cl, len_cl]; first | done | omega))))
      | (refine kOps_alloc (row := ?_) (n := ?_) rfl rfl rfl rfl ty26 ?_ ?_ ?_ ?_; rotate_left 2; (simp only [↓List.length_append, ↓List.length_set, ↓List.length_cons, List.length_nil, Nat.reduceAdd, Nat.zero_add]; rfl); (simp only [clg0, clg1, clg2, clg3, splice_cl, splice_one, len_cl, Nat.reduceMod, Nat.reduceAdd, Nat.reduceSub, Nat.reduceMul, Nat.reduceDiv, Nat.reduceLT, Nat.reduceLeDiff, Nat.reduceEqDiff, decide_true, decide_false, eq_self, if_false, if_true, reduceIte, Nat.zero_mod, Bool.not_true, Bool.not_false, binF_beql, beq_self_eq_true, Option.map_some, cl_one, Nat.mod_eq_of_lt la, Nat.mod_eq_of_lt lm, Nat.mod_eq_of_lt lx, Nat.mod_eq_of_lt ly, Nat.mod_eq_of_lt lx4, Nat.mod_eq_of_lt ly4, Nat.mod_eq_of_lt ls, Nat.mod_eq_of_lt lp, hrm, eqs, eqp, Value.cells, List.map_cons, List.map_nil, List.toList_toArray, zero_cl4, zero_cl8, lit_ul0]; rfl); (focus (first | (simp only [Value.cells, List.toList_toArray, List.forall_mem_cons, List.forall_mem_nil, Value.oneCell', and_self]; done) | (simp [Value.cells, Value.oneCell']; done))))
      | (refine kOps_store (cs' := ?_) rfl rfl rfl rfl rfl rfl rfl ty26 ?_ ?_ ?_; rotate_left 1; (simp only [clg0, clg1, clg2, clg3, splice_cl, splice_one, len_cl, Nat.reduceMod, Nat.reduceAdd, Nat.reduceSub, Nat.reduceMul, Nat.reduceDiv, Nat.reduceLT, Nat.reduceLeDiff, Nat.reduceEqDiff, decide_true, decide_false, eq_self, if_false, if_true, reduceIte, Nat.zero_mod, Bool.not_true, Bool.not_false, binF_beql, beq_self_eq_true, Option.map_some, cl_one, Nat.mod_eq_of_lt la, Nat.mod_eq_of_lt lm, Nat.mod_eq_of_lt lx, Nat.mod_eq_of_lt ly, Nat.mod_eq_of_lt lx4, Nat.mod_eq_of_lt ly4, Nat.mod_eq_of_lt ls, Nat.mod_eq_of_lt lp, hrm, eqs, eqp, lit_ul0, lit_ul1, cells_ul, cells_u4, isAggD, Bool.false_eq_true, take_cl, agg_cl, List.drop_zero, Int.toNat_natCast, Int.reduceToNat, Int.toNat_zero, n_add_zero, Nat.mul_one, Nat.zero_add, getD_bv, take_bytes, List.length_map, List.getD_cons_zero]; rfl); (focus (first | (simp only [lit_ul0, lit_ul1, cells_ul, cells_u4, List.length_cons, List.length_nil, len_cl, List.length_set, List.length_map, Nat.reduceAdd, Nat.zero_add, List.all_cons, List.all_nil, one_ul, one_cl, one_bv, PV.one, Value.oneCell', Bool.and_self, Nat.reduceLeDiff, Nat.le_refl, and_self, true_and, and_true]; done) | ((try simp only [lit_ul0, lit_ul1, cells_ul, cells_u4]); (focus ((repeat' apply And.intro) <;> first | exact True.intro | omega | (with_reducible rfl) | assumption | exact ⟨_, rfl⟩ | (simp only [one_cl, one_ul, cells_u4, cells_ul, len_cl, List.all_cons, List.all_nil, Bool.and_self, List.forall_mem_cons, List.forall_mem_nil, Value.oneCell', and_self, closed_ul, closed_u4, List.length_cons, List.length_nil]; done) | exact (isByte_bv _).2 trivial | exact one_bv _ | (simp [Value.oneCell', PV.one, one_bv, closedL_bv, flatL_bv, closedL, closed, isByte_bv, Value.cells, PV.cells, cells_u4, cells_ul, one_ul, one_cl, len_cl]; first | done | omega)))))))
      | ((first | refine kOps_loadp (pre := ?_) (val := ?_) rfl rfl rfl rfl rfl ty26 ?_ ?_ ?_ | refine kOps_loadr (pre := ?_) (val := ?_) rfl rfl rfl rfl ty26 ?_ ?_ ?_); rotate_left 2; (simp only [clg0, clg1, clg2, clg3, splice_cl, splice_one, len_cl, Nat.reduceMod, Nat.reduceAdd, Nat.reduceSub, Nat.reduceMul, Nat.reduceDiv, Nat.reduceLT, Nat.reduceLeDiff, Nat.reduceEqDiff, decide_true, decide_false, eq_self, if_false, if_true, reduceIte, Nat.zero_mod, Bool.not_true, Bool.not_false, binF_beql, beq_self_eq_true, Option.map_some, cl_one, Nat.mod_eq_of_lt la, Nat.mod_eq_of_lt lm, Nat.mod_eq_of_lt lx, Nat.mod_eq_of_lt ly, Nat.mod_eq_of_lt lx4, Nat.mod_eq_of_lt ly4, Nat.mod_eq_of_lt ls, Nat.mod_eq_of_lt lp, hrm, eqs, eqp, partF, isAggD, Bool.false_eq_true, take_cl, agg_cl, List.drop_zero, Int.toNat_natCast, Int.reduceToNat, Int.toNat_zero, n_add_zero, Nat.mul_one, Nat.zero_add, getD_bv, take_bytes, List.length_map, List.getD_cons_zero]; rfl); (focus ((repeat' apply And.intro) <;> first | exact True.intro | omega | (with_reducible rfl) | assumption | exact ⟨_, rfl⟩ | (simp only [one_cl, one_ul, cells_u4, cells_ul, len_cl, List.all_cons, List.all_nil, Bool.and_self, List.forall_mem_cons, List.forall_mem_nil, Value.oneCell', and_self, closed_ul, closed_u4, List.length_cons, List.length_nil]; done) | exact (isByte_bv _).2 trivial | exact one_bv _ | (simp [Value.oneCell', PV.one, one_bv, closedL_bv, flatL_bv, closedL, closed, isByte_bv, Value.cells, PV.cells, cells_u4, cells_ul, one_ul, one_cl, len_cl]; first | done | omega))))
      | (refine kOps_callc (pre := ?_) (val := ?_) rfl rfl rfl rfl rfl ?_ ?_ ?_ ?_ ?_; rotate_left 2; (simp only [clg0, clg1, clg2, clg3, splice_cl, splice_one, len_cl, Nat.reduceMod, Nat.reduceAdd, Nat.reduceSub, Nat.reduceMul, Nat.reduceDiv, Nat.reduceLT, Nat.reduceLeDiff, Nat.reduceEqDiff, decide_true, decide_false, eq_self, if_false, if_true, reduceIte, Nat.zero_mod, Bool.not_true, Bool.not_false, binF_beql, beq_self_eq_true, Option.map_some, cl_one, Nat.mod_eq_of_lt la, Nat.mod_eq_of_lt lm, Nat.mod_eq_of_lt lx, Nat.mod_eq_of_lt ly, Nat.mod_eq_of_lt lx4, Nat.mod_eq_of_lt ly4, Nat.mod_eq_of_lt ls, Nat.mod_eq_of_lt lp, hrm, eqs, eqp, sSane, sAdd, sMul, sMulMod, sExpMod, lit_ul0, lit_ul1, nrmC, List.map_cons, List.map_nil, nrm_ul, nrm_u4, nrm_nil, nrm_int, nrm_bool, nrm_string, nrm_ro, nrm_agg, nrm_rptr, isul_ul, ulv_ul, isU_u4, uv_u4, bytesOf_bv, isB_bv, true_and, and_true, and_self, n_add_zero, Nat.zero_add, n_sub_zero]; rfl); (focus (first | rfl | (simp only [closed, closedL, closed_ul, closed_u4, closedL_bv, closedL_cl, Bool.and_self, Bool.and_true]; done))); (focus (first | rfl | (simp only [closed, closedL, closed_ul, closed_u4, closedL_bv, closedL_cl, Bool.and_self, Bool.and_true]; done))); (focus ((repeat' apply And.intro) <;> first | exact True.intro | omega | (with_reducible rfl) | assumption | exact ⟨_, rfl⟩ | (simp only [one_cl, one_ul, cells_u4, cells_ul, len_cl, List.all_cons, List.all_nil, Bool.and_self, List.forall_mem_cons, List.forall_mem_nil, Value.oneCell', and_self, closed_ul, closed_u4, List.length_cons, List.length_nil]; done) | exact (isByte_bv _).2 trivial | exact one_bv _ | (simp [Value.oneCell', PV.one, one_bv, closedL_bv, flatL_bv, closedL, closed, isByte_bv, Value.cells, PV.cells, cells_u4, cells_ul, one_ul, one_cl, len_cl]; first | done | omega))))
      | (refine kOps_ext rfl rfl rfl rfl rfl ?_)
      | (refine kOps_bin (b := .eql) (pre := ?_) (val := ?_) rfl rfl rfl rfl rfl ?_ ?_ ?_; rotate_left 2; (intro L; simp only [clg0, clg1, clg2, clg3, splice_cl, splice_one, len_cl, Nat.reduceMod, Nat.reduceAdd, Nat.reduceSub, Nat.reduceMul, Nat.reduceDiv, Nat.reduceLT, Nat.reduceLeDiff, Nat.reduceEqDiff, decide_true, decide_false, eq_self, if_false, if_true, reduceIte, Nat.zero_mod, Bool.not_true, Bool.not_false, binF_beql, beq_self_eq_true, Option.map_some, cl_one, Nat.mod_eq_of_lt la, Nat.mod_eq_of_lt lm, Nat.mod_eq_of_lt lx, Nat.mod_eq_of_lt ly, Nat.mod_eq_of_lt lx4, Nat.mod_eq_of_lt ly4, Nat.mod_eq_of_lt ls, Nat.mod_eq_of_lt lp, hrm, eqs, eqp, eql_u4 ty26 ty22, neq_u4 ty26 ty22, lit_ul0, lit_ul1, eql_ul, binF_eql, binF_seql, Int.reduceAdd, Int.reduceSub, Int.reduceMul, Int.reduceNeg, Int.sub_zero, Int.cast_ofNat_Int, ne_eq, Int.reduceLT, Int.reduceLE, Int.reduceEq, ty26, ty22]; (first | (rw [wrap_i64] <;> first | omega | rfl) | (rw [wrap_u8] <;> first | omega | rfl) | (rw [wrap_u16] <;> first | omega | rfl) | (rw [wrap_u32] <;> first | omega | rfl) | rfl)); (focus ((repeat' apply And.intro) <;> first | exact True.intro | omega | (with_reducible rfl) | assumption | exact ⟨_, rfl⟩ | (simp only [one_cl, one_ul, cells_u4, cells_ul, len_cl, List.all_cons, List.all_nil, Bool.and_self, List.forall_mem_cons, List.forall_mem_nil, Value.oneCell', and_self, closed_ul, closed_u4, List.length_cons, List.length_nil]; done) | exact (isByte_bv _).2 trivial | exact one_bv _ | (simp [Value.oneCell', PV.one, one_bv, closedL_bv, flatL_bv, closedL, closed, isByte_bv, Value.cells, PV.cells, cells_u4, cells_ul, one_ul, one_cl, len_cl]; first | done | omega))))
      | (refine vOps_gundef rfl rfl ?_ ?_; (focus (simp only [lookup_cons, Nat.reduceBEq, cond_true, cond_false]; done)); simp only [putIn])
      | (refine vOps_gpick (t := ?_) (val := ?_) rfl rfl ?_ rfl rfl ?_ ?_ ?_; rotate_left 2; (focus (simp only [lookup_cons, Nat.reduceBEq, cond_true, cond_false]; done)); (simp only [evalIn_tmp, evalIn_const, lookup_cons, Nat.reduceBEq, cond_true, cond_false]; rfl); (simp only [evalIn_tmp, evalIn_const, lookup_cons, Nat.reduceBEq, cond_true, cond_false]; rfl))
      | (refine vOps_pick (t := ?_) (val := ?_) rfl rfl rfl ?_ ?_ ?_; rotate_left 2; (simp only [evalIn_tmp, evalIn_const, lookup_cons, Nat.reduceBEq, cond_true, cond_false]; rfl); (simp only [evalIn_tmp, evalIn_const, lookup_cons, Nat.reduceBEq, cond_true, cond_false]; rfl))
      | (refine vOps_fork (b := ?_) rfl rfl ?_ ?_ ?_; rotate_left 1; (simp only [lookup_cons, Nat.reduceBEq, cond_true, cond_false]; rfl); all_goals (intro hb; simp only [hb]; (try simp only [decide_eq_true_eq, decide_eq_false_iff_not] at hb); try (exfalso; first | omega | exact hb trivial)))
      | (refine vOps_forkp (b := ?_) rfl ?_ ?_ ?_; rotate_left 1; (simp only [evalIn_tmp, lookup_cons, Nat.reduceBEq, cond_true, cond_false]; rfl); all_goals (intro hb; simp only [hb]; (try simp only [decide_eq_true_eq, decide_eq_false_iff_not] at hb); try (exfalso; first | omega | exact hb trivial))))
    refine fin_c (p := ?_) (xs := [.tmp 8]) (by simp) rfl ?_ ?_ ?_ ?_
    rotate_left 2
    · simp only [resAll_cons, resAll_nil, resPVl_0, resPVl_1, resPVl_2, resOne_tmp, resOne_cell, List.map_cons, List.map_nil, clg0, clg1, clg2, clg3, splice_cl, splice_one, len_cl, Nat.reduceMod, Nat.reduceAdd, Nat.reduceSub, Nat.reduceMul, Nat.reduceDiv, Nat.reduceLT, Nat.reduceLeDiff, Nat.reduceEqDiff, decide_true, decide_false, eq_self, if_false, if_true, reduceIte, Nat.zero_mod, Bool.not_true, Bool.not_false, binF_beql, beq_self_eq_true, Option.map_some, cl_one, Nat.mod_eq_of_lt la, Nat.mod_eq_of_lt lm, Nat.mod_eq_of_lt lx, Nat.mod_eq_of_lt ly, Nat.mod_eq_of_lt lx4, Nat.mod_eq_of_lt ly4, Nat.mod_eq_of_lt ls, Nat.mod_eq_of_lt lp, hrm, eqs, eqp, evalIn_tmp, evalIn_const, evalIn_func, lookup_cons, Nat.reduceBEq, cond_true, cond_false, lit_ul0, lit_ul1, loadF, partF, List.getElem?_cons_zero, List.getElem?_cons_succ, List.set_cons_zero, List.set_cons_succ, List.cons_append, List.nil_append, true_and, and_true, and_self, Nat.le_refl, isAggD, Bool.false_eq_true, take_cl, agg_cl, List.drop_zero, Int.toNat_natCast, Int.reduceToNat, Int.toNat_zero, n_add_zero, Nat.mul_one, Nat.zero_add, getD_bv, take_bytes, List.length_map, List.getD_cons_zero, ty4, ty22, ty26]; try rfl
    · first | rfl | (simp only [closed, closedL, closed_u4, closed_ul, closedL_cl, closedL_bv, Bool.and_self, Bool.and_true]; done) | (simp only [closed, closedL, closed_u4, closed_ul, closedL_cl, closedL_bv, Bool.and_self, Bool.and_true]; rfl)
    · rfl
    · simp only [resAll_cons, resAll_nil, resPVl_0, resPVl_1, resPVl_2, resOne_tmp, resOne_cell, List.map_cons, List.map_nil, clg0, clg1, clg2, clg3, splice_cl, splice_one, len_cl, Nat.reduceMod, Nat.reduceAdd, Nat.reduceSub, Nat.reduceMul, Nat.reduceDiv, Nat.reduceLT, Nat.reduceLeDiff, Nat.reduceEqDiff, decide_true, decide_false, eq_self, if_false, if_true, reduceIte, Nat.zero_mod, Bool.not_true, Bool.not_false, binF_beql, beq_self_eq_true, Option.map_some, cl_one, Nat.mod_eq_of_lt la, Nat.mod_eq_of_lt lm, Nat.mod_eq_of_lt lx, Nat.mod_eq_of_lt ly, Nat.mod_eq_of_lt lx4, Nat.mod_eq_of_lt ly4, Nat.mod_eq_of_lt ls, Nat.mod_eq_of_lt lp, hrm, eqs, eqp, evalIn_tmp, evalIn_const, evalIn_func, lookup_cons, Nat.reduceBEq, cond_true, cond_false, lit_ul0, lit_ul1, loadF, partF, List.getElem?_cons_zero, List.getElem?_cons_succ, List.set_cons_zero, List.set_cons_succ, List.cons_append, List.nil_append, true_and, and_true, and_self, Nat.le_refl, isAggD, Bool.false_eq_true, take_cl, agg_cl, List.drop_zero, Int.toNat_natCast, Int.reduceToNat, Int.toNat_zero, n_add_zero, Nat.mul_one, Nat.zero_add, getD_bv, take_bytes, List.length_map, List.getD_cons_zero, ty4, ty22, ty26]; try trivial
  · exact hS.elim
end Go.Ab
