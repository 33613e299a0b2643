import Derived.Test.YthjfiaomfngajaaDoorTY
import Derived.Test.YthjfiaomfngajaaDoorMG
namespace Go.Ab
open Go Go.Proofs
set_option linter.unusedVariables false
set_option linter.unusedSimpArgs false
set_option maxRecDepth 8000
set_option maxHeartbeats 4000000

noncomputable def B23 : Code := bodyOf Tryd.f23
theorem B23_eq : Tryd.f23.body = some B23 := by kernel_rfl
noncomputable def n23_0 : Code := B23
noncomputable def n23_1 : Code := codeAt B23 [0]
noncomputable def n23_2 : Code := codeAt B23 [1]
noncomputable def n23_3 : Code := codeAt B23 [1,0]
noncomputable def n23_4 : Code := codeAt B23 [1,1]
theorem e23_0 : n23_0 = .seq n23_1 n23_2 := rfl
noncomputable def r23_1 := opsAt n23_1
theorem e23_1 : n23_1 = .region 0 (r23_1).toArray false := rfl
theorem e23_2 : n23_2 = .seq n23_3 n23_4 := rfl
noncomputable def r23_3 := opsAt n23_3
theorem e23_3 : n23_3 = .region 1 (r23_3).toArray false := rfl
theorem e23_4 : n23_4 = .ret := rfl
theorem f_ref03_Initial : PureOk Tryd.prog 23 sInitial := by
  refine pureOk_of (c := n23_0) (Γ := conOf []) (conOf_ok (conOf_end)) mixed Tryd.func23 B23_eq (by decide +kernel) Tryd.call23 ?_
  intro args hS
  unfold sInitial at hS ⊢
  split at hS
  · refine ⟨by rw [Tryd.ntmps23]; simp, vC_sound ?_⟩

    simp only [entry_cons, entry_nil, Nat.reduceAdd]
    repeat' (first
      | (with_reducible first | apply seqC_normal | apply seqC_ret)
      | ((with_reducible apply wC_seq e23_0; apply wC_region e23_1); refine vOps_open (l := _ :: _) rfl ?_; refine kOps_alloc (row := _) (n := ?_) rfl rfl rfl rfl ty23 ?_ zr23 zo23 ?_; rotate_left 1; (simp only [↓List.length_append, ↓List.length_set, ↓List.length_cons, List.length_nil, Nat.reduceAdd, Nat.zero_add]; rfl); refine vOps_nil ?_; (with_reducible apply seqC_normal; apply wC_seq e23_2; apply wC_region e23_3); refine vOps_open (l := _ :: _) rfl ?_; refine kOps_build (pre := _) (val := _) rfl rfl rfl rfl (fun L => buildW (l := init8.l) ty23 ty22 rfl (by rfl) (by kernel_rfl)) trivial ?_; refine kOps_store (cs' := ?_) rfl rfl rfl rfl rfl rfl rfl ty23 ?_ ?_ ?_; rotate_left 1; (simp only [q5, splice_w, take_wr, List.length_replicate, Nat.le_refl, eq_self, len_kk, len_l, agg_sv, cells_ul, cells_u4, isAggD, Bool.false_eq_true, if_false, if_true, reduceIte, take_cl, agg_cl, len_cl, List.drop_zero, Int.toNat_natCast, Int.reduceToNat, Int.toNat_zero, n_add_zero, Nat.mul_one, Nat.zero_add, Nat.reduceAdd, Nat.reduceMul, take_bytes, List.length_map, List.getD_cons_zero]; rfl); (focus (first | (simp only [cells_ul, cells_u4, cells_bv, List.length_cons, List.length_nil, len_cl, List.length_set, List.length_map, Nat.reduceAdd, Nat.zero_add, List.all_cons, List.all_nil, one_ul, one_cl, one_bv, PV.one, Value.oneCell', Bool.and_self, Nat.reduceLeDiff, Nat.le_refl, and_self, true_and, and_true]; done) | ((try simp only [cells_ul, cells_u4, cells_bv]); (focus ((repeat' apply And.intro) <;> first | exact True.intro | omega | (with_reducible rfl) | assumption | (simp only [lna]; omega) | (simp only [q1]; done) | (simp only [q4, lna, and_self, true_and, Nat.le_refl, Nat.reduceAdd, Nat.zero_add]; done) | exact (isByte_bv _).2 trivial | exact one_bv _ | (simp [PV.one, one_bv, closedL_bv, flatL_bv, closedL, closed, isByte_bv, PV.cells]; done) | exact ⟨_, rfl⟩ | (simp only [q2]; done) | (simp only [len_cl]; omega) | (simp [Value.cells, Value.oneCell']; done)))))); refine vOps_nil ?_; (with_reducible apply seqC_normal; apply wC_ret e23_4)))
    refine fin_c (p := ?_) (xs := [.cell 0 23]) (by simp) rfl ?_ ?_ ?_ ?_
    rotate_left 2
    · simp only [q7, List.map_cons, List.map_nil, q5, splice_w, take_wr, List.length_replicate, Nat.le_refl, eq_self, len_kk, len_l, agg_sv, evalIn_tmp, evalIn_const, evalIn_func, lookup_cons, Nat.reduceBEq, cond_true, cond_false, lit_ul0, lit_ul1, loadF, partF, List.getElem?_cons_zero, List.getElem?_cons_succ, List.set_cons_zero, List.set_cons_succ, List.cons_append, List.nil_append, true_and, and_true, and_self, Nat.reduceLeDiff, isAggD, Bool.false_eq_true, if_false, if_true, reduceIte, take_cl, agg_cl, len_cl, List.drop_zero, Int.toNat_natCast, Int.reduceToNat, Int.toNat_zero, n_add_zero, Nat.mul_one, Nat.zero_add, Nat.reduceAdd, Nat.reduceMul, take_bytes, List.length_map, List.getD_cons_zero, ty22, ty23]; try rfl
    · first | (with_reducible rfl) | (simp only [closed, closedL, closed_u4, closed_ul, closed_uw, closed_sv, closedL_bv, closedL_wr, Bool.and_self, Bool.and_true]; first | done | rfl)
    · rfl
    · simp only [q7, List.map_cons, List.map_nil, q5, splice_w, take_wr, List.length_replicate, Nat.le_refl, eq_self, len_kk, len_l, agg_sv, evalIn_tmp, evalIn_const, evalIn_func, lookup_cons, Nat.reduceBEq, cond_true, cond_false, lit_ul0, lit_ul1, loadF, partF, List.getElem?_cons_zero, List.getElem?_cons_succ, List.set_cons_zero, List.set_cons_succ, List.cons_append, List.nil_append, true_and, and_true, and_self, Nat.reduceLeDiff, isAggD, Bool.false_eq_true, if_false, if_true, reduceIte, take_cl, agg_cl, len_cl, List.drop_zero, Int.toNat_natCast, Int.reduceToNat, Int.toNat_zero, n_add_zero, Nat.mul_one, Nat.zero_add, Nat.reduceAdd, Nat.reduceMul, take_bytes, List.length_map, List.getD_cons_zero, ty22, ty23]; try trivial
  · exact hS.elim
end Go.Ab
