import Derived.Test.YthjfiaomfngajaaDoorTY
import Derived.Test.YthjfiaomfngajaaDoorMG
import Derived.Test.YthjfiaomfngajaaDoorFshaSum
namespace Go.Ab
open Go Go.Proofs
set_option linter.unusedVariables false
set_option linter.unusedSimpArgs false
set_option maxRecDepth 8000
set_option maxHeartbeats 4000000

noncomputable def B17 : Code := bodyOf Tryd.f17
theorem B17_eq : Tryd.f17.body = some B17 := by kernel_rfl
noncomputable def n17_0 : Code := B17
noncomputable def n17_1 : Code := codeAt B17 [0]
noncomputable def n17_2 : Code := codeAt B17 [1]
noncomputable def n17_3 : Code := codeAt B17 [1,0]
noncomputable def n17_4 : Code := codeAt B17 [1,1]
noncomputable def n17_5 : Code := codeAt B17 [1,1,0]
noncomputable def n17_6 : Code := codeAt B17 [1,1,1]
theorem e17_0 : n17_0 = .seq n17_1 n17_2 := rfl
noncomputable def r17_1 := opsAt n17_1
theorem e17_1 : n17_1 = .region 0 (r17_1).toArray false := rfl
theorem e17_2 : n17_2 = .seq n17_3 n17_4 := rfl
noncomputable def r17_3 := opsAt n17_3
theorem e17_3 : n17_3 = .region 1 (r17_3).toArray false := rfl
theorem e17_4 : n17_4 = .seq n17_5 n17_6 := rfl
noncomputable def r17_5 := opsAt n17_5
theorem e17_5 : n17_5 = .region 2 (r17_5).toArray false := rfl
theorem e17_6 : n17_6 = .ret := rfl
theorem f_sha_Double : PureOk Tryd.prog 17 sDouble := by
  refine pureOk_of (c := n17_0) (Γ := conOf [(15, .pure sSum)]) (conOf_ok (conOf_one (S := .pure sSum) f_sha_Sum (conOf_end))) mixed Tryd.func17 B17_eq (by decide +kernel) Tryd.call17 ?_
  intro args hS
  unfold sDouble at hS ⊢
  split at hS
  · refine ⟨by rw [Tryd.ntmps17]; simp, vC_sound ?_⟩
    rename_i n cs
    obtain ⟨hB, hle⟩ := hS
    obtain ⟨b, rfl, rfl⟩ := isB_out hB
    simp only [bytesOf_bv]
    clear hB
    simp only [entry_cons, entry_nil, Nat.reduceAdd]
    have hs32 : isB 32 ((sum b).map bv) ↔ True := isB_iff (len_sum b).symm
    repeat' (first
      | (with_reducible first | apply seqC_normal | apply seqC_ret)
      | ((with_reducible apply wC_seq e17_0; apply wC_region e17_1); refine vOps_open (l := _ :: _) rfl ?_)
      | ((with_reducible apply wC_seq e17_2; apply wC_region e17_3); refine vOps_open (l := _ :: _) rfl ?_)
      | ((with_reducible apply wC_seq e17_4; apply wC_region e17_5); refine vOps_open (l := _ :: _) rfl ?_)
      | ((with_reducible apply wC_ret e17_6))
      | ((with_reducible apply vOps_nil); try (with_reducible refine And.intro (by kernel_rfl) ?_))
      | (refine kOps_gon (g := ?_) (p := ?_) rfl rfl ?_ ?_ ?_ ?_; rotate_left 2; fail; (exact rfl); (with_reducible rfl))
      | (refine kOps_gofft (g := ?_) (p := ?_) rfl rfl ?_ ?_ ?_ ?_; rotate_left 2; fail; (exact rfl); (with_reducible rfl))
      | (refine kOps_gofff (g := ?_) (p := ?_) rfl rfl ?_ ?_ ?_ ?_; rotate_left 2; fail; (exact rfl); (with_reducible rfl))
      | (refine kOps_pickt rfl rfl rfl rfl ?_ rfl ?_; (with_reducible rfl))
      | (refine kOps_pickf rfl rfl rfl rfl ?_ rfl ?_; (with_reducible rfl))
      | (refine kOps_alloc (row := _) (n := ?_) rfl rfl rfl rfl ty33 ?_ zr33 zo33 ?_; rotate_left 1; (simp only [↓List.length_append, ↓List.length_set, ↓List.length_cons, List.length_nil, Nat.reduceAdd, Nat.zero_add]; rfl))
      | (refine kOps_mv rfl rfl rfl rfl ?_)
      | (refine kOps_callb (d := 5) (qs := [_]) rfl rfl rfl rfl rfl (by repeat (first | exact bor_nil | refine bor_bytes (by first | exact byt_nil | (refine byt_ro ?_; (first | rfl | assumption | omega | (simp only [lnb]; first | omega | done))) | (refine byt_own rfl ?_; (first | rfl | assumption | omega | (simp only [lnb]; first | omega | done))) | (refine byt_part rfl ?_ rfl; (first | rfl | assumption | omega | (simp only [lnb]; first | omega | done)))) ?_ | refine bor_rows rfl (by first | rfl | assumption | omega | (simp only [lnb]; first | omega | done)) ?_ | refine bor_closed (by first | (with_reducible rfl) | (simp only [closed, closedL, q3]; done)) ?_)) (by simp only [q5, q6, Nat.le_refl, eq_self, agg_sv, len_dig, len_sum, isB_bv, bytesOf_bv, hs32, sSum, nrmC, nrm_nil, nrm_ro, newB, List.map_cons, List.map_nil, isul_ul, ulv_ul, isS_sv, sOf_sv, true_and, and_true, and_self]; rfl) (by first | (with_reducible rfl) | (simp only [closed, closedL, q3]; done)) (by first | (refine .inl ?_; first | (with_reducible rfl) | (simp only [closed, closedL, q3]; done)) | (refine .inr ?_; simp only [flat, flatL_bv, flatL_wr, flat_uw]; done)) (by (focus ((repeat' apply And.intro) <;> first | exact True.intro | omega | (with_reducible rfl) | assumption | (simp only [lnb]; omega) | (simp only [q1]; done) | (simp only [q4, lnb, and_self, true_and, Nat.le_refl, Nat.reduceAdd, Nat.zero_add]; done) | exact (isByte_bv _).2 trivial | exact one_bv _ | (simp [PV.one, one_bv, closedL_bv, flatL_bv, closedL, closed, isByte_bv, PV.cells]; done) | exact ⟨_, rfl⟩ | (simp only [q2]; done) | (simp only [len_cl]; omega) | (simp [Value.cells, Value.oneCell']; done)))) ?_)
      | (refine kOps_store (cs' := ?_) rfl rfl rfl rfl rfl rfl rfl ty33 ?_ ?_ ?_; rotate_left 1; (simp only [q5, q6, Nat.le_refl, eq_self, agg_sv, len_dig, len_sum, lit_ul0, lit_ul1, cells_ul, cells_u4, isAggD, Bool.false_eq_true, if_false, if_true, reduceIte, take_cl, agg_cl, len_cl, List.drop_zero, Int.toNat_natCast, Int.reduceToNat, Int.toNat_zero, n_add_zero, Nat.mul_one, Nat.zero_add, Nat.reduceAdd, Nat.reduceMul, take_bytes, List.length_map, List.getD_cons_zero]; rfl); (focus (first | (simp only [lit_ul0, lit_ul1, cells_ul, cells_u4, cells_bv, List.length_cons, List.length_nil, len_cl, List.length_set, List.length_map, Nat.reduceAdd, Nat.zero_add, List.all_cons, List.all_nil, one_ul, one_cl, one_bv, PV.one, Value.oneCell', Bool.and_self, Nat.reduceLeDiff, Nat.le_refl, and_self, true_and, and_true]; done) | ((try simp only [lit_ul0, lit_ul1, cells_ul, cells_u4, cells_bv]); (focus ((repeat' apply And.intro) <;> first | exact True.intro | omega | (with_reducible rfl) | assumption | (simp only [lnb]; omega) | (simp only [q1]; done) | (simp only [q4, lnb, and_self, true_and, Nat.le_refl, Nat.reduceAdd, Nat.zero_add]; done) | exact (isByte_bv _).2 trivial | exact one_bv _ | (simp [PV.one, one_bv, closedL_bv, flatL_bv, closedL, closed, isByte_bv, PV.cells]; done) | exact ⟨_, rfl⟩ | (simp only [q2]; done) | (simp only [len_cl]; omega) | (simp [Value.cells, Value.oneCell']; done)))))))
      | ((first | refine kOps_slp (d := 6) rfl rfl rfl rfl rfl ty33 ty5 rfl (by first | rfl | assumption | omega | (simp only [lnb]; first | omega | done)) ?_ | refine kOps_slq (d := 6) rfl rfl rfl rfl ty33 ty5 rfl (by refine ⟨?_, ?_⟩ <;> (first | rfl | assumption | omega | (simp only [lnb]; first | omega | done))) ?_))
      | (refine kOps_callb (d := 7) (qs := [_]) rfl rfl rfl rfl rfl (by repeat (first | exact bor_nil | refine bor_bytes (by first | exact byt_nil | (refine byt_ro ?_; (first | rfl | assumption | omega | (simp only [lnb]; first | omega | done))) | (refine byt_own rfl ?_; (first | rfl | assumption | omega | (simp only [lnb]; first | omega | done))) | (refine byt_part rfl ?_ rfl; (first | rfl | assumption | omega | (simp only [lnb]; first | omega | done)))) ?_ | refine bor_rows rfl (by first | rfl | assumption | omega | (simp only [lnb]; first | omega | done)) ?_ | refine bor_closed (by first | (with_reducible rfl) | (simp only [closed, closedL, q3]; done)) ?_)) (by simp only [q5, q6, Nat.le_refl, eq_self, agg_sv, len_dig, len_sum, isB_bv, bytesOf_bv, hs32, sSum, nrmC, nrm_nil, nrm_ro, newB, List.map_cons, List.map_nil, isul_ul, ulv_ul, isS_sv, sOf_sv, true_and, and_true, and_self]; rfl) (by first | (with_reducible rfl) | (simp only [closed, closedL, q3]; done)) (by first | (refine .inl ?_; first | (with_reducible rfl) | (simp only [closed, closedL, q3]; done)) | (refine .inr ?_; simp only [flat, flatL_bv, flatL_wr, flat_uw]; done)) (by (focus ((repeat' apply And.intro) <;> first | exact True.intro | omega | (with_reducible rfl) | assumption | (simp only [lnb]; omega) | (simp only [q1]; done) | (simp only [q4, lnb, and_self, true_and, Nat.le_refl, Nat.reduceAdd, Nat.zero_add]; done) | exact (isByte_bv _).2 trivial | exact one_bv _ | (simp [PV.one, one_bv, closedL_bv, flatL_bv, closedL, closed, isByte_bv, PV.cells]; done) | exact ⟨_, rfl⟩ | (simp only [q2]; done) | (simp only [len_cl]; omega) | (simp [Value.cells, Value.oneCell']; done)))) ?_)
      | (refine vOps_gundef rfl rfl ?_ ?_; (focus (simp only [lookup_cons, Nat.reduceBEq, cond_true, cond_false]; done)); simp only [putIn])
      | (refine vOps_gpick (t := ?_) (val := ?_) rfl rfl ?_ rfl rfl ?_ ?_ ?_; rotate_left 2; (focus (simp only [lookup_cons, Nat.reduceBEq, cond_true, cond_false]; done)); (simp only [evalIn_tmp, evalIn_const, lookup_cons, Nat.reduceBEq, cond_true, cond_false]; rfl); (simp only [evalIn_tmp, evalIn_const, lookup_cons, Nat.reduceBEq, cond_true, cond_false]; rfl))
      | (refine vOps_pick (t := ?_) (val := ?_) rfl rfl rfl ?_ ?_ ?_; rotate_left 2; (simp only [evalIn_tmp, evalIn_const, lookup_cons, Nat.reduceBEq, cond_true, cond_false]; rfl); (simp only [evalIn_tmp, evalIn_const, lookup_cons, Nat.reduceBEq, cond_true, cond_false]; rfl))
      | (refine vOps_fork (b := ?_) rfl rfl ?_ ?_ ?_; rotate_left 1; (simp only [lookup_cons, Nat.reduceBEq, cond_true, cond_false]; rfl); all_goals (intro hb; simp only [hb]; (try simp only [decide_eq_true_eq, decide_eq_false_iff_not] at hb); try (exfalso; first | omega | exact hb trivial)))
      | (refine vOps_forkp (b := ?_) rfl ?_ ?_ ?_; rotate_left 1; (simp only [evalIn_tmp, lookup_cons, Nat.reduceBEq, cond_true, cond_false]; rfl); all_goals (intro hb; simp only [hb]; (try simp only [decide_eq_true_eq, decide_eq_false_iff_not] at hb); try (exfalso; first | omega | exact hb trivial))))
    refine fin_c (p := ?_) (xs := [.cell 2 33]) (by simp) rfl ?_ ?_ ?_ ?_
    rotate_left 2
    · simp only [q7, List.map_cons, List.map_nil, q5, q6, Nat.le_refl, eq_self, agg_sv, len_dig, len_sum, evalIn_tmp, evalIn_const, evalIn_func, lookup_cons, Nat.reduceBEq, cond_true, cond_false, lit_ul0, lit_ul1, loadF, partF, List.getElem?_cons_zero, List.getElem?_cons_succ, List.set_cons_zero, List.set_cons_succ, List.cons_append, List.nil_append, true_and, and_true, and_self, Nat.reduceLeDiff, isAggD, Bool.false_eq_true, if_false, if_true, reduceIte, take_cl, agg_cl, len_cl, List.drop_zero, Int.toNat_natCast, Int.reduceToNat, Int.toNat_zero, n_add_zero, Nat.mul_one, Nat.zero_add, Nat.reduceAdd, Nat.reduceMul, take_bytes, List.length_map, List.getD_cons_zero, ty5, ty29, ty33]; try rfl
    · first | (with_reducible rfl) | (simp only [closed, closedL, closed_u4, closed_ul, closed_uw, closed_sv, closedL_bv, closedL_wr, Bool.and_self, Bool.and_true]; first | done | rfl)
    · rfl
    · simp only [q7, List.map_cons, List.map_nil, q5, q6, Nat.le_refl, eq_self, agg_sv, len_dig, len_sum, evalIn_tmp, evalIn_const, evalIn_func, lookup_cons, Nat.reduceBEq, cond_true, cond_false, lit_ul0, lit_ul1, loadF, partF, List.getElem?_cons_zero, List.getElem?_cons_succ, List.set_cons_zero, List.set_cons_succ, List.cons_append, List.nil_append, true_and, and_true, and_self, Nat.reduceLeDiff, isAggD, Bool.false_eq_true, if_false, if_true, reduceIte, take_cl, agg_cl, len_cl, List.drop_zero, Int.toNat_natCast, Int.reduceToNat, Int.toNat_zero, n_add_zero, Nat.mul_one, Nat.zero_add, Nat.reduceAdd, Nat.reduceMul, take_bytes, List.length_map, List.getD_cons_zero, ty5, ty29, ty33]; try trivial
  · exact hS.elim
end Go.Ab
