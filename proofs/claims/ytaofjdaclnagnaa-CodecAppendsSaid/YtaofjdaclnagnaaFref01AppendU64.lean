import Derived.Test.YtaofjdaclnagnaaMG
import Derived.Test.YtaofjdaclnagnaaTY
import Derived.Test.YtaofjdaclnagnaaFref01joined
import Derived.Test.YtaofjdaclnagnaaFref01little
namespace Go.Ab
open Go Go.Proofs
set_option linter.unusedVariables false
set_option linter.unusedSimpArgs false
set_option maxRecDepth 8000
set_option maxHeartbeats 4000000

noncomputable def B19 : Code := bodyOf Try.f19
theorem B19_eq : Try.f19.body = some B19 := by kernel_rfl
noncomputable def n19_0 : Code := B19
noncomputable def n19_1 : Code := codeAt B19 [0]
noncomputable def n19_2 : Code := codeAt B19 [1]
noncomputable def n19_3 : Code := codeAt B19 [1,0]
noncomputable def n19_4 : Code := codeAt B19 [1,1]
theorem e19_0 : n19_0 = .seq n19_1 n19_2 := rfl
noncomputable def r19_1 := opsAt n19_1
theorem e19_1 : n19_1 = .region 0 (r19_1).toArray false := rfl
theorem e19_2 : n19_2 = .seq n19_3 n19_4 := rfl
noncomputable def r19_3 := opsAt n19_3
theorem e19_3 : n19_3 = .region 1 (r19_3).toArray false := rfl
theorem e19_4 : n19_4 = .ret := rfl
theorem f_ref01_AppendU64 : PureOk Try.prog 19 sApp64 := by
  refine pureOk_of (c := n19_0) (Γ := conOf [(48, .pure sJoined), (49, .pure sLittle)]) (conOf_ok (conOf_one (S := .pure sJoined) f_ref01_joined (conOf_one (S := .pure sLittle) f_ref01_little (conOf_end)))) mixed Try.func19 B19_eq (by decide +kernel) Try.call19 ?_
  intro args hS
  unfold sApp64 at hS ⊢
  split at hS
  · refine ⟨by rw [Try.ntmps19]; simp, vC_sound ?_⟩
    rename_i n cs x
    obtain ⟨hB, hx, hle⟩ := hS
    obtain ⟨b, rfl, rfl⟩ := isB_out hB
    obtain ⟨v, hv, rfl⟩ := isul_out hx
    simp only [bytesOf_bv, ulv_ul, Nat.mod_eq_of_lt hv]
    clear hB hx
    simp only [entry_cons, entry_nil, Nat.reduceAdd]
    repeat' (first
      | (with_reducible first | apply seqC_normal | apply seqC_ret)
      | ((with_reducible apply wC_seq e19_0; apply wC_region e19_1); refine vOps_open (l := _ :: _) rfl ?_; refine kOps_as rfl rfl rfl rfl ?_; refine vOps_nil ?_; (with_reducible apply seqC_normal; apply wC_seq e19_2; apply wC_region e19_3); refine vOps_open (l := _ :: _) rfl ?_; refine kOps_mv rfl rfl rfl rfl ?_; refine kOps_mv rfl rfl rfl rfl ?_; refine kOps_calln (d := 7) (qs := [_, _]) rfl rfl rfl rfl rfl rfl (by repeat (first | exact bor_nil | refine bor_bytes (by first | exact byt_nil | ((first | refine byt_ro ?_ | refine byt_own rfl ?_); (first | rfl | assumption | omega | (simp only [lns]; first | done | omega))) | (refine byt_part rfl ?_ rfl; (first | rfl | assumption | omega | (simp only [lns]; first | done | omega)))) ?_ | refine bor_rows rfl (by first | rfl | assumption | omega | (simp only [lns]; first | done | omega)) ?_ | refine bor_closed (by first | (with_reducible rfl) | (simp only [closed, closedL, closedL_bv, closedL_wr, closed_sv, closed_uw, closedL_rows, closed_ul, closed_tp, Bool.and_self, Bool.and_true]; done)) ?_)) (by simp only [splice_one, cells_bv, getD_bv, set_bv, cells_agg, wrap_ul, Nat.mod_eq_of_lt hv, isB_bv, bytesOf_bv, isul_ul, ulv_ul, isRows_c, isRows_n, rowsOf_c, rowsOf_n, List.length_cons, List.length_nil, Nat.reduceAdd, List.flatten_cons, List.flatten_nil, List.append_nil, Int.reduceToNat, sJoined, sLittle, nrmC, nrm_nil, nrm_ro, newB, List.map_cons, List.map_nil, isS_sv, sOf_sv, true_and, and_true, and_self]; rfl) (by simp only [↓List.length_append, ↓List.length_set, ↓List.length_cons, List.length_nil, Nat.reduceAdd, Nat.zero_add]; rfl) (by first | (refine .inl ?_; first | (with_reducible rfl) | (simp only [closed, closedL, closedL_bv, closedL_wr, closed_sv, closed_uw, closedL_rows, closed_ul, closed_tp, Bool.and_self, Bool.and_true]; done)) | (refine .inr ?_; simp only [flat, flatL_bv, flatL_wr, flat_uw, flat_ul, flat_tp]; done)) (by (focus ((repeat' apply And.intro) <;> first | exact True.intro | omega | (with_reducible rfl) | assumption | (simp only [lns]; first | done | omega) | (simp only [one_bv, cells_bv, one_bv1, List.length_cons, List.length_nil, List.all_cons, List.all_nil, Bool.and_self]; done) | (simp only [cells_agg, one_bv, lns, and_self, true_and, Nat.le_refl, Nat.reduceAdd, Nat.zero_add]; done) | exact one_bv _ | exact ⟨_, rfl⟩ | (simp [PV.one, one_bv, PV.cells, Value.cells, Value.oneCell']; done)))) ?_; refine kOps_calln (d := 8) (qs := [_, _]) rfl rfl rfl rfl rfl rfl (by repeat (first | exact bor_nil | refine bor_bytes (by first | exact byt_nil | ((first | refine byt_ro ?_ | refine byt_own rfl ?_); (first | rfl | assumption | omega | (simp only [lns]; first | done | omega))) | (refine byt_part rfl ?_ rfl; (first | rfl | assumption | omega | (simp only [lns]; first | done | omega)))) ?_ | refine bor_rows rfl (by first | rfl | assumption | omega | (simp only [lns]; first | done | omega)) ?_ | refine bor_closed (by first | (with_reducible rfl) | (simp only [closed, closedL, closedL_bv, closedL_wr, closed_sv, closed_uw, closedL_rows, closed_ul, closed_tp, Bool.and_self, Bool.and_true]; done)) ?_)) (by simp only [splice_one, cells_bv, getD_bv, set_bv, cells_agg, wrap_ul, Nat.mod_eq_of_lt hv, isB_bv, bytesOf_bv, isul_ul, ulv_ul, isRows_c, isRows_n, rowsOf_c, rowsOf_n, List.length_cons, List.length_nil, Nat.reduceAdd, List.flatten_cons, List.flatten_nil, List.append_nil, Int.reduceToNat, sJoined, sLittle, nrmC, nrm_nil, nrm_ro, newB, List.map_cons, List.map_nil, isS_sv, sOf_sv, true_and, and_true, and_self]; rfl) (by simp only [↓List.length_append, ↓List.length_set, ↓List.length_cons, List.length_nil, Nat.reduceAdd, Nat.zero_add]; rfl) (by first | (refine .inl ?_; first | (with_reducible rfl) | (simp only [closed, closedL, closedL_bv, closedL_wr, closed_sv, closed_uw, closedL_rows, closed_ul, closed_tp, Bool.and_self, Bool.and_true]; done)) | (refine .inr ?_; simp only [flat, flatL_bv, flatL_wr, flat_uw, flat_ul, flat_tp]; done)) (by (focus ((repeat' apply And.intro) <;> first | exact True.intro | omega | (with_reducible rfl) | assumption | (simp only [lns]; first | done | omega) | (simp only [one_bv, cells_bv, one_bv1, List.length_cons, List.length_nil, List.all_cons, List.all_nil, Bool.and_self]; done) | (simp only [cells_agg, one_bv, lns, and_self, true_and, Nat.le_refl, Nat.reduceAdd, Nat.zero_add]; done) | exact one_bv _ | exact ⟨_, rfl⟩ | (simp [PV.one, one_bv, PV.cells, Value.cells, Value.oneCell']; done)))) ?_; refine kOps_as rfl rfl rfl rfl ?_; refine vOps_nil ?_; (with_reducible apply seqC_normal; apply wC_ret e19_4)))
    exact fin_new (by simp) rfl rfl rfl (by simp [len_leB])
  · exact hS.elim
end Go.Ab
