import Derived.Test.YtaofjdaclnagnaaMG
import Derived.Test.YtaofjdaclnagnaaTY
import Derived.Test.YtaofjdaclnagnaaFslicesConcatbytebyte
import Derived.Test.YtaofjdaclnagnaaFcodeclittle
namespace Go.Ab
open Go Go.Proofs
set_option linter.unusedVariables false
set_option linter.unusedSimpArgs false
set_option maxRecDepth 8000
set_option maxHeartbeats 4000000

noncomputable def B18 : Code := bodyOf Try.f18
theorem B18_eq : Try.f18.body = some B18 := by kernel_rfl
noncomputable def n18_0 : Code := B18
noncomputable def n18_1 : Code := codeAt B18 [0]
noncomputable def n18_2 : Code := codeAt B18 [1]
noncomputable def n18_3 : Code := codeAt B18 [1,0]
noncomputable def n18_4 : Code := codeAt B18 [1,1]
theorem e18_0 : n18_0 = .seq n18_1 n18_2 := rfl
noncomputable def r18_1 := opsAt n18_1
theorem e18_1 : n18_1 = .region 0 (r18_1).toArray false := rfl
theorem e18_2 : n18_2 = .seq n18_3 n18_4 := rfl
noncomputable def r18_3 := opsAt n18_3
theorem e18_3 : n18_3 = .region 1 (r18_3).toArray false := rfl
theorem e18_4 : n18_4 = .ret := rfl
theorem f_codec_AppendU64 : PureOk Try.prog 18 sApp64 := by
  refine pureOk_of (c := n18_0) (Γ := conOf [(46, .pure sConcatR), (47, .pure sLittle)]) (conOf_ok (conOf_one (S := .pure sConcatR) f_slices_Concat_byte_byte (conOf_one (S := .pure sLittle) f_codec_little (conOf_end)))) mixed Try.func18 B18_eq (by decide +kernel) Try.call18 ?_
  intro args hS
  unfold sApp64 at hS ⊢
  split at hS
  · refine ⟨by rw [Try.ntmps18]; simp, vC_sound ?_⟩
    rename_i n cs x
    obtain ⟨hB, hx, hle⟩ := hS
    obtain ⟨b, rfl, rfl⟩ := isB_out hB
    obtain ⟨v, hv, rfl⟩ := isul_out hx
    simp only [bytesOf_bv, ulv_ul, Nat.mod_eq_of_lt hv]
    clear hB hx
    simp only [entry_cons, entry_nil, Nat.reduceAdd]
    repeat' (first
      | (with_reducible first | apply seqC_normal | apply seqC_ret)
      | ((with_reducible apply wC_seq e18_0; apply wC_region e18_1); refine vOps_open (l := _ :: _) rfl ?_; refine kOps_as rfl rfl rfl rfl ?_; refine vOps_nil ?_; (with_reducible apply seqC_normal; apply wC_seq e18_2; apply wC_region e18_3); refine vOps_open (l := _ :: _) rfl ?_; refine kOps_mv rfl rfl rfl rfl ?_; refine kOps_mv rfl rfl rfl rfl ?_; refine kOps_calln (d := 7) (qs := [_, _]) rfl rfl rfl rfl rfl rfl (by repeat (first | exact bor_nil | refine bor_bytes (by first | exact byt_nil | ((first | refine byt_ro ?_ | refine byt_own rfl ?_); (first | rfl | assumption | omega | (simp only [lns]; first | done | omega))) | (refine byt_part rfl ?_ rfl; (first | rfl | assumption | omega | (simp only [lns]; first | done | omega)))) ?_ | refine bor_rows rfl (by first | rfl | assumption | omega | (simp only [lns]; first | done | omega)) ?_ | refine bor_closed (by first | (with_reducible rfl) | (simp only [closed, closedL, closedL_bv, closedL_wr, closed_sv, closed_uw, closedL_rows, closed_ul, closed_tp, Bool.and_self, Bool.and_true]; done)) ?_)) (by simp only [splice_one, cells_bv, getD_bv, set_bv, cells_agg, wrap_ul, Nat.mod_eq_of_lt hv, isB_bv, bytesOf_bv, isul_ul, ulv_ul, isRows_c, isRows_n, rowsOf_c, rowsOf_n, List.length_cons, List.length_nil, Nat.reduceAdd, List.flatten_cons, List.flatten_nil, List.append_nil, Int.reduceToNat, sConcatR, sLittle, nrmC, nrm_nil, nrm_ro, newB, List.map_cons, List.map_nil, isS_sv, sOf_sv, true_and, and_true, and_self]; rfl) (by simp only [↓List.length_append, ↓List.length_set, ↓List.length_cons, List.length_nil, Nat.reduceAdd, Nat.zero_add]; rfl) (by first | (refine .inl ?_; first | (with_reducible rfl) | (simp only [closed, closedL, closedL_bv, closedL_wr, closed_sv, closed_uw, closedL_rows, closed_ul, closed_tp, Bool.and_self, Bool.and_true]; done)) | (refine .inr ?_; simp only [flat, flatL_bv, flatL_wr, flat_uw, flat_ul, flat_tp]; done)) (by (focus ((repeat' apply And.intro) <;> first | exact True.intro | omega | (with_reducible rfl) | assumption | (simp only [lns]; first | done | omega) | (simp only [one_bv, cells_bv, one_bv1, List.length_cons, List.length_nil, List.all_cons, List.all_nil, Bool.and_self]; done) | (simp only [cells_agg, one_bv, lns, and_self, true_and, Nat.le_refl, Nat.reduceAdd, Nat.zero_add]; done) | exact one_bv _ | exact ⟨_, rfl⟩ | (simp [PV.one, one_bv, PV.cells, Value.cells, Value.oneCell']; done)))) ?_; refine kOps_frz (t := 7) rfl rfl (by simp only [kill, List.set_cons_zero, List.set_cons_succ, List.cons_append, List.nil_append]; rfl) (by first | rfl | assumption | omega | (simp only [lns]; first | done | omega)) ?_; (first | refine kOps_bsl (d := 8) (ps := [_, _].map rowB) rfl rfl rfl rfl rfl (by exact zip2r (by first | rfl | assumption | omega | (simp only [lns]; first | done | omega)) (by first | rfl | assumption | omega | (simp only [lns]; first | done | omega))) ty69 ty22 rfl rfl (by decide) (by simp only [↓List.length_append, ↓List.length_set, ↓List.length_cons, List.length_nil, Nat.reduceAdd, Nat.zero_add]; rfl) (by simp only [List.length_map, List.length_cons, List.length_nil, Nat.reduceAdd, Nat.zero_add]) (by decide) (by decide) (by exact one_cells_rows) ?_ | refine kOps_bsd (d := 8) (ps := [_, _].map rowB) rfl rfl rfl rfl rfl (by exact zip2r (by first | rfl | assumption | omega | (simp only [lns]; first | done | omega)) (by first | rfl | assumption | omega | (simp only [lns]; first | done | omega))) ty69 ty22 rfl rfl (by decide) (by simp only [List.length_map, List.length_cons, List.length_nil, Nat.reduceAdd, Nat.zero_add]) (by decide) (by decide) (by exact one_cells_rows) ?_); refine kOps_calln (d := 9) (qs := [_]) rfl rfl rfl rfl rfl rfl (by repeat (first | exact bor_nil | refine bor_bytes (by first | exact byt_nil | ((first | refine byt_ro ?_ | refine byt_own rfl ?_); (first | rfl | assumption | omega | (simp only [lns]; first | done | omega))) | (refine byt_part rfl ?_ rfl; (first | rfl | assumption | omega | (simp only [lns]; first | done | omega)))) ?_ | refine bor_rows rfl (by first | rfl | assumption | omega | (simp only [lns]; first | done | omega)) ?_ | refine bor_closed (by first | (with_reducible rfl) | (simp only [closed, closedL, closedL_bv, closedL_wr, closed_sv, closed_uw, closedL_rows, closed_ul, closed_tp, Bool.and_self, Bool.and_true]; done)) ?_)) (by simp only [splice_one, cells_bv, getD_bv, set_bv, cells_agg, wrap_ul, Nat.mod_eq_of_lt hv, isB_bv, bytesOf_bv, isul_ul, ulv_ul, isRows_c, isRows_n, rowsOf_c, rowsOf_n, List.length_cons, List.length_nil, Nat.reduceAdd, List.flatten_cons, List.flatten_nil, List.append_nil, Int.reduceToNat, sConcatR, sLittle, nrmC, nrm_nil, nrm_ro, newB, List.map_cons, List.map_nil, isS_sv, sOf_sv, true_and, and_true, and_self]; rfl) (by simp only [↓List.length_append, ↓List.length_set, ↓List.length_cons, List.length_nil, Nat.reduceAdd, Nat.zero_add]; rfl) (by first | (refine .inl ?_; first | (with_reducible rfl) | (simp only [closed, closedL, closedL_bv, closedL_wr, closed_sv, closed_uw, closedL_rows, closed_ul, closed_tp, Bool.and_self, Bool.and_true]; done)) | (refine .inr ?_; simp only [flat, flatL_bv, flatL_wr, flat_uw, flat_ul, flat_tp]; done)) (by (focus ((repeat' apply And.intro) <;> first | exact True.intro | omega | (with_reducible rfl) | assumption | (simp only [lns]; first | done | omega) | (simp only [one_bv, cells_bv, one_bv1, List.length_cons, List.length_nil, List.all_cons, List.all_nil, Bool.and_self]; done) | (simp only [cells_agg, one_bv, lns, and_self, true_and, Nat.le_refl, Nat.reduceAdd, Nat.zero_add]; done) | exact one_bv _ | exact ⟨_, rfl⟩ | (simp [PV.one, one_bv, PV.cells, Value.cells, Value.oneCell']; done)))) ?_; refine kOps_as rfl rfl rfl rfl ?_; refine vOps_nil ?_; (with_reducible apply seqC_normal; apply wC_ret e18_4)))
    exact fin_new (by simp) rfl rfl rfl (by simp [len_leB])
  · exact hS.elim
end Go.Ab
