import Derived.Test.YtaofjdaclnagnaaMG
import Derived.Test.YtaofjdaclnagnaaTY
import Derived.Test.YtaofjdaclnagnaaFslicesConcatbytebyte
import Derived.Test.YtaofjdaclnagnaaFcodeclittle
namespace Go.Ab
open Go Go.Proofs
set_option linter.unusedVariables false
set_option linter.unusedSimpArgs false
set_option maxRecDepth 8000
set_option maxHeartbeats 4000000

noncomputable def B14 : Code := bodyOf Try.f14
theorem B14_eq : Try.f14.body = some B14 := by kernel_rfl
noncomputable def n14_0 : Code := B14
noncomputable def n14_1 : Code := codeAt B14 [0]
noncomputable def n14_2 : Code := codeAt B14 [1]
noncomputable def n14_3 : Code := codeAt B14 [1,0]
noncomputable def n14_4 : Code := codeAt B14 [1,1]
theorem e14_0 : n14_0 = .seq n14_1 n14_2 := rfl
noncomputable def r14_1 := opsAt n14_1
theorem e14_1 : n14_1 = .region 0 (r14_1).toArray false := rfl
theorem e14_2 : n14_2 = .seq n14_3 n14_4 := rfl
noncomputable def r14_3 := opsAt n14_3
theorem e14_3 : n14_3 = .region 1 (r14_3).toArray false := rfl
theorem e14_4 : n14_4 = .ret := rfl
theorem f_codec_AppendU16 : PureOk Try.prog 14 sApp16 := by
  refine pureOk_of (c := n14_0) (Γ := conOf [(46, .pure sConcatR), (47, .pure sLittle)]) (conOf_ok (conOf_one (S := .pure sConcatR) f_slices_Concat_byte_byte (conOf_one (S := .pure sLittle) f_codec_little (conOf_end)))) mixed Try.func14 B14_eq (by decide +kernel) Try.call14 ?_
  intro args hS
  unfold sApp16 at hS ⊢
  split at hS
  · refine ⟨by rw [Try.ntmps14]; simp, vC_sound ?_⟩
    rename_i n cs v
    obtain ⟨hB, h0, h1, hle⟩ := hS
    obtain ⟨b, rfl, rfl⟩ := isB_out hB
    obtain ⟨v, rfl⟩ := Int.eq_ofNat_of_zero_le h0
    have hv : v < 18446744073709551616 := by omega
    simp only [bytesOf_bv, Int.toNat_natCast]
    clear hB h0
    simp only [entry_cons, entry_nil, Nat.reduceAdd]
    repeat' (first
      | (with_reducible first | apply seqC_normal | apply seqC_ret)
      | ((with_reducible apply wC_seq e14_0; apply wC_region e14_1); refine vOps_open (l := _ :: _) rfl ?_; refine kOps_as rfl rfl rfl rfl ?_; refine vOps_nil ?_; (with_reducible apply seqC_normal; apply wC_seq e14_2; apply wC_region e14_3); refine vOps_open (l := _ :: _) rfl ?_; refine kOps_mv rfl rfl rfl rfl ?_; refine kOps_mv rfl rfl rfl rfl ?_; refine kOps_conv (s := 29) (t := 23) (pre := ?_) (val := ?_) rfl rfl rfl rfl ?_ ?_ ?_; rotate_left 2; (intro L; simp only [splice_one, cells_bv, getD_bv, set_bv, cells_agg, wrap_ul, Nat.mod_eq_of_lt hv, cv_29_23]; first | rfl | (first | (rw [wrap_i64] <;> first | omega | rfl) | (rw [wrap_u8] <;> first | omega | rfl) | (rw [wrap_u16] <;> first | omega | rfl) | (rw [wrap_u32] <;> first | omega | rfl) | rfl)); exact trivial; refine kOps_calln (d := 8) (qs := [_, _]) rfl rfl rfl rfl rfl rfl (by repeat (first | exact bor_nil | refine bor_bytes (by first | exact byt_nil | ((first | refine byt_ro ?_ | refine byt_own rfl ?_); (first | rfl | assumption | omega | (simp only [lns]; first | done | omega))) | (refine byt_part rfl ?_ rfl; (first | rfl | assumption | omega | (simp only [lns]; first | done | omega)))) ?_ | refine bor_rows rfl (by first | rfl | assumption | omega | (simp only [lns]; first | done | omega)) ?_ | refine bor_closed (by first | (with_reducible rfl) | (simp only [closed, closedL, closedL_bv, closedL_wr, closed_sv, closed_uw, closedL_rows, closed_ul, closed_tp, Bool.and_self, Bool.and_true]; done)) ?_)) (by simp only [splice_one, cells_bv, getD_bv, set_bv, cells_agg, wrap_ul, Nat.mod_eq_of_lt hv, isB_bv, bytesOf_bv, isul_ul, ulv_ul, isRows_c, isRows_n, rowsOf_c, rowsOf_n, List.length_cons, List.length_nil, Nat.reduceAdd, List.flatten_cons, List.flatten_nil, List.append_nil, Int.reduceToNat, sConcatR, sLittle, nrmC, nrm_nil, nrm_ro, newB, List.map_cons, List.map_nil, isS_sv, sOf_sv, true_and, and_true, and_self]; rfl) (by simp only [↓List.length_append, ↓List.length_set, ↓List.length_cons, List.length_nil, Nat.reduceAdd, Nat.zero_add]; rfl) (by first | (refine .inl ?_; first | (with_reducible rfl) | (simp only [closed, closedL, closedL_bv, closedL_wr, closed_sv, closed_uw, closedL_rows, closed_ul, closed_tp, Bool.and_self, Bool.and_true]; done)) | (refine .inr ?_; simp only [flat, flatL_bv, flatL_wr, flat_uw, flat_ul, flat_tp]; done)) (by (focus ((repeat' apply And.intro) <;> first | exact True.intro | omega | (with_reducible rfl) | assumption | (simp only [lns]; first | done | omega) | (simp only [one_bv, cells_bv, one_bv1, List.length_cons, List.length_nil, List.all_cons, List.all_nil, Bool.and_self]; done) | (simp only [cells_agg, one_bv, lns, and_self, true_and, Nat.le_refl, Nat.reduceAdd, Nat.zero_add]; done) | exact one_bv _ | exact ⟨_, rfl⟩ | (simp [PV.one, one_bv, PV.cells, Value.cells, Value.oneCell']; done)))) ?_; refine kOps_frz (t := 8) rfl rfl (by simp only [kill, List.set_cons_zero, List.set_cons_succ, List.cons_append, List.nil_append]; rfl) (by first | rfl | assumption | omega | (simp only [lns]; first | done | omega)) ?_; (first | refine kOps_bsl (d := 9) (ps := [_, _].map rowB) rfl rfl rfl rfl rfl (by exact zip2r (by first | rfl | assumption | omega | (simp only [lns]; first | done | omega)) (by first | rfl | assumption | omega | (simp only [lns]; first | done | omega))) ty69 ty22 rfl rfl (by decide) (by simp only [↓List.length_append, ↓List.length_set, ↓List.length_cons, List.length_nil, Nat.reduceAdd, Nat.zero_add]; rfl) (by simp only [List.length_map, List.length_cons, List.length_nil, Nat.reduceAdd, Nat.zero_add]) (by decide) (by decide) (by exact one_cells_rows) ?_ | refine kOps_bsd (d := 9) (ps := [_, _].map rowB) rfl rfl rfl rfl rfl (by exact zip2r (by first | rfl | assumption | omega | (simp only [lns]; first | done | omega)) (by first | rfl | assumption | omega | (simp only [lns]; first | done | omega))) ty69 ty22 rfl rfl (by decide) (by simp only [List.length_map, List.length_cons, List.length_nil, Nat.reduceAdd, Nat.zero_add]) (by decide) (by decide) (by exact one_cells_rows) ?_); refine kOps_calln (d := 10) (qs := [_]) rfl rfl rfl rfl rfl rfl (by repeat (first | exact bor_nil | refine bor_bytes (by first | exact byt_nil | ((first | refine byt_ro ?_ | refine byt_own rfl ?_); (first | rfl | assumption | omega | (simp only [lns]; first | done | omega))) | (refine byt_part rfl ?_ rfl; (first | rfl | assumption | omega | (simp only [lns]; first | done | omega)))) ?_ | refine bor_rows rfl (by first | rfl | assumption | omega | (simp only [lns]; first | done | omega)) ?_ | refine bor_closed (by first | (with_reducible rfl) | (simp only [closed, closedL, closedL_bv, closedL_wr, closed_sv, closed_uw, closedL_rows, closed_ul, closed_tp, Bool.and_self, Bool.and_true]; done)) ?_)) (by simp only [splice_one, cells_bv, getD_bv, set_bv, cells_agg, wrap_ul, Nat.mod_eq_of_lt hv, isB_bv, bytesOf_bv, isul_ul, ulv_ul, isRows_c, isRows_n, rowsOf_c, rowsOf_n, List.length_cons, List.length_nil, Nat.reduceAdd, List.flatten_cons, List.flatten_nil, List.append_nil, Int.reduceToNat, sConcatR, sLittle, nrmC, nrm_nil, nrm_ro, newB, List.map_cons, List.map_nil, isS_sv, sOf_sv, true_and, and_true, and_self]; rfl) (by simp only [↓List.length_append, ↓List.length_set, ↓List.length_cons, List.length_nil, Nat.reduceAdd, Nat.zero_add]; rfl) (by first | (refine .inl ?_; first | (with_reducible rfl) | (simp only [closed, closedL, closedL_bv, closedL_wr, closed_sv, closed_uw, closedL_rows, closed_ul, closed_tp, Bool.and_self, Bool.and_true]; done)) | (refine .inr ?_; simp only [flat, flatL_bv, flatL_wr, flat_uw, flat_ul, flat_tp]; done)) (by (focus ((repeat' apply And.intro) <;> first | exact True.intro | omega | (with_reducible rfl) | assumption | (simp only [lns]; first | done | omega) | (simp only [one_bv, cells_bv, one_bv1, List.length_cons, List.length_nil, List.all_cons, List.all_nil, Bool.and_self]; done) | (simp only [cells_agg, one_bv, lns, and_self, true_and, Nat.le_refl, Nat.reduceAdd, Nat.zero_add]; done) | exact one_bv _ | exact ⟨_, rfl⟩ | (simp [PV.one, one_bv, PV.cells, Value.cells, Value.oneCell']; done)))) ?_; refine kOps_as rfl rfl rfl rfl ?_; refine vOps_nil ?_; (with_reducible apply seqC_normal; apply wC_ret e14_4)))
    exact fin_new (by simp) rfl rfl rfl (by simp [len_leB])
  · exact hS.elim
end Go.Ab
