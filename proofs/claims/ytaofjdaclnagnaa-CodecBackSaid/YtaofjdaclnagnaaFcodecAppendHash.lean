import Derived.Test.YtaofjdaclnagnaaMG
import Derived.Test.YtaofjdaclnagnaaTY
import Derived.Test.YtaofjdaclnagnaaFslicesConcatbytebyte
namespace Go.Ab
open Go Go.Proofs
set_option linter.unusedVariables false
set_option linter.unusedSimpArgs false
set_option maxRecDepth 8000
set_option maxHeartbeats 4000000

noncomputable def B24 : Code := bodyOf Try.f24
theorem B24_eq : Try.f24.body = some B24 := by kernel_rfl
noncomputable def n24_0 : Code := B24
noncomputable def n24_1 : Code := codeAt B24 [0]
noncomputable def n24_2 : Code := codeAt B24 [1]
noncomputable def n24_3 : Code := codeAt B24 [1,0]
noncomputable def n24_4 : Code := codeAt B24 [1,1]
theorem e24_0 : n24_0 = .seq n24_1 n24_2 := rfl
noncomputable def r24_1 := opsAt n24_1
theorem e24_1 : n24_1 = .region 0 (r24_1).toArray false := rfl
theorem e24_2 : n24_2 = .seq n24_3 n24_4 := rfl
noncomputable def r24_3 := opsAt n24_3
theorem e24_3 : n24_3 = .region 1 (r24_3).toArray false := rfl
theorem e24_4 : n24_4 = .ret := rfl
theorem f_codec_AppendHash : PureOk Try.prog 24 sAppH := by
  refine pureOk_of (c := n24_0) (Γ := conOf [(46, .pure sConcatR)]) (conOf_ok (conOf_one (S := .pure sConcatR) f_slices_Concat_byte_byte (conOf_end))) mixed Try.func24 B24_eq (by decide +kernel) Try.call24 ?_
  intro args hS
  unfold sAppH at hS ⊢
  split at hS
  · refine ⟨by rw [Try.ntmps24]; simp, vC_sound ?_⟩
    rename_i n cs ds
    obtain ⟨hB, hB2, hn⟩ := hS
    obtain ⟨a, rfl, rfl⟩ := isB_out hB
    obtain ⟨b, hb, rfl⟩ := isB_out hB2
    simp only [bytesOf_bv]
    clear hB hB2
    simp only [entry_cons, entry_nil, Nat.reduceAdd]
    have hl : b.length = 32 := hb.symm
    repeat' (first
      | (with_reducible first | apply seqC_normal | apply seqC_ret)
      | ((with_reducible apply wC_seq e24_0; apply wC_region e24_1); refine vOps_open (l := _ :: _) rfl ?_; refine kOps_box (row := ?_) (n := ?_) rfl rfl rfl rfl rfl ?_ ?_ ?_ ?_; rotate_left 2; (simp only [↓List.length_append, ↓List.length_set, ↓List.length_cons, List.length_nil, Nat.reduceAdd, Nat.zero_add]; rfl); (simp only [splice_one, cells_bv, getD_bv, set_bv, cells_agg, cells_ul, cells_u4]; rfl); (focus (first | rfl | exact one_cl _ _ | exact one_bv _ | (simp only [one_cl, one_ul, List.all_cons, List.all_nil, Bool.and_self, PV.one]; done) | (simp [PV.one, one_ul, one_cl, one_bv, Value.oneCell']; done))); refine kOps_as rfl rfl rfl rfl ?_; refine vOps_nil ?_; (with_reducible apply seqC_normal; apply wC_seq e24_2; apply wC_region e24_3); refine vOps_open (l := _ :: _) rfl ?_; refine kOps_mv rfl rfl rfl rfl ?_; (first | refine kOps_slp (d := 6) rfl rfl rfl rfl rfl ty25 ty5 rfl (by first | rfl | assumption | omega | (simp only [lns]; first | done | omega)) ?_ | refine kOps_slq (d := 6) rfl rfl rfl rfl ty25 ty5 rfl (by refine ⟨?_, ?_⟩ <;> (first | rfl | assumption | omega | (simp only [lns]; first | done | omega))) ?_); refine kOps_frz (t := 6) rfl rfl (by simp only [kill, List.set_cons_zero, List.set_cons_succ, List.cons_append, List.nil_append]; rfl) (by first | rfl | assumption | omega | (simp only [lns]; first | done | omega)) ?_; (first | refine kOps_bsl (d := 7) (ps := [_, _].map rowB) rfl rfl rfl rfl rfl (by exact zip2r (by first | rfl | assumption | omega | (simp only [lns]; first | done | omega)) (by first | rfl | assumption | omega | (simp only [lns]; first | done | omega))) ty69 ty22 rfl rfl (by decide) (by simp only [↓List.length_append, ↓List.length_set, ↓List.length_cons, List.length_nil, Nat.reduceAdd, Nat.zero_add]; rfl) (by simp only [List.length_map, List.length_cons, List.length_nil, Nat.reduceAdd, Nat.zero_add]) (by decide) (by decide) (by exact one_cells_rows) ?_ | refine kOps_bsd (d := 7) (ps := [_, _].map rowB) rfl rfl rfl rfl rfl (by exact zip2r (by first | rfl | assumption | omega | (simp only [lns]; first | done | omega)) (by first | rfl | assumption | omega | (simp only [lns]; first | done | omega))) ty69 ty22 rfl rfl (by decide) (by simp only [List.length_map, List.length_cons, List.length_nil, Nat.reduceAdd, Nat.zero_add]) (by decide) (by decide) (by exact one_cells_rows) ?_); refine kOps_calln (d := 8) (qs := [_]) rfl rfl rfl rfl rfl rfl (by repeat (first | exact bor_nil | refine bor_bytes (by first | exact byt_nil | ((first | refine byt_ro ?_ | refine byt_own rfl ?_); (first | rfl | assumption | omega | (simp only [lns]; first | done | omega))) | (refine byt_part rfl ?_ rfl; (first | rfl | assumption | omega | (simp only [lns]; first | done | omega)))) ?_ | refine bor_rows rfl (by first | rfl | assumption | omega | (simp only [lns]; first | done | omega)) ?_ | refine bor_closed (by first | (with_reducible rfl) | (simp only [closed, closedL, closedL_bv, closedL_wr, closed_sv, closed_uw, closedL_rows, closed_ul, closed_tp, Bool.and_self, Bool.and_true]; done)) ?_)) (by simp only [splice_one, cells_bv, getD_bv, set_bv, cells_agg, isB_bv, bytesOf_bv, isul_ul, ulv_ul, isRows_c, isRows_n, rowsOf_c, rowsOf_n, List.length_cons, List.length_nil, Nat.reduceAdd, List.flatten_cons, List.flatten_nil, List.append_nil, Int.reduceToNat, sConcatR, nrmC, nrm_nil, nrm_ro, newB, List.map_cons, List.map_nil, isS_sv, sOf_sv, true_and, and_true, and_self]; rfl) (by simp only [↓List.length_append, ↓List.length_set, ↓List.length_cons, List.length_nil, Nat.reduceAdd, Nat.zero_add]; rfl) (by first | (refine .inl ?_; first | (with_reducible rfl) | (simp only [closed, closedL, closedL_bv, closedL_wr, closed_sv, closed_uw, closedL_rows, closed_ul, closed_tp, Bool.and_self, Bool.and_true]; done)) | (refine .inr ?_; simp only [flat, flatL_bv, flatL_wr, flat_uw, flat_ul, flat_tp]; done)) (by (focus ((repeat' apply And.intro) <;> first | exact True.intro | omega | (with_reducible rfl) | assumption | (simp only [lns, hl]; first | done | omega) | (simp only [one_bv, cells_bv, one_bv1, List.length_cons, List.length_nil, List.all_cons, List.all_nil, Bool.and_self]; done) | (simp only [cells_agg, one_bv, lns, hl, and_self, true_and, Nat.le_refl, Nat.reduceAdd, Nat.zero_add]; done) | exact one_bv _ | exact ⟨_, rfl⟩ | (simp [PV.one, one_bv, PV.cells, Value.cells, Value.oneCell']; done)))) ?_; refine kOps_as rfl rfl rfl rfl ?_; refine vOps_nil ?_; (with_reducible apply seqC_normal; apply wC_ret e24_4)))
    exact fin_new (by simp) rfl rfl rfl (by simp)
  · exact hS.elim
end Go.Ab
