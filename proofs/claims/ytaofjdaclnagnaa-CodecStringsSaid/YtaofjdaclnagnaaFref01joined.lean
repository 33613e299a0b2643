import Derived.Test.YtaofjdaclnagnaaMG
import Derived.Test.YtaofjdaclnagnaaTY
namespace Go.Ab
open Go Go.Proofs
set_option linter.unusedVariables false
set_option linter.unusedSimpArgs false
set_option maxRecDepth 8000
set_option maxHeartbeats 4000000

noncomputable def B48 : Code := bodyOf Try.f48
theorem B48_eq : Try.f48.body = some B48 := by kernel_rfl
noncomputable def n48_0 : Code := B48
noncomputable def n48_1 : Code := codeAt B48 [0]
noncomputable def n48_2 : Code := codeAt B48 [1]
noncomputable def n48_3 : Code := codeAt B48 [1,0]
noncomputable def n48_4 : Code := codeAt B48 [1,1]
noncomputable def n48_5 : Code := codeAt B48 [1,1,0]
noncomputable def n48_6 : Code := codeAt B48 [1,1,1]
theorem e48_0 : n48_0 = .seq n48_1 n48_2 := rfl
noncomputable def r48_1 := opsAt n48_1
theorem e48_1 : n48_1 = .region 0 (r48_1).toArray false := rfl
theorem e48_2 : n48_2 = .seq n48_3 n48_4 := rfl
noncomputable def r48_3 := opsAt n48_3
theorem e48_3 : n48_3 = .region 1 (r48_3).toArray false := rfl
theorem e48_4 : n48_4 = .seq n48_5 n48_6 := rfl
noncomputable def r48_5 := opsAt n48_5
theorem e48_5 : n48_5 = .region 2 (r48_5).toArray false := rfl
theorem e48_6 : n48_6 = .ret := rfl
theorem f_ref01_joined : PureOk Try.prog 48 sJoined := by
  refine pureOk_of (c := n48_0) (Γ := conOf []) (conOf_ok (conOf_end)) mixed Try.func48 B48_eq (by decide +kernel) Try.call48 ?_
  intro args hS
  unfold sJoined at hS ⊢
  split at hS
  · refine ⟨by rw [Try.ntmps48]; simp, vC_sound ?_⟩
    rename_i n cs m ds
    obtain ⟨hB, hB2, hle⟩ := hS
    obtain ⟨a, rfl, rfl⟩ := isB_out hB
    obtain ⟨b, rfl, rfl⟩ := isB_out hB2
    simp only [bytesOf_bv]
    clear hB hB2
    simp only [entry_cons, entry_nil, Nat.reduceAdd]
    repeat' (first
      | (with_reducible first | apply seqC_normal | apply seqC_ret)
      | ((with_reducible apply wC_seq e48_0; apply wC_region e48_1); refine vOps_open (l := _ :: _) rfl ?_; refine kOps_as rfl rfl rfl rfl ?_; refine vOps_nil ?_; (with_reducible apply seqC_normal; apply wC_seq e48_2; apply wC_region e48_3); refine vOps_open (l := _ :: _) rfl ?_; refine kOps_mv rfl rfl rfl rfl ?_; refine kOps_len (d := 7) rfl rfl rfl rfl ty22 (by first | exact byt_nil | ((first | refine byt_ro ?_ | refine byt_own rfl ?_); (first | rfl | assumption | omega | (simp only [lns]; first | done | omega))) | (refine byt_part rfl ?_ rfl; (first | rfl | assumption | omega | (simp only [lns]; first | done | omega)))) ?_; refine kOps_mv rfl rfl rfl rfl ?_; refine kOps_len (d := 9) rfl rfl rfl rfl ty22 (by first | exact byt_nil | ((first | refine byt_ro ?_ | refine byt_own rfl ?_); (first | rfl | assumption | omega | (simp only [lns]; first | done | omega))) | (refine byt_part rfl ?_ rfl; (first | rfl | assumption | omega | (simp only [lns]; first | done | omega)))) ?_; refine kOps_bin (b := .add) (pre := ?_) (val := ?_) rfl rfl rfl rfl rfl ?_ ?_ ?_; rotate_left 2; (intro L; simp only [splice_one, cells_bv, getD_bv, set_bv, cells_agg, add_ul, binF_add, Int.reduceAdd, Int.reduceSub, Int.reduceMul, Int.reduceNeg, Int.sub_zero, Int.cast_ofNat_Int, ne_eq, Int.reduceLT, Int.reduceLE, Int.reduceEq, Nat.reduceMod, Nat.reduceLT, decide_true, decide_false, ty3]; (first | (rw [wrap_i64] <;> first | omega | rfl) | (rw [wrap_u8] <;> first | omega | rfl) | (rw [wrap_u16] <;> first | omega | rfl) | (rw [wrap_u32] <;> first | omega | rfl) | rfl)); exact trivial; refine kOps_mk (d := 11) (l := 0) (c := a.length + b.length) rfl rfl rfl rfl rfl rfl ty22 ty5 (by simp only [↓List.length_append, ↓List.length_set, ↓List.length_cons, List.length_nil, Nat.reduceAdd, Nat.zero_add]; rfl) (by rfl) (by rfl) (by first | rfl | assumption | omega | (simp only [lns]; first | done | omega)) ?_; refine kOps_as rfl rfl rfl rfl ?_; refine vOps_nil ?_; (with_reducible apply seqC_normal; apply wC_seq e48_4; apply wC_region e48_5); refine vOps_open (l := _ :: _) rfl ?_; refine kOps_mv rfl rfl rfl rfl ?_; refine kOps_mv rfl rfl rfl rfl ?_; refine kOps_app (d := 14) rfl rfl rfl rfl rfl rfl ty22 ty22 ty5 (by first | exact app_nil | (refine app_own rfl ?_; (first | rfl | assumption | omega | (simp only [lns]; first | done | omega)))) (by first | exact byt_nil | ((first | refine byt_ro ?_ | refine byt_own rfl ?_); (first | rfl | assumption | omega | (simp only [lns]; first | done | omega))) | (refine byt_part rfl ?_ rfl; (first | rfl | assumption | omega | (simp only [lns]; first | done | omega)))) (by simp only [↓List.length_append, ↓List.length_set, ↓List.length_cons, List.length_nil, Nat.reduceAdd, Nat.zero_add]; rfl) (by simp only [kill, List.set_cons_zero, List.set_cons_succ, List.cons_append, List.nil_append]; rfl) (by first | rfl | assumption | omega | (simp only [lns]; first | done | omega)) ?_; refine kOps_mv rfl rfl rfl rfl ?_; refine kOps_app (d := 16) rfl rfl rfl rfl rfl rfl ty22 ty22 ty5 (by first | exact app_nil | (refine app_own rfl ?_; (first | rfl | assumption | omega | (simp only [lns]; first | done | omega)))) (by first | exact byt_nil | ((first | refine byt_ro ?_ | refine byt_own rfl ?_); (first | rfl | assumption | omega | (simp only [lns]; first | done | omega))) | (refine byt_part rfl ?_ rfl; (first | rfl | assumption | omega | (simp only [lns]; first | done | omega)))) (by simp only [↓List.length_append, ↓List.length_set, ↓List.length_cons, List.length_nil, Nat.reduceAdd, Nat.zero_add]; rfl) (by simp only [kill, List.set_cons_zero, List.set_cons_succ, List.cons_append, List.nil_append]; rfl) (by first | rfl | assumption | omega | (simp only [lns]; first | done | omega)) ?_; refine kOps_as rfl rfl rfl rfl ?_; refine vOps_nil ?_; (with_reducible apply seqC_normal; apply wC_ret e48_6)))
    · exact fin_new (by simp) rfl rfl rfl (by simp)
  · exact hS.elim
end Go.Ab
