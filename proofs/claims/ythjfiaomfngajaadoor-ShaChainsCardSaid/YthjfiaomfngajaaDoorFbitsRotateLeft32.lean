import Derived.Test.YthjfiaomfngajaaDoorTY
import Derived.Test.YthjfiaomfngajaaDoorMG
namespace Go.Ab
open Go Go.Proofs
set_option linter.unusedVariables false
set_option linter.unusedSimpArgs false
set_option maxRecDepth 8000
set_option maxHeartbeats 4000000

noncomputable def B34 : Code := bodyOf Tryd.f34
theorem B34_eq : Tryd.f34.body = some B34 := by kernel_rfl
noncomputable def n34_0 : Code := B34
noncomputable def n34_1 : Code := codeAt B34 [0]
noncomputable def n34_2 : Code := codeAt B34 [1]
noncomputable def n34_3 : Code := codeAt B34 [1,0]
noncomputable def n34_4 : Code := codeAt B34 [1,1]
noncomputable def n34_5 : Code := codeAt B34 [1,1,0]
noncomputable def n34_6 : Code := codeAt B34 [1,1,1]
theorem e34_0 : n34_0 = .seq n34_1 n34_2 := rfl
noncomputable def r34_1 := opsAt n34_1
theorem e34_1 : n34_1 = .region 0 (r34_1).toArray false := rfl
theorem e34_2 : n34_2 = .seq n34_3 n34_4 := rfl
noncomputable def r34_3 := opsAt n34_3
theorem e34_3 : n34_3 = .region 1 (r34_3).toArray false := rfl
theorem e34_4 : n34_4 = .seq n34_5 n34_6 := rfl
noncomputable def r34_5 := opsAt n34_5
theorem e34_5 : n34_5 = .region 2 (r34_5).toArray false := rfl
theorem e34_6 : n34_6 = .ret := rfl
theorem f_bits_RotateLeft32 : PureOk Tryd.prog 34 sRotL := by
  refine pureOk_of (c := n34_0) (Γ := conOf []) (conOf_ok (conOf_end)) mixed Tryd.func34 B34_eq (by decide +kernel) Tryd.call34 ?_
  intro args hS
  unfold sRotL at hS ⊢
  split at hS
  · refine ⟨by rw [Tryd.ntmps34]; simp, vC_sound ?_⟩
    rename_i x n
    obtain ⟨hx, hn0, hn1⟩ := hS
    obtain ⟨x, rfl⟩ := isW_out hx
    obtain ⟨m, hm⟩ := Int.eq_ofNat_of_zero_le (show 0 ≤ -n by omega)
    obtain rfl : n = -(m : Int) := by omega
    have h1 : 1 ≤ m := by omega
    have h2 : m ≤ 31 := by omega
    have hm64 : m ≤ 18446744073709551616 := by omega
    simp only [wOf_uw, Int.neg_neg, Int.toNat_natCast]
    clear hx hn0 hn1 hm
    simp only [entry_cons, entry_nil, Nat.reduceAdd]
    repeat' (first
      | (with_reducible first | apply seqC_normal | apply seqC_ret)
      | ((with_reducible apply wC_seq e34_0; apply wC_region e34_1); refine vOps_open (l := _ :: _) rfl ?_; refine kOps_as rfl rfl rfl rfl ?_; refine vOps_nil ?_; (with_reducible apply seqC_normal; apply wC_seq e34_2; apply wC_region e34_3); refine vOps_open (l := _ :: _) rfl ?_; refine kOps_mv rfl rfl rfl rfl ?_; refine kOps_conv (s := 3) (t := 40) (pre := ?_) (val := ?_) rfl rfl rfl rfl ?_ ?_ ?_; rotate_left 2; (intro L; simp only [lit_uw0, cells_uw, one_uw, Int.toNat_natCast, conv_neg ty3 ty40 hm64]; first | rfl | (first | (rw [wrap_i64] <;> first | omega | rfl) | (rw [wrap_u8] <;> first | omega | rfl) | (rw [wrap_u16] <;> first | omega | rfl) | (rw [wrap_u32] <;> first | omega | rfl) | rfl)); exact trivial; refine kOps_bin (b := .and) (pre := ?_) (val := ?_) rfl rfl rfl rfl rfl ?_ ?_ ?_; rotate_left 2; (intro L; simp only [lit_uw0, cells_uw, one_uw, Int.toNat_natCast, rot_mask h1 h2, rot_rest h1 h2, rot_less h1 h2, lc_31, and_ul, binF_and, Int.reduceAdd, Int.reduceSub, Int.reduceMul, Int.reduceNeg, Int.sub_zero, Int.cast_ofNat_Int, ne_eq, Int.reduceLT, Int.reduceLE, Int.reduceEq, Nat.reduceMod, Nat.reduceLT, decide_true, decide_false, ty40]; (first | (rw [wrap_i64] <;> first | omega | rfl) | (rw [wrap_u8] <;> first | omega | rfl) | (rw [wrap_u16] <;> first | omega | rfl) | (rw [wrap_u32] <;> first | omega | rfl) | rfl)); exact trivial; refine kOps_as rfl rfl rfl rfl ?_; refine vOps_nil ?_; (with_reducible apply seqC_normal; apply wC_seq e34_4; apply wC_region e34_5); refine vOps_open (l := _ :: _) rfl ?_; refine kOps_mv rfl rfl rfl rfl ?_; refine kOps_mv rfl rfl rfl rfl ?_; refine kOps_bin (b := .shl) (pre := ?_) (val := ?_) rfl rfl rfl rfl rfl ?_ ?_ ?_; rotate_left 2; (intro L; simp only [lit_uw0, cells_uw, one_uw, Int.toNat_natCast, rot_mask h1 h2, rot_rest h1 h2, rot_less h1 h2, shl_uw, shl_uwz, ge0, binF_shl, Int.reduceAdd, Int.reduceSub, Int.reduceMul, Int.reduceNeg, Int.sub_zero, Int.cast_ofNat_Int, ne_eq, Int.reduceLT, Int.reduceLE, Int.reduceEq, Nat.reduceMod, Nat.reduceLT, decide_true, decide_false, ty22]; (first | (rw [wrap_i64] <;> first | omega | rfl) | (rw [wrap_u8] <;> first | omega | rfl) | (rw [wrap_u16] <;> first | omega | rfl) | (rw [wrap_u32] <;> first | omega | rfl) | rfl)); (focus ((repeat' apply And.intro) <;> first | exact True.intro | omega | (with_reducible rfl) | assumption | exact ⟨_, rfl⟩ | (simp only [q2]; done) | (simp only [len_cl]; omega) | (simp [Value.cells, Value.oneCell']; done))); refine kOps_mv rfl rfl rfl rfl ?_; refine kOps_mv rfl rfl rfl rfl ?_; refine kOps_bin (b := .sub) (pre := ?_) (val := ?_) rfl rfl rfl rfl rfl ?_ ?_ ?_; rotate_left 2; (intro L; simp only [lit_uw0, cells_uw, one_uw, Int.toNat_natCast, rot_mask h1 h2, rot_rest h1 h2, rot_less h1 h2, lc_32, sub_ul, binF_sub, Int.reduceAdd, Int.reduceSub, Int.reduceMul, Int.reduceNeg, Int.sub_zero, Int.cast_ofNat_Int, ne_eq, Int.reduceLT, Int.reduceLE, Int.reduceEq, Nat.reduceMod, Nat.reduceLT, decide_true, decide_false, ty40]; (first | (rw [wrap_i64] <;> first | omega | rfl) | (rw [wrap_u8] <;> first | omega | rfl) | (rw [wrap_u16] <;> first | omega | rfl) | (rw [wrap_u32] <;> first | omega | rfl) | rfl)); exact trivial; refine kOps_bin (b := .shr) (pre := ?_) (val := ?_) rfl rfl rfl rfl rfl ?_ ?_ ?_; rotate_left 2; (intro L; simp only [lit_uw0, cells_uw, one_uw, Int.toNat_natCast, rot_mask h1 h2, rot_rest h1 h2, rot_less h1 h2, shr_uw, shr_uwz, ge0, binF_shr, Int.reduceAdd, Int.reduceSub, Int.reduceMul, Int.reduceNeg, Int.sub_zero, Int.cast_ofNat_Int, ne_eq, Int.reduceLT, Int.reduceLE, Int.reduceEq, Nat.reduceMod, Nat.reduceLT, decide_true, decide_false, ty22]; (first | (rw [wrap_i64] <;> first | omega | rfl) | (rw [wrap_u8] <;> first | omega | rfl) | (rw [wrap_u16] <;> first | omega | rfl) | (rw [wrap_u32] <;> first | omega | rfl) | rfl)); (focus ((repeat' apply And.intro) <;> first | exact True.intro | omega | (with_reducible rfl) | assumption | exact ⟨_, rfl⟩ | (simp only [q2]; done) | (simp only [len_cl]; omega) | (simp [Value.cells, Value.oneCell']; done))); refine kOps_bin (b := .or) (pre := ?_) (val := ?_) rfl rfl rfl rfl rfl ?_ ?_ ?_; rotate_left 2; (intro L; simp only [lit_uw0, cells_uw, one_uw, Int.toNat_natCast, rot_mask h1 h2, rot_rest h1 h2, rot_less h1 h2, or_uw, binF_or, Int.reduceAdd, Int.reduceSub, Int.reduceMul, Int.reduceNeg, Int.sub_zero, Int.cast_ofNat_Int, ne_eq, Int.reduceLT, Int.reduceLE, Int.reduceEq, Nat.reduceMod, Nat.reduceLT, decide_true, decide_false, ty22]; (first | (rw [wrap_i64] <;> first | omega | rfl) | (rw [wrap_u8] <;> first | omega | rfl) | (rw [wrap_u16] <;> first | omega | rfl) | (rw [wrap_u32] <;> first | omega | rfl) | rfl)); exact trivial; refine kOps_as rfl rfl rfl rfl ?_; refine vOps_nil ?_; (with_reducible apply seqC_normal; apply wC_ret e34_6)))
    refine fin_c (p := ?_) (xs := [.tmp 4]) (by simp) rfl ?_ ?_ ?_ ?_
    rotate_left 2
    · simp only [q7, List.map_cons, List.map_nil, lit_uw0, cells_uw, one_uw, Int.toNat_natCast, evalIn_tmp, evalIn_const, evalIn_func, lookup_cons, Nat.reduceBEq, cond_true, cond_false, lit_ul0, lit_ul1, lc_31, lc_32, loadF, partF, Int.cast_ofNat_Int, Nat.min_self, List.drop_succ_cons, Int.reduceSub, List.getElem?_cons_zero, List.getElem?_cons_succ, List.getD_cons_zero, List.getD_cons_succ, List.getD_nil, List.drop_zero, List.take_succ_cons, List.take_zero, List.take_nil, List.length_cons, List.length_nil, List.set_cons_zero, List.set_cons_succ, Nat.zero_add, n_add_zero, Nat.mul_one, Nat.one_mul, Nat.reduceAdd, Nat.reduceMul, Nat.reduceSub, Nat.reduceLeDiff, Nat.reduceEqDiff, Int.reduceToNat, Int.toNat_zero, reduceIte, if_true, if_false, Bool.false_eq_true, isAggD, len_cl, take_cl, agg_cl, getD_bv, take_bytes, List.length_map, List.cons_append, List.nil_append, true_and, and_true, and_self, ty3, ty22, ty40]; try rfl
    · first | (with_reducible rfl) | (simp only [closed, closedL, closed_u4, closed_ul, closed_uw, closed_sv, closedL_bv, closedL_wr, Bool.and_self, Bool.and_true]; first | done | rfl)
    · rfl
    · simp only [q7, List.map_cons, List.map_nil, lit_uw0, cells_uw, one_uw, Int.toNat_natCast, evalIn_tmp, evalIn_const, evalIn_func, lookup_cons, Nat.reduceBEq, cond_true, cond_false, lit_ul0, lit_ul1, lc_31, lc_32, loadF, partF, Int.cast_ofNat_Int, Nat.min_self, List.drop_succ_cons, Int.reduceSub, List.getElem?_cons_zero, List.getElem?_cons_succ, List.getD_cons_zero, List.getD_cons_succ, List.getD_nil, List.drop_zero, List.take_succ_cons, List.take_zero, List.take_nil, List.length_cons, List.length_nil, List.set_cons_zero, List.set_cons_succ, Nat.zero_add, n_add_zero, Nat.mul_one, Nat.one_mul, Nat.reduceAdd, Nat.reduceMul, Nat.reduceSub, Nat.reduceLeDiff, Nat.reduceEqDiff, Int.reduceToNat, Int.toNat_zero, reduceIte, if_true, if_false, Bool.false_eq_true, isAggD, len_cl, take_cl, agg_cl, getD_bv, take_bytes, List.length_map, List.cons_append, List.nil_append, true_and, and_true, and_self, ty3, ty22, ty40]; try trivial
  · exact hS.elim
end Go.Ab
