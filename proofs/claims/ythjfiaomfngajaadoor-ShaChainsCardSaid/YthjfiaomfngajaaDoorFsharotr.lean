import Derived.Test.YthjfiaomfngajaaDoorTY
import Derived.Test.YthjfiaomfngajaaDoorMG
import Derived.Test.YthjfiaomfngajaaDoorFbitsRotateLeft32
namespace Go.Ab
open Go Go.Proofs
set_option linter.unusedVariables false
set_option linter.unusedSimpArgs false
set_option maxRecDepth 8000
set_option maxHeartbeats 4000000

noncomputable def B25 : Code := bodyOf Tryd.f25
theorem B25_eq : Tryd.f25.body = some B25 := by kernel_rfl
noncomputable def n25_0 : Code := B25
noncomputable def n25_1 : Code := codeAt B25 [0]
noncomputable def n25_2 : Code := codeAt B25 [1]
noncomputable def n25_3 : Code := codeAt B25 [1,0]
noncomputable def n25_4 : Code := codeAt B25 [1,1]
theorem e25_0 : n25_0 = .seq n25_1 n25_2 := rfl
noncomputable def r25_1 := opsAt n25_1
theorem e25_1 : n25_1 = .region 0 (r25_1).toArray false := rfl
theorem e25_2 : n25_2 = .seq n25_3 n25_4 := rfl
noncomputable def r25_3 := opsAt n25_3
theorem e25_3 : n25_3 = .region 1 (r25_3).toArray false := rfl
theorem e25_4 : n25_4 = .ret := rfl
theorem f_sha_rotr : PureOk Tryd.prog 25 sRotr := by
  refine pureOk_of (c := n25_0) (Γ := conOf [(34, .pure sRotL)]) (conOf_ok (conOf_one (S := .pure sRotL) f_bits_RotateLeft32 (conOf_end))) mixed Tryd.func25 B25_eq (by decide +kernel) Tryd.call25 ?_
  intro args hS
  unfold sRotr at hS ⊢
  split at hS
  · refine ⟨by rw [Tryd.ntmps25]; simp, vC_sound ?_⟩
    rename_i x n
    obtain ⟨hx, h1, h2⟩ := hS
    obtain ⟨x, rfl⟩ := isW_out hx
    have hneg : IntKind.i64.wrap (-n) = -n := wrap_i64 (by omega) (by omega)
    simp only [wOf_uw]
    clear hx
    simp only [entry_cons, entry_nil, Nat.reduceAdd]
    repeat' (first
      | (with_reducible first | apply seqC_normal | apply seqC_ret)
      | ((with_reducible apply wC_seq e25_0; apply wC_region e25_1); refine vOps_open (l := _ :: _) rfl ?_; refine kOps_as rfl rfl rfl rfl ?_; refine vOps_nil ?_; (with_reducible apply seqC_normal; apply wC_seq e25_2; apply wC_region e25_3); refine vOps_open (l := _ :: _) rfl ?_; refine kOps_mv rfl rfl rfl rfl ?_; refine kOps_mv rfl rfl rfl rfl ?_; refine kOps_un (b := .neg) (pre := ?_) (val := ?_) rfl rfl rfl rfl ?_ ?_ ?_; rotate_left 2; (intro L; simp only [lit_uw0, cells_uw, one_uw, Int.zero_sub, hneg, not_ul, not_uw, unF_not, unF_neg]; (first | (rw [wrap_i64] <;> first | omega | rfl) | (rw [wrap_u8] <;> first | omega | rfl) | (rw [wrap_u16] <;> first | omega | rfl) | (rw [wrap_u32] <;> first | omega | rfl) | rfl)); exact trivial; refine kOps_callc (pre := ?_) (val := ?_) rfl rfl rfl rfl rfl ?_ ?_ ?_ ?_ ?_; rotate_left 2; (simp only [lit_uw0, cells_uw, one_uw, isW32_uw, wOf_uw, Int.neg_neg, sRotL, nrmC, List.map_cons, List.map_nil, q8, isul_ul, ulv_ul, isU_u4, uv_u4, bytesOf_bv, isB_bv, true_and, and_true, and_self, n_add_zero, Nat.zero_add, Nat.zero_mod, n_sub_zero]; rfl); (focus (first | (with_reducible rfl) | (simp only [closed, closedL, closed_ul, closed_u4, closedL_bv, closedL_cl, Bool.and_self, Bool.and_true, closedL_wr, closed_uw, closed_sv]; done))); (focus (first | (with_reducible rfl) | (simp only [closed, closedL, closed_ul, closed_u4, closedL_bv, closedL_cl, Bool.and_self, Bool.and_true, closedL_wr, closed_uw, closed_sv]; done))); (focus ((repeat' apply And.intro) <;> first | exact True.intro | omega | (with_reducible rfl) | assumption | exact ⟨_, rfl⟩ | (simp only [q2]; done) | (simp only [len_cl]; omega) | (simp [Value.cells, Value.oneCell']; done))); refine kOps_as rfl rfl rfl rfl ?_; refine vOps_nil ?_; (with_reducible apply seqC_normal; apply wC_ret e25_4)))
    refine fin_c (p := ?_) (xs := [.tmp 4]) (by simp) rfl ?_ ?_ ?_ ?_
    rotate_left 2
    · simp only [q7, List.map_cons, List.map_nil, lit_uw0, cells_uw, one_uw, evalIn_tmp, evalIn_const, evalIn_func, lookup_cons, Nat.reduceBEq, cond_true, cond_false, lit_ul0, lit_ul1, loadF, partF, Int.cast_ofNat_Int, Nat.min_self, List.drop_succ_cons, Int.reduceSub, List.getElem?_cons_zero, List.getElem?_cons_succ, List.getD_cons_zero, List.getD_cons_succ, List.getD_nil, List.drop_zero, List.take_succ_cons, List.take_zero, List.take_nil, List.length_cons, List.length_nil, List.set_cons_zero, List.set_cons_succ, Nat.zero_add, n_add_zero, Nat.mul_one, Nat.one_mul, Nat.reduceAdd, Nat.reduceMul, Nat.reduceSub, Nat.reduceLeDiff, Nat.reduceEqDiff, Int.toNat_natCast, Int.reduceToNat, Int.toNat_zero, reduceIte, if_true, if_false, Bool.false_eq_true, isAggD, len_cl, take_cl, agg_cl, getD_bv, take_bytes, List.length_map, List.cons_append, List.nil_append, true_and, and_true, and_self, ty3, ty22]; try rfl
    · first | (with_reducible rfl) | (simp only [closed, closedL, closed_u4, closed_ul, closed_uw, closed_sv, closedL_bv, closedL_wr, Bool.and_self, Bool.and_true]; first | done | rfl)
    · rfl
    · simp only [q7, List.map_cons, List.map_nil, lit_uw0, cells_uw, one_uw, evalIn_tmp, evalIn_const, evalIn_func, lookup_cons, Nat.reduceBEq, cond_true, cond_false, lit_ul0, lit_ul1, loadF, partF, Int.cast_ofNat_Int, Nat.min_self, List.drop_succ_cons, Int.reduceSub, List.getElem?_cons_zero, List.getElem?_cons_succ, List.getD_cons_zero, List.getD_cons_succ, List.getD_nil, List.drop_zero, List.take_succ_cons, List.take_zero, List.take_nil, List.length_cons, List.length_nil, List.set_cons_zero, List.set_cons_succ, Nat.zero_add, n_add_zero, Nat.mul_one, Nat.one_mul, Nat.reduceAdd, Nat.reduceMul, Nat.reduceSub, Nat.reduceLeDiff, Nat.reduceEqDiff, Int.toNat_natCast, Int.reduceToNat, Int.toNat_zero, reduceIte, if_true, if_false, Bool.false_eq_true, isAggD, len_cl, take_cl, agg_cl, getD_bv, take_bytes, List.length_map, List.cons_append, List.nil_append, true_and, and_true, and_self, ty3, ty22]; try trivial
  · exact hS.elim
end Go.Ab
