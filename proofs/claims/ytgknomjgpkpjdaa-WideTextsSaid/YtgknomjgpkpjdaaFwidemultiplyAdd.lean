import Derived.Test.YtgknomjgpkpjdaaTY
import Derived.Test.YtgknomjgpkpjdaaME
import Derived.Test.YtgknomjgpkpjdaaFbitsAdd64
import Derived.Test.YtgknomjgpkpjdaaFbitsMul64
namespace Go.Ab
open Go Go.Proofs
open Nat (mod_eq_of_lt zero_add zero_mod)
open List (map_cons map_nil)
set_option linter.unusedVariables false
set_option linter.unusedSimpArgs false
set_option maxRecDepth 8000
set_option maxHeartbeats 4000000

noncomputable def B55 : Code := bodyOf Try.f55
theorem B55_eq : Try.f55.body = some B55 := by kernel_rfl
noncomputable def n55_0 := B55
noncomputable def n55_1 := codeAt B55 [0]
noncomputable def n55_2 := codeAt B55 [1]
noncomputable def n55_3 := codeAt B55 [1,0]
noncomputable def n55_4 := codeAt B55 [1,1]
noncomputable def n55_5 := codeAt B55 [1,1,0]
noncomputable def n55_6 := codeAt B55 [1,1,1]
noncomputable def n55_7 := codeAt B55 [1,1,1,0]
noncomputable def n55_8 := codeAt B55 [1,1,1,1]
noncomputable def n55_9 := codeAt B55 [1,1,1,1,0]
noncomputable def n55_10 := codeAt B55 [1,1,1,1,1]
noncomputable def n55_11 := codeAt B55 [1,1,1,1,1,0]
noncomputable def n55_12 := codeAt B55 [1,1,1,1,1,1]
theorem e55_0 : n55_0 = .seq n55_1 n55_2 := rfl
noncomputable def r55_1 := opsAt n55_1
theorem e55_1 : n55_1 = .region 0 (r55_1).toArray false := rfl
theorem e55_2 : n55_2 = .seq n55_3 n55_4 := rfl
noncomputable def r55_3 := opsAt n55_3
theorem e55_3 : n55_3 = .region 1 (r55_3).toArray false := rfl
theorem e55_4 : n55_4 = .seq n55_5 n55_6 := rfl
noncomputable def r55_5 := opsAt n55_5
theorem e55_5 : n55_5 = .region 2 (r55_5).toArray false := rfl
theorem e55_6 : n55_6 = .seq n55_7 n55_8 := rfl
noncomputable def r55_7 := opsAt n55_7
theorem e55_7 : n55_7 = .region 3 (r55_7).toArray false := rfl
theorem e55_8 : n55_8 = .seq n55_9 n55_10 := rfl
noncomputable def r55_9 := opsAt n55_9
theorem e55_9 : n55_9 = .region 4 (r55_9).toArray false := rfl
theorem e55_10 : n55_10 = .seq n55_11 n55_12 := rfl
noncomputable def r55_11 := opsAt n55_11
theorem e55_11 : n55_11 = .region 5 (r55_11).toArray false := rfl
theorem e55_12 : n55_12 = .ret := rfl
theorem f_wide_multiplyAdd : PureOk Try.prog 55 sMulAdd := by
  refine pureOk_of (c := n55_0) (Γ := conOf [(53, .ext sAdd64), (56, .pure sMul64)]) (conOf_ok (conOf_one (S := .ext sAdd64) f_bits_Add64 (conOf_one (S := .pure sMul64) f_bits_Mul64 (conOf_end)))) mixed Try.func55 B55_eq (by decide +kernel) Try.call55 ?_
  intro args hS
  unfold sMulAdd at hS ⊢
  split at hS
  · refine ⟨by rw [Try.ntmps55]; simp, vC_sound ?_⟩
    rename_i xa xb xc xd
    obtain ⟨ha, hb, hc, hd⟩ := hS
    obtain ⟨a, la, rfl⟩ := isul_out ha
    obtain ⟨b, lb, rfl⟩ := isul_out hb
    obtain ⟨c, lc, rfl⟩ := isul_out hc
    obtain ⟨d, ld, rfl⟩ := isul_out hd
    simp only [ulv_ul, mod_eq_of_lt la, mod_eq_of_lt lb, mod_eq_of_lt lc, mod_eq_of_lt ld]
    clear ha hb hc hd
    simp only [entry_cons, entry_nil, Nat.reduceAdd]
    have hab : a * b ≤ 18446744073709551615 * 18446744073709551615 := Nat.mul_le_mul (by omega) (by omega)
    repeat' (first | (with_reducible first | apply seqC_normal | apply seqC_ret) | ((with_reducible apply wC_seq e55_0; apply wC_region e55_1); refine vOps_open (l := _ :: _) rfl ?_; refine kOps_asc rfl rfl rfl lit_ul0 ?_; refine kOps_asc rfl rfl rfl lit_ul0 ?_; refine vOps_nil ?_; (with_reducible apply seqC_normal; apply wC_seq e55_2; apply wC_region e55_3); refine vOps_open (l := _ :: _) rfl ?_; refine kOps_mv rfl rfl rfl rfl ?_; refine kOps_mv rfl rfl rfl rfl ?_; refine kOps_callc (pre := ?_) (val := ?_) rfl rfl rfl rfl rfl ?_ ?_ ?_ ?_ ?_; rotate_left 2; (simp only [zero_mod, mod_eq_of_lt la, mod_eq_of_lt lb, mod_eq_of_lt lc, mod_eq_of_lt ld, sAdd64, sMul64, nrmC, map_cons, map_nil, nrm_ul, nrm_u4, nrm_nil, nrm_int, nrm_bool, nrm_string, nrm_ro, nrm_agg, nrm_rptr, isul_ul, ulv_ul, isU_u4, uv_u4, bytesOf_bv, isB_bv, true_and, and_true, and_self, n_add_zero, zero_add, n_sub_zero]; rfl); (focus (first | rfl | (simp only [closed, closedL, closed_ul, closed_u4, closedL_bv, closedL_cl, Bool.and_self, Bool.and_true]; done))); (focus (first | rfl | (simp only [closed, closedL, closed_ul, closed_u4, closedL_bv, closedL_cl, Bool.and_self, Bool.and_true]; done))); (focus ((repeat' apply And.intro) <;> first | exact True.intro | omega | (with_reducible rfl) | assumption | exact ⟨_, rfl⟩ | (simp only [sda]; done) | (simp only [len_cl]; omega) | (simp [Value.cells, Value.oneCell']; done))); refine kOps_mv rfl rfl rfl rfl ?_; refine kOps_ext rfl rfl rfl rfl rfl ?_; refine kOps_ext rfl rfl rfl rfl rfl ?_; refine kOps_as rfl rfl rfl rfl ?_; refine kOps_as rfl rfl rfl rfl ?_; refine vOps_nil ?_; (with_reducible apply seqC_normal; apply wC_seq e55_4; apply wC_region e55_5); refine vOps_open (l := _ :: _) rfl ?_; refine kOps_mv rfl rfl rfl rfl ?_; refine kOps_mv rfl rfl rfl rfl ?_; refine kOps_calle (pre := ?_) (val := ?_) rfl rfl rfl rfl rfl ?_ ?_ ?_; rotate_left 2; (simp only [zero_mod, mod_eq_of_lt la, mod_eq_of_lt lb, mod_eq_of_lt lc, mod_eq_of_lt ld, sAdd64, sMul64, lit_ul0, nrmC, map_cons, map_nil, nrm_ul, nrm_u4, nrm_nil, nrm_int, nrm_bool, nrm_string, nrm_ro, nrm_agg, nrm_rptr, isul_ul, ulv_ul, isU_u4, uv_u4, bytesOf_bv, isB_bv, true_and, and_true, and_self, n_add_zero, zero_add, n_sub_zero]; rfl); (focus ((repeat' apply And.intro) <;> first | exact True.intro | omega | (with_reducible rfl) | assumption | exact ⟨_, rfl⟩ | (simp only [sda]; done) | (simp only [len_cl]; omega) | (simp [Value.cells, Value.oneCell']; done))); refine kOps_mv rfl rfl rfl rfl ?_; refine kOps_ext rfl rfl rfl rfl rfl ?_; refine kOps_ext rfl rfl rfl rfl rfl ?_; refine kOps_as rfl rfl rfl rfl ?_; refine kOps_as rfl rfl rfl rfl ?_; refine vOps_nil ?_; (with_reducible apply seqC_normal; apply wC_seq e55_6; apply wC_region e55_7); refine vOps_open (l := _ :: _) rfl ?_; refine kOps_mv rfl rfl rfl rfl ?_; refine kOps_mv rfl rfl rfl rfl ?_; refine kOps_bin (b := .add) (pre := ?_) (val := ?_) rfl rfl rfl rfl rfl ?_ ?_ ?_; rotate_left 2; (intro L; simp only [zero_mod, mod_eq_of_lt la, mod_eq_of_lt lb, mod_eq_of_lt lc, mod_eq_of_lt ld, add_ul, binF_add, Int.reduceAdd, Int.reduceSub, Int.reduceMul, Int.reduceNeg, Int.sub_zero, Int.cast_ofNat_Int, ne_eq, Int.reduceLT, Int.reduceLE, Int.reduceEq, Nat.reduceMod, Nat.reduceLT, decide_true, decide_false, ty22]; (first | (rw [wrap_i64] <;> first | omega | rfl) | (rw [wrap_u8] <;> first | omega | rfl) | (rw [wrap_u16] <;> first | omega | rfl) | (rw [wrap_u32] <;> first | omega | rfl) | rfl)); exact trivial; refine kOps_as rfl rfl rfl rfl ?_; refine vOps_nil ?_; (with_reducible apply seqC_normal; apply wC_seq e55_8; apply wC_region e55_9); refine vOps_open (l := _ :: _) rfl ?_; refine kOps_mv rfl rfl rfl rfl ?_; refine kOps_mv rfl rfl rfl rfl ?_; refine kOps_calle (pre := ?_) (val := ?_) rfl rfl rfl rfl rfl ?_ ?_ ?_; rotate_left 2; (simp only [zero_mod, mod_eq_of_lt la, mod_eq_of_lt lb, mod_eq_of_lt lc, mod_eq_of_lt ld, sAdd64, sMul64, lit_ul0, nrmC, map_cons, map_nil, nrm_ul, nrm_u4, nrm_nil, nrm_int, nrm_bool, nrm_string, nrm_ro, nrm_agg, nrm_rptr, isul_ul, ulv_ul, isU_u4, uv_u4, bytesOf_bv, isB_bv, true_and, and_true, and_self, n_add_zero, zero_add, n_sub_zero]; rfl); (focus ((repeat' apply And.intro) <;> first | exact True.intro | omega | (with_reducible rfl) | assumption | exact ⟨_, rfl⟩ | (simp only [sda]; done) | (simp only [len_cl]; omega) | (simp [Value.cells, Value.oneCell']; done))); refine kOps_mv rfl rfl rfl rfl ?_; refine kOps_ext rfl rfl rfl rfl rfl ?_; refine kOps_ext rfl rfl rfl rfl rfl ?_; refine kOps_as rfl rfl rfl rfl ?_; refine kOps_as rfl rfl rfl rfl ?_; refine vOps_nil ?_; (with_reducible apply seqC_normal; apply wC_seq e55_10; apply wC_region e55_11); refine vOps_open (l := _ :: _) rfl ?_; refine kOps_mv rfl rfl rfl rfl ?_; refine kOps_mv rfl rfl rfl rfl ?_; refine kOps_mv rfl rfl rfl rfl ?_; refine kOps_bin (b := .add) (pre := ?_) (val := ?_) rfl rfl rfl rfl rfl ?_ ?_ ?_; rotate_left 2; (intro L; simp only [zero_mod, mod_eq_of_lt la, mod_eq_of_lt lb, mod_eq_of_lt lc, mod_eq_of_lt ld, add_ul, binF_add, Int.reduceAdd, Int.reduceSub, Int.reduceMul, Int.reduceNeg, Int.sub_zero, Int.cast_ofNat_Int, ne_eq, Int.reduceLT, Int.reduceLE, Int.reduceEq, Nat.reduceMod, Nat.reduceLT, decide_true, decide_false, ty22]; (first | (rw [wrap_i64] <;> first | omega | rfl) | (rw [wrap_u8] <;> first | omega | rfl) | (rw [wrap_u16] <;> first | omega | rfl) | (rw [wrap_u32] <;> first | omega | rfl) | rfl)); exact trivial; refine kOps_as rfl rfl rfl rfl ?_; refine kOps_as rfl rfl rfl rfl ?_; refine vOps_nil ?_; (with_reducible apply seqC_normal; apply wC_ret e55_12)))
    refine fin_c (p := ?_) (xs := [.tmp 8, .tmp 9]) (by simp) rfl ?_ ?_ ?_ ?_
    rotate_left 2
    · simp only [rsx, map_cons, map_nil, zero_mod, mod_eq_of_lt la, mod_eq_of_lt lb, mod_eq_of_lt lc, mod_eq_of_lt ld, evalIn_tmp, evalIn_const, evalIn_func, lookup_cons, Nat.reduceBEq, cond_true, cond_false, lit_ul0, lit_ul1, loadF, partF, Int.cast_ofNat_Int, Nat.min_self, List.drop_succ_cons, Int.reduceSub, List.getElem?_cons_zero, List.getElem?_cons_succ, List.getD_cons_zero, List.getD_cons_succ, List.getD_nil, List.drop_zero, List.take_succ_cons, List.take_zero, List.take_nil, List.length_cons, List.length_nil, List.set_cons_zero, List.set_cons_succ, zero_add, n_add_zero, Nat.mul_one, Nat.one_mul, Nat.reduceAdd, Nat.reduceMul, Nat.reduceSub, Nat.reduceLeDiff, Nat.reduceEqDiff, Int.toNat_natCast, Int.reduceToNat, Int.toNat_zero, reduceIte, if_true, if_false, Bool.false_eq_true, isAggD, len_cl, take_cl, agg_cl, getD_bv, take_bytes, List.length_map, List.cons_append, List.nil_append, true_and, and_true, and_self, ty22]; try rfl
    · first | rfl | (simp only [closed, closedL, closed_u4, closed_ul, closedL_cl, closedL_bv, Bool.and_self, Bool.and_true]; first | done | rfl)
    · generalize a * b = q at *
      exact tup2 (ul_congr (by omega)) (ul_congr (by omega))
    · simp only [rsx, map_cons, map_nil, zero_mod, mod_eq_of_lt la, mod_eq_of_lt lb, mod_eq_of_lt lc, mod_eq_of_lt ld, evalIn_tmp, evalIn_const, evalIn_func, lookup_cons, Nat.reduceBEq, cond_true, cond_false, lit_ul0, lit_ul1, loadF, partF, Int.cast_ofNat_Int, Nat.min_self, List.drop_succ_cons, Int.reduceSub, List.getElem?_cons_zero, List.getElem?_cons_succ, List.getD_cons_zero, List.getD_cons_succ, List.getD_nil, List.drop_zero, List.take_succ_cons, List.take_zero, List.take_nil, List.length_cons, List.length_nil, List.set_cons_zero, List.set_cons_succ, zero_add, n_add_zero, Nat.mul_one, Nat.one_mul, Nat.reduceAdd, Nat.reduceMul, Nat.reduceSub, Nat.reduceLeDiff, Nat.reduceEqDiff, Int.toNat_natCast, Int.reduceToNat, Int.toNat_zero, reduceIte, if_true, if_false, Bool.false_eq_true, isAggD, len_cl, take_cl, agg_cl, getD_bv, take_bytes, List.length_map, List.cons_append, List.nil_append, true_and, and_true, and_self, ty22]; try trivial
  · exact hS.elim
end Go.Ab
