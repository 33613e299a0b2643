import Derived.Test.YtgknomjgpkpjdaaTY
import Derived.Test.YtgknomjgpkpjdaaME
namespace Go.Ab
open Go Go.Proofs
open Nat (reduceMod reduceLT reduceDiv)
open Int (cast_ofNat_Int)
set_option linter.unusedVariables false
set_option linter.unusedSimpArgs false
set_option maxRecDepth 8000
set_option maxHeartbeats 4000000

noncomputable def B56 : Code := bodyOf Try.f56
theorem B56_eq : Try.f56.body = some B56 := by kernel_rfl
noncomputable def n56_0 := B56
noncomputable def n56_1 := codeAt B56 [0]
noncomputable def n56_2 := codeAt B56 [1]
noncomputable def n56_3 := codeAt B56 [1,0]
noncomputable def n56_4 := codeAt B56 [1,1]
noncomputable def n56_5 := codeAt B56 [1,1,0]
noncomputable def n56_6 := codeAt B56 [1,1,1]
noncomputable def n56_7 := codeAt B56 [1,1,1,0]
noncomputable def n56_8 := codeAt B56 [1,1,1,1]
noncomputable def n56_9 := codeAt B56 [1,1,1,1,0]
noncomputable def n56_10 := codeAt B56 [1,1,1,1,1]
noncomputable def n56_11 := codeAt B56 [1,1,1,1,1,0]
noncomputable def n56_12 := codeAt B56 [1,1,1,1,1,1]
noncomputable def n56_13 := codeAt B56 [1,1,1,1,1,1,0]
noncomputable def n56_14 := codeAt B56 [1,1,1,1,1,1,1]
noncomputable def n56_15 := codeAt B56 [1,1,1,1,1,1,1,0]
noncomputable def n56_16 := codeAt B56 [1,1,1,1,1,1,1,1]
noncomputable def n56_17 := codeAt B56 [1,1,1,1,1,1,1,1,0]
noncomputable def n56_18 := codeAt B56 [1,1,1,1,1,1,1,1,1]
noncomputable def n56_19 := codeAt B56 [1,1,1,1,1,1,1,1,1,0]
noncomputable def n56_20 := codeAt B56 [1,1,1,1,1,1,1,1,1,1]
noncomputable def n56_21 := codeAt B56 [1,1,1,1,1,1,1,1,1,1,0]
noncomputable def n56_22 := codeAt B56 [1,1,1,1,1,1,1,1,1,1,1]
noncomputable def n56_23 := codeAt B56 [1,1,1,1,1,1,1,1,1,1,1,0]
noncomputable def n56_24 := codeAt B56 [1,1,1,1,1,1,1,1,1,1,1,1]
theorem e56_0 : n56_0 = .seq n56_1 n56_2 := rfl
noncomputable def r56_1 := opsAt n56_1
theorem e56_1 : n56_1 = .region 0 (r56_1).toArray false := rfl
theorem e56_2 : n56_2 = .seq n56_3 n56_4 := rfl
noncomputable def r56_3 := opsAt n56_3
theorem e56_3 : n56_3 = .region 1 (r56_3).toArray false := rfl
theorem e56_4 : n56_4 = .seq n56_5 n56_6 := rfl
noncomputable def r56_5 := opsAt n56_5
theorem e56_5 : n56_5 = .region 2 (r56_5).toArray false := rfl
theorem e56_6 : n56_6 = .seq n56_7 n56_8 := rfl
noncomputable def r56_7 := opsAt n56_7
theorem e56_7 : n56_7 = .region 3 (r56_7).toArray false := rfl
theorem e56_8 : n56_8 = .seq n56_9 n56_10 := rfl
noncomputable def r56_9 := opsAt n56_9
theorem e56_9 : n56_9 = .region 4 (r56_9).toArray false := rfl
theorem e56_10 : n56_10 = .seq n56_11 n56_12 := rfl
noncomputable def r56_11 := opsAt n56_11
theorem e56_11 : n56_11 = .region 5 (r56_11).toArray false := rfl
theorem e56_12 : n56_12 = .seq n56_13 n56_14 := rfl
noncomputable def r56_13 := opsAt n56_13
theorem e56_13 : n56_13 = .region 6 (r56_13).toArray false := rfl
theorem e56_14 : n56_14 = .seq n56_15 n56_16 := rfl
noncomputable def r56_15 := opsAt n56_15
theorem e56_15 : n56_15 = .region 7 (r56_15).toArray false := rfl
theorem e56_16 : n56_16 = .seq n56_17 n56_18 := rfl
noncomputable def r56_17 := opsAt n56_17
theorem e56_17 : n56_17 = .region 8 (r56_17).toArray false := rfl
theorem e56_18 : n56_18 = .seq n56_19 n56_20 := rfl
noncomputable def r56_19 := opsAt n56_19
theorem e56_19 : n56_19 = .region 9 (r56_19).toArray false := rfl
theorem e56_20 : n56_20 = .seq n56_21 n56_22 := rfl
noncomputable def r56_21 := opsAt n56_21
theorem e56_21 : n56_21 = .region 10 (r56_21).toArray false := rfl
theorem e56_22 : n56_22 = .seq n56_23 n56_24 := rfl
noncomputable def r56_23 := opsAt n56_23
theorem e56_23 : n56_23 = .region 11 (r56_23).toArray false := rfl
theorem e56_24 : n56_24 = .ret := rfl
theorem f_bits_Mul64 : PureOk Try.prog 56 sMul64 := by
  refine pureOk_of (c := n56_0) (Γ := conOf []) (conOf_ok (conOf_end)) mixed Try.func56 B56_eq (by decide +kernel) Try.call56 ?_
  intro args hS
  unfold sMul64 at hS ⊢
  split at hS
  · refine ⟨by rw [Try.ntmps56]; simp, vC_sound ?_⟩
    rename_i xa xb
    obtain ⟨ha, hb⟩ := hS
    obtain ⟨a, la, rfl⟩ := isul_out ha
    obtain ⟨b, lb, rfl⟩ := isul_out hb
    simp only [ulv_ul, Nat.mod_eq_of_lt la, Nat.mod_eq_of_lt lb]
    clear ha hb
    simp only [entry_cons, entry_nil, Nat.reduceAdd]
    repeat' (first | (with_reducible first | apply seqC_normal | apply seqC_ret) | ((with_reducible apply wC_seq e56_0; apply wC_region e56_1); refine vOps_open (l := _ :: _) rfl ?_) | ((with_reducible apply wC_seq e56_2; apply wC_region e56_3); refine vOps_open (l := _ :: _) rfl ?_) | ((with_reducible apply wC_seq e56_4; apply wC_region e56_5); refine vOps_open (l := _ :: _) rfl ?_) | ((with_reducible apply wC_seq e56_6; apply wC_region e56_7); refine vOps_open (l := _ :: _) rfl ?_) | ((with_reducible apply wC_seq e56_8; apply wC_region e56_9); refine vOps_open (l := _ :: _) rfl ?_) | ((with_reducible apply wC_seq e56_10; apply wC_region e56_11); refine vOps_open (l := _ :: _) rfl ?_) | ((with_reducible apply wC_seq e56_12; apply wC_region e56_13); refine vOps_open (l := _ :: _) rfl ?_) | ((with_reducible apply wC_seq e56_14; apply wC_region e56_15); refine vOps_open (l := _ :: _) rfl ?_) | ((with_reducible apply wC_seq e56_16; apply wC_region e56_17); refine vOps_open (l := _ :: _) rfl ?_) | ((with_reducible apply wC_seq e56_18; apply wC_region e56_19); refine vOps_open (l := _ :: _) rfl ?_) | ((with_reducible apply wC_seq e56_20; apply wC_region e56_21); refine vOps_open (l := _ :: _) rfl ?_) | ((with_reducible apply wC_seq e56_22; apply wC_region e56_23); refine vOps_open (l := _ :: _) rfl ?_) | ((with_reducible apply wC_ret e56_24)) | ((with_reducible apply vOps_nil); try (with_reducible refine And.intro (by kernel_rfl) ?_)) | (refine kOps_gon (g := ?_) (p := ?_) rfl rfl ?_ ?_ ?_ ?_; rotate_left 2; fail; (exact rfl); (with_reducible rfl)) | (refine kOps_gofft (g := ?_) (p := ?_) rfl rfl ?_ ?_ ?_ ?_; rotate_left 2; fail; (exact rfl); (with_reducible rfl)) | (refine kOps_gofff (g := ?_) (p := ?_) rfl rfl ?_ ?_ ?_ ?_; rotate_left 2; fail; (exact rfl); (with_reducible rfl)) | (refine kOps_pickt rfl rfl rfl rfl ?_ rfl ?_; (with_reducible rfl)) | (refine kOps_pickf rfl rfl rfl rfl ?_ rfl ?_; (with_reducible rfl)) | (refine kOps_asc rfl rfl rfl lit_ul0 ?_) | (refine kOps_mv rfl rfl rfl rfl ?_) | (refine kOps_bin (b := .and) (pre := ?_) (val := ?_) rfl rfl rfl rfl rfl ?_ ?_ ?_; rotate_left 2; (intro L; simp only [and_mask32, Nat.reducePow, reduceMod, reduceDiv, lit_ul0, lit_ul1, lc_32, lc_4294967295, and_ul, binF_and, Int.reduceAdd, Int.reduceSub, Int.reduceMul, Int.reduceNeg, Int.sub_zero, cast_ofNat_Int, ne_eq, Int.reduceLT, Int.reduceLE, Int.reduceEq, reduceLT, decide_true, decide_false, ty22]; (first | (rw [wrap_i64] <;> first | omega | rfl) | (rw [wrap_u8] <;> first | omega | rfl) | (rw [wrap_u16] <;> first | omega | rfl) | (rw [wrap_u32] <;> first | omega | rfl) | rfl)); exact trivial) | (refine kOps_as rfl rfl rfl rfl ?_) | (refine kOps_bin (b := .shr) (pre := ?_) (val := ?_) rfl rfl rfl rfl rfl ?_ ?_ ?_; rotate_left 2; (intro L; simp only [and_mask32, Nat.reducePow, reduceMod, reduceDiv, lit_ul0, lit_ul1, lc_32, lc_4294967295, shr_z, shr_ul, binF_shr, Int.reduceAdd, Int.reduceSub, Int.reduceMul, Int.reduceNeg, Int.sub_zero, cast_ofNat_Int, ne_eq, Int.reduceLT, Int.reduceLE, Int.reduceEq, reduceLT, decide_true, decide_false, ty22]; (first | (rw [wrap_i64] <;> first | omega | rfl) | (rw [wrap_u8] <;> first | omega | rfl) | (rw [wrap_u16] <;> first | omega | rfl) | (rw [wrap_u32] <;> first | omega | rfl) | rfl)); (focus ((repeat' apply And.intro) <;> first | exact True.intro | omega | (with_reducible rfl) | assumption | exact ⟨_, rfl⟩ | (simp only [sda]; done) | (simp only [len_cl]; omega) | (simp [Value.cells, Value.oneCell']; done)))) | (refine kOps_bin (b := .mul) (pre := ?_) (val := ?_) rfl rfl rfl rfl rfl ?_ ?_ ?_; rotate_left 2; (intro L; simp only [and_mask32, Nat.reducePow, reduceMod, reduceDiv, lit_ul0, lit_ul1, lc_32, lc_4294967295, mul_ul, binF_mul, Int.reduceAdd, Int.reduceSub, Int.reduceMul, Int.reduceNeg, Int.sub_zero, cast_ofNat_Int, ne_eq, Int.reduceLT, Int.reduceLE, Int.reduceEq, reduceLT, decide_true, decide_false, ty22]; (first | (rw [wrap_i64] <;> first | omega | rfl) | (rw [wrap_u8] <;> first | omega | rfl) | (rw [wrap_u16] <;> first | omega | rfl) | (rw [wrap_u32] <;> first | omega | rfl) | rfl)); exact trivial) | (refine kOps_bin (b := .add) (pre := ?_) (val := ?_) rfl rfl rfl rfl rfl ?_ ?_ ?_; rotate_left 2; (intro L; simp only [and_mask32, Nat.reducePow, reduceMod, reduceDiv, lit_ul0, lit_ul1, lc_32, lc_4294967295, add_ul, binF_add, Int.reduceAdd, Int.reduceSub, Int.reduceMul, Int.reduceNeg, Int.sub_zero, cast_ofNat_Int, ne_eq, Int.reduceLT, Int.reduceLE, Int.reduceEq, reduceLT, decide_true, decide_false, ty22]; (first | (rw [wrap_i64] <;> first | omega | rfl) | (rw [wrap_u8] <;> first | omega | rfl) | (rw [wrap_u16] <;> first | omega | rfl) | (rw [wrap_u32] <;> first | omega | rfl) | rfl)); exact trivial) | (refine vOps_gundef rfl rfl ?_ ?_; (focus (simp only [lookup_cons, Nat.reduceBEq, cond_true, cond_false]; done)); simp only [putIn]) | (refine vOps_gpick (t := ?_) (val := ?_) rfl rfl ?_ rfl rfl ?_ ?_ ?_; rotate_left 2; (focus (simp only [lookup_cons, Nat.reduceBEq, cond_true, cond_false]; done)); (simp only [evalIn_tmp, evalIn_const, lookup_cons, Nat.reduceBEq, cond_true, cond_false]; rfl); (simp only [evalIn_tmp, evalIn_const, lookup_cons, Nat.reduceBEq, cond_true, cond_false]; rfl)) | (refine vOps_pick (t := ?_) (val := ?_) rfl rfl rfl ?_ ?_ ?_; rotate_left 2; (simp only [evalIn_tmp, evalIn_const, lookup_cons, Nat.reduceBEq, cond_true, cond_false]; rfl); (simp only [evalIn_tmp, evalIn_const, lookup_cons, Nat.reduceBEq, cond_true, cond_false]; rfl)) | (refine vOps_fork (b := ?_) rfl rfl ?_ ?_ ?_; rotate_left 1; (simp only [lookup_cons, Nat.reduceBEq, cond_true, cond_false]; rfl); all_goals (intro hb; simp only [hb]; (try simp only [decide_eq_true_eq, decide_eq_false_iff_not] at hb); try (exfalso; first | omega | exact hb trivial))) | (refine vOps_forkp (b := ?_) rfl ?_ ?_ ?_; rotate_left 1; (simp only [evalIn_tmp, lookup_cons, Nat.reduceBEq, cond_true, cond_false]; rfl); all_goals (intro hb; simp only [hb]; (try simp only [decide_eq_true_eq, decide_eq_false_iff_not] at hb); try (exfalso; first | omega | exact hb trivial))))
    refine fin_c (p := ?_) (xs := [.tmp 4, .tmp 5]) (by simp) rfl ?_ ?_ ?_ ?_
    rotate_left 2
    · simp only [rsx, List.map_cons, List.map_nil, and_mask32, Nat.reducePow, reduceMod, reduceDiv, evalIn_tmp, evalIn_const, evalIn_func, lookup_cons, Nat.reduceBEq, cond_true, cond_false, lit_ul0, lit_ul1, lc_32, lc_4294967295, loadF, partF, cast_ofNat_Int, Nat.min_self, List.drop_succ_cons, Int.reduceSub, List.getElem?_cons_zero, List.getElem?_cons_succ, List.getD_cons_zero, List.getD_cons_succ, List.getD_nil, List.drop_zero, List.take_succ_cons, List.take_zero, List.take_nil, List.length_cons, List.length_nil, List.set_cons_zero, List.set_cons_succ, Nat.zero_add, n_add_zero, Nat.mul_one, Nat.one_mul, Nat.reduceAdd, Nat.reduceMul, Nat.reduceSub, Nat.reduceLeDiff, Nat.reduceEqDiff, Int.toNat_natCast, Int.reduceToNat, Int.toNat_zero, reduceIte, if_true, if_false, Bool.false_eq_true, isAggD, len_cl, take_cl, agg_cl, getD_bv, take_bytes, List.length_map, List.cons_append, List.nil_append, true_and, and_true, and_self, ty22]; try rfl
    · first | rfl | (simp only [closed, closedL, closed_u4, closed_ul, closedL_cl, closedL_bv, Bool.and_self, Bool.and_true]; first | done | rfl)
    · exact tup2 (ul_congr (mul64_hi2 la lb)) rfl
    · simp only [rsx, List.map_cons, List.map_nil, and_mask32, Nat.reducePow, reduceMod, reduceDiv, evalIn_tmp, evalIn_const, evalIn_func, lookup_cons, Nat.reduceBEq, cond_true, cond_false, lit_ul0, lit_ul1, lc_32, lc_4294967295, loadF, partF, cast_ofNat_Int, Nat.min_self, List.drop_succ_cons, Int.reduceSub, List.getElem?_cons_zero, List.getElem?_cons_succ, List.getD_cons_zero, List.getD_cons_succ, List.getD_nil, List.drop_zero, List.take_succ_cons, List.take_zero, List.take_nil, List.length_cons, List.length_nil, List.set_cons_zero, List.set_cons_succ, Nat.zero_add, n_add_zero, Nat.mul_one, Nat.one_mul, Nat.reduceAdd, Nat.reduceMul, Nat.reduceSub, Nat.reduceLeDiff, Nat.reduceEqDiff, Int.toNat_natCast, Int.reduceToNat, Int.toNat_zero, reduceIte, if_true, if_false, Bool.false_eq_true, isAggD, len_cl, take_cl, agg_cl, getD_bv, take_bytes, List.length_map, List.cons_append, List.nil_append, true_and, and_true, and_self, ty22]; try trivial
  · exact hS.elim
end Go.Ab
