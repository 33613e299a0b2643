import Derived.Test.YtgknomjgpkpjdaaTY
import Derived.Test.YtgknomjgpkpjdaaME
namespace Go.Ab
open Go Go.Proofs
open Nat (reduceAdd zero_add reduceMul mul_one reduceMod reduceLT one_mul)
open List (length_cons length_nil getD_cons_zero drop_zero set_cons_zero set_cons_succ take_zero take_succ_cons getD_cons_succ drop_succ_cons)
open Int (toNat_natCast reduceToNat toNat_zero cast_ofNat_Int)
set_option linter.unusedVariables false
set_option linter.unusedSimpArgs false
set_option maxRecDepth 8000
set_option maxHeartbeats 4000000

noncomputable def B22 : Code := bodyOf Try.f22
theorem B22_eq : Try.f22.body = some B22 := by kernel_rfl
noncomputable def n22_0 := B22
noncomputable def n22_1 := codeAt B22 [0]
noncomputable def n22_2 := codeAt B22 [1]
noncomputable def n22_3 := codeAt B22 [1,0]
noncomputable def n22_4 := codeAt B22 [1,0,0]
noncomputable def n22_5 := codeAt B22 [1,0,1]
noncomputable def n22_6 := codeAt B22 [1,0,1,0]
noncomputable def n22_7 := codeAt B22 [1,0,1,0,0]
noncomputable def n22_8 := codeAt B22 [1,0,1,0,0,0]
noncomputable def n22_9 := codeAt B22 [1,0,1,0,0,0,0]
noncomputable def n22_10 := codeAt B22 [1,0,1,0,0,0,1]
noncomputable def n22_11 := codeAt B22 [1,0,1,0,0,0,1,0]
noncomputable def n22_12 := codeAt B22 [1,0,1,0,0,0,1,1]
noncomputable def n22_13 := codeAt B22 [1,0,1,0,0,1]
noncomputable def n22_14 := codeAt B22 [1,0,1,0,0,1,0]
noncomputable def n22_15 := codeAt B22 [1,0,1,0,0,1,0,0]
noncomputable def n22_16 := codeAt B22 [1,0,1,0,0,1,0,0,0]
noncomputable def n22_17 := codeAt B22 [1,0,1,0,0,1,0,0,0,0]
noncomputable def n22_18 := codeAt B22 [1,0,1,0,0,1,0,0,0,1]
noncomputable def n22_19 := codeAt B22 [1,0,1,0,0,1,0,0,0,1,0]
noncomputable def n22_20 := codeAt B22 [1,0,1,0,0,1,0,0,0,1,0,0]
noncomputable def n22_21 := codeAt B22 [1,0,1,0,0,1,0,0,0,1,0,1]
noncomputable def n22_22 := codeAt B22 [1,0,1,0,0,1,0,0,0,1,1]
noncomputable def n22_23 := codeAt B22 [1,0,1,0,0,1,0,0,1]
noncomputable def n22_24 := codeAt B22 [1,0,1,0,0,1,0,0,1,0]
noncomputable def n22_25 := codeAt B22 [1,0,1,0,0,1,0,0,1,1]
noncomputable def n22_26 := codeAt B22 [1,0,1,0,0,1,0,0,1,1,0]
noncomputable def n22_27 := codeAt B22 [1,0,1,0,0,1,0,0,1,1,0,0]
noncomputable def n22_28 := codeAt B22 [1,0,1,0,0,1,0,0,1,1,0,1]
noncomputable def n22_29 := codeAt B22 [1,0,1,0,0,1,0,0,1,1,1]
noncomputable def n22_30 := codeAt B22 [1,0,1,0,0,1,1]
noncomputable def n22_31 := codeAt B22 [1,1]
noncomputable def n22_32 := codeAt B22 [1,1,0]
noncomputable def n22_33 := codeAt B22 [1,1,1]
theorem e22_0 : n22_0 = .seq n22_1 n22_2 := rfl
noncomputable def r22_1 := opsAt n22_1
theorem e22_1 : n22_1 = .region 0 (r22_1).toArray false := rfl
theorem e22_2 : n22_2 = .seq n22_3 n22_31 := rfl
theorem e22_3 : n22_3 = .seq n22_4 n22_5 := rfl
noncomputable def r22_4 := opsAt n22_4
theorem e22_4 : n22_4 = .region 1 (r22_4).toArray false := rfl
theorem e22_5 : n22_5 = .block 0 n22_6 := rfl
theorem e22_6 : n22_6 = .loop n22_7 := rfl
theorem e22_7 : n22_7 = .seq n22_8 n22_13 := rfl
theorem e22_8 : n22_8 = .seq n22_9 n22_10 := rfl
noncomputable def r22_9 := opsAt n22_9
theorem e22_9 : n22_9 = .region 2 (r22_9).toArray false := rfl
theorem e22_10 : n22_10 = .cond (.tmp 7) n22_11 n22_12 := rfl
theorem e22_11 : n22_11 = .skip := rfl
theorem e22_12 : n22_12 = .exit 0 := rfl
theorem e22_13 : n22_13 = .seq n22_14 n22_30 := rfl
theorem e22_14 : n22_14 = .block 1 n22_15 := rfl
theorem e22_15 : n22_15 = .seq n22_16 n22_23 := rfl
theorem e22_16 : n22_16 = .seq n22_17 n22_18 := rfl
noncomputable def r22_17 := opsAt n22_17
theorem e22_17 : n22_17 = .region 4 (r22_17).toArray true := rfl
theorem a22_17 : anyOk r22_17 = true := by decide +kernel
theorem e22_18 : n22_18 = .cond (.tmp 16) n22_19 n22_22 := rfl
theorem e22_19 : n22_19 = .seq n22_20 n22_21 := rfl
noncomputable def r22_20 := opsAt n22_20
theorem e22_20 : n22_20 = .region 5 (r22_20).toArray false := rfl
theorem e22_21 : n22_21 = .ret := rfl
theorem e22_22 : n22_22 = .skip := rfl
theorem e22_23 : n22_23 = .seq n22_24 n22_25 := rfl
noncomputable def r22_24 := opsAt n22_24
theorem e22_24 : n22_24 = .region 6 (r22_24).toArray true := rfl
theorem a22_24 : anyOk r22_24 = true := by decide +kernel
theorem e22_25 : n22_25 = .cond (.tmp 23) n22_26 n22_29 := rfl
theorem e22_26 : n22_26 = .seq n22_27 n22_28 := rfl
noncomputable def r22_27 := opsAt n22_27
theorem e22_27 : n22_27 = .region 7 (r22_27).toArray false := rfl
theorem e22_28 : n22_28 = .ret := rfl
theorem e22_29 : n22_29 = .skip := rfl
noncomputable def r22_30 := opsAt n22_30
theorem e22_30 : n22_30 = .region 3 (r22_30).toArray false := rfl
theorem e22_31 : n22_31 = .seq n22_32 n22_33 := rfl
noncomputable def r22_32 := opsAt n22_32
theorem e22_32 : n22_32 = .region 8 (r22_32).toArray false := rfl
theorem e22_33 : n22_33 = .ret := rfl
theorem f_ref02_Cmp : PureOk Try.prog 22 sCmp := by
  refine pureOk_of (c := n22_0) (Γ := conOf []) (conOf_ok (conOf_end)) mixed Try.func22 B22_eq (by decide +kernel) Try.call22 ?_
  intro args hS
  unfold sCmp at hS ⊢
  split at hS
  · refine ⟨by rw [Try.ntmps22]; simp, vC_sound ?_⟩
    rename_i xa xb
    obtain ⟨ha, hb⟩ := hS
    obtain ⟨a, la, rfl⟩ := isU_out ha
    obtain ⟨b, lb, rfl⟩ := isU_out hb
    simp only [uv_u4, Nat.mod_eq_of_lt la, Nat.mod_eq_of_lt lb]
    clear ha hb
    simp only [entry_cons, entry_nil, reduceAdd]
    repeat' (first | (with_reducible first | apply seqC_normal | apply wunrC_normal | apply blockC_normal | apply seqC_exit | apply blockC_hit | apply wunrC_exit | apply seqC_ret | apply blockC_ret | apply wunrC_ret | apply loopC_ret | apply loopC_exit) | ((with_reducible apply blockC_miss); (exact rfl)) | ((with_reducible apply wC_seq e22_0; apply wC_region e22_1); refine vOps_open (l := _ :: _) rfl ?_) | ((with_reducible apply wC_seq e22_2; apply wC_seq e22_3; apply wC_region e22_4); refine vOps_open (l := _ :: _) rfl ?_) | ((with_reducible apply wC_block e22_5; apply kC_unroll [2, 3, 5] e22_6); (exact rfl); (exact rfl); (with_reducible apply wC_seq e22_7; apply wC_seq e22_8; apply wC_region e22_9); refine vOps_open (l := _ :: _) rfl ?_) | ((with_reducible apply kC_unroll [2, 3, 5] e22_6); (exact rfl); (exact rfl); (with_reducible apply wC_seq e22_7; apply wC_seq e22_8; apply wC_region e22_9); refine vOps_open (l := _ :: _) rfl ?_) | ((with_reducible apply kC_cond e22_10); (exact rfl); all_goals (intro hb; first | (cases hb; done) | cases hb | ((try simp only [dxe] at hb); try (exfalso; first | omega | exact hb trivial)))) | ((with_reducible apply wC_skip e22_11)) | ((with_reducible apply wC_exit e22_12)) | ((with_reducible apply wC_seq e22_13; apply wC_block e22_14; apply wC_seq e22_15; apply wC_seq e22_16; apply wC_any e22_17 a22_17); refine vOps_open (l := _ :: _) rfl ?_) | ((with_reducible apply kC_cond e22_18); (exact rfl); all_goals (intro hb; first | (cases hb; done) | cases hb | ((try simp only [dxe] at hb); try (exfalso; first | omega | exact hb trivial)))) | ((with_reducible apply wC_seq e22_19; apply wC_region e22_20); refine vOps_open (l := _ :: _) rfl ?_) | ((with_reducible apply wC_ret e22_21)) | ((with_reducible apply wC_skip e22_22)) | ((with_reducible apply wC_seq e22_23; apply wC_any e22_24 a22_24); refine vOps_open (l := _ :: _) rfl ?_) | ((with_reducible apply kC_cond e22_25); (exact rfl); all_goals (intro hb; first | (cases hb; done) | cases hb | ((try simp only [dxe] at hb); try (exfalso; first | omega | exact hb trivial)))) | ((with_reducible apply wC_seq e22_26; apply wC_region e22_27); refine vOps_open (l := _ :: _) rfl ?_) | ((with_reducible apply wC_ret e22_28)) | ((with_reducible apply wC_skip e22_29)) | ((with_reducible apply wC_region e22_30); refine vOps_open (l := _ :: _) rfl ?_) | ((with_reducible apply wC_seq e22_31; apply wC_region e22_32); refine vOps_open (l := _ :: _) rfl ?_) | ((with_reducible apply wC_ret e22_33)) | ((with_reducible apply vOps_nil); try (with_reducible refine And.intro (by kernel_rfl) ?_)) | (refine kOps_gon (g := ?_) (p := ?_) rfl rfl ?_ ?_ ?_ ?_; rotate_left 2; fail; (exact rfl); (with_reducible rfl)) | (refine kOps_gofft (g := ?_) (p := ?_) rfl rfl ?_ ?_ ?_ ?_; rotate_left 2; fail; (exact rfl); (with_reducible rfl)) | (refine kOps_gofff (g := ?_) (p := ?_) rfl rfl ?_ ?_ ?_ ?_; rotate_left 2; fail; (exact rfl); (with_reducible rfl)) | (refine kOps_pickt rfl rfl rfl rfl ?_ rfl ?_; (with_reducible rfl)) | (refine kOps_pickf rfl rfl rfl rfl ?_ rfl ?_; (with_reducible rfl)) | (refine kOps_box (row := ?_) (n := ?_) rfl rfl rfl rfl rfl ?_ ?_ ?_ ?_; rotate_left 2; (simp only [↓List.length_append, ↓List.length_set, ↓length_cons, length_nil, reduceAdd, zero_add]; rfl); (simp only [cl4, cells_ul, cells_u4, cells_agg, cells_int, cells_bool, cells_string, cells_slice, cells_ro, cells_rptr]; rfl); (focus (first | rfl | exact one_cl _ _ | exact one_bv _ | (simp only [one_cl, one_ul, List.all_cons, List.all_nil, Bool.and_self, PV.one]; done) | (simp [PV.one, one_ul, one_cl, one_bv, Value.oneCell']; done)))) | (refine kOps_as rfl rfl rfl rfl ?_) | (refine kOps_mv rfl rfl rfl rfl ?_) | (refine kOps_bin (b := .geq) (pre := ?_) (val := ?_) rfl rfl rfl rfl rfl ?_ ?_ ?_; rotate_left 2; (intro L; simp only [cl4, eql_u4 ty26 ty22, neq_u4 ty26 ty22, lit_ul0, lit_ul1, geq_ul, binF_geq, Int.reduceAdd, Int.reduceSub, Int.reduceMul, Int.reduceNeg, Int.sub_zero, cast_ofNat_Int, ne_eq, Int.reduceLT, Int.reduceLE, Int.reduceEq, reduceMod, reduceLT, decide_true, decide_false, ty3]; (first | (rw [wrap_i64] <;> first | omega | rfl) | (rw [wrap_u8] <;> first | omega | rfl) | (rw [wrap_u16] <;> first | omega | rfl) | (rw [wrap_u32] <;> first | omega | rfl) | rfl)); exact trivial) | ((first | (refine kOps_ixap (off' := ?_) rfl rfl rfl rfl rfl rfl ty26 ty22 ?_ ?_ ?_; rotate_left 1; (simp only [cl4, zero_add, n_add_zero, mul_one, one_mul, toNat_natCast, reduceToNat, toNat_zero, reduceMul, reduceAdd]; rfl)) | (refine kOps_ixaq (cs' := ?_) rfl rfl rfl rfl rfl ty26 ty22 ?_ ?_ ?_; rotate_left 1; (simp only [cl4, elemAt, isAggD, Bool.false_eq_true, if_false, List.getElem?_cons_zero, List.getElem?_cons_succ, getD_cons_zero, getD_cons_succ, drop_zero, drop_succ_cons, take_succ_cons, take_zero, length_cons, length_nil, set_cons_zero, set_cons_succ, zero_add, n_add_zero, mul_one, reduceAdd, reduceMul, toNat_natCast, reduceToNat, toNat_zero, take_cl, agg_cl, len_cl]; rfl))); (focus ((repeat' apply And.intro) <;> first | exact True.intro | omega | (with_reducible rfl) | assumption | exact ⟨_, rfl⟩ | (simp only [sda]; done) | (simp only [len_cl]; omega) | (simp [Value.cells, Value.oneCell']; done)))) | ((first | refine kOps_loadp (pre := ?_) (val := ?_) rfl rfl rfl rfl rfl ty22 ?_ ?_ ?_ | refine kOps_loadr (pre := ?_) (val := ?_) rfl rfl rfl rfl ty22 ?_ ?_ ?_); rotate_left 2; (simp only [cl4, partF, isAggD, Bool.false_eq_true, if_false, List.getElem?_cons_zero, List.getElem?_cons_succ, getD_cons_zero, getD_cons_succ, drop_zero, drop_succ_cons, take_succ_cons, take_zero, length_cons, length_nil, set_cons_zero, set_cons_succ, zero_add, n_add_zero, mul_one, reduceAdd, reduceMul, toNat_natCast, reduceToNat, toNat_zero, take_cl, agg_cl, len_cl]; rfl); (focus ((repeat' apply And.intro) <;> first | exact True.intro | omega | (with_reducible rfl) | assumption | exact ⟨_, rfl⟩ | (simp only [sda]; done) | (simp only [len_cl]; omega) | (simp [Value.cells, Value.oneCell']; done)))) | (refine kOps_bin (b := .lss) (pre := ?_) (val := ?_) rfl rfl rfl rfl rfl ?_ ?_ ?_; rotate_left 2; (intro L; simp only [cl4, eql_u4 ty26 ty22, neq_u4 ty26 ty22, lit_ul0, lit_ul1, lss_ul, binF_lss, Int.reduceAdd, Int.reduceSub, Int.reduceMul, Int.reduceNeg, Int.sub_zero, cast_ofNat_Int, ne_eq, Int.reduceLT, Int.reduceLE, Int.reduceEq, reduceMod, reduceLT, decide_true, decide_false, ty22]; (first | (rw [wrap_i64] <;> first | omega | rfl) | (rw [wrap_u8] <;> first | omega | rfl) | (rw [wrap_u16] <;> first | omega | rfl) | (rw [wrap_u32] <;> first | omega | rfl) | rfl)); exact trivial) | (refine kOps_bin (b := .gtr) (pre := ?_) (val := ?_) rfl rfl rfl rfl rfl ?_ ?_ ?_; rotate_left 2; (intro L; simp only [cl4, eql_u4 ty26 ty22, neq_u4 ty26 ty22, lit_ul0, lit_ul1, gtr_ul, binF_gtr, Int.reduceAdd, Int.reduceSub, Int.reduceMul, Int.reduceNeg, Int.sub_zero, cast_ofNat_Int, ne_eq, Int.reduceLT, Int.reduceLE, Int.reduceEq, reduceMod, reduceLT, decide_true, decide_false, ty22]; (first | (rw [wrap_i64] <;> first | omega | rfl) | (rw [wrap_u8] <;> first | omega | rfl) | (rw [wrap_u16] <;> first | omega | rfl) | (rw [wrap_u32] <;> first | omega | rfl) | rfl)); exact trivial) | (refine kOps_bin (b := .sub) (pre := ?_) (val := ?_) rfl rfl rfl rfl rfl ?_ ?_ ?_; rotate_left 2; (intro L; simp only [cl4, eql_u4 ty26 ty22, neq_u4 ty26 ty22, lit_ul0, lit_ul1, sub_ul, binF_sub, Int.reduceAdd, Int.reduceSub, Int.reduceMul, Int.reduceNeg, Int.sub_zero, cast_ofNat_Int, ne_eq, Int.reduceLT, Int.reduceLE, Int.reduceEq, reduceMod, reduceLT, decide_true, decide_false, ty3]; (first | (rw [wrap_i64] <;> first | omega | rfl) | (rw [wrap_u8] <;> first | omega | rfl) | (rw [wrap_u16] <;> first | omega | rfl) | (rw [wrap_u32] <;> first | omega | rfl) | rfl)); exact trivial) | (refine vOps_gundef rfl rfl ?_ ?_; (focus (simp only [lookup_cons, Nat.reduceBEq, cond_true, cond_false]; done)); simp only [putIn]) | (refine vOps_gpick (t := ?_) (val := ?_) rfl rfl ?_ rfl rfl ?_ ?_ ?_; rotate_left 2; (focus (simp only [lookup_cons, Nat.reduceBEq, cond_true, cond_false]; done)); (simp only [evalIn_tmp, evalIn_const, lookup_cons, Nat.reduceBEq, cond_true, cond_false]; rfl); (simp only [evalIn_tmp, evalIn_const, lookup_cons, Nat.reduceBEq, cond_true, cond_false]; rfl)) | (refine vOps_pick (t := ?_) (val := ?_) rfl rfl rfl ?_ ?_ ?_; rotate_left 2; (simp only [evalIn_tmp, evalIn_const, lookup_cons, Nat.reduceBEq, cond_true, cond_false]; rfl); (simp only [evalIn_tmp, evalIn_const, lookup_cons, Nat.reduceBEq, cond_true, cond_false]; rfl)) | (refine vOps_fork (b := ?_) rfl rfl ?_ ?_ ?_; rotate_left 1; (simp only [lookup_cons, Nat.reduceBEq, cond_true, cond_false]; rfl); all_goals (intro hb; simp only [hb]; (try simp only [decide_eq_true_eq, decide_eq_false_iff_not] at hb); try (exfalso; first | omega | exact hb trivial))) | (refine vOps_forkp (b := ?_) rfl ?_ ?_ ?_; rotate_left 1; (simp only [evalIn_tmp, lookup_cons, Nat.reduceBEq, cond_true, cond_false]; rfl); all_goals (intro hb; simp only [hb]; (try simp only [decide_eq_true_eq, decide_eq_false_iff_not] at hb); try (exfalso; first | omega | exact hb trivial))))
    all_goals (
    refine fin_c (p := ?_) (xs := [.tmp 4]) (by simp) rfl ?_ ?_ ?_ ?_
    rotate_left 2
    · simp only [rsx, List.map_cons, List.map_nil, cl4, evalIn_tmp, evalIn_const, evalIn_func, lookup_cons, Nat.reduceBEq, cond_true, cond_false, lit_ul0, lit_ul1, loadF, partF, cast_ofNat_Int, Nat.min_self, drop_succ_cons, Int.reduceSub, List.getElem?_cons_zero, List.getElem?_cons_succ, getD_cons_zero, getD_cons_succ, List.getD_nil, drop_zero, take_succ_cons, take_zero, List.take_nil, length_cons, length_nil, set_cons_zero, set_cons_succ, zero_add, n_add_zero, mul_one, one_mul, reduceAdd, reduceMul, Nat.reduceSub, Nat.reduceLeDiff, Nat.reduceEqDiff, toNat_natCast, reduceToNat, toNat_zero, reduceIte, if_true, if_false, Bool.false_eq_true, isAggD, len_cl, take_cl, agg_cl, getD_bv, take_bytes, List.length_map, List.cons_append, List.nil_append, true_and, and_true, and_self, ty3, ty22, ty26]; try rfl
    · first | rfl | (simp only [closed, closedL, closed_u4, closed_ul, closedL_cl, closedL_bv, Bool.and_self, Bool.and_true]; first | done | rfl)
    · refine int_eq ?_
      unfold cmpN
      (repeat' split) <;> omega
    · simp only [rsx, List.map_cons, List.map_nil, cl4, evalIn_tmp, evalIn_const, evalIn_func, lookup_cons, Nat.reduceBEq, cond_true, cond_false, lit_ul0, lit_ul1, loadF, partF, cast_ofNat_Int, Nat.min_self, drop_succ_cons, Int.reduceSub, List.getElem?_cons_zero, List.getElem?_cons_succ, getD_cons_zero, getD_cons_succ, List.getD_nil, drop_zero, take_succ_cons, take_zero, List.take_nil, length_cons, length_nil, set_cons_zero, set_cons_succ, zero_add, n_add_zero, mul_one, one_mul, reduceAdd, reduceMul, Nat.reduceSub, Nat.reduceLeDiff, Nat.reduceEqDiff, toNat_natCast, reduceToNat, toNat_zero, reduceIte, if_true, if_false, Bool.false_eq_true, isAggD, len_cl, take_cl, agg_cl, getD_bv, take_bytes, List.length_map, List.cons_append, List.nil_append, true_and, and_true, and_self, ty3, ty22, ty26]; try trivial)
  · exact hS.elim
end Go.Ab
