import Derived.Test.YtmnkapmcclhiiaaQZ
import Derived.Test.YtmnkapmcclhiiaaME
import Derived.Test.YtmnkapmcclhiiaaTY
import Derived.Test.YtmnkapmcclhiiaaZ0
import Derived.Test.YtmnkapmcclhiiaaZ3
import Derived.Test.YtmnkapmcclhiiaaZ1
import Derived.Test.YtmnkapmcclhiiaaMV
import Derived.Test.YtmnkapmcclhiiaaMY
namespace Go.Ab
open Go Go.Proofs
open Nat (reduceAdd mod_eq_of_lt zero_add reduceMul reduceLeDiff reduceMod reduceLT zero_mod reduceSub reduceEqDiff reduceDiv one_mul)
open List (length_cons length_nil all_nil all_cons length_map length_set length_append)
open Int (toNat_natCast reduceToNat cast_ofNat_Int)
set_option linter.unusedVariables false
set_option linter.unusedSimpArgs false
set_option maxRecDepth 8000
set_option maxHeartbeats 4000000
noncomputable def B14 : Code := bodyOf Try.f14
theorem B14_eq : Try.f14.body = some B14 := by kernel_rfl
noncomputable def n14_0 := B14
noncomputable def n14_1 := codeAt B14 [0]
noncomputable def n14_2 := codeAt B14 [1]
noncomputable def n14_3 := codeAt B14 [1,0]
noncomputable def n14_4 := codeAt B14 [1,1]
theorem e14_0 : n14_0 = .seq n14_1 n14_2 := rfl
noncomputable def r14_1 := opsAt n14_1
theorem e14_1 : n14_1 = .region 0 (r14_1).toArray false := rfl
theorem e14_2 : n14_2 = .seq n14_3 n14_4 := rfl
noncomputable def r14_3 := opsAt n14_3
theorem e14_3 : n14_3 = .region 1 (r14_3).toArray true := rfl
theorem a14_3 : anyOk r14_3 = true := by decide +kernel
theorem g14_3_4 : (r14_3[4]?).bind (·.dst) = some 7 := by decide +kernel
theorem e14_4 : n14_4 = .ret := rfl
theorem f_group_Member : PureOk Try.prog 14 sGMem := by
  refine pureOk_of (c := n14_0) (Γ := conOf [(10, .pure sGMod), (12, .pure sGOrd), (18, .pure sGExp), (38, .pure sCmp), (39, .pure sFromUint)]) (conOf_ok (conOf_one (S := .pure sGMod) f_group_Modulus (conOf_one (S := .pure sGOrd) f_group_Order (conOf_one (S := .pure sGExp) f_group_Exp (conOf_one (S := .pure sCmp) f_wide_Cmp (conOf_one (S := .pure sFromUint) f_wide_FromUint (conOf_end))))))) mixed Try.func14 B14_eq (by decide +kernel) Try.call14 ?_
  intro args hS
  unfold sGMem at hS ⊢
  split at hS
  · refine ⟨by rw [Try.ntmps14]; simp, vC_sound ?_⟩
    rename_i xa
    have ha := hS
    obtain ⟨a, la, rfl⟩ := isU_out ha
    simp only [uv_u4, mod_eq_of_lt la]
    clear ha
    simp only [qz26, reduceAdd]
    repeat' (first | (with_reducible first | apply seqC_normal | apply seqC_ret) | ((with_reducible apply wC_seq e14_0; apply wC_region e14_1); refine vOps_open (l := _ :: _) rfl ?_; refine kOps_box (row := ?_) (n := ?_) rfl rfl rfl rfl rfl ?_ ?_ ?_ ?_; rotate_left 2; (simp only [↓length_append, ↓length_set, ↓length_cons, length_nil, reduceAdd, zero_add]; rfl); (simp only [qz1, splice_cl, splice_one, len_cl, reduceMod, reduceAdd, reduceSub, reduceMul, reduceDiv, reduceLT, reduceLeDiff, reduceEqDiff, qz5, eq_self, if_false, if_true, reduceIte, zero_mod, qz11, cl_one, cmpd_lt, qz2, zero_add, mod_eq_of_lt la, qz14]; rfl); (focus (first | rfl | exact one_cl _ _ | exact one_bv _ | (simp only [qz19, all_cons, all_nil, Bool.and_self, PV.one]; done) | (simp [PV.one, qz19, one_bv, Value.oneCell']; done))); refine kOps_as rfl rfl rfl rfl ?_; refine vOps_nil ?_; (with_reducible apply seqC_normal; apply wC_seq e14_2; apply wC_any e14_3 a14_3); refine vOps_open (l := _ :: _) rfl ?_) | ((with_reducible apply wC_ret e14_4)) | ((with_reducible apply vOps_nil); try (with_reducible refine And.intro (by kernel_rfl) ?_)) | (refine kOps_gon (g := ?_) (p := ?_) rfl rfl ?_ ?_ ?_ ?_; rotate_left 2; (with_reducible first | exact g14_3_4); (exact rfl); (with_reducible rfl)) | (refine kOps_gofft (g := ?_) (p := ?_) rfl rfl ?_ ?_ ?_ ?_; rotate_left 2; (with_reducible first | exact g14_3_4); (exact rfl); (with_reducible rfl)) | (refine kOps_gofff (g := ?_) (p := ?_) rfl rfl ?_ ?_ ?_ ?_; rotate_left 2; (with_reducible first | exact g14_3_4); (exact rfl); (with_reducible rfl)) | (refine kOps_pickt rfl rfl rfl rfl ?_ rfl ?_; (with_reducible rfl)) | (refine kOps_pickf rfl rfl rfl rfl ?_ rfl ?_; (with_reducible rfl)) | ((first | refine kOps_loadp (pre := ?_) (val := ?_) rfl rfl rfl rfl rfl ty24 ?_ ?_ ?_ | refine kOps_loadr (pre := ?_) (val := ?_) rfl rfl rfl rfl ty24 ?_ ?_ ?_); rotate_left 2; (simp only [qz1, splice_cl, splice_one, len_cl, reduceMod, reduceAdd, reduceSub, reduceMul, reduceDiv, reduceLT, reduceLeDiff, reduceEqDiff, qz5, eq_self, if_false, if_true, reduceIte, zero_mod, qz11, cl_one, cmpd_lt, qz2, zero_add, mod_eq_of_lt la, partF, isAggD, qz0, agg_cl, toNat_natCast, reduceToNat, qz4, n_add_zero, qz15, length_map]; rfl); (focus ((repeat' apply And.intro) <;> first | exact True.intro | omega | (with_reducible rfl) | assumption | exact ⟨_, rfl⟩ | (simp only [sda]; done) | (simp only [len_cl]; omega) | (simp [Value.cells, Value.oneCell']; done)))) | (refine kOps_callc (pre := ?_) (val := ?_) rfl rfl rfl rfl rfl ?_ ?_ ?_ ?_ ?_; rotate_left 2; (simp only [qz1, splice_cl, splice_one, len_cl, reduceMod, reduceAdd, reduceSub, reduceMul, reduceDiv, reduceLT, reduceLeDiff, reduceEqDiff, qz5, eq_self, if_false, if_true, reduceIte, zero_mod, qz11, cl_one, cmpd_lt, qz2, zero_add, mod_eq_of_lt la, sGMod, sGOrd, sGExp, sCmp, sFromUint, nrmC, qz9, qz8, qz25, ulv_ul, uv_u4, qz12, and_self, n_add_zero, n_sub_zero]; rfl); (focus (first | rfl | (simp only [closed, closedL, qz18, closedL_bv, closedL_cl, Bool.and_self, Bool.and_true]; done))); (focus (first | rfl | (simp only [closed, closedL, qz18, closedL_bv, closedL_cl, Bool.and_self, Bool.and_true]; done))); (focus ((repeat' apply And.intro) <;> first | exact True.intro | omega | (with_reducible rfl) | assumption | exact ⟨_, rfl⟩ | (simp only [sda]; done) | (simp only [len_cl]; omega) | (simp [Value.cells, Value.oneCell']; done)))) | (refine kOps_callc (pre := ?_) (val := ?_) rfl rfl rfl rfl rfl ?_ ?_ ?_ ?_ ?_; rotate_left 2; (simp only [qz1, splice_cl, splice_one, len_cl, reduceMod, reduceAdd, reduceSub, reduceMul, reduceDiv, reduceLT, reduceLeDiff, reduceEqDiff, qz5, eq_self, if_false, if_true, reduceIte, zero_mod, qz11, cl_one, cmpd_lt, qz2, zero_add, mod_eq_of_lt la, sGMod, sGOrd, sGExp, sCmp, sFromUint, lit_ul0, lit_ul1, nrmC, qz9, qz8, qz25, ulv_ul, uv_u4, qz12, and_self, n_add_zero, n_sub_zero]; rfl); (focus (first | rfl | (simp only [closed, closedL, qz18, closedL_bv, closedL_cl, Bool.and_self, Bool.and_true]; done))); (focus (first | rfl | (simp only [closed, closedL, qz18, closedL_bv, closedL_cl, Bool.and_self, Bool.and_true]; done))); (focus ((repeat' apply And.intro) <;> first | exact True.intro | omega | (with_reducible rfl) | assumption | exact ⟨_, rfl⟩ | (simp only [sda]; done) | (simp only [len_cl]; omega) | (simp [Value.cells, Value.oneCell']; done)))) | (refine kOps_bin (b := .lss) (pre := ?_) (val := ?_) rfl rfl rfl rfl rfl ?_ ?_ ?_; rotate_left 2; (intro L; simp only [qz1, splice_cl, splice_one, len_cl, reduceMod, reduceAdd, reduceSub, reduceMul, reduceDiv, reduceLT, reduceLeDiff, reduceEqDiff, qz5, eq_self, if_false, if_true, reduceIte, zero_mod, qz11, cl_one, cmpd_lt, qz2, zero_add, mod_eq_of_lt la, eql_u4 ty24 ty22, neq_u4 ty24 ty22, lit_ul0, lit_ul1, qz35, Int.reduceAdd, Int.reduceSub, Int.reduceMul, Int.reduceNeg, Int.sub_zero, cast_ofNat_Int, ne_eq, Int.reduceLT, Int.reduceLE, Int.reduceEq, ty3]; (first | (rw [wrap_i64] <;> first | omega | rfl) | (rw [wrap_u8] <;> first | omega | rfl) | (rw [wrap_u16] <;> first | omega | rfl) | (rw [wrap_u32] <;> first | omega | rfl) | rfl)); exact trivial) | (refine kOps_mv rfl rfl rfl rfl ?_) | (refine kOps_bin (b := .eql) (pre := ?_) (val := ?_) rfl rfl rfl rfl rfl ?_ ?_ ?_; rotate_left 2; (intro L; simp only [qz1, splice_cl, splice_one, len_cl, reduceMod, reduceAdd, reduceSub, reduceMul, reduceDiv, reduceLT, reduceLeDiff, reduceEqDiff, qz5, eq_self, if_false, if_true, reduceIte, zero_mod, qz11, cl_one, cmpd_lt, qz2, zero_add, mod_eq_of_lt la, eql_u4 ty24 ty22, neq_u4 ty24 ty22, lit_ul0, lit_ul1, qz31, Int.reduceAdd, Int.reduceSub, Int.reduceMul, Int.reduceNeg, Int.sub_zero, cast_ofNat_Int, ne_eq, Int.reduceLT, Int.reduceLE, Int.reduceEq, ty24, ty22]; (first | (rw [wrap_i64] <;> first | omega | rfl) | (rw [wrap_u8] <;> first | omega | rfl) | (rw [wrap_u16] <;> first | omega | rfl) | (rw [wrap_u32] <;> first | omega | rfl) | rfl)); (focus ((repeat' apply And.intro) <;> first | exact True.intro | omega | (with_reducible rfl) | assumption | exact ⟨_, rfl⟩ | (simp only [sda]; done) | (simp only [len_cl]; omega) | (simp [Value.cells, Value.oneCell']; done)))) | (refine kOps_as rfl rfl rfl rfl ?_) | (refine vOps_gundef rfl rfl ?_ ?_; (focus (simp only [qz7, Nat.reduceBEq]; done)); simp only [putIn]) | (refine vOps_gpick (t := ?_) (val := ?_) rfl rfl ?_ rfl rfl ?_ ?_ ?_; rotate_left 2; (focus (simp only [qz7, Nat.reduceBEq]; done)); (simp only [evalIn_tmp, evalIn_const, qz7, Nat.reduceBEq]; rfl); (simp only [evalIn_tmp, evalIn_const, qz7, Nat.reduceBEq]; rfl)) | (refine vOps_pick (t := ?_) (val := ?_) rfl rfl rfl ?_ ?_ ?_; rotate_left 2; (simp only [evalIn_tmp, evalIn_const, qz7, Nat.reduceBEq]; rfl); (simp only [evalIn_tmp, evalIn_const, qz7, Nat.reduceBEq]; rfl)) | (refine vOps_fork (b := ?_) rfl rfl ?_ ?_ ?_; rotate_left 1; (simp only [qz7, Nat.reduceBEq]; rfl); all_goals (intro hb; simp only [hb]; (try simp only [qz27] at hb); try (exfalso; first | omega | exact hb trivial))) | (refine vOps_forkp (b := ?_) rfl ?_ ?_ ?_; rotate_left 1; (simp only [evalIn_tmp, qz7, Nat.reduceBEq]; rfl); all_goals (intro hb; simp only [hb]; (try simp only [qz27] at hb); try (exfalso; first | omega | exact hb trivial))))
    all_goals (
    refine fin_c (p := ?_) (xs := [.tmp 2]) (by simp) rfl ?_ ?_ ?_ ?_
    rotate_left 2
    · simp only [rsx, qz9, qz1, splice_cl, splice_one, len_cl, reduceMod, reduceAdd, reduceSub, reduceMul, reduceDiv, reduceLT, reduceLeDiff, reduceEqDiff, qz5, eq_self, if_false, if_true, reduceIte, zero_mod, qz11, cl_one, cmpd_lt, qz2, zero_add, mod_eq_of_lt la, evalIn_tmp, evalIn_const, evalIn_func, qz7, Nat.reduceBEq, lit_ul0, lit_ul1, loadF, partF, qz3, qz6, qz16, qz12, and_self, Nat.le_refl, isAggD, qz0, agg_cl, toNat_natCast, reduceToNat, qz4, n_add_zero, qz15, length_map, ty3, ty22, ty24]; try rfl
    · first | rfl | (simp only [closed, closedL, qz18, closedL_cl, closedL_bv, Bool.and_self, Bool.and_true]; first | done | rfl)
    · first | (refine congrArg (fun b => PV.lit (.bool b)) (Eq.symm ?_); exact mb_lo (by assumption)) | (refine congrArg (fun b => PV.lit (.bool b)) (Eq.symm ?_); exact mb_in (by first | assumption | (simp_all; done)) (by assumption)) | (refine congrArg (fun b => PV.lit (.bool b)) (Eq.symm ?_); exact mb_big (by omega)) | (refine congrArg (fun b => PV.lit (.bool b)) (Eq.symm ?_); exact mb_zero (by first | omega | (simp_all; done)))
    · simp only [rsx, qz9, qz1, splice_cl, splice_one, len_cl, reduceMod, reduceAdd, reduceSub, reduceMul, reduceDiv, reduceLT, reduceLeDiff, reduceEqDiff, qz5, eq_self, if_false, if_true, reduceIte, zero_mod, qz11, cl_one, cmpd_lt, qz2, zero_add, mod_eq_of_lt la, evalIn_tmp, evalIn_const, evalIn_func, qz7, Nat.reduceBEq, lit_ul0, lit_ul1, loadF, partF, qz3, qz6, qz16, qz12, and_self, Nat.le_refl, isAggD, qz0, agg_cl, toNat_natCast, reduceToNat, qz4, n_add_zero, qz15, length_map, ty3, ty22, ty24]; try trivial)
  · exact hS.elim
noncomputable def B22 : Code := bodyOf Try.f22
theorem B22_eq : Try.f22.body = some B22 := by kernel_rfl
noncomputable def n22_0 := B22
noncomputable def n22_1 := codeAt B22 [0]
noncomputable def n22_2 := codeAt B22 [1]
noncomputable def n22_3 := codeAt B22 [1,0]
noncomputable def n22_4 := codeAt B22 [1,1]
theorem e22_0 : n22_0 = .seq n22_1 n22_2 := rfl
noncomputable def r22_1 := opsAt n22_1
theorem e22_1 : n22_1 = .region 0 (r22_1).toArray false := rfl
theorem e22_2 : n22_2 = .seq n22_3 n22_4 := rfl
noncomputable def r22_3 := opsAt n22_3
theorem e22_3 : n22_3 = .region 1 (r22_3).toArray true := rfl
theorem a22_3 : anyOk r22_3 = true := by decide +kernel
theorem e22_4 : n22_4 = .ret := rfl
theorem f_group_Power : PureOk Try.prog 22 sGPow := by
  refine pureOk_of (c := n22_0) (Γ := conOf [(18, .pure sGExp), (39, .pure sFromUint)]) (conOf_ok (conOf_one (S := .pure sGExp) f_group_Exp (conOf_one (S := .pure sFromUint) f_wide_FromUint (conOf_end)))) mixed Try.func22 B22_eq (by decide +kernel) Try.call22 ?_
  intro args hS
  unfold sGPow at hS ⊢
  split at hS
  · refine ⟨by rw [Try.ntmps22]; simp, vC_sound ?_⟩
    rename_i xe
    have he := hS
    obtain ⟨e, le, rfl⟩ := isU_out he
    simp only [uv_u4, mod_eq_of_lt le]
    clear he
    simp only [qz26, reduceAdd]
    repeat' (first | (with_reducible first | apply seqC_normal | apply seqC_ret) | ((with_reducible apply wC_seq e22_0; apply wC_region e22_1); refine vOps_open (l := _ :: _) rfl ?_; refine kOps_box (row := ?_) (n := ?_) rfl rfl rfl rfl rfl ?_ ?_ ?_ ?_; rotate_left 2; (simp only [↓length_append, ↓length_set, ↓length_cons, length_nil, reduceAdd, zero_add]; rfl); (simp only [qz1, splice_cl, splice_one, len_cl, qz2, zero_add, mod_eq_of_lt le, qz14]; rfl); (focus (first | rfl | exact one_cl _ _ | exact one_bv _ | (simp only [qz19, all_cons, all_nil, Bool.and_self, PV.one]; done) | (simp [PV.one, qz19, one_bv, Value.oneCell']; done))); refine kOps_alloc (row := ?_) (n := ?_) rfl rfl rfl rfl ty24 ?_ ?_ ?_ ?_; rotate_left 2; (simp only [↓length_append, ↓length_set, ↓length_cons, length_nil, reduceAdd, zero_add]; rfl); (simp only [qz1, splice_cl, splice_one, len_cl, qz2, zero_add, mod_eq_of_lt le, Value.cells, qz9, List.toList_toArray, zero_cl4, zero_cl8, lit_ul0]; rfl); (focus (first | (simp only [Value.cells, List.toList_toArray, qz23, Value.oneCell', and_self]; done) | (simp [Value.cells, Value.oneCell']; done))); refine vOps_nil ?_; (with_reducible apply seqC_normal; apply wC_seq e22_2; apply wC_any e22_3 a22_3); refine vOps_open (l := _ :: _) rfl ?_; refine kOps_callc (pre := ?_) (val := ?_) rfl rfl rfl rfl rfl ?_ ?_ ?_ ?_ ?_; rotate_left 2; (simp only [qz1, splice_cl, splice_one, len_cl, qz2, zero_add, mod_eq_of_lt le, sGExp, sFromUint, lc_4, nrmC, qz9, qz8, qz25, ulv_ul, uv_u4, qz12, and_self, n_add_zero, zero_mod, n_sub_zero]; rfl); (focus (first | rfl | (simp only [closed, closedL, qz18, closedL_bv, closedL_cl, Bool.and_self, Bool.and_true]; done))); (focus (first | rfl | (simp only [closed, closedL, qz18, closedL_bv, closedL_cl, Bool.and_self, Bool.and_true]; done))); (focus ((repeat' apply And.intro) <;> first | exact True.intro | omega | (with_reducible rfl) | assumption | exact ⟨_, rfl⟩ | (simp only [sda]; done) | (simp only [len_cl]; omega) | (simp [Value.cells, Value.oneCell']; done))); (first | refine kOps_loadp (pre := ?_) (val := ?_) rfl rfl rfl rfl rfl ty24 ?_ ?_ ?_ | refine kOps_loadr (pre := ?_) (val := ?_) rfl rfl rfl rfl ty24 ?_ ?_ ?_); rotate_left 2; (simp only [qz1, splice_cl, splice_one, len_cl, qz2, zero_add, mod_eq_of_lt le, partF, isAggD, qz0, if_false, if_true, reduceIte, agg_cl, toNat_natCast, reduceToNat, qz4, n_add_zero, reduceAdd, reduceMul, qz15, length_map]; rfl); (focus ((repeat' apply And.intro) <;> first | exact True.intro | omega | (with_reducible rfl) | assumption | exact ⟨_, rfl⟩ | (simp only [sda]; done) | (simp only [len_cl]; omega) | (simp [Value.cells, Value.oneCell']; done))); refine kOps_callc (pre := ?_) (val := ?_) rfl rfl rfl rfl rfl ?_ ?_ ?_ ?_ ?_; rotate_left 2; (simp only [qz1, splice_cl, splice_one, len_cl, qz2, zero_add, mod_eq_of_lt le, sGExp, sFromUint, nrmC, qz9, qz8, qz25, ulv_ul, uv_u4, qz12, and_self, n_add_zero, zero_mod, n_sub_zero]; rfl); (focus (first | rfl | (simp only [closed, closedL, qz18, closedL_bv, closedL_cl, Bool.and_self, Bool.and_true]; done))); (focus (first | rfl | (simp only [closed, closedL, qz18, closedL_bv, closedL_cl, Bool.and_self, Bool.and_true]; done))); (focus ((repeat' apply And.intro) <;> first | exact True.intro | omega | (with_reducible rfl) | assumption | exact ⟨_, rfl⟩ | (simp only [sda]; done) | (simp only [len_cl]; omega) | (simp [Value.cells, Value.oneCell']; done))); refine kOps_store (cs' := ?_) rfl rfl rfl rfl rfl rfl rfl ty24 ?_ ?_ ?_; rotate_left 1; (simp only [qz1, splice_cl, splice_one, len_cl, qz2, zero_add, mod_eq_of_lt le, qz14, isAggD, qz0, if_false, if_true, reduceIte, agg_cl, toNat_natCast, reduceToNat, qz4, n_add_zero, reduceAdd, reduceMul, qz15, length_map]; rfl); (focus (first | (simp only [qz14, length_cons, length_nil, len_cl, length_set, length_map, reduceAdd, zero_add, all_cons, all_nil, qz19, one_bv, PV.one, Value.oneCell', Bool.and_self, reduceLeDiff, Nat.le_refl, and_self, qz12]; done) | ((try simp only [qz14]); (focus ((repeat' apply And.intro) <;> first | exact True.intro | omega | (with_reducible rfl) | assumption | exact ⟨_, rfl⟩ | (simp only [sda]; done) | (simp only [len_cl]; omega) | (simp [Value.cells, Value.oneCell']; done)))))); refine vOps_nil ?_; refine And.intro (by kernel_rfl) ?_; (with_reducible apply seqC_normal; apply wC_ret e22_4)))
    all_goals (
    refine fin_c (p := ?_) (xs := [.cell 2 24]) (by simp) rfl ?_ ?_ ?_ ?_
    rotate_left 2
    · simp only [rsx, qz9, qz1, splice_cl, splice_one, len_cl, qz2, zero_add, mod_eq_of_lt le, evalIn_tmp, evalIn_const, evalIn_func, qz7, Nat.reduceBEq, lit_ul0, lit_ul1, loadF, partF, qz3, qz6, qz16, qz12, and_self, Nat.le_refl, reduceLeDiff, isAggD, qz0, if_false, if_true, reduceIte, agg_cl, toNat_natCast, reduceToNat, qz4, n_add_zero, reduceAdd, reduceMul, qz15, length_map, ty22, ty24]; try rfl
    · first | rfl | (simp only [closed, closedL, qz18, closedL_cl, closedL_bv, Bool.and_self, Bool.and_true]; first | done | rfl)
    · first | rfl | (rw [gx_eq])
    · simp only [rsx, qz9, qz1, splice_cl, splice_one, len_cl, qz2, zero_add, mod_eq_of_lt le, evalIn_tmp, evalIn_const, evalIn_func, qz7, Nat.reduceBEq, lit_ul0, lit_ul1, loadF, partF, qz3, qz6, qz16, qz12, and_self, Nat.le_refl, reduceLeDiff, isAggD, qz0, if_false, if_true, reduceIte, agg_cl, toNat_natCast, reduceToNat, qz4, n_add_zero, reduceAdd, reduceMul, qz15, length_map, ty22, ty24]; try trivial)
  · exact hS.elim
noncomputable def B32 : Code := bodyOf Try.f32
theorem B32_eq : Try.f32.body = some B32 := by kernel_rfl
noncomputable def n32_0 := B32
noncomputable def n32_1 := codeAt B32 [0]
noncomputable def n32_2 := codeAt B32 [1]
noncomputable def n32_3 := codeAt B32 [1,0]
noncomputable def n32_4 := codeAt B32 [1,1]
theorem e32_0 : n32_0 = .seq n32_1 n32_2 := rfl
noncomputable def r32_1 := opsAt n32_1
theorem e32_1 : n32_1 = .region 0 (r32_1).toArray false := rfl
theorem e32_2 : n32_2 = .seq n32_3 n32_4 := rfl
noncomputable def r32_3 := opsAt n32_3
theorem e32_3 : n32_3 = .region 1 (r32_3).toArray false := rfl
theorem e32_4 : n32_4 = .ret := rfl
theorem f_law_one : PureOk Try.prog 32 sGOne := by
  refine pureOk_of (c := n32_0) (Γ := conOf []) (conOf_ok (conOf_end)) mixed Try.func32 B32_eq (by decide +kernel) Try.call32 ?_
  intro args hS
  unfold sGOne at hS ⊢
  split at hS
  · refine ⟨by rw [Try.ntmps32]; simp, vC_sound ?_⟩

    simp only [qz26, reduceAdd]
    repeat' (first | (with_reducible first | apply seqC_normal | apply seqC_ret) | ((with_reducible apply wC_seq e32_0; apply wC_region e32_1); refine vOps_open (l := _ :: _) rfl ?_; refine kOps_alloc (row := ?_) (n := ?_) rfl rfl rfl rfl ty24 ?_ ?_ ?_ ?_; rotate_left 2; (simp only [↓length_append, ↓length_set, ↓length_cons, length_nil, reduceAdd, zero_add]; rfl); (simp only [cl4, qz2, zero_add, Value.cells, qz9, List.toList_toArray, zero_cl4, zero_cl8, lit_ul0]; rfl); (focus (first | (simp only [Value.cells, List.toList_toArray, qz23, Value.oneCell', and_self]; done) | (simp [Value.cells, Value.oneCell']; done))); refine vOps_nil ?_; (with_reducible apply seqC_normal; apply wC_seq e32_2; apply wC_region e32_3); refine vOps_open (l := _ :: _) rfl ?_; refine kOps_build (pre := ?_) (val := ?_) rfl rfl rfl rfl ?_ ?_ ?_; rotate_left 2; (intro L; simp only [cl4, qz2, zero_add, lit_ul1, buildF, fillB, zeroCells, splice, Value.cells, qz9, List.toList_toArray, zero_cl4, lit_ul0, qz14, qz17, cast_ofNat_Int, qz22, qz10, Int.reduceSub, qz3, qz0, length_cons, length_nil, qz6, n_add_zero, qz4, one_mul, reduceAdd, reduceMul, reduceSub, reduceLeDiff, reduceEqDiff, toNat_natCast, reduceToNat, reduceIte, if_true, if_false, isAggD, len_cl, agg_cl, qz15, length_map, qz16, qz12, and_self, ty24, ty22]; rfl); (focus ((repeat' apply And.intro) <;> first | exact True.intro | omega | (with_reducible rfl) | assumption | exact ⟨_, rfl⟩ | (simp only [sda]; done) | (simp only [len_cl]; omega) | (simp [Value.cells, Value.oneCell']; done))); refine kOps_store (cs' := ?_) rfl rfl rfl rfl rfl rfl rfl ty24 ?_ ?_ ?_; rotate_left 1; (simp only [cl4, qz2, zero_add, splice, qz14, qz17, isAggD, qz0, if_false, qz3, qz10, length_cons, length_nil, qz6, n_add_zero, qz4, reduceAdd, reduceMul, toNat_natCast, reduceToNat, agg_cl, len_cl]; rfl); (focus (first | (simp only [qz14, qz17, length_cons, length_nil, len_cl, length_set, length_map, reduceAdd, zero_add, all_cons, all_nil, qz19, one_bv, PV.one, Value.oneCell', Bool.and_self, reduceLeDiff, Nat.le_refl, and_self, qz12]; done) | ((try simp only [qz14, qz17]); (focus ((repeat' apply And.intro) <;> first | exact True.intro | omega | (with_reducible rfl) | assumption | exact ⟨_, rfl⟩ | (simp only [sda]; done) | (simp only [len_cl]; omega) | (simp [Value.cells, Value.oneCell']; done)))))); refine vOps_nil ?_; (with_reducible apply seqC_normal; apply wC_ret e32_4)))
    all_goals (
    refine fin_c (p := ?_) (xs := [.cell 0 24]) (by simp) rfl ?_ ?_ ?_ ?_
    rotate_left 2
    · simp only [rsx, qz9, cl4, qz2, zero_add, evalIn_tmp, evalIn_const, evalIn_func, qz7, Nat.reduceBEq, lit_ul0, lit_ul1, loadF, partF, cast_ofNat_Int, qz22, qz10, Int.reduceSub, qz3, qz0, length_cons, length_nil, qz6, n_add_zero, qz4, one_mul, reduceAdd, reduceMul, reduceSub, reduceLeDiff, reduceEqDiff, toNat_natCast, reduceToNat, reduceIte, if_true, if_false, isAggD, len_cl, agg_cl, qz15, length_map, qz16, qz12, and_self, ty22, ty24]; try rfl
    · first | rfl | (simp only [closed, closedL, qz18, closedL_cl, closedL_bv, Bool.and_self, Bool.and_true]; first | done | rfl)
    · first | ((simp only [← cl4, agg_cl]; done)) | ((try simp only [← cl4, agg_cl]); first | done | exact u4_congr (by omega) | exact agg4 (by omega) | rfl)
    · simp only [rsx, qz9, cl4, qz2, zero_add, evalIn_tmp, evalIn_const, evalIn_func, qz7, Nat.reduceBEq, lit_ul0, lit_ul1, loadF, partF, cast_ofNat_Int, qz22, qz10, Int.reduceSub, qz3, qz0, length_cons, length_nil, qz6, n_add_zero, qz4, one_mul, reduceAdd, reduceMul, reduceSub, reduceLeDiff, reduceEqDiff, toNat_natCast, reduceToNat, reduceIte, if_true, if_false, isAggD, len_cl, agg_cl, qz15, length_map, qz16, qz12, and_self, ty22, ty24]; try trivial)
  · exact hS.elim
noncomputable def B9 : Code := bodyOf Try.f9
theorem B9_eq : Try.f9.body = some B9 := by kernel_rfl
noncomputable def n9_0 := B9
noncomputable def n9_1 := codeAt B9 [0]
noncomputable def n9_2 := codeAt B9 [1]
noncomputable def n9_3 := codeAt B9 [1,0]
noncomputable def n9_4 := codeAt B9 [1,1]
theorem e9_0 : n9_0 = .seq n9_1 n9_2 := rfl
noncomputable def r9_1 := opsAt n9_1
theorem e9_1 : n9_1 = .region 0 (r9_1).toArray false := rfl
theorem e9_2 : n9_2 = .seq n9_3 n9_4 := rfl
noncomputable def r9_3 := opsAt n9_3
theorem e9_3 : n9_3 = .region 1 (r9_3).toArray false := rfl
theorem g9_3_2 : (r9_3[2]?).bind (·.dst) = some 3 := by decide +kernel
theorem g9_3_7 : (r9_3[7]?).bind (·.dst) = some 8 := by decide +kernel
theorem e9_4 : n9_4 = .ret := rfl
theorem f_law_sane : PureOk Try.prog 9 sLnone := by
  refine pureOk_of (c := n9_0) (Γ := conOf [(12, .pure sGOrd), (14, .pure sGMem), (22, .pure sGPow), (32, .pure sGOne)]) (conOf_ok (conOf_one (S := .pure sGOrd) f_group_Order (conOf_one (S := .pure sGMem) f_group_Member (conOf_one (S := .pure sGPow) f_group_Power (conOf_one (S := .pure sGOne) f_law_one (conOf_end)))))) mixed Try.func9 B9_eq (by decide +kernel) Try.call9 ?_
  intro args hS
  unfold sLnone at hS ⊢
  split at hS
  · refine ⟨by rw [Try.ntmps9]; simp, vC_sound ?_⟩

    simp only [qz26, reduceAdd]
    repeat' (first | (with_reducible first | apply seqC_normal | apply seqC_ret) | ((with_reducible apply wC_seq e9_0; apply wC_region e9_1); refine vOps_open (l := _ :: _) rfl ?_; refine kOps_as rfl rfl rfl rfl ?_; refine vOps_nil ?_; (with_reducible apply seqC_normal; apply wC_seq e9_2; apply wC_region e9_3); refine vOps_open (l := _ :: _) rfl ?_) | ((with_reducible apply wC_ret e9_4)) | ((with_reducible apply vOps_nil); try (with_reducible refine And.intro (by kernel_rfl) ?_)) | (refine kOps_gon (g := ?_) (p := ?_) rfl rfl ?_ ?_ ?_ ?_; rotate_left 2; (with_reducible first | exact g9_3_2 | exact g9_3_7); (exact rfl); (with_reducible rfl)) | (refine kOps_gofft (g := ?_) (p := ?_) rfl rfl ?_ ?_ ?_ ?_; rotate_left 2; (with_reducible first | exact g9_3_2 | exact g9_3_7); (exact rfl); (with_reducible rfl)) | (refine kOps_gofff (g := ?_) (p := ?_) rfl rfl ?_ ?_ ?_ ?_; rotate_left 2; (with_reducible first | exact g9_3_2 | exact g9_3_7); (exact rfl); (with_reducible rfl)) | (refine kOps_pickt rfl rfl rfl rfl ?_ rfl ?_; (with_reducible rfl)) | (refine kOps_pickf rfl rfl rfl rfl ?_ rfl ?_; (with_reducible rfl)) | (refine kOps_build (pre := ?_) (val := ?_) rfl rfl rfl rfl ?_ ?_ ?_; rotate_left 2; (intro L; simp only [qz1, splice_cl, splice_one, len_cl, reduceMod, reduceAdd, reduceSub, reduceMul, reduceDiv, reduceLT, reduceLeDiff, reduceEqDiff, qz5, eq_self, if_false, if_true, reduceIte, zero_mod, qz11, cl_one, qz13, Option.map_some, qz2, zero_add, lit_ul0, lit_ul1, lc_4, buildF, fillB, zeroCells, Value.cells, qz9, List.toList_toArray, zero_cl4, qz14, cast_ofNat_Int, qz22, qz10, Int.reduceSub, qz3, qz0, length_cons, length_nil, qz6, n_add_zero, qz4, one_mul, toNat_natCast, reduceToNat, isAggD, agg_cl, qz15, length_map, qz16, qz12, and_self, ty24, ty22]; rfl); (focus ((repeat' apply And.intro) <;> first | exact True.intro | omega | (with_reducible rfl) | assumption | exact ⟨_, rfl⟩ | (simp only [sda]; done) | (simp only [len_cl]; omega) | (simp [Value.cells, Value.oneCell']; done)))) | (refine kOps_callc (pre := ?_) (val := ?_) rfl rfl rfl rfl rfl ?_ ?_ ?_ ?_ ?_; rotate_left 2; (simp only [qz1, splice_cl, splice_one, len_cl, reduceMod, reduceAdd, reduceSub, reduceMul, reduceDiv, reduceLT, reduceLeDiff, reduceEqDiff, qz5, eq_self, if_false, if_true, reduceIte, zero_mod, qz11, cl_one, qz13, Option.map_some, qz2, zero_add, sGOrd, sGMem, sGPow, sGOne, lit_ul0, lit_ul1, lc_4, nrmC, qz9, qz8, qz25, ulv_ul, uv_u4, qz12, and_self, n_add_zero, n_sub_zero]; rfl); (focus (first | rfl | (simp only [closed, closedL, qz18, closedL_bv, closedL_cl, Bool.and_self, Bool.and_true]; done))); (focus (first | rfl | (simp only [closed, closedL, qz18, closedL_bv, closedL_cl, Bool.and_self, Bool.and_true]; done))); (focus ((repeat' apply And.intro) <;> first | exact True.intro | omega | (with_reducible rfl) | assumption | exact ⟨_, rfl⟩ | (simp only [sda]; done) | (simp only [len_cl]; omega) | (simp [Value.cells, Value.oneCell']; done)))) | (refine kOps_mv rfl rfl rfl rfl ?_) | (refine kOps_build (pre := ?_) (val := ?_) rfl rfl rfl rfl ?_ ?_ ?_; rotate_left 2; (intro L; simp only [qz1, splice_cl, splice_one, len_cl, reduceMod, reduceAdd, reduceSub, reduceMul, reduceDiv, reduceLT, reduceLeDiff, reduceEqDiff, qz5, eq_self, if_false, if_true, reduceIte, zero_mod, qz11, cl_one, qz13, Option.map_some, qz2, zero_add, buildF, fillB, zeroCells, Value.cells, qz9, List.toList_toArray, zero_cl4, lit_ul0, qz14, cast_ofNat_Int, qz22, qz10, Int.reduceSub, qz3, qz0, length_cons, length_nil, qz6, n_add_zero, qz4, one_mul, toNat_natCast, reduceToNat, isAggD, agg_cl, qz15, length_map, qz16, qz12, and_self, ty24, ty22]; rfl); (focus ((repeat' apply And.intro) <;> first | exact True.intro | omega | (with_reducible rfl) | assumption | exact ⟨_, rfl⟩ | (simp only [sda]; done) | (simp only [len_cl]; omega) | (simp [Value.cells, Value.oneCell']; done)))) | (refine kOps_un (b := .not) (pre := ?_) (val := ?_) rfl rfl rfl rfl ?_ ?_ ?_; rotate_left 2; (intro L; simp only [qz1, splice_cl, splice_one, len_cl, reduceMod, reduceAdd, reduceSub, reduceMul, reduceDiv, reduceLT, reduceLeDiff, reduceEqDiff, qz5, eq_self, if_false, if_true, reduceIte, zero_mod, qz11, cl_one, qz13, Option.map_some, qz2, zero_add, qz38]; (first | (rw [wrap_i64] <;> first | omega | rfl) | (rw [wrap_u8] <;> first | omega | rfl) | (rw [wrap_u16] <;> first | omega | rfl) | (rw [wrap_u32] <;> first | omega | rfl) | rfl)); exact trivial) | (refine kOps_callc (pre := ?_) (val := ?_) rfl rfl rfl rfl rfl ?_ ?_ ?_ ?_ ?_; rotate_left 2; (simp only [qz1, splice_cl, splice_one, len_cl, reduceMod, reduceAdd, reduceSub, reduceMul, reduceDiv, reduceLT, reduceLeDiff, reduceEqDiff, qz5, eq_self, if_false, if_true, reduceIte, zero_mod, qz11, cl_one, qz13, Option.map_some, qz2, zero_add, sGOrd, sGMem, sGPow, sGOne, nrmC, qz9, qz8, qz25, ulv_ul, uv_u4, qz12, and_self, n_add_zero, n_sub_zero]; rfl); (focus (first | rfl | (simp only [closed, closedL, qz18, closedL_bv, closedL_cl, Bool.and_self, Bool.and_true]; done))); (focus (first | rfl | (simp only [closed, closedL, qz18, closedL_bv, closedL_cl, Bool.and_self, Bool.and_true]; done))); (focus ((repeat' apply And.intro) <;> first | exact True.intro | omega | (with_reducible rfl) | assumption | exact ⟨_, rfl⟩ | (simp only [sda]; done) | (simp only [len_cl]; omega) | (simp [Value.cells, Value.oneCell']; done)))) | (refine kOps_bin (b := .eql) (pre := ?_) (val := ?_) rfl rfl rfl rfl rfl ?_ ?_ ?_; rotate_left 2; (intro L; simp only [qz1, splice_cl, splice_one, len_cl, reduceMod, reduceAdd, reduceSub, reduceMul, reduceDiv, reduceLT, reduceLeDiff, reduceEqDiff, qz5, eq_self, if_false, if_true, reduceIte, zero_mod, qz11, cl_one, qz13, Option.map_some, qz2, zero_add, eql_u4 ty24 ty22, neq_u4 ty24 ty22, lit_ul0, lit_ul1, lc_4, qz31, Int.reduceAdd, Int.reduceSub, Int.reduceMul, Int.reduceNeg, Int.sub_zero, cast_ofNat_Int, ne_eq, Int.reduceLT, Int.reduceLE, Int.reduceEq, ty24, ty22]; (first | (rw [wrap_i64] <;> first | omega | rfl) | (rw [wrap_u8] <;> first | omega | rfl) | (rw [wrap_u16] <;> first | omega | rfl) | (rw [wrap_u32] <;> first | omega | rfl) | rfl)); (focus ((repeat' apply And.intro) <;> first | exact True.intro | omega | (with_reducible rfl) | assumption | exact ⟨_, rfl⟩ | (simp only [sda]; done) | (simp only [len_cl]; omega) | (simp [Value.cells, Value.oneCell']; done)))) | (refine kOps_as rfl rfl rfl rfl ?_) | (refine vOps_gundef rfl rfl ?_ ?_; (focus (simp only [qz7, Nat.reduceBEq]; done)); simp only [putIn]) | (refine vOps_gpick (t := ?_) (val := ?_) rfl rfl ?_ rfl rfl ?_ ?_ ?_; rotate_left 2; (focus (simp only [qz7, Nat.reduceBEq]; done)); (simp only [evalIn_tmp, evalIn_const, qz7, Nat.reduceBEq]; rfl); (simp only [evalIn_tmp, evalIn_const, qz7, Nat.reduceBEq]; rfl)) | (refine vOps_pick (t := ?_) (val := ?_) rfl rfl rfl ?_ ?_ ?_; rotate_left 2; (simp only [evalIn_tmp, evalIn_const, qz7, Nat.reduceBEq]; rfl); (simp only [evalIn_tmp, evalIn_const, qz7, Nat.reduceBEq]; rfl)) | (refine vOps_fork (b := ?_) rfl rfl ?_ ?_ ?_; rotate_left 1; (simp only [qz7, Nat.reduceBEq]; rfl); all_goals (intro hb; simp only [hb]; (try simp only [qz27] at hb); try (exfalso; first | omega | exact hb trivial))) | (refine vOps_forkp (b := ?_) rfl ?_ ?_ ?_; rotate_left 1; (simp only [evalIn_tmp, qz7, Nat.reduceBEq]; rfl); all_goals (intro hb; simp only [hb]; (try simp only [qz27] at hb); try (exfalso; first | omega | exact hb trivial))))
    all_goals (
    refine fin_c (p := ?_) (xs := [.tmp 0]) (by simp) rfl ?_ ?_ ?_ ?_
    rotate_left 2
    · simp only [rsx, qz9, qz1, splice_cl, splice_one, len_cl, reduceMod, reduceAdd, reduceSub, reduceMul, reduceDiv, reduceLT, reduceLeDiff, reduceEqDiff, qz5, eq_self, if_false, if_true, reduceIte, zero_mod, qz11, cl_one, qz13, Option.map_some, qz2, zero_add, evalIn_tmp, evalIn_const, evalIn_func, qz7, Nat.reduceBEq, lit_ul0, lit_ul1, loadF, partF, qz3, qz6, qz16, qz12, and_self, Nat.le_refl, isAggD, qz0, agg_cl, toNat_natCast, reduceToNat, qz4, n_add_zero, qz15, length_map, ty4, ty22, ty24]; try rfl
    · first | rfl | (simp only [closed, closedL, qz18, closedL_cl, closedL_bv, Bool.and_self, Bool.and_true]; first | done | rfl)
    · first | rfl | (simp [binStr]; done)
    · simp only [rsx, qz9, qz1, splice_cl, splice_one, len_cl, reduceMod, reduceAdd, reduceSub, reduceMul, reduceDiv, reduceLT, reduceLeDiff, reduceEqDiff, qz5, eq_self, if_false, if_true, reduceIte, zero_mod, qz11, cl_one, qz13, Option.map_some, qz2, zero_add, evalIn_tmp, evalIn_const, evalIn_func, qz7, Nat.reduceBEq, lit_ul0, lit_ul1, loadF, partF, qz3, qz6, qz16, qz12, and_self, Nat.le_refl, isAggD, qz0, agg_cl, toNat_natCast, reduceToNat, qz4, n_add_zero, qz15, length_map, ty4, ty22, ty24]; try trivial)
  · exact hS.elim
noncomputable def B35 : Code := bodyOf Try.f35
theorem B35_eq : Try.f35.body = some B35 := by kernel_rfl
noncomputable def n35_0 := B35
noncomputable def n35_1 := codeAt B35 [0]
noncomputable def n35_2 := codeAt B35 [1]
noncomputable def n35_3 := codeAt B35 [1,0]
noncomputable def n35_4 := codeAt B35 [1,1]
noncomputable def n35_5 := codeAt B35 [1,1,0]
noncomputable def n35_6 := codeAt B35 [1,1,1]
noncomputable def n35_7 := codeAt B35 [1,1,1,0]
noncomputable def n35_8 := codeAt B35 [1,1,1,0,0]
noncomputable def n35_9 := codeAt B35 [1,1,1,0,1]
noncomputable def n35_10 := codeAt B35 [1,1,1,0,1,0]
noncomputable def n35_11 := codeAt B35 [1,1,1,0,1,0,0]
noncomputable def n35_12 := codeAt B35 [1,1,1,0,1,0,0,0]
noncomputable def n35_13 := codeAt B35 [1,1,1,0,1,0,0,1]
noncomputable def n35_14 := codeAt B35 [1,1,1,0,1,0,0,1,0]
noncomputable def n35_15 := codeAt B35 [1,1,1,0,1,0,0,1,0,0]
noncomputable def n35_16 := codeAt B35 [1,1,1,0,1,0,0,1,0,1]
noncomputable def n35_17 := codeAt B35 [1,1,1,0,1,0,0,1,1]
noncomputable def n35_18 := codeAt B35 [1,1,1,0,1,0,0,1,1,0]
noncomputable def n35_19 := codeAt B35 [1,1,1,0,1,0,0,1,1,0,0]
noncomputable def n35_20 := codeAt B35 [1,1,1,0,1,0,0,1,1,0,0,0]
noncomputable def n35_21 := codeAt B35 [1,1,1,0,1,0,0,1,1,0,0,1]
noncomputable def n35_22 := codeAt B35 [1,1,1,0,1,0,0,1,1,1]
noncomputable def n35_23 := codeAt B35 [1,1,1,1]
noncomputable def n35_24 := codeAt B35 [1,1,1,1,0]
noncomputable def n35_25 := codeAt B35 [1,1,1,1,1]
theorem e35_0 : n35_0 = .seq n35_1 n35_2 := rfl
noncomputable def r35_1 := opsAt n35_1
theorem e35_1 : n35_1 = .region 0 (r35_1).toArray false := rfl
theorem e35_2 : n35_2 = .seq n35_3 n35_4 := rfl
noncomputable def r35_3 := opsAt n35_3
theorem e35_3 : n35_3 = .region 1 (r35_3).toArray false := rfl
theorem e35_4 : n35_4 = .seq n35_5 n35_6 := rfl
noncomputable def r35_5 := opsAt n35_5
theorem e35_5 : n35_5 = .region 2 (r35_5).toArray false := rfl
theorem e35_6 : n35_6 = .seq n35_7 n35_23 := rfl
theorem e35_7 : n35_7 = .seq n35_8 n35_9 := rfl
noncomputable def r35_8 := opsAt n35_8
theorem e35_8 : n35_8 = .region 3 (r35_8).toArray false := rfl
theorem e35_9 : n35_9 = .block 0 n35_10 := rfl
theorem e35_10 : n35_10 = .loop n35_11 := rfl
theorem e35_11 : n35_11 = .seq n35_12 n35_13 := rfl
noncomputable def r35_12 := opsAt n35_12
theorem e35_12 : n35_12 = .region 4 (r35_12).toArray false := rfl
theorem e35_13 : n35_13 = .seq n35_14 n35_17 := rfl
theorem e35_14 : n35_14 = .cond (.tmp 10) n35_15 n35_16 := rfl
theorem e35_15 : n35_15 = .skip := rfl
theorem e35_16 : n35_16 = .exit 0 := rfl
theorem e35_17 : n35_17 = .seq n35_18 n35_22 := rfl
theorem e35_18 : n35_18 = .block 1 n35_19 := rfl
theorem e35_19 : n35_19 = .seq n35_20 n35_21 := rfl
noncomputable def r35_20 := opsAt n35_20
theorem e35_20 : n35_20 = .region 5 (r35_20).toArray false := rfl
noncomputable def r35_21 := opsAt n35_21
theorem e35_21 : n35_21 = .region 6 (r35_21).toArray true := rfl
theorem a35_21 : anyOk r35_21 = true := by decide +kernel
noncomputable def r35_22 := opsAt n35_22
theorem e35_22 : n35_22 = .region 7 (r35_22).toArray false := rfl
theorem e35_23 : n35_23 = .seq n35_24 n35_25 := rfl
noncomputable def r35_24 := opsAt n35_24
theorem e35_24 : n35_24 = .region 8 (r35_24).toArray false := rfl
theorem e35_25 : n35_25 = .ret := rfl
theorem f_ref02_Sub : PureOk Try.prog 35 sSub := by
  refine pureOk_of (c := n35_0) (Γ := conOf [(57, .ext sSub64)]) (conOf_ok (conOf_one (S := .ext sSub64) f_bits_Sub64 (conOf_end))) mixed Try.func35 B35_eq (by decide +kernel) Try.call35 ?_
  intro args hS
  unfold sSub at hS ⊢
  split at hS
  · refine ⟨by rw [Try.ntmps35]; simp, vC_sound ?_⟩
    rename_i xa xb
    obtain ⟨ha, hb⟩ := hS
    obtain ⟨a, la, rfl⟩ := isU_out ha
    obtain ⟨b, lb, rfl⟩ := isU_out hb
    simp only [uv_u4, mod_eq_of_lt la, mod_eq_of_lt lb]
    clear ha hb
    simp only [qz26, reduceAdd]
    repeat' (first | (with_reducible first | apply seqC_normal | apply wunrC_normal | apply blockC_normal | apply seqC_exit | apply blockC_hit | apply wunrC_exit | apply seqC_ret | apply blockC_ret | apply wunrC_ret | apply loopC_ret | apply loopC_exit) | ((with_reducible apply blockC_miss); (exact rfl)) | ((with_reducible apply wC_seq e35_0; apply wC_region e35_1); refine vOps_open (l := _ :: _) rfl ?_) | ((with_reducible apply wC_seq e35_2; apply wC_region e35_3); refine vOps_open (l := _ :: _) rfl ?_) | ((with_reducible apply wC_seq e35_4; apply wC_region e35_5); refine vOps_open (l := _ :: _) rfl ?_) | ((with_reducible apply wC_seq e35_6; apply wC_seq e35_7; apply wC_region e35_8); refine vOps_open (l := _ :: _) rfl ?_) | ((with_reducible apply wC_block e35_9; apply kC_unroll [2, 3, 4, 6, 7, 9] e35_10); (exact rfl); (exact rfl); (with_reducible apply wC_seq e35_11; apply wC_region e35_12); refine vOps_open (l := _ :: _) rfl ?_) | ((with_reducible apply kC_unroll [2, 3, 4, 6, 7, 9] e35_10); (exact rfl); (exact rfl); (with_reducible apply wC_seq e35_11; apply wC_region e35_12); refine vOps_open (l := _ :: _) rfl ?_) | ((with_reducible apply wC_seq e35_13; apply kC_cond e35_14); (exact rfl); all_goals (intro hb; first | (cases hb; done) | cases hb | ((try simp only [dxe] at hb); try (exfalso; first | omega | exact hb trivial)))) | ((with_reducible apply wC_skip e35_15)) | ((with_reducible apply wC_exit e35_16)) | ((with_reducible apply wC_seq e35_17; apply wC_block e35_18; apply wC_seq e35_19; apply wC_region e35_20); refine vOps_open (l := _ :: _) rfl ?_) | ((with_reducible apply wC_any e35_21 a35_21); refine vOps_open (l := _ :: _) rfl ?_) | ((with_reducible apply wC_region e35_22); refine vOps_open (l := _ :: _) rfl ?_) | ((with_reducible apply wC_seq e35_23; apply wC_region e35_24); refine vOps_open (l := _ :: _) rfl ?_) | ((with_reducible apply wC_ret e35_25)) | ((with_reducible apply vOps_nil); try (with_reducible refine And.intro (by kernel_rfl) ?_)) | (refine kOps_box (row := ?_) (n := ?_) rfl rfl rfl rfl rfl ?_ ?_ ?_ ?_; rotate_left 2; (simp only [↓length_append, ↓length_set, ↓length_cons, length_nil, reduceAdd, zero_add]; rfl); (simp only [cl4, qz14, qz17]; rfl); (focus (first | rfl | exact one_cl _ _ | exact one_bv _ | (simp only [qz19, all_cons, all_nil, Bool.and_self, PV.one]; done) | (simp [PV.one, qz19, one_bv, Value.oneCell']; done)))) | (refine kOps_alloc (row := ?_) (n := ?_) rfl rfl rfl rfl ty24 ?_ ?_ ?_ ?_; rotate_left 2; (simp only [↓length_append, ↓length_set, ↓length_cons, length_nil, reduceAdd, zero_add]; rfl); (simp only [cl4, Value.cells, qz9, List.toList_toArray, zero_cl4, zero_cl8, lit_ul0]; rfl); (focus (first | (simp only [Value.cells, List.toList_toArray, qz23, Value.oneCell', and_self]; done) | (simp [Value.cells, Value.oneCell']; done)))) | (refine kOps_as rfl rfl rfl rfl ?_) | (refine kOps_asc rfl rfl rfl lit_ul0 ?_) | (refine kOps_mv rfl rfl rfl rfl ?_) | (refine kOps_bin (b := .lss) (pre := ?_) (val := ?_) rfl rfl rfl rfl rfl ?_ ?_ ?_; rotate_left 2; (intro L; simp only [cl4, eql_u4 ty24 ty22, neq_u4 ty24 ty22, lit_ul0, lit_ul1, qz35, Int.reduceAdd, Int.reduceSub, Int.reduceMul, Int.reduceNeg, Int.sub_zero, cast_ofNat_Int, ne_eq, Int.reduceLT, Int.reduceLE, Int.reduceEq, reduceMod, reduceLT, qz5, ty3]; (first | (rw [wrap_i64] <;> first | omega | rfl) | (rw [wrap_u8] <;> first | omega | rfl) | (rw [wrap_u16] <;> first | omega | rfl) | (rw [wrap_u32] <;> first | omega | rfl) | rfl)); exact trivial) | ((first | (refine kOps_ixap (off' := ?_) rfl rfl rfl rfl rfl rfl ty24 ty22 ?_ ?_ ?_; rotate_left 1; (simp only [cl4, zero_add, n_add_zero, qz4, one_mul, toNat_natCast, reduceToNat, reduceMul, reduceAdd]; rfl)) | (refine kOps_ixaq (cs' := ?_) rfl rfl rfl rfl rfl ty24 ty22 ?_ ?_ ?_; rotate_left 1; (simp only [cl4, elemAt, isAggD, qz0, if_false, qz3, qz10, length_cons, length_nil, qz6, zero_add, n_add_zero, qz4, reduceAdd, reduceMul, toNat_natCast, reduceToNat, agg_cl, len_cl]; rfl))); (focus ((repeat' apply And.intro) <;> first | exact True.intro | omega | (with_reducible rfl) | assumption | exact ⟨_, rfl⟩ | (simp only [sda]; done) | (simp only [len_cl]; omega) | (simp [Value.cells, Value.oneCell']; done)))) | ((first | refine kOps_loadp (pre := ?_) (val := ?_) rfl rfl rfl rfl rfl ty22 ?_ ?_ ?_ | refine kOps_loadr (pre := ?_) (val := ?_) rfl rfl rfl rfl ty22 ?_ ?_ ?_); rotate_left 2; (simp only [cl4, partF, isAggD, qz0, if_false, qz3, qz10, length_cons, length_nil, qz6, zero_add, n_add_zero, qz4, reduceAdd, reduceMul, toNat_natCast, reduceToNat, agg_cl, len_cl]; rfl); (focus ((repeat' apply And.intro) <;> first | exact True.intro | omega | (with_reducible rfl) | assumption | exact ⟨_, rfl⟩ | (simp only [sda]; done) | (simp only [len_cl]; omega) | (simp [Value.cells, Value.oneCell']; done)))) | (refine kOps_calle (pre := ?_) (val := ?_) rfl rfl rfl rfl rfl ?_ ?_ ?_; rotate_left 2; (simp only [cl4, subd0, subd1, subc1, subd2, subc2, subd3, subc3, zero_mod, n_sub_zero, sSub64, lit_ul0, lit_ul1, nrmC, qz9, qz8, qz25, ulv_ul, uv_u4, qz12, and_self, n_add_zero, zero_add]; rfl); (focus ((repeat' apply And.intro) <;> first | exact True.intro | omega | (with_reducible rfl) | assumption | exact ⟨_, rfl⟩ | (simp only [sda]; done) | (simp only [len_cl]; omega) | (simp [Value.cells, Value.oneCell']; done)))) | (refine kOps_ext rfl rfl rfl rfl rfl ?_) | (refine kOps_store (cs' := ?_) rfl rfl rfl rfl rfl rfl rfl ty22 ?_ ?_ ?_; rotate_left 1; (simp only [cl4, lit_ul0, lit_ul1, splice, qz14, qz17, isAggD, qz0, if_false, qz3, qz10, length_cons, length_nil, qz6, zero_add, n_add_zero, qz4, reduceAdd, reduceMul, toNat_natCast, reduceToNat, agg_cl, len_cl]; rfl); (focus (first | (simp only [lit_ul0, lit_ul1, qz14, qz17, length_cons, length_nil, len_cl, length_set, length_map, reduceAdd, zero_add, all_cons, all_nil, qz19, one_bv, PV.one, Value.oneCell', Bool.and_self, reduceLeDiff, Nat.le_refl, and_self, qz12]; done) | ((try simp only [lit_ul0, lit_ul1, qz14, qz17]); (focus ((repeat' apply And.intro) <;> first | exact True.intro | omega | (with_reducible rfl) | assumption | exact ⟨_, rfl⟩ | (simp only [sda]; done) | (simp only [len_cl]; omega) | (simp [Value.cells, Value.oneCell']; done))))))) | (refine kOps_bin (b := .add) (pre := ?_) (val := ?_) rfl rfl rfl rfl rfl ?_ ?_ ?_; rotate_left 2; (intro L; simp only [cl4, eql_u4 ty24 ty22, neq_u4 ty24 ty22, lit_ul0, lit_ul1, qz34, Int.reduceAdd, Int.reduceSub, Int.reduceMul, Int.reduceNeg, Int.sub_zero, cast_ofNat_Int, ne_eq, Int.reduceLT, Int.reduceLE, Int.reduceEq, reduceMod, reduceLT, qz5, ty3]; (first | (rw [wrap_i64] <;> first | omega | rfl) | (rw [wrap_u8] <;> first | omega | rfl) | (rw [wrap_u16] <;> first | omega | rfl) | (rw [wrap_u32] <;> first | omega | rfl) | rfl)); exact trivial) | ((first | refine kOps_loadp (pre := ?_) (val := ?_) rfl rfl rfl rfl rfl ty24 ?_ ?_ ?_ | refine kOps_loadr (pre := ?_) (val := ?_) rfl rfl rfl rfl ty24 ?_ ?_ ?_); rotate_left 2; (simp only [cl4, partF, isAggD, qz0, if_false, qz3, qz10, length_cons, length_nil, qz6, zero_add, n_add_zero, qz4, reduceAdd, reduceMul, toNat_natCast, reduceToNat, agg_cl, len_cl]; rfl); (focus ((repeat' apply And.intro) <;> first | exact True.intro | omega | (with_reducible rfl) | assumption | exact ⟨_, rfl⟩ | (simp only [sda]; done) | (simp only [len_cl]; omega) | (simp [Value.cells, Value.oneCell']; done)))) | (refine kOps_bin (b := .eql) (pre := ?_) (val := ?_) rfl rfl rfl rfl rfl ?_ ?_ ?_; rotate_left 2; (intro L; simp only [cl4, eql_u4 ty24 ty22, neq_u4 ty24 ty22, lit_ul0, lit_ul1, qz31, Int.reduceAdd, Int.reduceSub, Int.reduceMul, Int.reduceNeg, Int.sub_zero, cast_ofNat_Int, ne_eq, Int.reduceLT, Int.reduceLE, Int.reduceEq, reduceMod, reduceLT, qz5, ty22]; (first | (rw [wrap_i64] <;> first | omega | rfl) | (rw [wrap_u8] <;> first | omega | rfl) | (rw [wrap_u16] <;> first | omega | rfl) | (rw [wrap_u32] <;> first | omega | rfl) | rfl)); (focus ((repeat' apply And.intro) <;> first | exact True.intro | omega | (with_reducible rfl) | assumption | exact ⟨_, rfl⟩ | (simp only [sda]; done) | (simp only [len_cl]; omega) | (simp [Value.cells, Value.oneCell']; done)))) | (refine kOps_store (cs' := ?_) rfl rfl rfl rfl rfl rfl rfl ty24 ?_ ?_ ?_; rotate_left 1; (simp only [cl4, lit_ul0, lit_ul1, splice, qz14, qz17, isAggD, qz0, if_false, qz3, qz10, length_cons, length_nil, qz6, zero_add, n_add_zero, qz4, reduceAdd, reduceMul, toNat_natCast, reduceToNat, agg_cl, len_cl]; rfl); (focus (first | (simp only [lit_ul0, lit_ul1, qz14, qz17, length_cons, length_nil, len_cl, length_set, length_map, reduceAdd, zero_add, all_cons, all_nil, qz19, one_bv, PV.one, Value.oneCell', Bool.and_self, reduceLeDiff, Nat.le_refl, and_self, qz12]; done) | ((try simp only [lit_ul0, lit_ul1, qz14, qz17]); (focus ((repeat' apply And.intro) <;> first | exact True.intro | omega | (with_reducible rfl) | assumption | exact ⟨_, rfl⟩ | (simp only [sda]; done) | (simp only [len_cl]; omega) | (simp [Value.cells, Value.oneCell']; done))))))))
    refine fin_c (p := ?_) (xs := [.cell 4 24, .tmp 5]) (by simp) rfl ?_ ?_ ?_ ?_
    rotate_left 2
    · simp only [rsx, qz9, cl4, evalIn_tmp, evalIn_const, evalIn_func, qz7, Nat.reduceBEq, lit_ul0, lit_ul1, loadF, partF, cast_ofNat_Int, qz22, qz10, Int.reduceSub, qz3, qz0, length_cons, length_nil, qz6, zero_add, n_add_zero, qz4, one_mul, reduceAdd, reduceMul, reduceSub, reduceLeDiff, reduceEqDiff, toNat_natCast, reduceToNat, reduceIte, if_true, if_false, isAggD, len_cl, agg_cl, qz15, length_map, qz16, qz12, and_self, ty3, ty22, ty24]; try rfl
    · first | rfl | (simp only [closed, closedL, qz18, closedL_cl, closedL_bv, Bool.and_self, Bool.and_true]; first | done | rfl)
    · try simp only [← cl4, agg_cl]
      exact tup2 (u4_congr (by omega)) (bool_eq (by omega))
    · simp only [rsx, qz9, cl4, evalIn_tmp, evalIn_const, evalIn_func, qz7, Nat.reduceBEq, lit_ul0, lit_ul1, loadF, partF, cast_ofNat_Int, qz22, qz10, Int.reduceSub, qz3, qz0, length_cons, length_nil, qz6, zero_add, n_add_zero, qz4, one_mul, reduceAdd, reduceMul, reduceSub, reduceLeDiff, reduceEqDiff, toNat_natCast, reduceToNat, reduceIte, if_true, if_false, isAggD, len_cl, agg_cl, qz15, length_map, qz16, qz12, and_self, ty3, ty22, ty24]; try trivial
  · exact hS.elim
noncomputable def B36 : Code := bodyOf Try.f36
theorem B36_eq : Try.f36.body = some B36 := by kernel_rfl
noncomputable def n36_0 := B36
noncomputable def n36_1 := codeAt B36 [0]
noncomputable def n36_2 := codeAt B36 [1]
noncomputable def n36_3 := codeAt B36 [1,0]
noncomputable def n36_4 := codeAt B36 [1,1]
theorem e36_0 : n36_0 = .seq n36_1 n36_2 := rfl
noncomputable def r36_1 := opsAt n36_1
theorem e36_1 : n36_1 = .region 0 (r36_1).toArray false := rfl
theorem e36_2 : n36_2 = .seq n36_3 n36_4 := rfl
noncomputable def r36_3 := opsAt n36_3
theorem e36_3 : n36_3 = .region 1 (r36_3).toArray false := rfl
theorem e36_4 : n36_4 = .ret := rfl
theorem f_ref02_FromUint : PureOk Try.prog 36 sFromUint := by
  refine pureOk_of (c := n36_0) (Γ := conOf []) (conOf_ok (conOf_end)) mixed Try.func36 B36_eq (by decide +kernel) Try.call36 ?_
  intro args hS
  unfold sFromUint at hS ⊢
  split at hS
  · refine ⟨by rw [Try.ntmps36]; simp, vC_sound ?_⟩
    rename_i xa
    have ha := hS
    obtain ⟨a, la, rfl⟩ := isul_out ha
    simp only [ulv_ul, mod_eq_of_lt la]
    clear ha
    simp only [qz26, reduceAdd]
    repeat' (first | (with_reducible first | apply seqC_normal | apply seqC_ret) | ((with_reducible apply wC_seq e36_0; apply wC_region e36_1); refine vOps_open (l := _ :: _) rfl ?_; refine kOps_alloc (row := ?_) (n := ?_) rfl rfl rfl rfl ty24 ?_ ?_ ?_ ?_; rotate_left 2; (simp only [↓length_append, ↓length_set, ↓length_cons, length_nil, reduceAdd, zero_add]; rfl); (simp only [cl4, Value.cells, qz9, List.toList_toArray, zero_cl4, zero_cl8, lit_ul0]; rfl); (focus (first | (simp only [Value.cells, List.toList_toArray, qz23, Value.oneCell', and_self]; done) | (simp [Value.cells, Value.oneCell']; done))); refine vOps_nil ?_; (with_reducible apply seqC_normal; apply wC_seq e36_2; apply wC_region e36_3); refine vOps_open (l := _ :: _) rfl ?_; refine kOps_mv rfl rfl rfl rfl ?_; refine kOps_build (pre := ?_) (val := ?_) rfl rfl rfl rfl ?_ ?_ ?_; rotate_left 2; (intro L; simp only [cl4, buildF, fillB, zeroCells, splice, Value.cells, qz9, List.toList_toArray, zero_cl4, lit_ul0, qz14, qz17, cast_ofNat_Int, qz22, qz10, Int.reduceSub, qz3, qz0, length_cons, length_nil, qz6, zero_add, n_add_zero, qz4, one_mul, reduceAdd, reduceMul, reduceSub, reduceLeDiff, reduceEqDiff, toNat_natCast, reduceToNat, reduceIte, if_true, if_false, isAggD, len_cl, agg_cl, qz15, length_map, qz16, qz12, and_self, ty24, ty22]; rfl); (focus ((repeat' apply And.intro) <;> first | exact True.intro | omega | (with_reducible rfl) | assumption | exact ⟨_, rfl⟩ | (simp only [sda]; done) | (simp only [len_cl]; omega) | (simp [Value.cells, Value.oneCell']; done))); refine kOps_store (cs' := ?_) rfl rfl rfl rfl rfl rfl rfl ty24 ?_ ?_ ?_; rotate_left 1; (simp only [cl4, splice, qz14, qz17, isAggD, qz0, if_false, qz3, qz10, length_cons, length_nil, qz6, zero_add, n_add_zero, qz4, reduceAdd, reduceMul, toNat_natCast, reduceToNat, agg_cl, len_cl]; rfl); (focus (first | (simp only [qz14, qz17, length_cons, length_nil, len_cl, length_set, length_map, reduceAdd, zero_add, all_cons, all_nil, qz19, one_bv, PV.one, Value.oneCell', Bool.and_self, reduceLeDiff, Nat.le_refl, and_self, qz12]; done) | ((try simp only [qz14, qz17]); (focus ((repeat' apply And.intro) <;> first | exact True.intro | omega | (with_reducible rfl) | assumption | exact ⟨_, rfl⟩ | (simp only [sda]; done) | (simp only [len_cl]; omega) | (simp [Value.cells, Value.oneCell']; done)))))); refine vOps_nil ?_; (with_reducible apply seqC_normal; apply wC_ret e36_4)))
    refine fin_c (p := ?_) (xs := [.cell 2 24]) (by simp) rfl ?_ ?_ ?_ ?_
    rotate_left 2
    · simp only [rsx, qz9, cl4, evalIn_tmp, evalIn_const, evalIn_func, qz7, Nat.reduceBEq, lit_ul0, lit_ul1, loadF, partF, cast_ofNat_Int, qz22, qz10, Int.reduceSub, qz3, qz0, length_cons, length_nil, qz6, zero_add, n_add_zero, qz4, one_mul, reduceAdd, reduceMul, reduceSub, reduceLeDiff, reduceEqDiff, toNat_natCast, reduceToNat, reduceIte, if_true, if_false, isAggD, len_cl, agg_cl, qz15, length_map, qz16, qz12, and_self, ty22, ty24]; try rfl
    · first | rfl | (simp only [closed, closedL, qz18, closedL_cl, closedL_bv, Bool.and_self, Bool.and_true]; first | done | rfl)
    · try simp only [← cl4, agg_cl]
      exact agg4 (by omega)
    · simp only [rsx, qz9, cl4, evalIn_tmp, evalIn_const, evalIn_func, qz7, Nat.reduceBEq, lit_ul0, lit_ul1, loadF, partF, cast_ofNat_Int, qz22, qz10, Int.reduceSub, qz3, qz0, length_cons, length_nil, qz6, zero_add, n_add_zero, qz4, one_mul, reduceAdd, reduceMul, reduceSub, reduceLeDiff, reduceEqDiff, toNat_natCast, reduceToNat, reduceIte, if_true, if_false, isAggD, len_cl, agg_cl, qz15, length_map, qz16, qz12, and_self, ty22, ty24]; try trivial
  · exact hS.elim
end Go.Ab
