import Derived.Test.YtmnkapmcclhiiaaQZ
import Derived.Test.YtmnkapmcclhiiaaME
import Derived.Test.YtmnkapmcclhiiaaTY
import Derived.Test.YtmnkapmcclhiiaaZ0
import Derived.Test.YtmnkapmcclhiiaaZ3
import Derived.Test.YtmnkapmcclhiiaaZ1
import Derived.Test.YtmnkapmcclhiiaaMV
import Derived.Test.YtmnkapmcclhiiaaMY
namespace Go.Ab
open Go Go.Proofs
open Nat (reduceAdd mod_eq_of_lt zero_add reduceMul reduceLeDiff reduceMod reduceLT zero_mod reduceSub reduceEqDiff reduceDiv one_mul)
open List (length_cons length_nil all_nil all_cons length_map length_set length_append)
open Int (toNat_natCast reduceToNat cast_ofNat_Int)
set_option linter.unusedVariables false
set_option linter.unusedSimpArgs false
set_option maxRecDepth 8000
set_option maxHeartbeats 4000000
noncomputable def B14 : Code := bodyOf Try.f14
theorem B14_eq : Try.f14.body = some B14 := by kernel_rfl
noncomputable def n14_0 := B14
noncomputable def n14_1 := codeAt B14 [0]
noncomputable def n14_2 := codeAt B14 [1]
noncomputable def n14_3 := codeAt B14 [1,0]
noncomputable def n14_4 := codeAt B14 [1,1]
theorem e14_0 : n14_0 = .seq n14_1 n14_2 := rfl
noncomputable def r14_1 := opsAt n14_1
theorem e14_1 : n14_1 = .region 0 (r14_1).toArray false := rfl
theorem e14_2 : n14_2 = .seq n14_3 n14_4 := rfl
noncomputable def r14_3 := opsAt n14_3
theorem e14_3 : n14_3 = .region 1 (r14_3).toArray true := rfl
theorem a14_3 : anyOk r14_3 = true := by decide +kernel
theorem g14_3_4 : (r14_3[4]?).bind (·.dst) = some 7 := by decide +kernel
theorem e14_4 : n14_4 = .ret := rfl
theorem f_group_Member : PureOk Try.prog 14 sGMem := by
  refine pureOk_of (c := n14_0) (Γ := conOf [(10, .pure sGMod), (12, .pure sGOrd), (18, .pure sGExp), (38, .pure sCmp), (39, .pure sFromUint)]) (conOf_ok (conOf_one (S := .pure sGMod) f_group_Modulus (conOf_one (S := .pure sGOrd) f_group_Order (conOf_one (S := .pure sGExp) f_group_Exp (conOf_one (S := .pure sCmp) f_wide_Cmp (conOf_one (S := .pure sFromUint) f_wide_FromUint (conOf_end))))))) mixed Try.func14 B14_eq (by decide +kernel) Try.call14 ?_
  intro args hS
  unfold sGMem at hS ⊢
  split at hS
  · refine ⟨by rw [Try.ntmps14]; simp, vC_sound ?_⟩
    rename_i xa
    have ha := hS
    obtain ⟨a, la, rfl⟩ := isU_out ha
    simp only [uv_u4, mod_eq_of_lt la]
    clear ha
    simp only [qz26, reduceAdd]
    repeat' (first | (with_reducible first | apply seqC_normal | apply seqC_ret) | ((with_reducible apply wC_seq e14_0; apply wC_region e14_1); refine vOps_open (l := _ :: _) rfl ?_; refine kOps_box (row := ?_) (n := ?_) rfl rfl rfl rfl rfl ?_ ?_ ?_ ?_; rotate_left 2; (simp only [↓length_append, ↓length_set, ↓length_cons, length_nil, reduceAdd, zero_add]; rfl); (simp only [qz1, splice_cl, splice_one, len_cl, reduceMod, reduceAdd, reduceSub, reduceMul, reduceDiv, reduceLT, reduceLeDiff, reduceEqDiff, qz5, eq_self, if_false, if_true, reduceIte, zero_mod, qz11, cl_one, cmpd_lt, qz2, zero_add, mod_eq_of_lt la, qz14]; rfl); (focus (first | rfl | exact one_cl _ _ | exact one_bv _ | (simp only [qz19, all_cons, all_nil, Bool.and_self, PV.one]; done) | (simp [PV.one, qz19, one_bv, Value.oneCell']; done))); refine kOps_as rfl rfl rfl rfl ?_; refine vOps_nil ?_; (with_reducible apply seqC_normal; apply wC_seq e14_2; apply wC_any e14_3 a14_3); refine vOps_open (l := _ :: _) rfl ?_) | ((with_reducible apply wC_ret e14_4)) | ((with_reducible apply vOps_nil); try (with_reducible refine And.intro (by kernel_rfl) ?_)) | (refine kOps_gon (g := ?_) (p := ?_) rfl rfl ?_ ?_ ?_ ?_; rotate_left 2; (with_reducible first | exact g14_3_4); (exact rfl); (with_reducible rfl)) | (refine kOps_gofft (g := ?_) (p := ?_) rfl rfl ?_ ?_ ?_ ?_; rotate_left 2; (with_reducible first | exact g14_3_4); (exact rfl); (with_reducible rfl)) | (refine kOps_gofff (g := ?_) (p := ?_) rfl rfl ?_ ?_ ?_ ?_; rotate_left 2; (with_reducible first | exact g14_3_4); (exact rfl); (with_reducible rfl)) | (refine kOps_pickt rfl rfl rfl rfl ?_ rfl ?_; (with_reducible rfl)) | (refine kOps_pickf rfl rfl rfl rfl ?_ rfl ?_; (with_reducible rfl)) | ((first | refine kOps_loadp (pre := ?_) (val := ?_) rfl rfl rfl rfl rfl ty24 ?_ ?_ ?_ | refine kOps_loadr (pre := ?_) (val := ?_) rfl rfl rfl rfl ty24 ?_ ?_ ?_); rotate_left 2; (simp only [qz1, splice_cl, splice_one, len_cl, reduceMod, reduceAdd, reduceSub, reduceMul, reduceDiv, reduceLT, reduceLeDiff, reduceEqDiff, qz5, eq_self, if_false, if_true, reduceIte, zero_mod, qz11, cl_one, cmpd_lt, qz2, zero_add, mod_eq_of_lt la, partF, isAggD, qz0, agg_cl, toNat_natCast, reduceToNat, qz4, n_add_zero, qz15, length_map]; rfl); (focus ((repeat' apply And.intro) <;> first | exact True.intro | omega | (with_reducible rfl) | assumption | exact ⟨_, rfl⟩ | (simp only [sda]; done) | (simp only [len_cl]; omega) | (simp [Value.cells, Value.oneCell']; done)))) | (refine kOps_callc (pre := ?_) (val := ?_) rfl rfl rfl rfl rfl ?_ ?_ ?_ ?_ ?_; rotate_left 2; (simp only [qz1, splice_cl, splice_one, len_cl, reduceMod, reduceAdd, reduceSub, reduceMul, reduceDiv, reduceLT, reduceLeDiff, reduceEqDiff, qz5, eq_self, if_false, if_true, reduceIte, zero_mod, qz11, cl_one, cmpd_lt, qz2, zero_add, mod_eq_of_lt la, sGMod, sGOrd, sGExp, sCmp, sFromUint, nrmC, qz9, qz8, qz25, ulv_ul, uv_u4, qz12, and_self, n_add_zero, n_sub_zero]; rfl); (focus (first | rfl | (simp only [closed, closedL, qz18, closedL_bv, closedL_cl, Bool.and_self, Bool.and_true]; done))); (focus (first | rfl | (simp only [closed, closedL, qz18, closedL_bv, closedL_cl, Bool.and_self, Bool.and_true]; done))); (focus ((repeat' apply And.intro) <;> first | exact True.intro | omega | (with_reducible rfl) | assumption | exact ⟨_, rfl⟩ | (simp only [sda]; done) | (simp only [len_cl]; omega) | (simp [Value.cells, Value.oneCell']; done)))) | (refine kOps_callc (pre := ?_) (val := ?_) rfl rfl rfl rfl rfl ?_ ?_ ?_ ?_ ?_; rotate_left 2; (simp only [qz1, splice_cl, splice_one, len_cl, reduceMod, reduceAdd, reduceSub, reduceMul, reduceDiv, reduceLT, reduceLeDiff, reduceEqDiff, qz5, eq_self, if_false, if_true, reduceIte, zero_mod, qz11, cl_one, cmpd_lt, qz2, zero_add, mod_eq_of_lt la, sGMod, sGOrd, sGExp, sCmp, sFromUint, lit_ul0, lit_ul1, nrmC, qz9, qz8, qz25, ulv_ul, uv_u4, qz12, and_self, n_add_zero, n_sub_zero]; rfl); (focus (first | rfl | (simp only [closed, closedL, qz18, closedL_bv, closedL_cl, Bool.and_self, Bool.and_true]; done))); (focus (first | rfl | (simp only [closed, closedL, qz18, closedL_bv, closedL_cl, Bool.and_self, Bool.and_true]; done))); (focus ((repeat' apply And.intro) <;> first | exact True.intro | omega | (with_reducible rfl) | assumption | exact ⟨_, rfl⟩ | (simp only [sda]; done) | (simp only [len_cl]; omega) | (simp [Value.cells, Value.oneCell']; done)))) | (refine kOps_bin (b := .lss) (pre := ?_) (val := ?_) rfl rfl rfl rfl rfl ?_ ?_ ?_; rotate_left 2; (intro L; simp only [qz1, splice_cl, splice_one, len_cl, reduceMod, reduceAdd, reduceSub, reduceMul, reduceDiv, reduceLT, reduceLeDiff, reduceEqDiff, qz5, eq_self, if_false, if_true, reduceIte, zero_mod, qz11, cl_one, cmpd_lt, qz2, zero_add, mod_eq_of_lt la, eql_u4 ty24 ty22, neq_u4 ty24 ty22, lit_ul0, lit_ul1, qz35, Int.reduceAdd, Int.reduceSub, Int.reduceMul, Int.reduceNeg, Int.sub_zero, cast_ofNat_Int, ne_eq, Int.reduceLT, Int.reduceLE, Int.reduceEq, ty3]; (first | (rw [wrap_i64] <;> first | omega | rfl) | (rw [wrap_u8] <;> first | omega | rfl) | (rw [wrap_u16] <;> first | omega | rfl) | (rw [wrap_u32] <;> first | omega | rfl) | rfl)); exact trivial) | (refine kOps_mv rfl rfl rfl rfl ?_) | (refine kOps_bin (b := .eql) (pre := ?_) (val := ?_) rfl rfl rfl rfl rfl ?_ ?_ ?_; rotate_left 2; (intro L; simp only [qz1, splice_cl, splice_one, len_cl, reduceMod, reduceAdd, reduceSub, reduceMul, reduceDiv, reduceLT, reduceLeDiff, reduceEqDiff, qz5, eq_self, if_false, if_true, reduceIte, zero_mod, qz11, cl_one, cmpd_lt, qz2, zero_add, mod_eq_of_lt la, eql_u4 ty24 ty22, neq_u4 ty24 ty22, lit_ul0, lit_ul1, qz31, Int.reduceAdd, Int.reduceSub, Int.reduceMul, Int.reduceNeg, Int.sub_zero, cast_ofNat_Int, ne_eq, Int.reduceLT, Int.reduceLE, Int.reduceEq, ty24, ty22]; (first | (rw [wrap_i64] <;> first | omega | rfl) | (rw [wrap_u8] <;> first | omega | rfl) | (rw [wrap_u16] <;> first | omega | rfl) | (rw [wrap_u32] <;> first | omega | rfl) | rfl)); (focus ((repeat' apply And.intro) <;> first | exact True.intro | omega | (with_reducible rfl) | assumption | exact ⟨_, rfl⟩ | (simp only [sda]; done) | (simp only [len_cl]; omega) | (simp [Value.cells, Value.oneCell']; done)))) | (refine kOps_as rfl rfl rfl rfl ?_) | (refine vOps_gundef rfl rfl ?_ ?_; (focus (simp only [qz7, Nat.reduceBEq]; done)); simp only [putIn]) | (refine vOps_gpick (t := ?_) (val := ?_) rfl rfl ?_ rfl rfl ?_ ?_ ?_; rotate_left 2; (focus (simp only [qz7, Nat.reduceBEq]; done)); (simp only [evalIn_tmp, evalIn_const, qz7, Nat.reduceBEq]; rfl); (simp only [evalIn_tmp, evalIn_const, qz7, Nat.reduceBEq]; rfl)) | (refine vOps_pick (t := ?_) (val := ?_) rfl rfl rfl ?_ ?_ ?_; rotate_left 2; (simp only [evalIn_tmp, evalIn_const, qz7, Nat.reduceBEq]; rfl); (simp only [evalIn_tmp, evalIn_const, qz7, Nat.reduceBEq]; rfl)) | (refine vOps_fork (b := ?_) rfl rfl ?_ ?_ ?_; rotate_left 1; (simp only [qz7, Nat.reduceBEq]; rfl); all_goals (intro hb; simp only [hb]; (try simp only [qz27] at hb); try (exfalso; first | omega | exact hb trivial))) | (refine vOps_forkp (b := ?_) rfl ?_ ?_ ?_; rotate_left 1; (simp only [evalIn_tmp, qz7, Nat.reduceBEq]; rfl); all_goals (intro hb; simp only [hb]; (try simp only [qz27] at hb); try (exfalso; first | omega | exact hb trivial))))
    all_goals (
    refine fin_c (p := ?_) (xs := [.tmp 2]) (by simp) rfl ?_ ?_ ?_ ?_
    rotate_left 2
    · simp only [rsx, qz9, qz1, splice_cl, splice_one, len_cl, reduceMod, reduceAdd, reduceSub, reduceMul, reduceDiv, reduceLT, reduceLeDiff, reduceEqDiff, qz5, eq_self, if_false, if_true, reduceIte, zero_mod, qz11, cl_one, cmpd_lt, qz2, zero_add, mod_eq_of_lt la, evalIn_tmp, evalIn_const, evalIn_func, qz7, Nat.reduceBEq, lit_ul0, lit_ul1, loadF, partF, qz3, qz6, qz16, qz12, and_self, Nat.le_refl, isAggD, qz0, agg_cl, toNat_natCast, reduceToNat, qz4, n_add_zero, qz15, length_map, ty3, ty22, ty24]; try rfl
    · first | rfl | (simp only [closed, closedL, qz18, closedL_cl, closedL_bv, Bool.and_self, Bool.and_true]; first | done | rfl)
    · first | (refine congrArg (fun b => PV.lit (.bool b)) (Eq.symm ?_); exact mb_lo (by assumption)) | (refine congrArg (fun b => PV.lit (.bool b)) (Eq.symm ?_); exact mb_in (by first | assumption | (simp_all; done)) (by assumption)) | (refine congrArg (fun b => PV.lit (.bool b)) (Eq.symm ?_); exact mb_big (by omega)) | (refine congrArg (fun b => PV.lit (.bool b)) (Eq.symm ?_); exact mb_zero (by first | omega | (simp_all; done)))
    · simp only [rsx, qz9, qz1, splice_cl, splice_one, len_cl, reduceMod, reduceAdd, reduceSub, reduceMul, reduceDiv, reduceLT, reduceLeDiff, reduceEqDiff, qz5, eq_self, if_false, if_true, reduceIte, zero_mod, qz11, cl_one, cmpd_lt, qz2, zero_add, mod_eq_of_lt la, evalIn_tmp, evalIn_const, evalIn_func, qz7, Nat.reduceBEq, lit_ul0, lit_ul1, loadF, partF, qz3, qz6, qz16, qz12, and_self, Nat.le_refl, isAggD, qz0, agg_cl, toNat_natCast, reduceToNat, qz4, n_add_zero, qz15, length_map, ty3, ty22, ty24]; try trivial)
  · exact hS.elim
noncomputable def B22 : Code := bodyOf Try.f22
theorem B22_eq : Try.f22.body = some B22 := by kernel_rfl
noncomputable def n22_0 := B22
noncomputable def n22_1 := codeAt B22 [0]
noncomputable def n22_2 := codeAt B22 [1]
noncomputable def n22_3 := codeAt B22 [1,0]
noncomputable def n22_4 := codeAt B22 [1,1]
theorem e22_0 : n22_0 = .seq n22_1 n22_2 := rfl
noncomputable def r22_1 := opsAt n22_1
theorem e22_1 : n22_1 = .region 0 (r22_1).toArray false := rfl
theorem e22_2 : n22_2 = .seq n22_3 n22_4 := rfl
noncomputable def r22_3 := opsAt n22_3
theorem e22_3 : n22_3 = .region 1 (r22_3).toArray true := rfl
theorem a22_3 : anyOk r22_3 = true := by decide +kernel
theorem e22_4 : n22_4 = .ret := rfl
theorem f_group_Power : PureOk Try.prog 22 sGPow := by
  refine pureOk_of (c := n22_0) (Γ := conOf [(18, .pure sGExp), (39, .pure sFromUint)]) (conOf_ok (conOf_one (S := .pure sGExp) f_group_Exp (conOf_one (S := .pure sFromUint) f_wide_FromUint (conOf_end)))) mixed Try.func22 B22_eq (by decide +kernel) Try.call22 ?_
  intro args hS
  unfold sGPow at hS ⊢
  split at hS
  · refine ⟨by rw [Try.ntmps22]; simp, vC_sound ?_⟩
    rename_i xe
    have he := hS
    obtain ⟨e, le, rfl⟩ := isU_out he
    simp only [uv_u4, mod_eq_of_lt le]
    clear he
    simp only [qz26, reduceAdd]
    repeat' (first | (with_reducible first | apply seqC_normal | apply seqC_ret) | ((with_reducible apply wC_seq e22_0; apply wC_region e22_1); refine vOps_open (l := _ :: _) rfl ?_; refine kOps_box (row := ?_) (n := ?_) rfl rfl rfl rfl rfl ?_ ?_ ?_ ?_; rotate_left 2; (simp only [↓length_append, ↓length_set, ↓length_cons, length_nil, reduceAdd, zero_add]; rfl); (simp only [qz1, splice_cl, splice_one, len_cl, qz2, zero_add, mod_eq_of_lt le, qz14]; rfl); (focus (first | rfl | exact one_cl _ _ | exact one_bv _ | (simp only [qz19, all_cons, all_nil, Bool.and_self, PV.one]; done) | (simp [PV.one, qz19, one_bv, Value.oneCell']; done))); refine kOps_alloc (row := ?_) (n := ?_) rfl rfl rfl rfl ty24 ?_ ?_ ?_ ?_; rotate_left 2; (simp only [↓length_append, ↓length_set, ↓length_cons, length_nil, reduceAdd, zero_add]; rfl); (simp only [qz1, splice_cl, splice_one, len_cl, qz2, zero_add, mod_eq_of_lt le, Value.cells, qz9, List.toList_toArray, zero_cl4, zero_cl8, lit_ul0]; rfl); (focus (first | (simp only [Value.cells, List.toList_toArray, qz23, Value.oneCell', and_self]; done) | (simp [Value.cells, Value.oneCell']; done))); refine vOps_nil ?_; (with_reducible apply seqC_normal; apply wC_seq e22_2; apply wC_any e22_3 a22_3); refine vOps_open (l := _ :: _) rfl ?_; refine kOps_callc (pre := ?_) (val := ?_) rfl rfl rfl rfl rfl ?_ ?_ ?_ ?_ ?_; rotate_left 2; (simp only [qz1, splice_cl, splice_one, len_cl, qz2, zero_add, mod_eq_of_lt le, sGExp, sFromUint, lc_4, nrmC, qz9, qz8, qz25, ulv_ul, uv_u4, qz12, and_self, n_add_zero, zero_mod, n_sub_zero]; rfl); (focus (first | rfl | (simp only [closed, closedL, qz18, closedL_bv, closedL_cl, Bool.and_self, Bool.and_true]; done))); (focus (first | rfl | (simp only [closed, closedL, qz18, closedL_bv, closedL_cl, Bool.and_self, Bool.and_true]; done))); (focus ((repeat' apply And.intro) <;> first | exact True.intro | omega | (with_reducible rfl) | assumption | exact ⟨_, rfl⟩ | (simp only [sda]; done) | (simp only [len_cl]; omega) | (simp [Value.cells, Value.oneCell']; done))); (first | refine kOps_loadp (pre := ?_) (val := ?_) rfl rfl rfl rfl rfl ty24 ?_ ?_ ?_ | refine kOps_loadr (pre := ?_) (val := ?_) rfl rfl rfl rfl ty24 ?_ ?_ ?_); rotate_left 2; (simp only [qz1, splice_cl, splice_one, len_cl, qz2, zero_add, mod_eq_of_lt le, partF, isAggD, qz0, if_false, if_true, reduceIte, agg_cl, toNat_natCast, reduceToNat, qz4, n_add_zero, reduceAdd, reduceMul, qz15, length_map]; rfl); (focus ((repeat' apply And.intro) <;> first | exact True.intro | omega | (with_reducible rfl) | assumption | exact ⟨_, rfl⟩ | (simp only [sda]; done) | (simp only [len_cl]; omega) | (simp [Value.cells, Value.oneCell']; done))); refine kOps_callc (pre := ?_) (val := ?_) rfl rfl rfl rfl rfl ?_ ?_ ?_ ?_ ?_; rotate_left 2; (simp only [qz1, splice_cl, splice_one, len_cl, qz2, zero_add, mod_eq_of_lt le, sGExp, sFromUint, nrmC, qz9, qz8, qz25, ulv_ul, uv_u4, qz12, and_self, n_add_zero, zero_mod, n_sub_zero]; rfl); (focus (first | rfl | (simp only [closed, closedL, qz18, closedL_bv, closedL_cl, Bool.and_self, Bool.and_true]; done))); (focus (first | rfl | (simp only [closed, closedL, qz18, closedL_bv, closedL_cl, Bool.and_self, Bool.and_true]; done))); (focus ((repeat' apply And.intro) <;> first | exact True.intro | omega | (with_reducible rfl) | assumption | exact ⟨_, rfl⟩ | (simp only [sda]; done) | (simp only [len_cl]; omega) | (simp [Value.cells, Value.oneCell']; done))); refine kOps_store (cs' := ?_) rfl rfl rfl rfl rfl rfl rfl ty24 ?_ ?_ ?_; rotate_left 1; (simp only [qz1, splice_cl, splice_one, len_cl, qz2, zero_add, mod_eq_of_lt le, qz14, isAggD, qz0, if_false, if_true, reduceIte, agg_cl, toNat_natCast, reduceToNat, qz4, n_add_zero, reduceAdd, reduceMul, qz15, length_map]; rfl); (focus (first | (simp only [qz14, length_cons, length_nil, len_cl, length_set, length_map, reduceAdd, zero_add, all_cons, all_nil, qz19, one_bv, PV.one, Value.oneCell', Bool.and_self, reduceLeDiff, Nat.le_refl, and_self, qz12]; done) | ((try simp only [qz14]); (focus ((repeat' apply And.intro) <;> first | exact True.intro | omega | (with_reducible rfl) | assumption | exact ⟨_, rfl⟩ | (simp only [sda]; done) | (simp only [len_cl]; omega) | (simp [Value.cells, Value.oneCell']; done)))))); refine vOps_nil ?_; refine And.intro (by kernel_rfl) ?_; (with_reducible apply seqC_normal; apply wC_ret e22_4)))
    all_goals (
    refine fin_c (p := ?_) (xs := [.cell 2 24]) (by simp) rfl ?_ ?_ ?_ ?_
    rotate_left 2
    · simp only [rsx, qz9, qz1, splice_cl, splice_one, len_cl, qz2, zero_add, mod_eq_of_lt le, evalIn_tmp, evalIn_const, evalIn_func, qz7, Nat.reduceBEq, lit_ul0, lit_ul1, loadF, partF, qz3, qz6, qz16, qz12, and_self, Nat.le_refl, reduceLeDiff, isAggD, qz0, if_false, if_true, reduceIte, agg_cl, toNat_natCast, reduceToNat, qz4, n_add_zero, reduceAdd, reduceMul, qz15, length_map, ty22, ty24]; try rfl
    · first | rfl | (simp only [closed, closedL, qz18, closedL_cl, closedL_bv, Bool.and_self, Bool.and_true]; first | done | rfl)
    · first | rfl | (rw [gx_eq])
    · simp only [rsx, qz9, qz1, splice_cl, splice_one, len_cl, qz2, zero_add, mod_eq_of_lt le, evalIn_tmp, evalIn_const, evalIn_func, qz7, Nat.reduceBEq, lit_ul0, lit_ul1, loadF, partF, qz3, qz6, qz16, qz12, and_self, Nat.le_refl, reduceLeDiff, isAggD, qz0, if_false, if_true, reduceIte, agg_cl, toNat_natCast, reduceToNat, qz4, n_add_zero, reduceAdd, reduceMul, qz15, length_map, ty22, ty24]; try trivial)
  · exact hS.elim
noncomputable def B32 : Code := bodyOf Try.f32
theorem B32_eq : Try.f32.body = some B32 := by kernel_rfl
noncomputable def n32_0 := B32
noncomputable def n32_1 := codeAt B32 [0]
noncomputable def n32_2 := codeAt B32 [1]
noncomputable def n32_3 := codeAt B32 [1,0]
noncomputable def n32_4 := codeAt B32 [1,1]
theorem e32_0 : n32_0 = .seq n32_1 n32_2 := rfl
noncomputable def r32_1 := opsAt n32_1
theorem e32_1 : n32_1 = .region 0 (r32_1).toArray false := rfl
theorem e32_2 : n32_2 = .seq n32_3 n32_4 := rfl
noncomputable def r32_3 := opsAt n32_3
theorem e32_3 : n32_3 = .region 1 (r32_3).toArray false := rfl
theorem e32_4 : n32_4 = .ret := rfl
theorem f_law_one : PureOk Try.prog 32 sGOne := by
  refine pureOk_of (c := n32_0) (Γ := conOf []) (conOf_ok (conOf_end)) mixed Try.func32 B32_eq (by decide +kernel) Try.call32 ?_
  intro args hS
  unfold sGOne at hS ⊢
  split at hS
  · refine ⟨by rw [Try.ntmps32]; simp, vC_sound ?_⟩

    simp only [qz26, reduceAdd]
    repeat' (first | (with_reducible first | apply seqC_normal | apply seqC_ret) | ((with_reducible apply wC_seq e32_0; apply wC_region e32_1); refine vOps_open (l := _ :: _) rfl ?_; refine kOps_alloc (row := ?_) (n := ?_) rfl rfl rfl rfl ty24 ?_ ?_ ?_ ?_; rotate_left 2; (simp only [↓length_append, ↓length_set, ↓length_cons, length_nil, reduceAdd, zero_add]; rfl); (simp only [cl4, qz2, zero_add, Value.cells, qz9, List.toList_toArray, zero_cl4, zero_cl8, lit_ul0]; rfl); (focus (first | (simp only [Value.cells, List.toList_toArray, qz23, Value.oneCell', and_self]; done) | (simp [Value.cells, Value.oneCell']; done))); refine vOps_nil ?_; (with_reducible apply seqC_normal; apply wC_seq e32_2; apply wC_region e32_3); refine vOps_open (l := _ :: _) rfl ?_; refine kOps_build (pre := ?_) (val := ?_) rfl rfl rfl rfl ?_ ?_ ?_; rotate_left 2; (intro L; simp only [cl4, qz2, zero_add, lit_ul1, buildF, fillB, zeroCells, splice, Value.cells, qz9, List.toList_toArray, zero_cl4, lit_ul0, qz14, qz17, cast_ofNat_Int, qz22, qz10, Int.reduceSub, qz3, qz0, length_cons, length_nil, qz6, n_add_zero, qz4, one_mul, reduceAdd, reduceMul, reduceSub, reduceLeDiff, reduceEqDiff, toNat_natCast, reduceToNat, reduceIte, if_true, if_false, isAggD, len_cl, agg_cl, qz15, length_map, qz16, qz12, and_self, ty24, ty22]; rfl); (focus ((repeat' apply And.intro) <;> first | exact True.intro | omega | (with_reducible rfl) | assumption | exact ⟨_, rfl⟩ | (simp only [sda]; done) | (simp only [len_cl]; omega) | (simp [Value.cells, Value.oneCell']; done))); refine kOps_store (cs' := ?_) rfl rfl rfl rfl rfl rfl rfl ty24 ?_ ?_ ?_; rotate_left 1; (simp only [cl4, qz2, zero_add, splice, qz14, qz17, isAggD, qz0, if_false, qz3, qz10, length_cons, length_nil, qz6, n_add_zero, qz4, reduceAdd, reduceMul, toNat_natCast, reduceToNat, agg_cl, len_cl]; rfl); (focus (first | (simp only [qz14, qz17, length_cons, length_nil, len_cl, length_set, length_map, reduceAdd, zero_add, all_cons, all_nil, qz19, one_bv, PV.one, Value.oneCell', Bool.and_self, reduceLeDiff, Nat.le_refl, and_self, qz12]; done) | ((try simp only [qz14, qz17]); (focus ((repeat' apply And.intro) <;> first | exact True.intro | omega | (with_reducible rfl) | assumption | exact ⟨_, rfl⟩ | (simp only [sda]; done) | (simp only [len_cl]; omega) | (simp [Value.cells, Value.oneCell']; done)))))); refine vOps_nil ?_; (with_reducible apply seqC_normal; apply wC_ret e32_4)))
    all_goals (
    refine fin_c (p := ?_) (xs := [.cell 0 24]) (by simp) rfl ?_ ?_ ?_ ?_
    rotate_left 2
    · simp only [rsx, qz9, cl4, qz2, zero_add, evalIn_tmp, evalIn_const, evalIn_func, qz7, Nat.reduceBEq, lit_ul0, lit_ul1, loadF, partF, cast_ofNat_Int, qz22, qz10, Int.reduceSub, qz3, qz0, length_cons, length_nil, qz6, n_add_zero, qz4, one_mul, reduceAdd, reduceMul, reduceSub, reduceLeDiff, reduceEqDiff, toNat_natCast, reduceToNat, reduceIte, if_true, if_false, isAggD, len_cl, agg_cl, qz15, length_map, qz16, qz12, and_self, ty22, ty24]; try rfl
    · first | rfl | (simp only [closed, closedL, qz18, closedL_cl, closedL_bv, Bool.and_self, Bool.and_true]; first | done | rfl)
    · first | ((simp only [← cl4, agg_cl]; done)) | ((try simp only [← cl4, agg_cl]); first | done | exact u4_congr (by omega) | exact agg4 (by omega) | rfl)
    · simp only [rsx, qz9, cl4, qz2, zero_add, evalIn_tmp, evalIn_const, evalIn_func, qz7, Nat.reduceBEq, lit_ul0, lit_ul1, loadF, partF, cast_ofNat_Int, qz22, qz10, Int.reduceSub, qz3, qz0, length_cons, length_nil, qz6, n_add_zero, qz4, one_mul, reduceAdd, reduceMul, reduceSub, reduceLeDiff, reduceEqDiff, toNat_natCast, reduceToNat, reduceIte, if_true, if_false, isAggD, len_cl, agg_cl, qz15, length_map, qz16, qz12, and_self, ty22, ty24]; try trivial)
  · exact hS.elim
noncomputable def B9 : Code := bodyOf Try.f9
theorem B9_eq : Try.f9.body = some B9 := by kernel_rfl
noncomputable def n9_0 := B9
noncomputable def n9_1 := codeAt B9 [0]
noncomputable def n9_2 := codeAt B9 [1]
noncomputable def n9_3 := codeAt B9 [1,0]
noncomputable def n9_4 := codeAt B9 [1,1]
theorem e9_0 : n9_0 = .seq n9_1 n9_2 := rfl
noncomputable def r9_1 := opsAt n9_1
theorem e9_1 : n9_1 = .region 0 (r9_1).toArray false := rfl
theorem e9_2 : n9_2 = .seq n9_3 n9_4 := rfl
noncomputable def r9_3 := opsAt n9_3
theorem e9_3 : n9_3 = .region 1 (r9_3).toArray false := rfl
theorem g9_3_2 : (r9_3[2]?).bind (·.dst) = some 3 := by decide +kernel
theorem g9_3_7 : (r9_3[7]?).bind (·.dst) = some 8 := by decide +kernel
theorem e9_4 : n9_4 = .ret := rfl
theorem f_law_sane : PureOk Try.prog 9 sLnone := by
  refine pureOk_of (c := n9_0) (Γ := conOf [(12, .pure sGOrd), (14, .pure sGMem), (22, .pure sGPow), (32, .pure sGOne)]) (conOf_ok (conOf_one (S := .pure sGOrd) f_group_Order (conOf_one (S := .pure sGMem) f_group_Member (conOf_one (S := .pure sGPow) f_group_Power (conOf_one (S := .pure sGOne) f_law_one (conOf_end)))))) mixed Try.func9 B9_eq (by decide +kernel) Try.call9 ?_
  intro args hS
  unfold sLnone at hS ⊢
  split at hS
  · refine ⟨by rw [Try.ntmps9]; simp, vC_sound ?_⟩

    simp only [qz26, reduceAdd]
    repeat' (first | (with_reducible first | apply seqC_normal | apply seqC_ret) | ((with_reducible apply wC_seq e9_0; apply wC_region e9_1); refine vOps_open (l := _ :: _) rfl ?_; refine kOps_as rfl rfl rfl rfl ?_; refine vOps_nil ?_; (with_reducible apply seqC_normal; apply wC_seq e9_2; apply wC_region e9_3); refine vOps_open (l := _ :: _) rfl ?_) | ((with_reducible apply wC_ret e9_4)) | ((with_reducible apply vOps_nil); try (with_reducible refine And.intro (by kernel_rfl) ?_)) | (refine kOps_gon (g := ?_) (p := ?_) rfl rfl ?_ ?_ ?_ ?_; rotate_left 2; (with_reducible first | exact g9_3_2 | exact g9_3_7); (exact rfl); (with_reducible rfl)) | (refine kOps_gofft (g := ?_) (p := ?_) rfl rfl ?_ ?_ ?_ ?_; rotate_left 2; (with_reducible first | exact g9_3_2 | exact g9_3_7); (exact rfl); (with_reducible rfl)) | (refine kOps_gofff (g := ?_) (p := ?_) rfl rfl ?_ ?_ ?_ ?_; rotate_left 2; (with_reducible first | exact g9_3_2 | exact g9_3_7); (exact rfl); (with_reducible rfl)) | (refine kOps_pickt rfl rfl rfl rfl ?_ rfl ?_; (with_reducible rfl)) | (refine kOps_pickf rfl rfl rfl rfl ?_ rfl ?_; (with_reducible rfl)) | (refine kOps_build (pre := ?_) (val := ?_) rfl rfl rfl rfl ?_ ?_ ?_; rotate_left 2; (intro L; simp only [qz1, splice_cl, splice_one, len_cl, reduceMod, reduceAdd, reduceSub, reduceMul, reduceDiv, reduceLT, reduceLeDiff, reduceEqDiff, qz5, eq_self, if_false, if_true, reduceIte, zero_mod, qz11, cl_one, qz13, Option.map_some, qz2, zero_add, lit_ul0, lit_ul1, lc_4, buildF, fillB, zeroCells, Value.cells, qz9, List.toList_toArray, zero_cl4, qz14, cast_ofNat_Int, qz22, qz10, Int.reduceSub, qz3, qz0, length_cons, length_nil, qz6, n_add_zero, qz4, one_mul, toNat_natCast, reduceToNat, isAggD, agg_cl, qz15, length_map, qz16, qz12, and_self, ty24, ty22]; rfl); (focus ((repeat' apply And.intro) <;> first | exact True.intro | omega | (with_reducible rfl) | assumption | exact ⟨_, rfl⟩ | (simp only [sda]; done) | (simp only [len_cl]; omega) | (simp [Value.cells, Value.oneCell']; done)))) | (refine kOps_callc (pre := ?_) (val := ?_) rfl rfl rfl rfl rfl ?_ ?_ ?_ ?_ ?_; rotate_left 2; (simp only [qz1, splice_cl, splice_one, len_cl, reduceMod, reduceAdd, reduceSub, reduceMul, reduceDiv, reduceLT, reduceLeDiff, reduceEqDiff, qz5, eq_self, if_false, if_true, reduceIte, zero_mod, qz11, cl_one, qz13, Option.map_some, qz2, zero_add, sGOrd, sGMem, sGPow, sGOne, lit_ul0, lit_ul1, lc_4, nrmC, qz9, qz8, qz25, ulv_ul, uv_u4, qz12, and_self, n_add_zero, n_sub_zero]; rfl); (focus (first | rfl | (simp only [closed, closedL, qz18, closedL_bv, closedL_cl, Bool.and_self, Bool.and_true]; done))); (focus (first | rfl | (simp only [closed, closedL, qz18, closedL_bv, closedL_cl, Bool.and_self, Bool.and_true]; done))); (focus ((repeat' apply And.intro) <;> first | exact True.intro | omega | (with_reducible rfl) | assumption | exact ⟨_, rfl⟩ | (simp only [sda]; done) | (simp only [len_cl]; omega) | (simp [Value.cells, Value.oneCell']; done)))) | (refine kOps_mv rfl rfl rfl rfl ?_) | (refine kOps_build (pre := ?_) (val := ?_) rfl rfl rfl rfl ?_ ?_ ?_; rotate_left 2; (intro L; simp only [qz1, splice_cl, splice_one, len_cl, reduceMod, reduceAdd, reduceSub, reduceMul, reduceDiv, reduceLT, reduceLeDiff, reduceEqDiff, qz5, eq_self, if_false, if_true, reduceIte, zero_mod, qz11, cl_one, qz13, Option.map_some, qz2, zero_add, buildF, fillB, zeroCells, Value.cells, qz9, List.toList_toArray, zero_cl4, lit_ul0, qz14, cast_ofNat_Int, qz22, qz10, Int.reduceSub, qz3, qz0, length_cons, length_nil, qz6, n_add_zero, qz4, one_mul, toNat_natCast, reduceToNat, isAggD, agg_cl, qz15, length_map, qz16, qz12, and_self, ty24, ty22]; rfl); (focus ((repeat' apply And.intro) <;> first | exact True.intro | omega | (with_reducible rfl) | assumption | exact ⟨_, rfl⟩ | (simp only [sda]; done) | (simp only [len_cl]; omega) | (simp [Value.cells, Value.oneCell']; done)))) | (refine kOps_un (b := .not) (pre := ?_) (val := ?_) rfl rfl rfl rfl ?_ ?_ ?_; rotate_left 2; (intro L; simp only [qz1, splice_cl, splice_one, len_cl, reduceMod, reduceAdd, reduceSub, reduceMul, reduceDiv, reduceLT, reduceLeDiff, reduceEqDiff, qz5, eq_self, if_false, if_true, reduceIte, zero_mod, qz11, cl_one, qz13, Option.map_some, qz2, zero_add, qz38]; (first | (rw [wrap_i64] <;> first | omega | rfl) | (rw [wrap_u8] <;> first | omega | rfl) | (rw [wrap_u16] <;> first | omega | rfl) | (rw [wrap_u32] <;> first | omega | rfl) | rfl)); exact trivial) | (refine kOps_callc (pre := ?_) (val := ?_) rfl rfl rfl rfl rfl ?_ ?_ ?_ ?_ ?_; rotate_left 2; (simp only [qz1, splice_cl, splice_one, len_cl, reduceMod, reduceAdd, reduceSub, reduceMul, reduceDiv, reduceLT, reduceLeDiff, reduceEqDiff, qz5, eq_self, if_false, if_true, reduceIte, zero_mod, qz11, cl_one, qz13, Option.map_some, qz2, zero_add, sGOrd, sGMem, sGPow, sGOne, nrmC, qz9, qz8, qz25, ulv_ul, uv_u4, qz12, and_self, n_add_zero, n_sub_zero]; rfl); (focus (first | rfl | (simp only [closed, closedL, qz18, closedL_bv, closedL_cl, Bool.and_self, Bool.and_true]; done))); (focus (first | rfl | (simp only [closed, closedL, qz18, closedL_bv, closedL_cl, Bool.and_self, Bool.and_true]; done))); (focus ((repeat' apply And.intro) <;> first | exact True.intro | omega | (with_reducible rfl) | assumption | exact ⟨_, rfl⟩ | (simp only [sda]; done) | (simp only [len_cl]; omega) | (simp [Value.cells, Value.oneCell']; done)))) | (refine kOps_bin (b := .eql) (pre := ?_) (val := ?_) rfl rfl rfl rfl rfl ?_ ?_ ?_; rotate_left 2; (intro L; simp only [qz1, splice_cl, splice_one, len_cl, reduceMod, reduceAdd, reduceSub, reduceMul, reduceDiv, reduceLT, reduceLeDiff, reduceEqDiff, qz5, eq_self, if_false, if_true, reduceIte, zero_mod, qz11, cl_one, qz13, Option.map_some, qz2, zero_add, eql_u4 ty24 ty22, neq_u4 ty24 ty22, lit_ul0, lit_ul1, lc_4, qz31, Int.reduceAdd, Int.reduceSub, Int.reduceMul, Int.reduceNeg, Int.sub_zero, cast_ofNat_Int, ne_eq, Int.reduceLT, Int.reduceLE, Int.reduceEq, ty24, ty22]; (first | (rw [wrap_i64] <;> first | omega | rfl) | (rw [wrap_u8] <;> first | omega | rfl) | (rw [wrap_u16] <;> first | omega | rfl) | (rw [wrap_u32] <;> first | omega | rfl) | rfl)); (focus ((repeat' apply And.intro) <;> first | exact True.intro | omega | (with_reducible rfl) | assumption | exact ⟨_, rfl⟩ | (simp only [sda]; done) | (simp only [len_cl]; omega) | (simp [Value.cells, Value.oneCell']; done)))) | (refine kOps_as rfl rfl rfl rfl ?_) | (refine vOps_gundef rfl rfl ?_ ?_; (focus (simp only [qz7, Nat.reduceBEq]; done)); simp only [putIn]) | (refine vOps_gpick (t := ?_) (val := ?_) rfl rfl ?_ rfl rfl ?_ ?_ ?_; rotate_left 2; (focus (simp only [qz7, Nat.reduceBEq]; done)); (simp only [evalIn_tmp, evalIn_const, qz7, Nat.reduceBEq]; rfl); (simp only [evalIn_tmp, evalIn_const, qz7, Nat.reduceBEq]; rfl)) | (refine vOps_pick (t := ?_) (val := ?_) rfl rfl rfl ?_ ?_ ?_; rotate_left 2; (simp only [evalIn_tmp, evalIn_const, qz7, Nat.reduceBEq]; rfl); (simp only [evalIn_tmp, evalIn_const, qz7, Nat.reduceBEq]; rfl)) | (refine vOps_fork (b := ?_) rfl rfl ?_ ?_ ?_; rotate_left 1; (simp only [qz7, Nat.reduceBEq]; rfl); all_goals (intro hb; simp only [hb]; (try simp only [qz27] at hb); try (exfalso; first | omega | exact hb trivial))) | (refine vOps_forkp (b := ?_) rfl ?_ ?_ ?_; rotate_left 1; (simp only [evalIn_tmp, qz7, Nat.reduceBEq]; rfl); all_goals (intro hb; simp only [hb]; (try simp only [qz27] at hb); try (exfalso; first | omega | exact hb trivial))))
    all_goals (
    refine fin_c (p := ?_) (xs := [.tmp 0]) (by simp) rfl ?_ ?_ ?_ ?_
    rotate_left 2
    · simp only [rsx, qz9, qz1, splice_cl, splice_one, len_cl, reduceMod, reduceAdd, reduceSub, reduceMul, reduceDiv, reduceLT, reduceLeDiff, reduceEqDiff, qz5, eq_self, if_false, if_true, reduceIte, zero_mod, qz11, cl_one, qz13, Option.map_some, qz2, zero_add, evalIn_tmp, evalIn_const, evalIn_func, qz7, Nat.reduceBEq, lit_ul0, lit_ul1, loadF, partF, qz3, qz6, qz16, qz12, and_self, Nat.le_refl, isAggD, qz0, agg_cl, toNat_natCast, reduceToNat, qz4, n_add_zero, qz15, length_map, ty4, ty22, ty24]; try rfl
    · first | rfl | (simp only [closed, closedL, qz18, closedL_cl, closedL_bv, Bool.and_self, Bool.and_true]; first | done | rfl)
    · first | rfl | (simp [binStr]; done)
    · simp only [rsx, qz9, qz1, splice_cl, splice_one, len_cl, reduceMod, reduceAdd, reduceSub, reduceMul, reduceDiv, reduceLT, reduceLeDiff, reduceEqDiff, qz5, eq_self, if_false, if_true, reduceIte, zero_mod, qz11, cl_one, qz13, Option.map_some, qz2, zero_add, evalIn_tmp, evalIn_const, evalIn_func, qz7, Nat.reduceBEq, lit_ul0, lit_ul1, loadF, partF, qz3, qz6, qz16, qz12, and_self, Nat.le_refl, isAggD, qz0, agg_cl, toNat_natCast, reduceToNat, qz4, n_add_zero, qz15, length_map, ty4, ty22, ty24]; try trivial)
  · exact hS.elim
noncomputable def B69 : Code := bodyOf Try.f69
theorem B69_eq : Try.f69.body = some B69 := by kernel_rfl
noncomputable def n69_0 := B69
noncomputable def n69_1 := codeAt B69 [0]
noncomputable def n69_2 := codeAt B69 [1]
noncomputable def n69_3 := codeAt B69 [1,0]
noncomputable def n69_4 := codeAt B69 [1,1]
noncomputable def n69_5 := codeAt B69 [1,1,0]
noncomputable def n69_6 := codeAt B69 [1,1,1]
noncomputable def n69_7 := codeAt B69 [1,1,1,0]
noncomputable def n69_8 := codeAt B69 [1,1,1,1]
noncomputable def n69_9 := codeAt B69 [1,1,1,1,0]
noncomputable def n69_10 := codeAt B69 [1,1,1,1,1]
noncomputable def n69_11 := codeAt B69 [1,1,1,1,1,0]
noncomputable def n69_12 := codeAt B69 [1,1,1,1,1,1]
noncomputable def n69_13 := codeAt B69 [1,1,1,1,1,1,0]
noncomputable def n69_14 := codeAt B69 [1,1,1,1,1,1,1]
theorem e69_0 : n69_0 = .seq n69_1 n69_2 := rfl
noncomputable def r69_1 := opsAt n69_1
theorem e69_1 : n69_1 = .region 0 (r69_1).toArray false := rfl
theorem e69_2 : n69_2 = .seq n69_3 n69_4 := rfl
noncomputable def r69_3 := opsAt n69_3
theorem e69_3 : n69_3 = .region 1 (r69_3).toArray false := rfl
theorem e69_4 : n69_4 = .seq n69_5 n69_6 := rfl
noncomputable def r69_5 := opsAt n69_5
theorem e69_5 : n69_5 = .region 2 (r69_5).toArray true := rfl
theorem a69_5 : anyOk r69_5 = true := by decide +kernel
theorem e69_6 : n69_6 = .seq n69_7 n69_8 := rfl
noncomputable def r69_7 := opsAt n69_7
theorem e69_7 : n69_7 = .region 3 (r69_7).toArray true := rfl
theorem a69_7 : anyOk r69_7 = true := by decide +kernel
theorem e69_8 : n69_8 = .seq n69_9 n69_10 := rfl
noncomputable def r69_9 := opsAt n69_9
theorem e69_9 : n69_9 = .region 4 (r69_9).toArray true := rfl
theorem a69_9 : anyOk r69_9 = true := by decide +kernel
theorem e69_10 : n69_10 = .seq n69_11 n69_12 := rfl
noncomputable def r69_11 := opsAt n69_11
theorem e69_11 : n69_11 = .region 5 (r69_11).toArray true := rfl
theorem a69_11 : anyOk r69_11 = true := by decide +kernel
theorem e69_12 : n69_12 = .seq n69_13 n69_14 := rfl
noncomputable def r69_13 := opsAt n69_13
theorem e69_13 : n69_13 = .region 6 (r69_13).toArray false := rfl
theorem e69_14 : n69_14 = .ret := rfl
theorem f_wide_double : StOk Try.prog 69 tDouble := by
  refine stOk_of (c := n69_0) (tab := tabOf []) (tabOf_ok (conOf_end)) mixed Try.func69 B69_eq (by decide +kernel) Try.call69 ?_
  intro args L hS
  unfold tDouble at hS ⊢
  split at hS
  rotate_left 1
  · exact hS.elim
  rename_i i x
  obtain ⟨hLC, hr, hx, hle⟩ := hS
  obtain ⟨n, ln, hL, en⟩ := rowU_out hr
  obtain ⟨x, lx, rfl⟩ := isul_out hx
  simp only [ulv_ul, mod_eq_of_lt lx] at hle
  dsimp only
  simp only [en, ulv_ul, mod_eq_of_lt lx]
  clear hr hx en
  refine ⟨by rw [Try.ntmps69]; simp, by simp, vC_sound ?_⟩
  simp only [qz26, reduceAdd]
  repeat' (first | (with_reducible first | apply seqC_normal | apply seqC_ret) | ((with_reducible apply wC_seq e69_0; apply wC_region e69_1); refine vOps_open (l := _ :: _) rfl ?_) | ((with_reducible apply wC_seq e69_2; apply wC_region e69_3); refine vOps_open (l := _ :: _) rfl ?_) | ((with_reducible apply wC_seq e69_4; apply wC_any e69_5 a69_5); refine vOps_open (l := _ :: _) rfl ?_) | ((with_reducible apply wC_seq e69_6; apply wC_any e69_7 a69_7); refine vOps_open (l := _ :: _) rfl ?_) | ((with_reducible apply wC_seq e69_8; apply wC_any e69_9 a69_9); refine vOps_open (l := _ :: _) rfl ?_) | ((with_reducible apply wC_seq e69_10; apply wC_any e69_11 a69_11); refine vOps_open (l := _ :: _) rfl ?_) | ((with_reducible apply wC_seq e69_12; apply wC_region e69_13); refine vOps_open (l := _ :: _) rfl ?_) | ((with_reducible apply wC_ret e69_14)) | ((with_reducible apply vOps_nil); try (with_reducible refine And.intro (by kernel_rfl) ?_)) | (refine kOps_asc rfl rfl rfl lit_ul0 ?_) | (refine kOps_mv rfl rfl rfl rfl ?_) | (refine kOps_nilp (cs := ?_) rfl rfl rfl rfl ?_ ?_; rotate_left 1; (focus (first | rfl | exact hL | exact hL2 | exact set_get hL | exact (set_get_ne hij).trans hL2 | exact set_get (set_get hL)))) | ((first | (refine kOps_ixap (cs := ?_) (off' := ?_) rfl rfl rfl rfl rfl ?_ ty24 ty22 ?_ ?_ ?_; rotate_left 2; (focus (first | rfl | exact hL | exact hL2 | exact set_get hL | exact (set_get_ne hij).trans hL2 | exact set_get (set_get hL))); rotate_right 1; rotate_left 1; (simp only [cl4, Nat.reducePow, reduceMod, reduceDiv, zero_add, n_add_zero, qz4, one_mul, toNat_natCast, reduceToNat, reduceMul, reduceAdd]; rfl)) | (refine kOps_ixaq (cs' := ?_) rfl rfl rfl rfl rfl ty24 ty22 ?_ ?_ ?_; rotate_left 1; (simp only [cl4, Nat.reducePow, reduceMod, reduceDiv, elemAt, cast_ofNat_Int, qz22, qz10, Int.reduceSub, qz3, qz0, length_cons, length_nil, qz6, zero_add, n_add_zero, qz4, one_mul, reduceAdd, reduceMul, reduceSub, reduceLeDiff, reduceEqDiff, toNat_natCast, reduceToNat, reduceIte, if_true, if_false, isAggD, len_cl, agg_cl, qz15, length_map, qz16, qz12, and_self]; rfl))); (focus ((repeat' apply And.intro) <;> first | exact True.intro | omega | (with_reducible rfl) | assumption | exact ⟨_, rfl⟩ | (simp only [sda, sdb, Value.oneCell', and_self]; done) | exact (isByte_bv _).2 trivial | exact one_bv _ | (simp [Value.oneCell', PV.one, one_bv, closedL_bv, flatL_bv, closedL, closed, isByte_bv, Value.cells, PV.cells, sda]; first | done | omega)))) | ((first | (refine kOps_loadp (cs := ?_) (pre := ?_) (val := ?_) rfl rfl rfl rfl ?_ ty22 ?_ ?_ ?_; rotate_left 3; (focus (first | rfl | exact hL | exact hL2 | exact set_get hL | exact (set_get_ne hij).trans hL2 | exact set_get (set_get hL))); rotate_right 2) | refine kOps_loadr (pre := ?_) (val := ?_) rfl rfl rfl rfl ty22 ?_ ?_ ?_); rotate_left 2; (simp only [cl4, Nat.reducePow, reduceMod, reduceDiv, partF, cast_ofNat_Int, qz22, qz10, Int.reduceSub, qz3, qz0, length_cons, length_nil, qz6, zero_add, n_add_zero, qz4, one_mul, reduceAdd, reduceMul, reduceSub, reduceLeDiff, reduceEqDiff, toNat_natCast, reduceToNat, reduceIte, if_true, if_false, isAggD, len_cl, agg_cl, qz15, length_map, qz16, qz12, and_self]; rfl); (focus ((repeat' apply And.intro) <;> first | exact True.intro | omega | (with_reducible rfl) | assumption | exact ⟨_, rfl⟩ | (simp only [sda, sdb, Value.oneCell', and_self]; done) | exact (isByte_bv _).2 trivial | exact one_bv _ | (simp [Value.oneCell', PV.one, one_bv, closedL_bv, flatL_bv, closedL, closed, isByte_bv, Value.cells, PV.cells, sda]; first | done | omega)))) | (refine kOps_bin (b := .shr) (pre := ?_) (val := ?_) rfl rfl rfl rfl rfl ?_ ?_ ?_; rotate_left 2; (intro L; simp only [cl4, Nat.reducePow, reduceMod, reduceDiv, or_dbl, or_one hle, mod_eq_of_lt lx, eql_u4 ty24 ty22, neq_u4 ty24 ty22, lit_ul0, lit_ul1, lc_63, qz41, Int.reduceAdd, Int.reduceSub, Int.reduceMul, Int.reduceNeg, Int.sub_zero, cast_ofNat_Int, ne_eq, Int.reduceLT, Int.reduceLE, Int.reduceEq, reduceLT, qz5, ty22]; (first | (rw [wrap_i64] <;> first | omega | rfl) | (rw [wrap_u8] <;> first | omega | rfl) | (rw [wrap_u16] <;> first | omega | rfl) | (rw [wrap_u32] <;> first | omega | rfl) | rfl)); (focus ((repeat' apply And.intro) <;> first | exact True.intro | omega | (with_reducible rfl) | assumption | exact ⟨_, rfl⟩ | (simp only [sda, sdb, Value.oneCell', and_self]; done) | exact (isByte_bv _).2 trivial | exact one_bv _ | (simp [Value.oneCell', PV.one, one_bv, closedL_bv, flatL_bv, closedL, closed, isByte_bv, Value.cells, PV.cells, sda]; first | done | omega)))) | (refine kOps_as rfl rfl rfl rfl ?_) | (refine kOps_bin (b := .shl) (pre := ?_) (val := ?_) rfl rfl rfl rfl rfl ?_ ?_ ?_; rotate_left 2; (intro L; simp only [cl4, Nat.reducePow, reduceMod, reduceDiv, or_dbl, or_one hle, mod_eq_of_lt lx, eql_u4 ty24 ty22, neq_u4 ty24 ty22, lit_ul0, lit_ul1, lc_63, qz40, Int.reduceAdd, Int.reduceSub, Int.reduceMul, Int.reduceNeg, Int.sub_zero, cast_ofNat_Int, ne_eq, Int.reduceLT, Int.reduceLE, Int.reduceEq, reduceLT, qz5, ty22]; (first | (rw [wrap_i64] <;> first | omega | rfl) | (rw [wrap_u8] <;> first | omega | rfl) | (rw [wrap_u16] <;> first | omega | rfl) | (rw [wrap_u32] <;> first | omega | rfl) | rfl)); (focus ((repeat' apply And.intro) <;> first | exact True.intro | omega | (with_reducible rfl) | assumption | exact ⟨_, rfl⟩ | (simp only [sda, sdb, Value.oneCell', and_self]; done) | exact (isByte_bv _).2 trivial | exact one_bv _ | (simp [Value.oneCell', PV.one, one_bv, closedL_bv, flatL_bv, closedL, closed, isByte_bv, Value.cells, PV.cells, sda]; first | done | omega)))) | (refine kOps_bin (b := .or) (pre := ?_) (val := ?_) rfl rfl rfl rfl rfl ?_ ?_ ?_; rotate_left 2; (intro L; simp only [cl4, Nat.reducePow, reduceMod, reduceDiv, or_dbl, or_one hle, mod_eq_of_lt lx, eql_u4 ty24 ty22, neq_u4 ty24 ty22, lit_ul0, lit_ul1, lc_63, qz43, Int.reduceAdd, Int.reduceSub, Int.reduceMul, Int.reduceNeg, Int.sub_zero, cast_ofNat_Int, ne_eq, Int.reduceLT, Int.reduceLE, Int.reduceEq, reduceLT, qz5, ty22]; (first | (rw [wrap_i64] <;> first | omega | rfl) | (rw [wrap_u8] <;> first | omega | rfl) | (rw [wrap_u16] <;> first | omega | rfl) | (rw [wrap_u32] <;> first | omega | rfl) | rfl)); exact trivial) | (refine kOps_storeS (cs := ?_) (cs' := ?_) (L2 := ?_) rfl rfl rfl rfl rfl rfl ?_ ty22 ?_ ?_ ?_ ?_; rotate_left 3; (focus (first | rfl | exact hL | exact hL2 | exact set_get hL | exact (set_get_ne hij).trans hL2 | exact set_get (set_get hL))); (simp only [cl4, Nat.reducePow, reduceMod, reduceDiv, lit_ul0, lit_ul1, lc_63, splice, qz14, qz17, cast_ofNat_Int, qz22, qz10, Int.reduceSub, qz3, qz0, length_cons, length_nil, qz6, zero_add, n_add_zero, qz4, one_mul, reduceAdd, reduceMul, reduceSub, reduceLeDiff, reduceEqDiff, toNat_natCast, reduceToNat, reduceIte, if_true, if_false, isAggD, len_cl, agg_cl, qz15, length_map, qz16, qz12, and_self]; rfl); (first | exact set_set' | (simp only [qz6]; rfl) | rfl); (focus (first | (simp only [lit_ul0, lit_ul1, lc_63, qz14, qz17, length_cons, length_nil, len_cl, length_set, length_map, reduceAdd, zero_add, all_cons, all_nil, qz19, one_bv, PV.one, Value.oneCell', Bool.and_self, reduceLeDiff, Nat.le_refl, and_self, qz12]; done) | ((try simp only [lit_ul0, lit_ul1, lc_63, qz14, qz17]); (focus ((repeat' apply And.intro) <;> first | exact True.intro | omega | (with_reducible rfl) | assumption | exact ⟨_, rfl⟩ | (simp only [sda, sdb, Value.oneCell', and_self]; done) | exact (isByte_bv _).2 trivial | exact one_bv _ | (simp [Value.oneCell', PV.one, one_bv, closedL_bv, flatL_bv, closedL, closed, isByte_bv, Value.cells, PV.cells, sda]; first | done | omega))))))))
  refine fin_s (p := ?_) (xs := [.tmp 4]) (by simp) rfl ?_ ?_ ?_ ?_ ?_ ?_
  rotate_left 2
  · simp only [rsx, qz9, cl4, Nat.reducePow, reduceMod, reduceDiv, evalIn_tmp, evalIn_const, evalIn_func, qz7, Nat.reduceBEq, lit_ul0, lit_ul1, lc_63, loadF, partF, cast_ofNat_Int, qz22, qz10, Int.reduceSub, qz3, qz0, length_cons, length_nil, qz6, zero_add, n_add_zero, qz4, one_mul, reduceAdd, reduceMul, reduceSub, reduceLeDiff, reduceEqDiff, toNat_natCast, reduceToNat, reduceIte, if_true, if_false, isAggD, len_cl, agg_cl, qz15, length_map, qz16, qz12, and_self, ty22, ty24]; try rfl
  · first | rfl | (simp only [closed, closedL, qz18, closedL_cl, closedL_bv, Bool.and_self, Bool.and_true]; first | done | rfl)
  · exact ul_congr (by omega)
  · rw [list4 (n := 2 * n + x) (by omega)]; exact take_same
  · exact LC_set (closedL_cl _ _) hLC
  · simp only [rsx, qz9, cl4, Nat.reducePow, reduceMod, reduceDiv, evalIn_tmp, evalIn_const, evalIn_func, qz7, Nat.reduceBEq, lit_ul0, lit_ul1, lc_63, loadF, partF, cast_ofNat_Int, qz22, qz10, Int.reduceSub, qz3, qz0, length_cons, length_nil, qz6, zero_add, n_add_zero, qz4, one_mul, reduceAdd, reduceMul, reduceSub, reduceLeDiff, reduceEqDiff, toNat_natCast, reduceToNat, reduceIte, if_true, if_false, isAggD, len_cl, agg_cl, qz15, length_map, qz16, qz12, and_self, ty22, ty24]; try trivial
end Go.Ab
