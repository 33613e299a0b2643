import Derived.Test.YtgknomjgpkpjdaaME
import Derived.Test.YtgknomjgpkpjdaaTY
import Derived.Test.YtgknomjgpkpjdaaFref02Bit
import Derived.Test.YtgknomjgpkpjdaaMG
namespace Go.Ab
open Go Go.Proofs
set_option linter.unusedVariables false
set_option linter.unusedSimpArgs false
set_option maxRecDepth 8000
set_option maxHeartbeats 4000000

noncomputable def B24 : Code := bodyOf Try.f24
theorem B24_eq : Try.f24.body = some B24 := by kernel_rfl
noncomputable def n24_0 : Code := B24
noncomputable def n24_1 : Code := codeAt B24 [0]
noncomputable def n24_2 : Code := codeAt B24 [1]
noncomputable def n24_3 : Code := codeAt B24 [1,0]
noncomputable def n24_4 : Code := codeAt B24 [1,0,0]
noncomputable def n24_5 : Code := codeAt B24 [1,0,1]
noncomputable def n24_6 : Code := codeAt B24 [1,0,1,0]
noncomputable def n24_7 : Code := codeAt B24 [1,0,1,0,0]
noncomputable def n24_8 : Code := codeAt B24 [1,0,1,0,0,0]
noncomputable def n24_9 : Code := codeAt B24 [1,0,1,0,0,0,0]
noncomputable def n24_10 : Code := codeAt B24 [1,0,1,0,0,0,1]
noncomputable def n24_11 : Code := codeAt B24 [1,0,1,0,0,0,1,0]
noncomputable def n24_12 : Code := codeAt B24 [1,0,1,0,0,0,1,1]
noncomputable def n24_13 : Code := codeAt B24 [1,0,1,0,0,1]
noncomputable def n24_14 : Code := codeAt B24 [1,0,1,0,0,1,0]
noncomputable def n24_15 : Code := codeAt B24 [1,0,1,0,0,1,0,0]
noncomputable def n24_16 : Code := codeAt B24 [1,0,1,0,0,1,0,0,0]
noncomputable def n24_17 : Code := codeAt B24 [1,0,1,0,0,1,0,0,1]
noncomputable def n24_18 : Code := codeAt B24 [1,0,1,0,0,1,0,0,1,0]
noncomputable def n24_19 : Code := codeAt B24 [1,0,1,0,0,1,0,0,1,0,0]
noncomputable def n24_20 : Code := codeAt B24 [1,0,1,0,0,1,0,0,1,0,1]
noncomputable def n24_21 : Code := codeAt B24 [1,0,1,0,0,1,0,0,1,1]
noncomputable def n24_22 : Code := codeAt B24 [1,0,1,0,0,1,1]
noncomputable def n24_23 : Code := codeAt B24 [1,1]
noncomputable def n24_24 : Code := codeAt B24 [1,1,0]
noncomputable def n24_25 : Code := codeAt B24 [1,1,1]
theorem e24_0 : n24_0 = .seq n24_1 n24_2 := rfl
noncomputable def r24_1 := opsAt n24_1
theorem e24_1 : n24_1 = .region 0 (r24_1).toArray false := rfl
theorem e24_2 : n24_2 = .seq n24_3 n24_23 := rfl
theorem e24_3 : n24_3 = .seq n24_4 n24_5 := rfl
noncomputable def r24_4 := opsAt n24_4
theorem e24_4 : n24_4 = .region 1 (r24_4).toArray false := rfl
theorem e24_5 : n24_5 = .block 0 n24_6 := rfl
theorem e24_6 : n24_6 = .loop n24_7 := rfl
theorem e24_7 : n24_7 = .seq n24_8 n24_13 := rfl
theorem e24_8 : n24_8 = .seq n24_9 n24_10 := rfl
noncomputable def r24_9 := opsAt n24_9
theorem e24_9 : n24_9 = .region 2 (r24_9).toArray false := rfl
theorem e24_10 : n24_10 = .cond (.tmp 5) n24_11 n24_12 := rfl
theorem e24_11 : n24_11 = .skip := rfl
theorem e24_12 : n24_12 = .exit 0 := rfl
theorem e24_13 : n24_13 = .seq n24_14 n24_22 := rfl
theorem e24_14 : n24_14 = .block 1 n24_15 := rfl
theorem e24_15 : n24_15 = .seq n24_16 n24_17 := rfl
noncomputable def r24_16 := opsAt n24_16
theorem e24_16 : n24_16 = .region 4 (r24_16).toArray false := rfl
theorem e24_17 : n24_17 = .cond (.tmp 10) n24_18 n24_21 := rfl
theorem e24_18 : n24_18 = .seq n24_19 n24_20 := rfl
noncomputable def r24_19 := opsAt n24_19
theorem e24_19 : n24_19 = .region 5 (r24_19).toArray false := rfl
theorem e24_20 : n24_20 = .ret := rfl
theorem e24_21 : n24_21 = .skip := rfl
noncomputable def r24_22 := opsAt n24_22
theorem e24_22 : n24_22 = .region 3 (r24_22).toArray false := rfl
theorem e24_23 : n24_23 = .seq n24_24 n24_25 := rfl
noncomputable def r24_24 := opsAt n24_24
theorem e24_24 : n24_24 = .region 6 (r24_24).toArray false := rfl
theorem e24_25 : n24_25 = .ret := rfl
theorem f_ref02_Len : PureOk Try.prog 24 sLen := by
  refine pureOk_of (c := n24_0) (Γ := conOf [(52, .pure sBit)]) (conOf_ok (conOf_one (S := .pure sBit) f_ref02_Bit (conOf_end))) mixed Try.func24 B24_eq (by decide +kernel) Try.call24 ?_
  intro args hS
  unfold sLen at hS ⊢
  split at hS
  · refine ⟨by rw [Try.ntmps24]; simp, vC_sound ?_⟩
    rename_i xa
    have ha := hS
    obtain ⟨a, la, rfl⟩ := isU_out ha
    simp only [uv_u4, Nat.mod_eq_of_lt la]
    clear ha
    simp only [entry_cons, entry_nil, Nat.reduceAdd]
    repeat' (first
      | (with_reducible first | apply seqC_normal | apply blockC_normal | apply seqC_exit | apply blockC_hit | apply seqC_ret | apply blockC_ret | apply loopC_ret | apply loopC_exit)
      | ((with_reducible apply blockC_miss); (exact rfl))
      | ((with_reducible apply wC_seq e24_0; apply wC_region e24_1); refine vOps_open (l := _ :: _) rfl ?_; refine kOps_box (row := ?_) (n := ?_) rfl rfl rfl rfl rfl ?_ ?_ ?_ ?_; rotate_left 2; (simp only [↓List.length_append, ↓List.length_set, ↓List.length_cons, List.length_nil, Nat.reduceAdd, Nat.zero_add]; rfl); (simp only [clg0, clg1, clg2, clg3, splice_cl, splice_one, len_cl, Nat.mod_eq_of_lt la, Int.toNat_natCast, cells_ul, cells_u4]; rfl); (focus (first | rfl | exact one_cl _ _ | exact one_bv _ | (simp only [one_cl, one_ul, List.all_cons, List.all_nil, Bool.and_self, PV.one]; done) | (simp [PV.one, one_ul, one_cl, one_bv, Value.oneCell']; done))); refine kOps_as rfl rfl rfl rfl ?_; refine vOps_nil ?_; (with_reducible apply seqC_normal; apply wC_seq e24_2; apply wC_seq e24_3; apply wC_region e24_4); refine vOps_open (l := _ :: _) rfl ?_; refine kOps_as rfl rfl rfl rfl ?_; refine vOps_nil ?_; (with_reducible apply seqC_normal; apply wC_block e24_5))
      | ((with_reducible apply wC_seq e24_23; apply wC_region e24_24); refine vOps_open (l := _ :: _) rfl ?_; refine kOps_as rfl rfl rfl rfl ?_; refine vOps_nil ?_; (with_reducible apply seqC_normal; apply wC_ret e24_25)))
    refine wC_loopI (ι := {t : Nat // t ≤ 256 ∧ a < 2 ^ t}) e24_6 (fun t => ([(1, .ptr 0 0), (3, .lit (.int .i64 ((t.1 : Int) - 1)))], [.cells (cl 4 a)])) (fun t => t.1) ⟨256, Nat.le_refl _, by rw [show (2 : Nat) ^ 256 = 115792089237316195423570985008687907853269984665640564039457584007913129639936 by decide]; exact la⟩ [0] ?_ ?_
    · show Weak _ _ _ _ _ _
      refine weak_mk (fun i h => absurd h (Nat.not_lt_zero i)) (by decide) (by simp) ?_ ?_
      · simp only [RenRows, List.nil_append, List.cons_append, List.set_cons_zero, List.set_cons_succ, List.getElem?_cons_zero, List.getElem?_cons_succ, Option.some.injEq, LE.cells.injEq, closedL_bv, closedL_cl, and_true, true_and]
        all_goals (trivial)
      · simp only [RenEnv, lookup_cons, Nat.reduceBEq, cond_true, cond_false]
        (repeat' apply And.intro) <;> first | trivial | exact ren_keep rfl | exact ren_keep (closed_u4 _) | (refine ren_int ?_; omega) | (refine ren_own rfl ?_; first | rfl | omega | (simp; done) | (omega; done)) | (refine ren_int ?_; omega; done) | (refine ren_int ?_; simp; done) | (refine ren_keep ?_; simp only [closed, closedL_bv, closedL_rows, closedL_cl]; done) | (refine ren_ptr rfl; done)
    · rintro ⟨t, ht, hlt⟩
      dsimp only
      rcases t with _ | m
      · simp only [show ((0 : Nat) : Int) - 1 = -1 from rfl]
        have ha0 : a = 0 := by rw [Nat.pow_zero] at hlt; omega
        subst ha0
        repeat' (first
          | (with_reducible first | apply seqC_normal | apply blockC_normal | apply seqC_exit | apply blockC_hit | apply seqC_ret | apply blockC_ret | apply loopC_ret | apply loopC_exit)
          | ((with_reducible apply blockC_miss); (exact rfl))
          | ((with_reducible apply wC_seq e24_7; apply wC_seq e24_8; apply wC_region e24_9); refine vOps_open (l := _ :: _) rfl ?_; refine kOps_mv rfl rfl rfl rfl ?_; refine kOps_bin (b := .geq) (pre := ?_) (val := ?_) rfl rfl rfl rfl rfl ?_ ?_ ?_; rotate_left 2; (intro L; simp only [clg0, clg1, clg2, clg3, splice_cl, splice_one, len_cl, eql_u4 ty26 ty22, neq_u4 ty26 ty22, geq_ul, binF_geq, Int.reduceAdd, Int.reduceSub, Int.reduceMul, Int.reduceNeg, Int.sub_zero, Int.cast_ofNat_Int, ne_eq, Int.reduceLT, Int.reduceLE, Int.reduceEq, Nat.reduceMod, Nat.reduceLT, decide_true, decide_false, ty3]; (first | (rw [wrap_i64] <;> first | omega | rfl) | (rw [wrap_u8] <;> first | omega | rfl) | (rw [wrap_u16] <;> first | omega | rfl) | (rw [wrap_u32] <;> first | omega | rfl) | rfl)); exact trivial; refine vOps_nil ?_; (with_reducible apply seqC_normal; apply kC_cond e24_10); (exact rfl); all_goals (intro hb; first | (cases hb; done) | cases hb | ((try simp only [decide_eq_true_eq, decide_eq_false_iff_not, Bool.not_eq_true', Bool.not_eq_false'] at hb); try (exfalso; first | omega | exact hb trivial))))
          | ((with_reducible apply wC_skip e24_11))
          | ((with_reducible apply wC_exit e24_12))
          | ((with_reducible apply wC_seq e24_23; apply wC_region e24_24); refine vOps_open (l := _ :: _) rfl ?_; refine kOps_as rfl rfl rfl rfl ?_; refine vOps_nil ?_; (with_reducible apply seqC_normal; apply wC_ret e24_25)))
        refine fin_c (p := ?_) (xs := [.tmp 2]) (by simp) rfl ?_ ?_ ?_ ?_
        rotate_left 2
        · simp only [resAll_cons, resAll_nil, resPVl_0, resPVl_1, resPVl_2, resOne_tmp, resOne_cell, List.map_cons, List.map_nil, clg0, clg1, clg2, clg3, splice_cl, splice_one, len_cl, evalIn_tmp, evalIn_const, evalIn_func, lookup_cons, Nat.reduceBEq, cond_true, cond_false, lit_ul0, lit_ul1, loadF, partF, List.getElem?_cons_zero, List.getElem?_cons_succ, List.set_cons_zero, List.set_cons_succ, List.cons_append, List.nil_append, true_and, and_true, and_self, Nat.le_refl, Nat.reduceLeDiff, isAggD, Bool.false_eq_true, if_false, if_true, reduceIte, take_cl, agg_cl, List.drop_zero, Int.toNat_natCast, Int.reduceToNat, Int.toNat_zero, n_add_zero, Nat.mul_one, Nat.zero_add, Nat.reduceAdd, Nat.reduceMul, getD_bv, take_bytes, List.length_map, List.getD_cons_zero, ty3, ty22, ty26]; try rfl
        · first | rfl | (simp only [closed, closedL, closed_u4, closed_ul, closedL_cl, closedL_bv, Bool.and_self, Bool.and_true]; done) | (simp only [closed, closedL, closed_u4, closed_ul, closedL_cl, closedL_bv, Bool.and_self, Bool.and_true]; rfl)
        · exact int_eq (by rw [blen_zero]; rfl)
        · simp only [resAll_cons, resAll_nil, resPVl_0, resPVl_1, resPVl_2, resOne_tmp, resOne_cell, List.map_cons, List.map_nil, clg0, clg1, clg2, clg3, splice_cl, splice_one, len_cl, evalIn_tmp, evalIn_const, evalIn_func, lookup_cons, Nat.reduceBEq, cond_true, cond_false, lit_ul0, lit_ul1, loadF, partF, List.getElem?_cons_zero, List.getElem?_cons_succ, List.set_cons_zero, List.set_cons_succ, List.cons_append, List.nil_append, true_and, and_true, and_self, Nat.le_refl, Nat.reduceLeDiff, isAggD, Bool.false_eq_true, if_false, if_true, reduceIte, take_cl, agg_cl, List.drop_zero, Int.toNat_natCast, Int.reduceToNat, Int.toNat_zero, n_add_zero, Nat.mul_one, Nat.zero_add, Nat.reduceAdd, Nat.reduceMul, getD_bv, take_bytes, List.length_map, List.getD_cons_zero, ty3, ty22, ty26]; try trivial
      · simp only [show ((m + 1 : Nat) : Int) - 1 = (m : Int) by omega]
        repeat' (first
          | (with_reducible first | apply seqC_normal | apply blockC_normal | apply seqC_exit | apply blockC_hit | apply seqC_ret | apply blockC_ret | apply loopC_ret | apply loopC_exit)
          | ((with_reducible apply blockC_miss); (exact rfl))
          | ((with_reducible apply wC_seq e24_7; apply wC_seq e24_8; apply wC_region e24_9); refine vOps_open (l := _ :: _) rfl ?_; refine kOps_mv rfl rfl rfl rfl ?_; refine kOps_bin (b := .geq) (pre := ?_) (val := ?_) rfl rfl rfl rfl rfl ?_ ?_ ?_; rotate_left 2; (intro L; simp only [clg0, clg1, clg2, clg3, splice_cl, splice_one, len_cl, Nat.mod_eq_of_lt la, Int.toNat_natCast, eql_u4 ty26 ty22, neq_u4 ty26 ty22, geq_ul, binF_geq, Int.reduceAdd, Int.reduceSub, Int.reduceMul, Int.reduceNeg, Int.sub_zero, Int.cast_ofNat_Int, ne_eq, Int.reduceLT, Int.reduceLE, Int.reduceEq, Nat.reduceMod, Nat.reduceLT, decide_true, decide_false, ty3]; (first | (rw [wrap_i64] <;> first | omega | rfl) | (rw [wrap_u8] <;> first | omega | rfl) | (rw [wrap_u16] <;> first | omega | rfl) | (rw [wrap_u32] <;> first | omega | rfl) | rfl)); exact trivial; refine vOps_nil ?_; (with_reducible apply seqC_normal; apply kC_cond e24_10); (exact rfl); all_goals (intro hb; first | (cases hb; done) | cases hb | ((try simp only [decide_eq_true_eq, decide_eq_false_iff_not, Bool.not_eq_true', Bool.not_eq_false'] at hb); try (exfalso; first | omega | exact hb trivial))))
          | ((with_reducible apply wC_skip e24_11))
          | ((with_reducible apply wC_exit e24_12))
          | ((with_reducible apply wC_seq e24_13; apply wC_block e24_14; apply wC_seq e24_15; apply wC_region e24_16); refine vOps_open (l := _ :: _) rfl ?_; (first | refine kOps_loadp (pre := ?_) (val := ?_) rfl rfl rfl rfl rfl ty26 ?_ ?_ ?_ | refine kOps_loadr (pre := ?_) (val := ?_) rfl rfl rfl rfl ty26 ?_ ?_ ?_); rotate_left 2; (simp only [clg0, clg1, clg2, clg3, splice_cl, splice_one, len_cl, Nat.mod_eq_of_lt la, Int.toNat_natCast, partF, isAggD, Bool.false_eq_true, if_false, if_true, reduceIte, take_cl, agg_cl, List.drop_zero, Int.reduceToNat, Int.toNat_zero, n_add_zero, Nat.mul_one, Nat.zero_add, Nat.reduceAdd, Nat.reduceMul, getD_bv, take_bytes, List.length_map, List.getD_cons_zero]; rfl); (focus ((repeat' apply And.intro) <;> first | exact True.intro | omega | (with_reducible rfl) | assumption | exact ⟨_, rfl⟩ | (simp only [one_cl, one_ul, cells_u4, cells_ul, len_cl, List.all_cons, List.all_nil, Bool.and_self, List.length_cons, List.length_nil]; done) | (simp only [len_cl]; omega) | (simp [Value.cells, Value.oneCell']; done))); refine kOps_mv rfl rfl rfl rfl ?_; refine kOps_callc (pre := ?_) (val := ?_) rfl rfl rfl rfl rfl ?_ ?_ ?_ ?_ ?_; rotate_left 2; (simp only [clg0, clg1, clg2, clg3, splice_cl, splice_one, len_cl, Nat.mod_eq_of_lt la, Int.toNat_natCast, sBit, nrmC, List.map_cons, List.map_nil, nrm_ul, nrm_u4, nrm_nil, nrm_int, nrm_bool, nrm_string, nrm_ro, nrm_agg, nrm_rptr, isul_ul, ulv_ul, isU_u4, uv_u4, bytesOf_bv, isB_bv, true_and, and_true, and_self, n_add_zero, Nat.zero_add, Nat.zero_mod, n_sub_zero]; rfl); (focus (first | rfl | (simp only [closed, closedL, closed_ul, closed_u4, closedL_bv, closedL_cl, Bool.and_self, Bool.and_true]; done))); (focus (first | rfl | (simp only [closed, closedL, closed_ul, closed_u4, closedL_bv, closedL_cl, Bool.and_self, Bool.and_true]; done))); (focus ((repeat' apply And.intro) <;> first | exact True.intro | omega | (with_reducible rfl) | assumption | exact ⟨_, rfl⟩ | (simp only [one_cl, one_ul, cells_u4, cells_ul, len_cl, List.all_cons, List.all_nil, Bool.and_self, List.length_cons, List.length_nil]; done) | (simp only [len_cl]; omega) | (simp [Value.cells, Value.oneCell']; done))); refine vOps_nil ?_; (with_reducible apply seqC_normal; apply kC_cond e24_17); (exact rfl); all_goals (intro hb; first | (cases hb; done) | cases hb | ((try simp only [decide_eq_true_eq, decide_eq_false_iff_not, Bool.not_eq_true', Bool.not_eq_false'] at hb); try (exfalso; first | omega | exact hb trivial))))
          | ((with_reducible apply wC_seq e24_18; apply wC_region e24_19); refine vOps_open (l := _ :: _) rfl ?_; refine kOps_mv rfl rfl rfl rfl ?_; refine kOps_bin (b := .add) (pre := ?_) (val := ?_) rfl rfl rfl rfl rfl ?_ ?_ ?_; rotate_left 2; (intro L; simp only [clg0, clg1, clg2, clg3, splice_cl, splice_one, len_cl, Nat.mod_eq_of_lt la, Int.toNat_natCast, eql_u4 ty26 ty22, neq_u4 ty26 ty22, add_ul, binF_add, Int.reduceAdd, Int.reduceSub, Int.reduceMul, Int.reduceNeg, Int.sub_zero, Int.cast_ofNat_Int, ne_eq, Int.reduceLT, Int.reduceLE, Int.reduceEq, Nat.reduceMod, Nat.reduceLT, decide_true, decide_false, ty3]; (first | (rw [wrap_i64] <;> first | omega | rfl) | (rw [wrap_u8] <;> first | omega | rfl) | (rw [wrap_u16] <;> first | omega | rfl) | (rw [wrap_u32] <;> first | omega | rfl) | rfl)); exact trivial; refine kOps_as rfl rfl rfl rfl ?_; refine vOps_nil ?_; (with_reducible apply seqC_normal; apply wC_ret e24_20))
          | ((with_reducible apply wC_skip e24_21))
          | ((with_reducible apply wC_region e24_22); refine vOps_open (l := _ :: _) rfl ?_; refine kOps_mv rfl rfl rfl rfl ?_; refine kOps_bin (b := .sub) (pre := ?_) (val := ?_) rfl rfl rfl rfl rfl ?_ ?_ ?_; rotate_left 2; (intro L; simp only [clg0, clg1, clg2, clg3, splice_cl, splice_one, len_cl, Nat.mod_eq_of_lt la, Int.toNat_natCast, eql_u4 ty26 ty22, neq_u4 ty26 ty22, sub_ul, binF_sub, Int.reduceAdd, Int.reduceSub, Int.reduceMul, Int.reduceNeg, Int.sub_zero, Int.cast_ofNat_Int, ne_eq, Int.reduceLT, Int.reduceLE, Int.reduceEq, Nat.reduceMod, Nat.reduceLT, decide_true, decide_false, ty3]; (first | (rw [wrap_i64] <;> first | omega | rfl) | (rw [wrap_u8] <;> first | omega | rfl) | (rw [wrap_u16] <;> first | omega | rfl) | (rw [wrap_u32] <;> first | omega | rfl) | rfl)); exact trivial; refine kOps_as rfl rfl rfl rfl ?_; refine vOps_nil ?_)
          | ((with_reducible apply wC_seq e24_23; apply wC_region e24_24); refine vOps_open (l := _ :: _) rfl ?_; refine kOps_as rfl rfl rfl rfl ?_; refine vOps_nil ?_; (with_reducible apply seqC_normal; apply wC_ret e24_25)))
        · refine fin_c (p := ?_) (xs := [.tmp 2]) (by simp) rfl ?_ ?_ ?_ ?_
          rotate_left 2
          · simp only [resAll_cons, resAll_nil, resPVl_0, resPVl_1, resPVl_2, resOne_tmp, resOne_cell, List.map_cons, List.map_nil, clg0, clg1, clg2, clg3, splice_cl, splice_one, len_cl, Nat.mod_eq_of_lt la, Int.toNat_natCast, evalIn_tmp, evalIn_const, evalIn_func, lookup_cons, Nat.reduceBEq, cond_true, cond_false, lit_ul0, lit_ul1, loadF, partF, List.getElem?_cons_zero, List.getElem?_cons_succ, List.set_cons_zero, List.set_cons_succ, List.cons_append, List.nil_append, true_and, and_true, and_self, Nat.le_refl, Nat.reduceLeDiff, isAggD, Bool.false_eq_true, if_false, if_true, reduceIte, take_cl, agg_cl, List.drop_zero, Int.reduceToNat, Int.toNat_zero, n_add_zero, Nat.mul_one, Nat.zero_add, Nat.reduceAdd, Nat.reduceMul, getD_bv, take_bytes, List.length_map, List.getD_cons_zero, ty3, ty22, ty26]; try rfl
          · first | rfl | (simp only [closed, closedL, closed_u4, closed_ul, closedL_cl, closedL_bv, Bool.and_self, Bool.and_true]; done) | (simp only [closed, closedL, closed_u4, closed_ul, closedL_cl, closedL_bv, Bool.and_self, Bool.and_true]; rfl)
          · exact int_eq (by rw [blen_bit hlt (by assumption)]; omega)
          · simp only [resAll_cons, resAll_nil, resPVl_0, resPVl_1, resPVl_2, resOne_tmp, resOne_cell, List.map_cons, List.map_nil, clg0, clg1, clg2, clg3, splice_cl, splice_one, len_cl, Nat.mod_eq_of_lt la, Int.toNat_natCast, evalIn_tmp, evalIn_const, evalIn_func, lookup_cons, Nat.reduceBEq, cond_true, cond_false, lit_ul0, lit_ul1, loadF, partF, List.getElem?_cons_zero, List.getElem?_cons_succ, List.set_cons_zero, List.set_cons_succ, List.cons_append, List.nil_append, true_and, and_true, and_self, Nat.le_refl, Nat.reduceLeDiff, isAggD, Bool.false_eq_true, if_false, if_true, reduceIte, take_cl, agg_cl, List.drop_zero, Int.reduceToNat, Int.toNat_zero, n_add_zero, Nat.mul_one, Nat.zero_add, Nat.reduceAdd, Nat.reduceMul, getD_bv, take_bytes, List.length_map, List.getD_cons_zero, ty3, ty22, ty26]; try trivial
        · refine loopC_normal ⟨m, by omega, lt_bit hlt (by assumption)⟩ [0] (by show m < m + 1; omega) ?_
          refine weak_mk (fun i h => absurd h (Nat.not_lt_zero i)) (by decide) (by simp) ?_ ?_
          · simp only [RenRows, List.nil_append, List.cons_append, List.set_cons_zero, List.set_cons_succ, List.getElem?_cons_zero, List.getElem?_cons_succ, Option.some.injEq, LE.cells.injEq, closedL_bv, closedL_cl, and_true, true_and]
            all_goals (trivial)
          · simp only [RenEnv, lookup_cons, Nat.reduceBEq, cond_true, cond_false]
            (repeat' apply And.intro) <;> first | trivial | exact ren_keep rfl | exact ren_keep (closed_u4 _) | (refine ren_int ?_; omega) | (refine ren_own rfl ?_; first | rfl | omega | (simp; done) | (omega; done)) | (refine ren_int ?_; omega; done) | (refine ren_int ?_; simp; done) | (refine ren_keep ?_; simp only [closed, closedL_bv, closedL_rows, closedL_cl]; done) | (refine ren_ptr rfl; done)
  · exact hS.elim
end Go.Ab
