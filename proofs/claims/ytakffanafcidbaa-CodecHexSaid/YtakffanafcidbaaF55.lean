import Derived.Test.YtakffanafcidbaaSM
import Derived.Test.YtakffanafcidbaaF62
import Derived.Test.YtakffanafcidbaaF56
namespace Go.Ab
open Go Go.Proofs
set_option linter.unusedVariables false
set_option linter.unusedSimpArgs false
set_option maxRecDepth 4000
set_option maxHeartbeats 2000000

theorem f55_ok : PureOk Try.prog 55 S55 := by
  refine pureOk_of (Γ := conOf [(62, nrmC S62), (56, nrmC S56)]) (conOf_ok (conOf_one (pureOk_nrm f62_ok) (conOf_one (pureOk_nrm f56_ok) (conOf_end)))) mixed Try.func55 rfl (by decide) Try.call55 ?_
  intro args hS
  unfold S55 at hS ⊢
  unfold rdS at hS ⊢
  split at hS
  · rename_i n cs a
    refine ⟨by rw [Try.ntmps55]; simp, vC_sound ?_⟩
    obtain ⟨h1, h2, h3, h4⟩ := hS
    obtain ⟨xs, rfl, rfl⟩ := isB_out h1
    simp only [bytesOf_bv]
    simp only [entry_cons, entry_nil, Nat.reduceAdd]
    by_cases hz : needM xs.length a 8 = 0
    · obtain ⟨g1, g2, g3⟩ := needM_ok hz
      repeat' (first
        | refine vC_seq ?_
        | refine vC_region ?_
        | (refine vC_drawT (l1 := ?_) (l2 := ?_) 4 (by decide) (by decide) (by decide) (by decide) ?_ ?_ ?_; rotate_left 2; (simp only [List.take_succ_cons, List.take_zero]; rfl); (simp only [List.drop_succ_cons, List.drop_zero]; rfl))
        | (refine vC_drawT (l1 := ?_) (l2 := ?_) 8 (by decide) (by decide) (by decide) (by decide) ?_ ?_ ?_; rotate_left 2; (simp only [List.take_succ_cons, List.take_zero]; rfl); (simp only [List.drop_succ_cons, List.drop_zero]; rfl))
        | refine vC_draw (by decide) ?_
        | refine vC_skip ?_
        | refine vC_ret ?_
        | refine vC_exit ?_
        | refine vC_block ?_
        | refine seqC_normal ?_
        | refine seqC_ret ?_
        | refine seqC_exit ?_
        | refine blockC_normal ?_
        | refine blockC_ret ?_
        | refine blockC_hit ?_
        | refine blockC_miss rfl ?_
        | refine loopC_ret ?_
        | refine loopC_exit ?_
        | refine vOps_nil ?_
        | (refine vOps_frz (t := ?_) (id := ?_) (off := ?_) (n := ?_) (sz := ?_) (pre := ?_) (cs := ?_) rfl ?_ ?_ ?_ ?_ ?_ ?_; rotate_left 7; (simp only [firstOwn, List.toList_toArray, lookup_cons, Nat.reduceBEq, cond_true, cond_false]; rfl); (simp only [lookup_cons, Nat.reduceBEq, cond_true, cond_false]; rfl); (simp only [slc, List.getElem?_cons_zero, List.getElem?_cons_succ, List.set_cons_zero, List.set_cons_succ, List.drop_zero, List.take_succ_cons, List.take_zero, List.take_nil, take_bytes, Nat.mul_one, Nat.one_mul, Nat.zero_add, Nat.add_zero, List.length_cons, List.length_nil, List.length_map, closedL, closed, closedL_bv, closedL_rows, Bool.and_true, Bool.true_and, Bool.and_self, List.append_nil, List.nil_append, newB, bv, List.map_cons, List.map_nil, lookup_cons, Nat.reduceBEq, cond_true, cond_false]; rfl); (focus ((repeat' apply And.intro) <;> first | trivial | omega | rfl | assumption | exact ⟨_, rfl⟩ | exact ⟨_ :: _, rfl⟩ | exact (isByte_bv _).2 trivial | exact (isB_one _ (by omega)).2 trivial | exact ((isB_one _ (by omega)).2 trivial).2 | exact one_bv _ | (simp [Value.oneCell', PV.one, one_bv, closedL_bv, flatL_bv, closedL, closed, isByte_bv, Value.cells]; done) | (simp [Value.oneCell', PV.one, closedL_bv, closedL, closed, Value.cells]; omega))); (focus (first | (simp only [slc, List.getElem?_cons_zero, List.getElem?_cons_succ, List.set_cons_zero, List.set_cons_succ, List.drop_zero, List.take_succ_cons, List.take_zero, List.take_nil, take_bytes, Nat.mul_one, Nat.one_mul, Nat.zero_add, Nat.add_zero, List.length_cons, List.length_nil, List.length_map, closedL, closed, closedL_bv, closedL_rows, Bool.and_true, Bool.true_and, Bool.and_self, List.append_nil, List.nil_append, newB, bv, List.map_cons, List.map_nil, lookup_cons, Nat.reduceBEq, cond_true, cond_false]; done) | (simp only [slc, List.getElem?_cons_zero, List.getElem?_cons_succ, List.set_cons_zero, List.set_cons_succ, List.drop_zero, List.take_succ_cons, List.take_zero, List.take_nil, take_bytes, Nat.mul_one, Nat.one_mul, Nat.zero_add, Nat.add_zero, List.length_cons, List.length_nil, List.length_map, closedL, closed, closedL_bv, closedL_rows, Bool.and_true, Bool.true_and, Bool.and_self, List.append_nil, List.nil_append, newB, bv, List.map_cons, List.map_nil, lookup_cons, Nat.reduceBEq, cond_true, cond_false]; rfl))))
        | (first
            | refine vOps_op (pre := ?_) (val := ?_) (L' := ?_) rfl rfl rfl ?_ ?_ ?_
            | refine vOps_st (pre := ?_) (val := ?_) (L' := ?_) rfl rfl rfl ?_ ?_ ?_
            | (refine vOps_gop (pre := ?_) (val := ?_) (L' := ?_) rfl rfl ?_ rfl rfl ?_ ?_ ?_; rotate_left 3; (focus (simp only [lookup_cons, Nat.reduceBEq, cond_true, cond_false]; done)); rotate_right 3)
           rotate_left 3; (simp only [opF, evalIn_tmp, evalIn_const, evalIn_func, lookup_cons, Nat.reduceBEq, cond_true, cond_false, dro_bv, droOk_bv, bytesOf_u8, ByteArray.toList_mk, binF_add, binF_sub, binF_mul, binF_quo, binF_rem, binF_lss, binF_leq, binF_gtr, binF_geq, binF_eql, binF_neq, binF_and, binF_or, binF_xor, binF_shl, binF_shr, binF_seql, binF_sneq, convF, lenF, capF, makeF, appF, news, kill, slc, take_bytes, List.drop_zero, List.take_succ_cons, List.take_zero, List.take_nil, List.length_map, Nat.mul_one, Nat.zero_add, Nat.one_mul, List.reduceReplicate, sliceF, ints?, indexAddrF, elemAt, loadF, partF, isAggD, storeF, splice, boxF, allocF, buildSliceF, fillA, fieldF, indexF, extractF, copyF, fresh_own, fresh_ro, Int.cast_ofNat_Int, Int.sub_zero, Int.reduceSub, Int.reduceAdd, rep_zero, rep_u8, rep_slice, Nat.reduceLeDiff,  PV.cells, Value.cells, getD_bv, bv, List.getD_cons_zero, List.getD_cons_succ, List.getD_nil, ty22, ty5, ty3, ty23, ty25, ty69, ty9, ty4, ty29, ty31, ty36, List.getElem?_cons_zero, List.getElem?_cons_succ, List.length_cons, List.length_nil, Nat.reduceAdd, Nat.reduceSub, Nat.reduceMul, List.set_cons_zero, List.set_cons_succ, List.cons_append, List.nil_append, Option.map_some, Option.map_none, Int.toNat_zero, Int.toNat_natCast, if_true, if_false, Nat.reduceEqDiff, reduceIte, Bool.false_eq_true, IntKind.bits, List.map_cons, List.map_nil, List.toList_toArray, Int.reduceToNat, callF, conOf_cons, nrmC, nrm, adopt, borrow, borrowOk, closed, closedL, closedL_bv, closedL_rows, dro, droOk, flat, flatL, flatL_bv, List.forall_mem_cons, List.forall_mem_nil, newB, bytesOf_bv, bytesOf_one, isB_bv, isB_one, isRows, rowsOf, List.flatten_cons, List.flatten_nil, List.append_nil, Bool.and_true, Bool.true_and, Bool.and_self, true_or, or_true, or_false, false_or, true_and, and_true, and_self, clr, ↓unF_x8, ↓unF_x16, ↓unF_x32, ↓unF_x64, ↓S62_8, ↓S62_16, ↓S62_32, ↓S62_64, Int.reduceTDiv, S56]; (first | (rw [wrap_i64] <;> first | omega | rfl) | (rw [wrap_u64] <;> first | omega | rfl) | (rw [wrap_u8] <;> first | omega | rfl) | (rw [wrap_u16] <;> first | omega | rfl) | (rw [wrap_u32] <;> first | omega | rfl) | rfl)); (focus ((repeat' apply And.intro) <;> first | trivial | omega | rfl | assumption | exact ⟨_, rfl⟩ | exact ⟨_ :: _, rfl⟩ | exact (isByte_bv _).2 trivial | exact (isB_one _ (by omega)).2 trivial | exact ((isB_one _ (by omega)).2 trivial).2 | exact one_bv _ | (simp [Value.oneCell', PV.one, one_bv, closedL_bv, flatL_bv, closedL, closed, isByte_bv, Value.cells]; done) | (simp [Value.oneCell', PV.one, closedL_bv, closedL, closed, Value.cells]; omega))))
        | (refine vOps_gskip (b := ?_) rfl rfl ?_ ?_ ?_; rotate_left 1; (simp only [lookup_cons, Nat.reduceBEq, cond_true, cond_false]; rfl); (with_reducible first | exact tf_ne | exact ft_ne); simp only [putIn])
        | (refine vOps_gundef rfl rfl ?_ ?_; (focus (simp only [lookup_cons, Nat.reduceBEq, cond_true, cond_false]; done)); simp only [putIn])
        | (refine vOps_gpick (t := ?_) (val := ?_) rfl rfl ?_ rfl rfl ?_ ?_ ?_; rotate_left 2; (focus (simp only [lookup_cons, Nat.reduceBEq, cond_true, cond_false]; done)); (simp only [evalIn_tmp, evalIn_const, lookup_cons, Nat.reduceBEq, cond_true, cond_false]; rfl); (simp only [evalIn_tmp, evalIn_const, lookup_cons, Nat.reduceBEq, cond_true, cond_false]; rfl))
        | (refine vOps_pick (t := ?_) (val := ?_) rfl rfl rfl ?_ ?_ ?_; rotate_left 2; (simp only [evalIn_tmp, evalIn_const, lookup_cons, Nat.reduceBEq, cond_true, cond_false]; rfl); (simp only [evalIn_tmp, evalIn_const, lookup_cons, Nat.reduceBEq, cond_true, cond_false]; rfl))
        | (refine vOps_fork (b := ?_) rfl rfl ?_ ?_ ?_; rotate_left 1; (simp only [lookup_cons, Nat.reduceBEq, cond_true, cond_false]; rfl); all_goals (intro hb; simp only [hb]; (try simp only [decide_eq_true_eq, decide_eq_false_iff_not] at hb); try (exfalso; omega)))
        | (refine vOps_forkp (b := ?_) rfl ?_ ?_ ?_; rotate_left 1; (simp only [evalIn_tmp, lookup_cons, Nat.reduceBEq, cond_true, cond_false]; rfl); all_goals (intro hb; simp only [hb]; (try simp only [decide_eq_true_eq, decide_eq_false_iff_not] at hb); try (exfalso; omega)))
        | (refine vC_cond (t := ?_) ?_ ?_ ?_; rotate_left 1; (simp only [evalIn_tmp, lookup_cons, Nat.reduceBEq, cond_true, cond_false]; rfl); all_goals (intro hb; first | (simp only [reduceCtorEq] at hb; done) | ((try simp only [decide_eq_true_eq, decide_eq_false_iff_not] at hb); try (exfalso; omega)))))
      refine vC_loopI (ι := {i : Nat // i ≤ 8}) (fun i => ([(23, .lit (.int .i64 i.1)), (22, .lit (.int .i64 8)), (9, .lit (.int .u64 ((leN (win xs a.toNat i.1) : Nat) : Int))), (0, .ro xs.length (xs.map bv)), (1, .lit (.int .i64 a)), (7, .lit (.int .i64 8))], [])) (fun i => 8 - i.1) ⟨0, Nat.zero_le _⟩ [] ?_ ?_
      · show Weak _ _ _ _ _
        refine weak_mk (by decide) (by simp) ?_ ?_
        · simp only [RenRows, List.getElem?_cons_zero, List.getElem?_cons_succ, Option.some.injEq, LE.cells.injEq, closedL_bv, and_true, true_and]
          all_goals (trivial)
        · simp only [RenEnv, lookup_cons, Nat.reduceBEq, cond_true, cond_false]
          (repeat' apply And.intro) <;> first | trivial | exact ren_keep rfl | (refine ren_int ?_; omega) | (refine ren_own rfl ?_; first | rfl | omega | (simp; done) | (omega; done)) | (refine ren_int ?_; simp [win_zero, leN]; done) | (refine ren_int ?_; simp; done) | (refine ren_keep ?_; simp only [closed, closedL_bv, closedL_rows]; done) | (refine ren_ptr rfl; done)
      · intro ⟨i, hi⟩
        dsimp only
        have hw : (win xs a.toNat i).length = i := win_length (by omega)
        have hv := leN_lt (win xs a.toNat i)
        rw [hw] at hv
        have hb8 : (xs.getD (a + (i : Int)).toNat 0).toNat < 256 := (xs.getD (a + (i : Int)).toNat 0).toNat_lt
        have hstep : i < 8 → IntKind.u64.wrap ((BitVec.ofInt 64 ((leN (win xs a.toNat i) : Nat) : Int) ||| BitVec.ofInt 64 (IntKind.u64.wrap (((xs.getD (a + (i : Int)).toNat 0).toNat : Int) * 2 ^ (min (8 * (i : Int)).toNat 64)))).toNat : Int) = ((leN (win xs a.toNat (i + 1)) : Nat) : Int) := by
          intro hi2
          rw [win_snoc (by omega), leN_snoc, hw, show a.toNat + i = (a + (i : Int)).toNat by omega]
          exact or_step .u64 rfl _ _ i hv hb8 (by simp only [IntKind.bits]; omega)
        have hstep2 : i < 8 → ((BitVec.ofInt 64 ((leN (win xs a.toNat i) : Nat) : Int) ||| BitVec.ofInt 64 (IntKind.u64.wrap (((xs.getD (a + (i : Int)).toNat 0).toNat : Int) * 2 ^ (min (8 * (i : Int)).toNat 64)))).toNat : Int) = ((leN (win xs a.toNat (i + 1)) : Nat) : Int) := by
          intro hi2
          have := hstep hi2
          rwa [wrap_u64 (by omega) (by omega)] at this
        have hv2 : leN (win xs a.toNat i) < 2 ^ (8 * 8) := Nat.lt_of_lt_of_le hv (Nat.pow_le_pow_right (by omega) (by omega))
        repeat' (first
          | refine vC_seq ?_
          | refine vC_region ?_
          | (refine vC_drawT (l1 := ?_) (l2 := ?_) 4 (by decide) (by decide) (by decide) (by decide) ?_ ?_ ?_; rotate_left 2; (simp only [List.take_succ_cons, List.take_zero]; rfl); (simp only [List.drop_succ_cons, List.drop_zero]; rfl))
          | (refine vC_drawT (l1 := ?_) (l2 := ?_) 8 (by decide) (by decide) (by decide) (by decide) ?_ ?_ ?_; rotate_left 2; (simp only [List.take_succ_cons, List.take_zero]; rfl); (simp only [List.drop_succ_cons, List.drop_zero]; rfl))
          | refine vC_draw (by decide) ?_
          | refine vC_skip ?_
          | refine vC_ret ?_
          | refine vC_exit ?_
          | refine vC_block ?_
          | refine seqC_normal ?_
          | refine seqC_ret ?_
          | refine seqC_exit ?_
          | refine blockC_normal ?_
          | refine blockC_ret ?_
          | refine blockC_hit ?_
          | refine blockC_miss rfl ?_
          | refine loopC_ret ?_
          | refine loopC_exit ?_
          | refine vOps_nil ?_
          | (refine vOps_frz (t := ?_) (id := ?_) (off := ?_) (n := ?_) (sz := ?_) (pre := ?_) (cs := ?_) rfl ?_ ?_ ?_ ?_ ?_ ?_; rotate_left 7; (simp only [firstOwn, List.toList_toArray, lookup_cons, Nat.reduceBEq, cond_true, cond_false]; rfl); (simp only [lookup_cons, Nat.reduceBEq, cond_true, cond_false]; rfl); (simp only [slc, List.getElem?_cons_zero, List.getElem?_cons_succ, List.set_cons_zero, List.set_cons_succ, List.drop_zero, List.take_succ_cons, List.take_zero, List.take_nil, take_bytes, Nat.mul_one, Nat.one_mul, Nat.zero_add, Nat.add_zero, List.length_cons, List.length_nil, List.length_map, closedL, closed, closedL_bv, closedL_rows, Bool.and_true, Bool.true_and, Bool.and_self, List.append_nil, List.nil_append, newB, bv, List.map_cons, List.map_nil, lookup_cons, Nat.reduceBEq, cond_true, cond_false]; rfl); (focus ((repeat' apply And.intro) <;> first | trivial | omega | rfl | assumption | exact ⟨_, rfl⟩ | exact ⟨_ :: _, rfl⟩ | exact (isByte_bv _).2 trivial | exact (isB_one _ (by omega)).2 trivial | exact ((isB_one _ (by omega)).2 trivial).2 | exact one_bv _ | (simp [Value.oneCell', PV.one, one_bv, closedL_bv, flatL_bv, closedL, closed, isByte_bv, Value.cells]; done) | (simp [Value.oneCell', PV.one, closedL_bv, closedL, closed, Value.cells]; omega))); (focus (first | (simp only [slc, List.getElem?_cons_zero, List.getElem?_cons_succ, List.set_cons_zero, List.set_cons_succ, List.drop_zero, List.take_succ_cons, List.take_zero, List.take_nil, take_bytes, Nat.mul_one, Nat.one_mul, Nat.zero_add, Nat.add_zero, List.length_cons, List.length_nil, List.length_map, closedL, closed, closedL_bv, closedL_rows, Bool.and_true, Bool.true_and, Bool.and_self, List.append_nil, List.nil_append, newB, bv, List.map_cons, List.map_nil, lookup_cons, Nat.reduceBEq, cond_true, cond_false]; done) | (simp only [slc, List.getElem?_cons_zero, List.getElem?_cons_succ, List.set_cons_zero, List.set_cons_succ, List.drop_zero, List.take_succ_cons, List.take_zero, List.take_nil, take_bytes, Nat.mul_one, Nat.one_mul, Nat.zero_add, Nat.add_zero, List.length_cons, List.length_nil, List.length_map, closedL, closed, closedL_bv, closedL_rows, Bool.and_true, Bool.true_and, Bool.and_self, List.append_nil, List.nil_append, newB, bv, List.map_cons, List.map_nil, lookup_cons, Nat.reduceBEq, cond_true, cond_false]; rfl))))
          | (first
              | refine vOps_op (pre := ?_) (val := ?_) (L' := ?_) rfl rfl rfl ?_ ?_ ?_
              | refine vOps_st (pre := ?_) (val := ?_) (L' := ?_) rfl rfl rfl ?_ ?_ ?_
              | (refine vOps_gop (pre := ?_) (val := ?_) (L' := ?_) rfl rfl ?_ rfl rfl ?_ ?_ ?_; rotate_left 3; (focus (simp only [lookup_cons, Nat.reduceBEq, cond_true, cond_false]; done)); rotate_right 3)
             rotate_left 3; (simp only [opF, evalIn_tmp, evalIn_const, evalIn_func, lookup_cons, Nat.reduceBEq, cond_true, cond_false, dro_bv, droOk_bv, bytesOf_u8, ByteArray.toList_mk, binF_add, binF_sub, binF_mul, binF_quo, binF_rem, binF_lss, binF_leq, binF_gtr, binF_geq, binF_eql, binF_neq, binF_and, binF_or, binF_xor, binF_shl, binF_shr, binF_seql, binF_sneq, convF, lenF, capF, makeF, appF, news, kill, slc, take_bytes, List.drop_zero, List.take_succ_cons, List.take_zero, List.take_nil, List.length_map, Nat.mul_one, Nat.zero_add, Nat.one_mul, List.reduceReplicate, sliceF, ints?, indexAddrF, elemAt, loadF, partF, isAggD, storeF, splice, boxF, allocF, buildSliceF, fillA, fieldF, indexF, extractF, copyF, fresh_own, fresh_ro, Int.cast_ofNat_Int, Int.sub_zero, Int.reduceSub, Int.reduceAdd, rep_zero, rep_u8, rep_slice, Nat.reduceLeDiff,  PV.cells, Value.cells, getD_bv, bv, List.getD_cons_zero, List.getD_cons_succ, List.getD_nil, ty22, ty5, ty3, ty23, ty25, ty69, ty9, ty4, ty29, ty31, ty36, List.getElem?_cons_zero, List.getElem?_cons_succ, List.length_cons, List.length_nil, Nat.reduceAdd, Nat.reduceSub, Nat.reduceMul, List.set_cons_zero, List.set_cons_succ, List.cons_append, List.nil_append, Option.map_some, Option.map_none, Int.toNat_zero, Int.toNat_natCast, if_true, if_false, Nat.reduceEqDiff, reduceIte, Bool.false_eq_true, IntKind.bits, List.map_cons, List.map_nil, List.toList_toArray, Int.reduceToNat, callF, conOf_cons, nrmC, nrm, adopt, borrow, borrowOk, closed, closedL, closedL_bv, closedL_rows, dro, droOk, flat, flatL, flatL_bv, List.forall_mem_cons, List.forall_mem_nil, newB, bytesOf_bv, bytesOf_one, isB_bv, isB_one, isRows, rowsOf, List.flatten_cons, List.flatten_nil, List.append_nil, Bool.and_true, Bool.true_and, Bool.and_self, true_or, or_true, or_false, false_or, true_and, and_true, and_self, clr, ↓unF_x8, ↓unF_x16, ↓unF_x32, ↓unF_x64, ↓S62_8, ↓S62_16, ↓S62_32, ↓S62_64, Int.reduceTDiv, S56]; (first | (rw [wrap_i64] <;> first | omega | rfl) | (rw [wrap_u64] <;> first | omega | rfl) | (rw [wrap_u8] <;> first | omega | rfl) | (rw [wrap_u16] <;> first | omega | rfl) | (rw [wrap_u32] <;> first | omega | rfl) | rfl)); (focus ((repeat' apply And.intro) <;> first | trivial | omega | rfl | assumption | exact ⟨_, rfl⟩ | exact ⟨_ :: _, rfl⟩ | exact (isByte_bv _).2 trivial | exact (isB_one _ (by omega)).2 trivial | exact ((isB_one _ (by omega)).2 trivial).2 | exact one_bv _ | (simp [Value.oneCell', PV.one, one_bv, closedL_bv, flatL_bv, closedL, closed, isByte_bv, Value.cells]; done) | (simp [Value.oneCell', PV.one, closedL_bv, closedL, closed, Value.cells]; omega))))
          | (refine vOps_gskip (b := ?_) rfl rfl ?_ ?_ ?_; rotate_left 1; (simp only [lookup_cons, Nat.reduceBEq, cond_true, cond_false]; rfl); (with_reducible first | exact tf_ne | exact ft_ne); simp only [putIn])
          | (refine vOps_gundef rfl rfl ?_ ?_; (focus (simp only [lookup_cons, Nat.reduceBEq, cond_true, cond_false]; done)); simp only [putIn])
          | (refine vOps_gpick (t := ?_) (val := ?_) rfl rfl ?_ rfl rfl ?_ ?_ ?_; rotate_left 2; (focus (simp only [lookup_cons, Nat.reduceBEq, cond_true, cond_false]; done)); (simp only [evalIn_tmp, evalIn_const, lookup_cons, Nat.reduceBEq, cond_true, cond_false]; rfl); (simp only [evalIn_tmp, evalIn_const, lookup_cons, Nat.reduceBEq, cond_true, cond_false]; rfl))
          | (refine vOps_pick (t := ?_) (val := ?_) rfl rfl rfl ?_ ?_ ?_; rotate_left 2; (simp only [evalIn_tmp, evalIn_const, lookup_cons, Nat.reduceBEq, cond_true, cond_false]; rfl); (simp only [evalIn_tmp, evalIn_const, lookup_cons, Nat.reduceBEq, cond_true, cond_false]; rfl))
          | (refine vOps_fork (b := ?_) rfl rfl ?_ ?_ ?_; rotate_left 1; (simp only [lookup_cons, Nat.reduceBEq, cond_true, cond_false]; rfl); all_goals (intro hb; simp only [hb]; (try simp only [decide_eq_true_eq, decide_eq_false_iff_not] at hb); try (exfalso; omega)))
          | (refine vOps_forkp (b := ?_) rfl ?_ ?_ ?_; rotate_left 1; (simp only [evalIn_tmp, lookup_cons, Nat.reduceBEq, cond_true, cond_false]; rfl); all_goals (intro hb; simp only [hb]; (try simp only [decide_eq_true_eq, decide_eq_false_iff_not] at hb); try (exfalso; omega)))
          | (refine vC_cond (t := ?_) ?_ ?_ ?_; rotate_left 1; (simp only [evalIn_tmp, lookup_cons, Nat.reduceBEq, cond_true, cond_false]; rfl); all_goals (intro hb; first | (simp only [reduceCtorEq] at hb; done) | ((try simp only [decide_eq_true_eq, decide_eq_false_iff_not] at hb); try (exfalso; omega)))))
        · refine loopC_normal (⟨i + 1, by omega⟩ : {i : Nat // i ≤ 8}) [] (by show 8 - (i + 1) < 8 - i; omega) ?_
          show Weak _ _ _ _ _
          refine weak_mk (by decide) (by simp) ?_ ?_
          · simp only [RenRows, List.getElem?_cons_zero, List.getElem?_cons_succ, Option.some.injEq, LE.cells.injEq, closedL_bv, and_true, true_and]
            all_goals (trivial)
          · simp only [RenEnv, lookup_cons, Nat.reduceBEq, cond_true, cond_false]
            (repeat' apply And.intro) <;> first | trivial | exact ren_keep rfl | (refine ren_int ?_; omega) | (refine ren_own rfl ?_; first | rfl | omega | (simp; done) | (omega; done)) | (refine ren_int ?_; first | exact hstep (by omega) | exact hstep2 (by omega); done) | (refine ren_int ?_; simp; done) | (refine ren_keep ?_; simp only [closed, closedL_bv, closedL_rows]; done) | (refine ren_ptr rfl; done)
        · obtain rfl : i = 8 := by omega
          repeat' (first
            | refine vC_seq ?_
            | refine vC_region ?_
            | (refine vC_drawT (l1 := ?_) (l2 := ?_) 4 (by decide) (by decide) (by decide) (by decide) ?_ ?_ ?_; rotate_left 2; (simp only [List.take_succ_cons, List.take_zero]; rfl); (simp only [List.drop_succ_cons, List.drop_zero]; rfl))
            | (refine vC_drawT (l1 := ?_) (l2 := ?_) 8 (by decide) (by decide) (by decide) (by decide) ?_ ?_ ?_; rotate_left 2; (simp only [List.take_succ_cons, List.take_zero]; rfl); (simp only [List.drop_succ_cons, List.drop_zero]; rfl))
            | refine vC_draw (by decide) ?_
            | refine vC_skip ?_
            | refine vC_ret ?_
            | refine vC_exit ?_
            | refine vC_block ?_
            | refine seqC_normal ?_
            | refine seqC_ret ?_
            | refine seqC_exit ?_
            | refine blockC_normal ?_
            | refine blockC_ret ?_
            | refine blockC_hit ?_
            | refine blockC_miss rfl ?_
            | refine loopC_ret ?_
            | refine loopC_exit ?_
            | refine vOps_nil ?_
            | (refine vOps_frz (t := ?_) (id := ?_) (off := ?_) (n := ?_) (sz := ?_) (pre := ?_) (cs := ?_) rfl ?_ ?_ ?_ ?_ ?_ ?_; rotate_left 7; (simp only [firstOwn, List.toList_toArray, lookup_cons, Nat.reduceBEq, cond_true, cond_false]; rfl); (simp only [lookup_cons, Nat.reduceBEq, cond_true, cond_false]; rfl); (simp only [slc, List.getElem?_cons_zero, List.getElem?_cons_succ, List.set_cons_zero, List.set_cons_succ, List.drop_zero, List.take_succ_cons, List.take_zero, List.take_nil, take_bytes, Nat.mul_one, Nat.one_mul, Nat.zero_add, Nat.add_zero, List.length_cons, List.length_nil, List.length_map, closedL, closed, closedL_bv, closedL_rows, Bool.and_true, Bool.true_and, Bool.and_self, List.append_nil, List.nil_append, newB, bv, List.map_cons, List.map_nil, lookup_cons, Nat.reduceBEq, cond_true, cond_false]; rfl); (focus ((repeat' apply And.intro) <;> first | trivial | omega | rfl | assumption | exact ⟨_, rfl⟩ | exact ⟨_ :: _, rfl⟩ | exact (isByte_bv _).2 trivial | exact (isB_one _ (by omega)).2 trivial | exact ((isB_one _ (by omega)).2 trivial).2 | exact one_bv _ | (simp [Value.oneCell', PV.one, one_bv, closedL_bv, flatL_bv, closedL, closed, isByte_bv, Value.cells]; done) | (simp [Value.oneCell', PV.one, closedL_bv, closedL, closed, Value.cells]; omega))); (focus (first | (simp only [slc, List.getElem?_cons_zero, List.getElem?_cons_succ, List.set_cons_zero, List.set_cons_succ, List.drop_zero, List.take_succ_cons, List.take_zero, List.take_nil, take_bytes, Nat.mul_one, Nat.one_mul, Nat.zero_add, Nat.add_zero, List.length_cons, List.length_nil, List.length_map, closedL, closed, closedL_bv, closedL_rows, Bool.and_true, Bool.true_and, Bool.and_self, List.append_nil, List.nil_append, newB, bv, List.map_cons, List.map_nil, lookup_cons, Nat.reduceBEq, cond_true, cond_false]; done) | (simp only [slc, List.getElem?_cons_zero, List.getElem?_cons_succ, List.set_cons_zero, List.set_cons_succ, List.drop_zero, List.take_succ_cons, List.take_zero, List.take_nil, take_bytes, Nat.mul_one, Nat.one_mul, Nat.zero_add, Nat.add_zero, List.length_cons, List.length_nil, List.length_map, closedL, closed, closedL_bv, closedL_rows, Bool.and_true, Bool.true_and, Bool.and_self, List.append_nil, List.nil_append, newB, bv, List.map_cons, List.map_nil, lookup_cons, Nat.reduceBEq, cond_true, cond_false]; rfl))))
            | (first
                | refine vOps_op (pre := ?_) (val := ?_) (L' := ?_) rfl rfl rfl ?_ ?_ ?_
                | refine vOps_st (pre := ?_) (val := ?_) (L' := ?_) rfl rfl rfl ?_ ?_ ?_
                | (refine vOps_gop (pre := ?_) (val := ?_) (L' := ?_) rfl rfl ?_ rfl rfl ?_ ?_ ?_; rotate_left 3; (focus (simp only [lookup_cons, Nat.reduceBEq, cond_true, cond_false]; done)); rotate_right 3)
               rotate_left 3; (simp only [opF, evalIn_tmp, evalIn_const, evalIn_func, lookup_cons, Nat.reduceBEq, cond_true, cond_false, dro_bv, droOk_bv, bytesOf_u8, ByteArray.toList_mk, binF_add, binF_sub, binF_mul, binF_quo, binF_rem, binF_lss, binF_leq, binF_gtr, binF_geq, binF_eql, binF_neq, binF_and, binF_or, binF_xor, binF_shl, binF_shr, binF_seql, binF_sneq, convF, lenF, capF, makeF, appF, news, kill, slc, take_bytes, List.drop_zero, List.take_succ_cons, List.take_zero, List.take_nil, List.length_map, Nat.mul_one, Nat.zero_add, Nat.one_mul, List.reduceReplicate, sliceF, ints?, indexAddrF, elemAt, loadF, partF, isAggD, storeF, splice, boxF, allocF, buildSliceF, fillA, fieldF, indexF, extractF, copyF, fresh_own, fresh_ro, Int.cast_ofNat_Int, Int.sub_zero, Int.reduceSub, Int.reduceAdd, rep_zero, rep_u8, rep_slice, Nat.reduceLeDiff,  PV.cells, Value.cells, getD_bv, bv, List.getD_cons_zero, List.getD_cons_succ, List.getD_nil, ty22, ty5, ty3, ty23, ty25, ty69, ty9, ty4, ty29, ty31, ty36, List.getElem?_cons_zero, List.getElem?_cons_succ, List.length_cons, List.length_nil, Nat.reduceAdd, Nat.reduceSub, Nat.reduceMul, List.set_cons_zero, List.set_cons_succ, List.cons_append, List.nil_append, Option.map_some, Option.map_none, Int.toNat_zero, Int.toNat_natCast, if_true, if_false, Nat.reduceEqDiff, reduceIte, Bool.false_eq_true, IntKind.bits, List.map_cons, List.map_nil, List.toList_toArray, Int.reduceToNat, callF, conOf_cons, nrmC, nrm, adopt, borrow, borrowOk, closed, closedL, closedL_bv, closedL_rows, dro, droOk, flat, flatL, flatL_bv, List.forall_mem_cons, List.forall_mem_nil, newB, bytesOf_bv, bytesOf_one, isB_bv, isB_one, isRows, rowsOf, List.flatten_cons, List.flatten_nil, List.append_nil, Bool.and_true, Bool.true_and, Bool.and_self, true_or, or_true, or_false, false_or, true_and, and_true, and_self, clr, ↓unF_x8, ↓unF_x16, ↓unF_x32, ↓unF_x64, ↓S62_8, ↓S62_16, ↓S62_32, ↓S62_64, Int.reduceTDiv, S56]; (first | (rw [wrap_i64] <;> first | omega | rfl) | (rw [wrap_u64] <;> first | omega | rfl) | (rw [wrap_u8] <;> first | omega | rfl) | (rw [wrap_u16] <;> first | omega | rfl) | (rw [wrap_u32] <;> first | omega | rfl) | rfl)); (focus ((repeat' apply And.intro) <;> first | trivial | omega | rfl | assumption | exact ⟨_, rfl⟩ | exact ⟨_ :: _, rfl⟩ | exact (isByte_bv _).2 trivial | exact (isB_one _ (by omega)).2 trivial | exact ((isB_one _ (by omega)).2 trivial).2 | exact one_bv _ | (simp [Value.oneCell', PV.one, one_bv, closedL_bv, flatL_bv, closedL, closed, isByte_bv, Value.cells]; done) | (simp [Value.oneCell', PV.one, closedL_bv, closedL, closed, Value.cells]; omega))))
            | (refine vOps_gskip (b := ?_) rfl rfl ?_ ?_ ?_; rotate_left 1; (simp only [lookup_cons, Nat.reduceBEq, cond_true, cond_false]; rfl); (with_reducible first | exact tf_ne | exact ft_ne); simp only [putIn])
            | (refine vOps_gundef rfl rfl ?_ ?_; (focus (simp only [lookup_cons, Nat.reduceBEq, cond_true, cond_false]; done)); simp only [putIn])
            | (refine vOps_gpick (t := ?_) (val := ?_) rfl rfl ?_ rfl rfl ?_ ?_ ?_; rotate_left 2; (focus (simp only [lookup_cons, Nat.reduceBEq, cond_true, cond_false]; done)); (simp only [evalIn_tmp, evalIn_const, lookup_cons, Nat.reduceBEq, cond_true, cond_false]; rfl); (simp only [evalIn_tmp, evalIn_const, lookup_cons, Nat.reduceBEq, cond_true, cond_false]; rfl))
            | (refine vOps_pick (t := ?_) (val := ?_) rfl rfl rfl ?_ ?_ ?_; rotate_left 2; (simp only [evalIn_tmp, evalIn_const, lookup_cons, Nat.reduceBEq, cond_true, cond_false]; rfl); (simp only [evalIn_tmp, evalIn_const, lookup_cons, Nat.reduceBEq, cond_true, cond_false]; rfl))
            | (refine vOps_fork (b := ?_) rfl rfl ?_ ?_ ?_; rotate_left 1; (simp only [lookup_cons, Nat.reduceBEq, cond_true, cond_false]; rfl); all_goals (intro hb; simp only [hb]; (try simp only [decide_eq_true_eq, decide_eq_false_iff_not] at hb); try (exfalso; omega)))
            | (refine vOps_forkp (b := ?_) rfl ?_ ?_ ?_; rotate_left 1; (simp only [evalIn_tmp, lookup_cons, Nat.reduceBEq, cond_true, cond_false]; rfl); all_goals (intro hb; simp only [hb]; (try simp only [decide_eq_true_eq, decide_eq_false_iff_not] at hb); try (exfalso; omega)))
            | (refine vC_cond (t := ?_) ?_ ?_ ?_; rotate_left 1; (simp only [evalIn_tmp, lookup_cons, Nat.reduceBEq, cond_true, cond_false]; rfl); all_goals (intro hb; first | (simp only [reduceCtorEq] at hb; done) | ((try simp only [decide_eq_true_eq, decide_eq_false_iff_not] at hb); try (exfalso; omega)))))
          refine fin_3 (pre := ?_) (pre' := ?_) (pre'' := ?_) (p := ?_) (q := ?_) (s := ?_) (by simp) rfl ?_ ?_ ?_ ?_ ?_ ?_ ?_ ?_
          rotate_left 6
          · simp only [resOne_tmp, lookup_cons, Nat.reduceBEq, cond_true, cond_false]; rfl
          · simp only [resOne_tmp, lookup_cons, Nat.reduceBEq, cond_true, cond_false]; rfl
          · simp only [resOne_tmp, lookup_cons, Nat.reduceBEq, cond_true, cond_false]; rfl
          · trivial
          · trivial
          · trivial
          · rw [shut_lits rfl]; trivial
          · rw [shut_lits rfl]
            simp [rdV, rdP, hz]
    · skip
      repeat' (first
        | refine vC_seq ?_
        | refine vC_region ?_
        | (refine vC_drawT (l1 := ?_) (l2 := ?_) 4 (by decide) (by decide) (by decide) (by decide) ?_ ?_ ?_; rotate_left 2; (simp only [List.take_succ_cons, List.take_zero]; rfl); (simp only [List.drop_succ_cons, List.drop_zero]; rfl))
        | (refine vC_drawT (l1 := ?_) (l2 := ?_) 8 (by decide) (by decide) (by decide) (by decide) ?_ ?_ ?_; rotate_left 2; (simp only [List.take_succ_cons, List.take_zero]; rfl); (simp only [List.drop_succ_cons, List.drop_zero]; rfl))
        | refine vC_draw (by decide) ?_
        | refine vC_skip ?_
        | refine vC_ret ?_
        | refine vC_exit ?_
        | refine vC_block ?_
        | refine seqC_normal ?_
        | refine seqC_ret ?_
        | refine seqC_exit ?_
        | refine blockC_normal ?_
        | refine blockC_ret ?_
        | refine blockC_hit ?_
        | refine blockC_miss rfl ?_
        | refine loopC_ret ?_
        | refine loopC_exit ?_
        | refine vOps_nil ?_
        | (refine vOps_frz (t := ?_) (id := ?_) (off := ?_) (n := ?_) (sz := ?_) (pre := ?_) (cs := ?_) rfl ?_ ?_ ?_ ?_ ?_ ?_; rotate_left 7; (simp only [firstOwn, List.toList_toArray, lookup_cons, Nat.reduceBEq, cond_true, cond_false]; rfl); (simp only [lookup_cons, Nat.reduceBEq, cond_true, cond_false]; rfl); (simp only [slc, List.getElem?_cons_zero, List.getElem?_cons_succ, List.set_cons_zero, List.set_cons_succ, List.drop_zero, List.take_succ_cons, List.take_zero, List.take_nil, take_bytes, Nat.mul_one, Nat.one_mul, Nat.zero_add, Nat.add_zero, List.length_cons, List.length_nil, List.length_map, closedL, closed, closedL_bv, closedL_rows, Bool.and_true, Bool.true_and, Bool.and_self, List.append_nil, List.nil_append, newB, bv, List.map_cons, List.map_nil, lookup_cons, Nat.reduceBEq, cond_true, cond_false]; rfl); (focus ((repeat' apply And.intro) <;> first | trivial | omega | rfl | assumption | exact ⟨_, rfl⟩ | exact ⟨_ :: _, rfl⟩ | exact (isByte_bv _).2 trivial | exact (isB_one _ (by omega)).2 trivial | exact ((isB_one _ (by omega)).2 trivial).2 | exact one_bv _ | (simp [Value.oneCell', PV.one, one_bv, closedL_bv, flatL_bv, closedL, closed, isByte_bv, Value.cells]; done) | (simp [Value.oneCell', PV.one, closedL_bv, closedL, closed, Value.cells]; omega))); (focus (first | (simp only [slc, List.getElem?_cons_zero, List.getElem?_cons_succ, List.set_cons_zero, List.set_cons_succ, List.drop_zero, List.take_succ_cons, List.take_zero, List.take_nil, take_bytes, Nat.mul_one, Nat.one_mul, Nat.zero_add, Nat.add_zero, List.length_cons, List.length_nil, List.length_map, closedL, closed, closedL_bv, closedL_rows, Bool.and_true, Bool.true_and, Bool.and_self, List.append_nil, List.nil_append, newB, bv, List.map_cons, List.map_nil, lookup_cons, Nat.reduceBEq, cond_true, cond_false]; done) | (simp only [slc, List.getElem?_cons_zero, List.getElem?_cons_succ, List.set_cons_zero, List.set_cons_succ, List.drop_zero, List.take_succ_cons, List.take_zero, List.take_nil, take_bytes, Nat.mul_one, Nat.one_mul, Nat.zero_add, Nat.add_zero, List.length_cons, List.length_nil, List.length_map, closedL, closed, closedL_bv, closedL_rows, Bool.and_true, Bool.true_and, Bool.and_self, List.append_nil, List.nil_append, newB, bv, List.map_cons, List.map_nil, lookup_cons, Nat.reduceBEq, cond_true, cond_false]; rfl))))
        | (first
            | refine vOps_op (pre := ?_) (val := ?_) (L' := ?_) rfl rfl rfl ?_ ?_ ?_
            | refine vOps_st (pre := ?_) (val := ?_) (L' := ?_) rfl rfl rfl ?_ ?_ ?_
            | (refine vOps_gop (pre := ?_) (val := ?_) (L' := ?_) rfl rfl ?_ rfl rfl ?_ ?_ ?_; rotate_left 3; (focus (simp only [lookup_cons, Nat.reduceBEq, cond_true, cond_false]; done)); rotate_right 3)
           rotate_left 3; (simp only [opF, evalIn_tmp, evalIn_const, evalIn_func, lookup_cons, Nat.reduceBEq, cond_true, cond_false, dro_bv, droOk_bv, bytesOf_u8, ByteArray.toList_mk, binF_add, binF_sub, binF_mul, binF_quo, binF_rem, binF_lss, binF_leq, binF_gtr, binF_geq, binF_eql, binF_neq, binF_and, binF_or, binF_xor, binF_shl, binF_shr, binF_seql, binF_sneq, convF, lenF, capF, makeF, appF, news, kill, slc, take_bytes, List.drop_zero, List.take_succ_cons, List.take_zero, List.take_nil, List.length_map, Nat.mul_one, Nat.zero_add, Nat.one_mul, List.reduceReplicate, sliceF, ints?, indexAddrF, elemAt, loadF, partF, isAggD, storeF, splice, boxF, allocF, buildSliceF, fillA, fieldF, indexF, extractF, copyF, fresh_own, fresh_ro, Int.cast_ofNat_Int, Int.sub_zero, Int.reduceSub, Int.reduceAdd, rep_zero, rep_u8, rep_slice, Nat.reduceLeDiff,  PV.cells, Value.cells, getD_bv, bv, List.getD_cons_zero, List.getD_cons_succ, List.getD_nil, ty22, ty5, ty3, ty23, ty25, ty69, ty9, ty4, ty29, ty31, ty36, List.getElem?_cons_zero, List.getElem?_cons_succ, List.length_cons, List.length_nil, Nat.reduceAdd, Nat.reduceSub, Nat.reduceMul, List.set_cons_zero, List.set_cons_succ, List.cons_append, List.nil_append, Option.map_some, Option.map_none, Int.toNat_zero, Int.toNat_natCast, if_true, if_false, Nat.reduceEqDiff, reduceIte, Bool.false_eq_true, IntKind.bits, List.map_cons, List.map_nil, List.toList_toArray, Int.reduceToNat, callF, conOf_cons, nrmC, nrm, adopt, borrow, borrowOk, closed, closedL, closedL_bv, closedL_rows, dro, droOk, flat, flatL, flatL_bv, List.forall_mem_cons, List.forall_mem_nil, newB, bytesOf_bv, bytesOf_one, isB_bv, isB_one, isRows, rowsOf, List.flatten_cons, List.flatten_nil, List.append_nil, Bool.and_true, Bool.true_and, Bool.and_self, true_or, or_true, or_false, false_or, true_and, and_true, and_self, clr, ↓unF_x8, ↓unF_x16, ↓unF_x32, ↓unF_x64, ↓S62_8, ↓S62_16, ↓S62_32, ↓S62_64, Int.reduceTDiv, S56]; (first | (rw [wrap_i64] <;> first | omega | rfl) | (rw [wrap_u64] <;> first | omega | rfl) | (rw [wrap_u8] <;> first | omega | rfl) | (rw [wrap_u16] <;> first | omega | rfl) | (rw [wrap_u32] <;> first | omega | rfl) | rfl)); (focus ((repeat' apply And.intro) <;> first | trivial | omega | rfl | assumption | exact ⟨_, rfl⟩ | exact ⟨_ :: _, rfl⟩ | exact (isByte_bv _).2 trivial | exact (isB_one _ (by omega)).2 trivial | exact ((isB_one _ (by omega)).2 trivial).2 | exact one_bv _ | (simp [Value.oneCell', PV.one, one_bv, closedL_bv, flatL_bv, closedL, closed, isByte_bv, Value.cells]; done) | (simp [Value.oneCell', PV.one, closedL_bv, closedL, closed, Value.cells]; omega))))
        | (refine vOps_gskip (b := ?_) rfl rfl ?_ ?_ ?_; rotate_left 1; (simp only [lookup_cons, Nat.reduceBEq, cond_true, cond_false]; rfl); (with_reducible first | exact tf_ne | exact ft_ne); simp only [putIn])
        | (refine vOps_gundef rfl rfl ?_ ?_; (focus (simp only [lookup_cons, Nat.reduceBEq, cond_true, cond_false]; done)); simp only [putIn])
        | (refine vOps_gpick (t := ?_) (val := ?_) rfl rfl ?_ rfl rfl ?_ ?_ ?_; rotate_left 2; (focus (simp only [lookup_cons, Nat.reduceBEq, cond_true, cond_false]; done)); (simp only [evalIn_tmp, evalIn_const, lookup_cons, Nat.reduceBEq, cond_true, cond_false]; rfl); (simp only [evalIn_tmp, evalIn_const, lookup_cons, Nat.reduceBEq, cond_true, cond_false]; rfl))
        | (refine vOps_pick (t := ?_) (val := ?_) rfl rfl rfl ?_ ?_ ?_; rotate_left 2; (simp only [evalIn_tmp, evalIn_const, lookup_cons, Nat.reduceBEq, cond_true, cond_false]; rfl); (simp only [evalIn_tmp, evalIn_const, lookup_cons, Nat.reduceBEq, cond_true, cond_false]; rfl))
        | (refine vOps_fork (b := ?_) rfl rfl ?_ ?_ ?_; rotate_left 1; (simp only [lookup_cons, Nat.reduceBEq, cond_true, cond_false]; rfl); all_goals (intro hb; simp only [hb]; (try simp only [decide_eq_true_eq, decide_eq_false_iff_not] at hb); try (exfalso; omega)))
        | (refine vOps_forkp (b := ?_) rfl ?_ ?_ ?_; rotate_left 1; (simp only [evalIn_tmp, lookup_cons, Nat.reduceBEq, cond_true, cond_false]; rfl); all_goals (intro hb; simp only [hb]; (try simp only [decide_eq_true_eq, decide_eq_false_iff_not] at hb); try (exfalso; omega)))
        | (refine vC_cond (t := ?_) ?_ ?_ ?_; rotate_left 1; (simp only [evalIn_tmp, lookup_cons, Nat.reduceBEq, cond_true, cond_false]; rfl); all_goals (intro hb; first | (simp only [reduceCtorEq] at hb; done) | ((try simp only [decide_eq_true_eq, decide_eq_false_iff_not] at hb); try (exfalso; omega)))))
      refine fin_3 (pre := ?_) (pre' := ?_) (pre'' := ?_) (p := ?_) (q := ?_) (s := ?_) (by simp) rfl ?_ ?_ ?_ ?_ ?_ ?_ ?_ ?_
      rotate_left 6
      · simp only [resOne_tmp, lookup_cons, Nat.reduceBEq, cond_true, cond_false]; rfl
      · simp only [resOne_tmp, lookup_cons, Nat.reduceBEq, cond_true, cond_false]; rfl
      · simp only [resOne_tmp, lookup_cons, Nat.reduceBEq, cond_true, cond_false]; rfl
      · trivial
      · trivial
      · trivial
      · rw [shut_lits rfl]; trivial
      · rw [shut_lits rfl]
        simp [rdV, rdP, hz]
  · exact hS.elim
end Go.Ab
