import Derived.Test.YtmnkapmcclhiiaaQZ
import Derived.Test.YtmnkapmcclhiiaaME
import Derived.Test.YtmnkapmcclhiiaaTY
import Derived.Test.YtmnkapmcclhiiaaZ4
import Derived.Test.YtmnkapmcclhiiaaZ5
import Derived.Test.YtmnkapmcclhiiaaMX
namespace Go.Ab
open Go Go.Proofs
open Nat (reduceAdd mod_eq_of_lt zero_add reduceMul reduceLeDiff reduceMod reduceLT zero_mod one_mul)
open List (length_cons length_nil all_nil all_cons length_map length_set length_append)
open Int (toNat_natCast reduceToNat cast_ofNat_Int)
set_option linter.unusedVariables false
set_option linter.unusedSimpArgs false
set_option maxRecDepth 8000
set_option maxHeartbeats 4000000
noncomputable def B62 : Code := bodyOf Try.f62
theorem B62_eq : Try.f62.body = some B62 := by kernel_rfl
noncomputable def n62_0 := B62
noncomputable def n62_1 := codeAt B62 [0]
noncomputable def n62_2 := codeAt B62 [1]
noncomputable def n62_3 := codeAt B62 [1,0]
noncomputable def n62_4 := codeAt B62 [1,0,0]
noncomputable def n62_5 := codeAt B62 [1,0,1]
noncomputable def n62_6 := codeAt B62 [1,0,1,0]
noncomputable def n62_7 := codeAt B62 [1,0,1,0,0]
noncomputable def n62_8 := codeAt B62 [1,0,1,0,1]
noncomputable def n62_9 := codeAt B62 [1,0,1,1]
noncomputable def n62_10 := codeAt B62 [1,1]
noncomputable def n62_11 := codeAt B62 [1,1,0]
noncomputable def n62_12 := codeAt B62 [1,1,1]
noncomputable def n62_13 := codeAt B62 [1,1,1,0]
noncomputable def n62_14 := codeAt B62 [1,1,1,0,0]
noncomputable def n62_15 := codeAt B62 [1,1,1,0,1]
noncomputable def n62_16 := codeAt B62 [1,1,1,0,1,0]
noncomputable def n62_17 := codeAt B62 [1,1,1,0,1,0,0]
noncomputable def n62_18 := codeAt B62 [1,1,1,0,1,0,0,0]
noncomputable def n62_19 := codeAt B62 [1,1,1,0,1,0,0,0,0]
noncomputable def n62_20 := codeAt B62 [1,1,1,0,1,0,0,0,1]
noncomputable def n62_21 := codeAt B62 [1,1,1,0,1,0,0,0,1,0]
noncomputable def n62_22 := codeAt B62 [1,1,1,0,1,0,0,0,1,1]
noncomputable def n62_23 := codeAt B62 [1,1,1,0,1,0,0,1]
noncomputable def n62_24 := codeAt B62 [1,1,1,0,1,0,0,1,0]
noncomputable def n62_25 := codeAt B62 [1,1,1,0,1,0,0,1,0,0]
noncomputable def n62_26 := codeAt B62 [1,1,1,0,1,0,0,1,0,0,0]
noncomputable def n62_27 := codeAt B62 [1,1,1,0,1,0,0,1,0,0,1]
noncomputable def n62_28 := codeAt B62 [1,1,1,0,1,0,0,1,0,0,1,0]
noncomputable def n62_29 := codeAt B62 [1,1,1,0,1,0,0,1,0,0,1,1]
noncomputable def n62_30 := codeAt B62 [1,1,1,0,1,0,0,1,0,0,1,1,0]
noncomputable def n62_31 := codeAt B62 [1,1,1,0,1,0,0,1,0,0,1,1,0,0]
noncomputable def n62_32 := codeAt B62 [1,1,1,0,1,0,0,1,0,0,1,1,0,1]
noncomputable def n62_33 := codeAt B62 [1,1,1,0,1,0,0,1,0,0,1,1,0,1,0]
noncomputable def n62_34 := codeAt B62 [1,1,1,0,1,0,0,1,0,0,1,1,0,1,1]
noncomputable def n62_35 := codeAt B62 [1,1,1,0,1,0,0,1,0,0,1,1,1]
noncomputable def n62_36 := codeAt B62 [1,1,1,0,1,0,0,1,0,0,1,1,1,0]
noncomputable def n62_37 := codeAt B62 [1,1,1,0,1,0,0,1,0,0,1,1,1,1]
noncomputable def n62_38 := codeAt B62 [1,1,1,0,1,0,0,1,0,0,1,1,1,1,0]
noncomputable def n62_39 := codeAt B62 [1,1,1,0,1,0,0,1,0,0,1,1,1,1,0,0]
noncomputable def n62_40 := codeAt B62 [1,1,1,0,1,0,0,1,0,0,1,1,1,1,0,1]
noncomputable def n62_41 := codeAt B62 [1,1,1,0,1,0,0,1,0,0,1,1,1,1,1]
noncomputable def n62_42 := codeAt B62 [1,1,1,0,1,0,0,1,1]
noncomputable def n62_43 := codeAt B62 [1,1,1,1]
noncomputable def n62_44 := codeAt B62 [1,1,1,1,0]
noncomputable def n62_45 := codeAt B62 [1,1,1,1,1]
theorem e62_0 : n62_0 = .seq n62_1 n62_2 := rfl
noncomputable def r62_1 := opsAt n62_1
theorem e62_1 : n62_1 = .region 0 (r62_1).toArray false := rfl
theorem e62_2 : n62_2 = .seq n62_3 n62_10 := rfl
theorem e62_3 : n62_3 = .seq n62_4 n62_5 := rfl
noncomputable def r62_4 := opsAt n62_4
theorem e62_4 : n62_4 = .region 1 (r62_4).toArray false := rfl
theorem e62_5 : n62_5 = .cond (.tmp 14) n62_6 n62_9 := rfl
theorem e62_6 : n62_6 = .seq n62_7 n62_8 := rfl
noncomputable def r62_7 := opsAt n62_7
theorem e62_7 : n62_7 = .region 2 (r62_7).toArray true := rfl
theorem a62_7 : anyOk r62_7 = true := by decide +kernel
theorem e62_8 : n62_8 = .ret := rfl
theorem e62_9 : n62_9 = .skip := rfl
theorem e62_10 : n62_10 = .seq n62_11 n62_12 := rfl
noncomputable def r62_11 := opsAt n62_11
theorem e62_11 : n62_11 = .region 3 (r62_11).toArray false := rfl
theorem e62_12 : n62_12 = .seq n62_13 n62_43 := rfl
theorem e62_13 : n62_13 = .seq n62_14 n62_15 := rfl
noncomputable def r62_14 := opsAt n62_14
theorem e62_14 : n62_14 = .region 4 (r62_14).toArray false := rfl
theorem e62_15 : n62_15 = .block 0 n62_16 := rfl
theorem e62_16 : n62_16 = .loop n62_17 := rfl
theorem e62_17 : n62_17 = .seq n62_18 n62_23 := rfl
theorem e62_18 : n62_18 = .seq n62_19 n62_20 := rfl
noncomputable def r62_19 := opsAt n62_19
theorem e62_19 : n62_19 = .region 5 (r62_19).toArray false := rfl
theorem e62_20 : n62_20 = .cond (.tmp 19) n62_21 n62_22 := rfl
theorem e62_21 : n62_21 = .skip := rfl
theorem e62_22 : n62_22 = .exit 0 := rfl
theorem e62_23 : n62_23 = .seq n62_24 n62_42 := rfl
theorem e62_24 : n62_24 = .block 1 n62_25 := rfl
theorem e62_25 : n62_25 = .seq n62_26 n62_27 := rfl
noncomputable def r62_26 := opsAt n62_26
theorem e62_26 : n62_26 = .region 7 (r62_26).toArray false := rfl
theorem e62_27 : n62_27 = .seq n62_28 n62_29 := rfl
noncomputable def r62_28 := opsAt n62_28
theorem e62_28 : n62_28 = .region 8 (r62_28).toArray false := rfl
theorem e62_29 : n62_29 = .seq n62_30 n62_35 := rfl
theorem e62_30 : n62_30 = .seq n62_31 n62_32 := rfl
noncomputable def r62_31 := opsAt n62_31
theorem e62_31 : n62_31 = .region 9 (r62_31).toArray false := rfl
theorem e62_32 : n62_32 = .cond (.tmp 32) n62_33 n62_34 := rfl
noncomputable def r62_33 := opsAt n62_33
theorem e62_33 : n62_33 = .region 10 (r62_33).toArray false := rfl
theorem e62_34 : n62_34 = .skip := rfl
theorem e62_35 : n62_35 = .seq n62_36 n62_37 := rfl
noncomputable def r62_36 := opsAt n62_36
theorem e62_36 : n62_36 = .region 11 (r62_36).toArray false := rfl
theorem g62_36_1 : (r62_36[1]?).bind (·.dst) = some 38 := by decide +kernel
theorem e62_37 : n62_37 = .cond (.tmp 43) n62_38 n62_41 := rfl
theorem e62_38 : n62_38 = .seq n62_39 n62_40 := rfl
noncomputable def r62_39 := opsAt n62_39
theorem e62_39 : n62_39 = .region 12 (r62_39).toArray false := rfl
noncomputable def r62_40 := opsAt n62_40
theorem e62_40 : n62_40 = .region 13 (r62_40).toArray true := rfl
theorem a62_40 : anyOk r62_40 = true := by decide +kernel
theorem e62_41 : n62_41 = .skip := rfl
noncomputable def r62_42 := opsAt n62_42
theorem e62_42 : n62_42 = .region 6 (r62_42).toArray false := rfl
theorem e62_43 : n62_43 = .seq n62_44 n62_45 := rfl
noncomputable def r62_44 := opsAt n62_44
theorem e62_44 : n62_44 = .region 14 (r62_44).toArray true := rfl
theorem a62_44 : anyOk r62_44 = true := by decide +kernel
theorem e62_45 : n62_45 = .ret := rfl
theorem f_ref02_Div : PureOk Try.prog 62 sDiv := by
  refine pureOk_of (c := n62_0) (Γ := conOf [(35, .pure sSub), (41, .pure sCmp), (56, .pure sAdd), (58, .pure sBit)]) (conOf_ok (conOf_one (S := .pure sSub) f_ref02_Sub (conOf_one (S := .pure sCmp) f_ref02_Cmp (conOf_one (S := .pure sAdd) f_ref02_Add (conOf_one (S := .pure sBit) f_ref02_Bit (conOf_end)))))) mixed Try.func62 B62_eq (by decide +kernel) Try.call62 ?_
  intro args hS
  unfold sDiv at hS ⊢
  split at hS
  · refine ⟨by rw [Try.ntmps62]; simp, vC_sound ?_⟩
    rename_i xh xl xb
    obtain ⟨hh, hl, hb⟩ := hS
    obtain ⟨h, lh, rfl⟩ := isU_out hh
    obtain ⟨l, ll, rfl⟩ := isU_out hl
    obtain ⟨b, lb, rfl⟩ := isU_out hb
    simp only [uv_u4, mod_eq_of_lt lh, mod_eq_of_lt ll, mod_eq_of_lt lb]
    clear hh hl hb
    simp only [qz26, reduceAdd]
    repeat' (first | (with_reducible first | apply seqC_normal | apply blockC_normal | apply seqC_exit | apply blockC_hit | apply seqC_ret | apply blockC_ret | apply loopC_ret | apply loopC_exit) | ((with_reducible apply blockC_miss); (exact rfl)) | ((with_reducible apply wC_seq e62_0; apply wC_region e62_1); refine vOps_open (l := _ :: _) rfl ?_) | ((with_reducible apply wC_seq e62_2; apply wC_seq e62_3; apply wC_region e62_4); refine vOps_open (l := _ :: _) rfl ?_) | ((with_reducible apply kC_cond e62_5); (exact rfl); all_goals (intro hb; first | (cases hb; done) | cases hb | ((try simp only [dxe] at hb); try (exfalso; first | omega | exact hb trivial)))) | ((with_reducible apply wC_seq e62_6; apply wC_any e62_7 a62_7); refine vOps_open (l := _ :: _) rfl ?_) | ((with_reducible apply wC_ret e62_8)) | ((with_reducible apply wC_skip e62_9)) | ((with_reducible apply wC_seq e62_10; apply wC_region e62_11); refine vOps_open (l := _ :: _) rfl ?_) | ((with_reducible apply wC_seq e62_12; apply wC_seq e62_13; apply wC_region e62_14); refine vOps_open (l := _ :: _) rfl ?_) | ((with_reducible apply wC_block e62_15)) | ((with_reducible apply wC_seq e62_43; apply wC_any e62_44 a62_44); refine vOps_open (l := _ :: _) rfl ?_) | ((with_reducible apply wC_ret e62_45)) | ((with_reducible apply vOps_nil); try (with_reducible refine And.intro (by kernel_rfl) ?_)) | (refine kOps_box (row := ?_) (n := ?_) rfl rfl rfl rfl rfl ?_ ?_ ?_ ?_; rotate_left 2; (simp only [↓length_append, ↓length_set, ↓length_cons, length_nil, reduceAdd, zero_add]; rfl); (simp only [qz1, splice_cl, splice_one, len_cl, mod_eq_of_lt lb, mod_eq_of_lt lh, qz14]; rfl); (focus (first | rfl | exact one_cl _ _ | exact one_bv _ | (simp only [qz19, all_cons, all_nil, Bool.and_self, PV.one]; done) | (simp [PV.one, qz19, one_bv, Value.oneCell']; done)))) | (refine kOps_alloc (row := ?_) (n := ?_) rfl rfl rfl rfl ty24 ?_ ?_ ?_ ?_; rotate_left 2; (simp only [↓length_append, ↓length_set, ↓length_cons, length_nil, reduceAdd, zero_add]; rfl); (simp only [qz1, splice_cl, splice_one, len_cl, mod_eq_of_lt lb, mod_eq_of_lt lh, Value.cells, qz9, List.toList_toArray, zero_cl4, zero_cl8, lit_ul0]; rfl); (focus (first | (simp only [Value.cells, List.toList_toArray, qz23, Value.oneCell', and_self]; done) | (simp [Value.cells, Value.oneCell']; done)))) | (refine kOps_as rfl rfl rfl rfl ?_) | ((first | refine kOps_loadp (pre := ?_) (val := ?_) rfl rfl rfl rfl rfl ty24 ?_ ?_ ?_ | refine kOps_loadr (pre := ?_) (val := ?_) rfl rfl rfl rfl ty24 ?_ ?_ ?_); rotate_left 2; (simp only [qz1, splice_cl, splice_one, len_cl, mod_eq_of_lt lb, mod_eq_of_lt lh, partF, isAggD, qz0, if_false, if_true, reduceIte, agg_cl, toNat_natCast, reduceToNat, qz4, n_add_zero, zero_add, reduceAdd, reduceMul, qz15, length_map]; rfl); (focus ((repeat' apply And.intro) <;> first | exact True.intro | omega | (with_reducible rfl) | assumption | exact ⟨_, rfl⟩ | (simp only [sda]; done) | (simp only [len_cl]; omega) | (simp [Value.cells, Value.oneCell']; done)))) | (refine kOps_callc (pre := ?_) (val := ?_) rfl rfl rfl rfl rfl ?_ ?_ ?_ ?_ ?_; rotate_left 2; (simp only [qz1, splice_cl, splice_one, len_cl, mod_eq_of_lt lb, mod_eq_of_lt lh, sSub, sCmp, sAdd, sBit, lit_ul0, lit_ul1, nrmC, qz9, qz8, qz25, ulv_ul, uv_u4, qz12, and_self, n_add_zero, zero_add, zero_mod, n_sub_zero]; rfl); (focus (first | rfl | (simp only [closed, closedL, qz18, closedL_bv, closedL_cl, Bool.and_self, Bool.and_true]; done))); (focus (first | rfl | (simp only [closed, closedL, qz18, closedL_bv, closedL_cl, Bool.and_self, Bool.and_true]; done))); (focus ((repeat' apply And.intro) <;> first | exact True.intro | omega | (with_reducible rfl) | assumption | exact ⟨_, rfl⟩ | (simp only [sda]; done) | (simp only [len_cl]; omega) | (simp [Value.cells, Value.oneCell']; done)))) | (refine kOps_bin (b := .leq) (pre := ?_) (val := ?_) rfl rfl rfl rfl rfl ?_ ?_ ?_; rotate_left 2; (intro L; simp only [qz1, splice_cl, splice_one, len_cl, mod_eq_of_lt lb, mod_eq_of_lt lh, eql_u4 ty24 ty22, neq_u4 ty24 ty22, lit_ul0, lit_ul1, leq_ul, binF_leq, Int.reduceAdd, Int.reduceSub, Int.reduceMul, Int.reduceNeg, Int.sub_zero, cast_ofNat_Int, ne_eq, Int.reduceLT, Int.reduceLE, Int.reduceEq, reduceMod, reduceLT, qz5, ty3]; (first | (rw [wrap_i64] <;> first | omega | rfl) | (rw [wrap_u8] <;> first | omega | rfl) | (rw [wrap_u16] <;> first | omega | rfl) | (rw [wrap_u32] <;> first | omega | rfl) | rfl)); exact trivial) | (refine kOps_store (cs' := ?_) rfl rfl rfl rfl rfl rfl rfl ty24 ?_ ?_ ?_; rotate_left 1; (simp only [qz1, splice_cl, splice_one, len_cl, mod_eq_of_lt lb, mod_eq_of_lt lh, lit_ul0, lit_ul1, qz14, isAggD, qz0, if_false, if_true, reduceIte, agg_cl, toNat_natCast, reduceToNat, qz4, n_add_zero, zero_add, reduceAdd, reduceMul, qz15, length_map]; rfl); (focus (first | (simp only [lit_ul0, lit_ul1, qz14, length_cons, length_nil, len_cl, length_set, length_map, reduceAdd, zero_add, all_cons, all_nil, qz19, one_bv, PV.one, Value.oneCell', Bool.and_self, reduceLeDiff, Nat.le_refl, and_self, qz12]; done) | ((try simp only [lit_ul0, lit_ul1, qz14]); (focus ((repeat' apply And.intro) <;> first | exact True.intro | omega | (with_reducible rfl) | assumption | exact ⟨_, rfl⟩ | (simp only [sda]; done) | (simp only [len_cl]; omega) | (simp [Value.cells, Value.oneCell']; done))))))))
    · refine fin_c (p := ?_) (xs := [.cell 6 24, .cell 7 24, .tmp 8]) (by simp) rfl ?_ ?_ ?_ ?_
      rotate_left 2
      · simp only [rsx, qz9, qz1, splice_cl, splice_one, len_cl, mod_eq_of_lt lb, mod_eq_of_lt lh, evalIn_tmp, evalIn_const, evalIn_func, qz7, Nat.reduceBEq, lit_ul0, lit_ul1, loadF, partF, qz3, qz6, qz16, qz12, and_self, Nat.le_refl, reduceLeDiff, isAggD, qz0, if_false, if_true, reduceIte, agg_cl, toNat_natCast, reduceToNat, qz4, n_add_zero, zero_add, reduceAdd, reduceMul, qz15, length_map, ty3, ty22, ty24]; try rfl
      · first | rfl | (simp only [closed, closedL, qz18, closedL_cl, closedL_bv, Bool.and_self, Bool.and_true]; first | done | rfl)
      · rw [if_pos (cmp_le hb)]
      · simp only [rsx, qz9, qz1, splice_cl, splice_one, len_cl, mod_eq_of_lt lb, mod_eq_of_lt lh, evalIn_tmp, evalIn_const, evalIn_func, qz7, Nat.reduceBEq, lit_ul0, lit_ul1, loadF, partF, qz3, qz6, qz16, qz12, and_self, Nat.le_refl, reduceLeDiff, isAggD, qz0, if_false, if_true, reduceIte, agg_cl, toNat_natCast, reduceToNat, qz4, n_add_zero, zero_add, reduceAdd, reduceMul, qz15, length_map, ty3, ty22, ty24]; try trivial
    · have hlt : h < b := cmp_gt hb
      have inv : DivInv (2 ^ 256) (h * 115792089237316195423570985008687907853269984665640564039457584007913129639936 + l) b 0 h (l % 2 ^ 256) := by
        have e : (2 : Nat) ^ 256 = 115792089237316195423570985008687907853269984665640564039457584007913129639936 := by decide
        rw [e, mod_eq_of_lt ll]; exact DivInv.start hlt ll
      refine wC_loopI (ι := {x : Nat × Nat × Nat // x.1 ≤ 256 ∧ DivInv (2 ^ x.1) (h * 115792089237316195423570985008687907853269984665640564039457584007913129639936 + l) b x.2.1 x.2.2 (l % 2 ^ x.1)}) e62_16 (fun x => ([(4, .ptr 1 0), (5, .ptr 2 0), (6, .ptr 3 0), (7, .ptr 4 0), (9, .lit (.int .i64 ((x.1.1 : Int) - 1)))], [.cells (cl 4 h), .cells (cl 4 l), .cells (cl 4 b), .cells (cl 4 x.1.2.1), .cells (cl 4 x.1.2.2)])) (fun x => x.1.1) ⟨(256, 0, h), Nat.le_refl _, inv⟩ [0, 1, 2, 3, 4] ?_ ?_
      · show Weak _ _ _ _ _ _
        refine weak_mk (fun i h => absurd h (Nat.not_lt_zero i)) (by decide) (by simp) ?_ ?_
        · simp only [RenRows, qz16, qz6, qz3, qz28, closedL_bv, closedL_cl, qz12]
          all_goals (trivial)
        · simp only [RenEnv, qz7, Nat.reduceBEq]
          (repeat' apply And.intro) <;> first | trivial | exact ren_keep rfl | exact ren_keep (closed_u4 _) | (refine ren_int ?_; omega) | (refine ren_own rfl ?_; first | rfl | omega | (simp; done) | (omega; done)) | (refine ren_int ?_; omega; done) | (refine ren_int ?_; simp; done) | (refine ren_keep ?_; simp only [closed, closedL_bv, closedL_rows, closedL_cl]; done) | (refine ren_ptr rfl; done)
      · clear inv
        rintro ⟨⟨t, q, r⟩, ht, inv⟩
        dsimp only at ht inv ⊢
        rcases t with _ | m
        · simp only [show ((0 : Nat) : Int) - 1 = -1 from rfl]
          simp only [Nat.pow_zero, Nat.mod_one] at inv
          repeat' (first | (with_reducible first | apply seqC_normal | apply blockC_normal | apply seqC_exit | apply blockC_hit | apply seqC_ret | apply blockC_ret | apply loopC_ret | apply loopC_exit) | ((with_reducible apply blockC_miss); (exact rfl)) | ((with_reducible apply wC_seq e62_17; apply wC_seq e62_18; apply wC_region e62_19); refine vOps_open (l := _ :: _) rfl ?_; refine kOps_mv rfl rfl rfl rfl ?_; refine kOps_bin (b := .geq) (pre := ?_) (val := ?_) rfl rfl rfl rfl rfl ?_ ?_ ?_; rotate_left 2; (intro L; simp only [qz1, splice_cl, splice_one, len_cl, eql_u4 ty24 ty22, neq_u4 ty24 ty22, qz33, Int.reduceAdd, Int.reduceSub, Int.reduceMul, Int.reduceNeg, Int.sub_zero, cast_ofNat_Int, ne_eq, Int.reduceLT, Int.reduceLE, Int.reduceEq, reduceMod, reduceLT, qz5, ty3]; (first | (rw [wrap_i64] <;> first | omega | rfl) | (rw [wrap_u8] <;> first | omega | rfl) | (rw [wrap_u16] <;> first | omega | rfl) | (rw [wrap_u32] <;> first | omega | rfl) | rfl)); exact trivial; refine vOps_nil ?_; (with_reducible apply seqC_normal; apply kC_cond e62_20); (exact rfl); all_goals (intro hb; first | (cases hb; done) | cases hb | ((try simp only [dxe] at hb); try (exfalso; first | omega | exact hb trivial)))) | ((with_reducible apply wC_skip e62_21)) | ((with_reducible apply wC_exit e62_22)) | ((with_reducible apply wC_seq e62_43; apply wC_any e62_44 a62_44); refine vOps_open (l := _ :: _) rfl ?_; (first | refine kOps_loadp (pre := ?_) (val := ?_) rfl rfl rfl rfl rfl ty24 ?_ ?_ ?_ | refine kOps_loadr (pre := ?_) (val := ?_) rfl rfl rfl rfl ty24 ?_ ?_ ?_); rotate_left 2; (simp only [qz1, splice_cl, splice_one, len_cl, partF, isAggD, qz0, if_false, if_true, reduceIte, agg_cl, toNat_natCast, reduceToNat, qz4, n_add_zero, zero_add, reduceAdd, reduceMul, qz15, length_map]; rfl); (focus ((repeat' apply And.intro) <;> first | exact True.intro | omega | (with_reducible rfl) | assumption | exact ⟨_, rfl⟩ | (simp only [sda]; done) | (simp only [len_cl]; omega) | (simp [Value.cells, Value.oneCell']; done))); (first | refine kOps_loadp (pre := ?_) (val := ?_) rfl rfl rfl rfl rfl ty24 ?_ ?_ ?_ | refine kOps_loadr (pre := ?_) (val := ?_) rfl rfl rfl rfl ty24 ?_ ?_ ?_); rotate_left 2; (simp only [qz1, splice_cl, splice_one, len_cl, partF, isAggD, qz0, if_false, if_true, reduceIte, agg_cl, toNat_natCast, reduceToNat, qz4, n_add_zero, zero_add, reduceAdd, reduceMul, qz15, length_map]; rfl); (focus ((repeat' apply And.intro) <;> first | exact True.intro | omega | (with_reducible rfl) | assumption | exact ⟨_, rfl⟩ | (simp only [sda]; done) | (simp only [len_cl]; omega) | (simp [Value.cells, Value.oneCell']; done))); refine kOps_store (cs' := ?_) rfl rfl rfl rfl rfl rfl rfl ty24 ?_ ?_ ?_; rotate_left 1; (simp only [qz1, splice_cl, splice_one, len_cl, qz14, isAggD, qz0, if_false, if_true, reduceIte, agg_cl, toNat_natCast, reduceToNat, qz4, n_add_zero, zero_add, reduceAdd, reduceMul, qz15, length_map]; rfl); (focus (first | (simp only [qz14, length_cons, length_nil, len_cl, length_set, length_map, reduceAdd, zero_add, all_cons, all_nil, qz19, one_bv, PV.one, Value.oneCell', Bool.and_self, reduceLeDiff, Nat.le_refl, and_self, qz12]; done) | ((try simp only [qz14]); (focus ((repeat' apply And.intro) <;> first | exact True.intro | omega | (with_reducible rfl) | assumption | exact ⟨_, rfl⟩ | (simp only [sda]; done) | (simp only [len_cl]; omega) | (simp [Value.cells, Value.oneCell']; done)))))); refine kOps_store (cs' := ?_) rfl rfl rfl rfl rfl rfl rfl ty24 ?_ ?_ ?_; rotate_left 1; (simp only [qz1, splice_cl, splice_one, len_cl, qz14, isAggD, qz0, if_false, if_true, reduceIte, agg_cl, toNat_natCast, reduceToNat, qz4, n_add_zero, zero_add, reduceAdd, reduceMul, qz15, length_map]; rfl); (focus (first | (simp only [qz14, length_cons, length_nil, len_cl, length_set, length_map, reduceAdd, zero_add, all_cons, all_nil, qz19, one_bv, PV.one, Value.oneCell', Bool.and_self, reduceLeDiff, Nat.le_refl, and_self, qz12]; done) | ((try simp only [qz14]); (focus ((repeat' apply And.intro) <;> first | exact True.intro | omega | (with_reducible rfl) | assumption | exact ⟨_, rfl⟩ | (simp only [sda]; done) | (simp only [len_cl]; omega) | (simp [Value.cells, Value.oneCell']; done)))))); refine kOps_as rfl rfl rfl rfl ?_; refine vOps_nil ?_; refine And.intro (by kernel_rfl) ?_; (with_reducible apply seqC_normal; apply wC_ret e62_45)))
          refine fin_c (p := ?_) (xs := [.cell 6 24, .cell 7 24, .tmp 8]) (by simp) rfl ?_ ?_ ?_ ?_
          rotate_left 2
          · simp only [rsx, qz9, qz1, splice_cl, splice_one, len_cl, evalIn_tmp, evalIn_const, evalIn_func, qz7, Nat.reduceBEq, lit_ul0, lit_ul1, loadF, partF, qz3, qz6, qz16, qz12, and_self, Nat.le_refl, reduceLeDiff, isAggD, qz0, if_false, if_true, reduceIte, agg_cl, toNat_natCast, reduceToNat, qz4, n_add_zero, zero_add, reduceAdd, reduceMul, qz15, length_map, ty3, ty22, ty24]; try rfl
          · first | rfl | (simp only [closed, closedL, qz18, closedL_cl, closedL_bv, Bool.and_self, Bool.and_true]; first | done | rfl)
          · rw [if_neg (by omega), (DivInv.done inv).1, (DivInv.done inv).2]
          · simp only [rsx, qz9, qz1, splice_cl, splice_one, len_cl, evalIn_tmp, evalIn_const, evalIn_func, qz7, Nat.reduceBEq, lit_ul0, lit_ul1, loadF, partF, qz3, qz6, qz16, qz12, and_self, Nat.le_refl, reduceLeDiff, isAggD, qz0, if_false, if_true, reduceIte, agg_cl, toNat_natCast, reduceToNat, qz4, n_add_zero, zero_add, reduceAdd, reduceMul, qz15, length_map, ty3, ty22, ty24]; try trivial
        · simp only [show ((m + 1 : Nat) : Int) - 1 = (m : Int) by omega]
          have hm : m < 256 := by omega
          have hlr := inv.lr
          have lr4 : r < 115792089237316195423570985008687907853269984665640564039457584007913129639936 := by omega
          have hb255 := top_bit lr4
          have hquo := ref_quo hm inv.lq inv.qlt
          repeat' (first | (with_reducible first | apply seqC_normal | apply blockC_normal | apply seqC_exit | apply blockC_hit | apply seqC_ret | apply blockC_ret | apply loopC_ret | apply loopC_exit) | ((with_reducible apply blockC_miss); (exact rfl)) | ((with_reducible apply wC_seq e62_17; apply wC_seq e62_18; apply wC_region e62_19); refine vOps_open (l := _ :: _) rfl ?_) | ((with_reducible apply kC_cond e62_20); (exact rfl); all_goals (intro hb; first | (cases hb; done) | cases hb | ((try simp only [dxe] at hb); try (exfalso; first | omega | exact hb trivial)))) | ((with_reducible apply wC_skip e62_21)) | ((with_reducible apply wC_exit e62_22)) | ((with_reducible apply wC_seq e62_23; apply wC_block e62_24; apply wC_seq e62_25; apply wC_region e62_26); refine vOps_open (l := _ :: _) rfl ?_) | ((with_reducible apply wC_seq e62_27; apply wC_region e62_28); refine vOps_open (l := _ :: _) rfl ?_) | ((with_reducible apply wC_seq e62_29; apply wC_seq e62_30; apply wC_region e62_31); refine vOps_open (l := _ :: _) rfl ?_) | ((with_reducible apply kC_cond e62_32); (exact rfl); all_goals (intro hb; first | (cases hb; done) | cases hb | ((try simp only [dxe] at hb); try (exfalso; first | omega | exact hb trivial)))) | ((with_reducible apply wC_region e62_33); refine vOps_open (l := _ :: _) rfl ?_) | ((with_reducible apply wC_skip e62_34)) | ((with_reducible apply wC_seq e62_35; apply wC_region e62_36); refine vOps_open (l := _ :: _) rfl ?_) | ((with_reducible apply kC_cond e62_37); (exact rfl); all_goals (intro hb; first | (cases hb; done) | cases hb | ((try simp only [dxe] at hb); try (exfalso; first | omega | exact hb trivial)))) | ((with_reducible apply wC_seq e62_38; apply wC_region e62_39); refine vOps_open (l := _ :: _) rfl ?_) | ((with_reducible apply wC_any e62_40 a62_40); refine vOps_open (l := _ :: _) rfl ?_) | ((with_reducible apply wC_skip e62_41)) | ((with_reducible apply wC_region e62_42); refine vOps_open (l := _ :: _) rfl ?_) | ((with_reducible apply wC_seq e62_43; apply wC_any e62_44 a62_44); refine vOps_open (l := _ :: _) rfl ?_) | ((with_reducible apply wC_ret e62_45)) | ((with_reducible apply vOps_nil); try (with_reducible refine And.intro (by kernel_rfl) ?_)) | (refine kOps_gon (g := ?_) (p := ?_) rfl rfl ?_ ?_ ?_ ?_; rotate_left 2; (with_reducible first | exact g62_36_1); (exact rfl); (with_reducible rfl)) | (refine kOps_gofft (g := ?_) (p := ?_) rfl rfl ?_ ?_ ?_ ?_; rotate_left 2; (with_reducible first | exact g62_36_1); (exact rfl); (with_reducible rfl)) | (refine kOps_gofff (g := ?_) (p := ?_) rfl rfl ?_ ?_ ?_ ?_; rotate_left 2; (with_reducible first | exact g62_36_1); (exact rfl); (with_reducible rfl)) | (refine kOps_pickt rfl rfl rfl rfl ?_ rfl ?_; (with_reducible rfl)) | (refine kOps_pickf rfl rfl rfl rfl ?_ rfl ?_; (with_reducible rfl)) | (refine kOps_mv rfl rfl rfl rfl ?_) | (refine kOps_bin (b := .geq) (pre := ?_) (val := ?_) rfl rfl rfl rfl rfl ?_ ?_ ?_; rotate_left 2; (intro L; simp only [qz1, splice_cl, splice_one, len_cl, mod_eq_of_lt lb, mod_eq_of_lt lr4, mod_eq_of_lt ll, one_mul, toNat_natCast, reduceToNat, hb255, cmp_ge, qz29, cl_get hm, ref_low, hquo, eql_u4 ty24 ty22, neq_u4 ty24 ty22, lit_ul0, lit_ul1, qz33, Int.reduceAdd, Int.reduceSub, Int.reduceMul, Int.reduceNeg, Int.sub_zero, cast_ofNat_Int, ne_eq, Int.reduceLT, Int.reduceLE, Int.reduceEq, reduceMod, reduceLT, qz5, ty3]; (first | (rw [wrap_i64] <;> first | omega | rfl) | (rw [wrap_u8] <;> first | omega | rfl) | (rw [wrap_u16] <;> first | omega | rfl) | (rw [wrap_u32] <;> first | omega | rfl) | rfl)); exact trivial) | ((first | refine kOps_loadp (pre := ?_) (val := ?_) rfl rfl rfl rfl rfl ty24 ?_ ?_ ?_ | refine kOps_loadr (pre := ?_) (val := ?_) rfl rfl rfl rfl ty24 ?_ ?_ ?_); rotate_left 2; (simp only [qz1, splice_cl, splice_one, len_cl, mod_eq_of_lt lb, mod_eq_of_lt lr4, mod_eq_of_lt ll, one_mul, toNat_natCast, reduceToNat, hb255, cmp_ge, qz29, cl_get hm, ref_low, hquo, partF, isAggD, qz0, if_false, if_true, reduceIte, agg_cl, qz4, n_add_zero, zero_add, reduceAdd, reduceMul, qz15, length_map]; rfl); (focus ((repeat' apply And.intro) <;> first | exact True.intro | omega | (with_reducible rfl) | assumption | exact ⟨_, rfl⟩ | (simp only [sda]; done) | (simp only [len_cl]; omega) | (simp [Value.cells, Value.oneCell']; done)))) | (refine kOps_callc (pre := ?_) (val := ?_) rfl rfl rfl rfl rfl ?_ ?_ ?_ ?_ ?_; rotate_left 2; (simp only [qz1, splice_cl, splice_one, len_cl, mod_eq_of_lt lb, mod_eq_of_lt lr4, mod_eq_of_lt ll, one_mul, toNat_natCast, reduceToNat, hb255, cmp_ge, qz29, cl_get hm, ref_low, hquo, sSub, sCmp, sAdd, sBit, lit_ul0, lit_ul1, nrmC, qz9, qz8, qz25, ulv_ul, uv_u4, qz12, and_self, n_add_zero, zero_add, zero_mod, n_sub_zero]; rfl); (focus (first | rfl | (simp only [closed, closedL, qz18, closedL_bv, closedL_cl, Bool.and_self, Bool.and_true]; done))); (focus (first | rfl | (simp only [closed, closedL, qz18, closedL_bv, closedL_cl, Bool.and_self, Bool.and_true]; done))); (focus ((repeat' apply And.intro) <;> first | exact True.intro | omega | (with_reducible rfl) | assumption | exact ⟨_, rfl⟩ | (simp only [sda]; done) | (simp only [len_cl]; omega) | (simp [Value.cells, Value.oneCell']; done)))) | (refine kOps_as rfl rfl rfl rfl ?_) | (refine kOps_ext rfl rfl rfl rfl rfl ?_) | (refine kOps_store (cs' := ?_) rfl rfl rfl rfl rfl rfl rfl ty24 ?_ ?_ ?_; rotate_left 1; (simp only [qz1, splice_cl, splice_one, len_cl, mod_eq_of_lt lb, mod_eq_of_lt lr4, mod_eq_of_lt ll, one_mul, toNat_natCast, reduceToNat, hb255, cmp_ge, qz29, cl_get hm, ref_low, hquo, lit_ul0, lit_ul1, qz14, isAggD, qz0, if_false, if_true, reduceIte, agg_cl, qz4, n_add_zero, zero_add, reduceAdd, reduceMul, qz15, length_map]; rfl); (focus (first | (simp only [lit_ul0, lit_ul1, qz14, length_cons, length_nil, len_cl, length_set, length_map, reduceAdd, zero_add, all_cons, all_nil, qz19, one_bv, PV.one, Value.oneCell', Bool.and_self, reduceLeDiff, Nat.le_refl, and_self, qz12]; done) | ((try simp only [lit_ul0, lit_ul1, qz14]); (focus ((repeat' apply And.intro) <;> first | exact True.intro | omega | (with_reducible rfl) | assumption | exact ⟨_, rfl⟩ | (simp only [sda]; done) | (simp only [len_cl]; omega) | (simp [Value.cells, Value.oneCell']; done))))))) | ((first | (refine kOps_ixap (off' := ?_) rfl rfl rfl rfl rfl rfl ty24 ty22 ?_ ?_ ?_; rotate_left 1; (simp only [qz1, splice_cl, splice_one, len_cl, mod_eq_of_lt lb, mod_eq_of_lt lr4, mod_eq_of_lt ll, one_mul, toNat_natCast, reduceToNat, hb255, cmp_ge, qz29, cl_get hm, ref_low, hquo, zero_add, n_add_zero, qz4, reduceMul, reduceAdd]; rfl)) | (refine kOps_ixaq (cs' := ?_) rfl rfl rfl rfl rfl ty24 ty22 ?_ ?_ ?_; rotate_left 1; (simp only [qz1, splice_cl, splice_one, len_cl, mod_eq_of_lt lb, mod_eq_of_lt lr4, mod_eq_of_lt ll, one_mul, toNat_natCast, reduceToNat, hb255, cmp_ge, qz29, cl_get hm, ref_low, hquo, elemAt, isAggD, qz0, if_false, if_true, reduceIte, agg_cl, qz4, n_add_zero, zero_add, reduceAdd, reduceMul, qz15, length_map]; rfl))); (focus ((repeat' apply And.intro) <;> first | exact True.intro | omega | (with_reducible rfl) | assumption | exact ⟨_, rfl⟩ | (simp only [sda]; done) | (simp only [len_cl]; omega) | (simp [Value.cells, Value.oneCell']; done)))) | ((first | refine kOps_loadp (pre := ?_) (val := ?_) rfl rfl rfl rfl rfl ty22 ?_ ?_ ?_ | refine kOps_loadr (pre := ?_) (val := ?_) rfl rfl rfl rfl ty22 ?_ ?_ ?_); rotate_left 2; (simp only [qz1, splice_cl, splice_one, len_cl, mod_eq_of_lt lb, mod_eq_of_lt lr4, mod_eq_of_lt ll, one_mul, toNat_natCast, reduceToNat, hb255, cmp_ge, qz29, cl_get hm, ref_low, hquo, partF, isAggD, qz0, if_false, if_true, reduceIte, agg_cl, qz4, n_add_zero, zero_add, reduceAdd, reduceMul, qz15, length_map]; rfl); (focus ((repeat' apply And.intro) <;> first | exact True.intro | omega | (with_reducible rfl) | assumption | exact ⟨_, rfl⟩ | (simp only [sda]; done) | (simp only [len_cl]; omega) | (simp [Value.cells, Value.oneCell']; done)))) | (refine kOps_bin (b := .or) (pre := ?_) (val := ?_) rfl rfl rfl rfl rfl ?_ ?_ ?_; rotate_left 2; (intro L; simp only [qz1, splice_cl, splice_one, len_cl, mod_eq_of_lt lb, mod_eq_of_lt lr4, mod_eq_of_lt ll, one_mul, toNat_natCast, reduceToNat, hb255, cmp_ge, qz29, cl_get hm, ref_low, hquo, eql_u4 ty24 ty22, neq_u4 ty24 ty22, lit_ul0, lit_ul1, qz43, Int.reduceAdd, Int.reduceSub, Int.reduceMul, Int.reduceNeg, Int.sub_zero, cast_ofNat_Int, ne_eq, Int.reduceLT, Int.reduceLE, Int.reduceEq, reduceMod, reduceLT, qz5, ty22]; (first | (rw [wrap_i64] <;> first | omega | rfl) | (rw [wrap_u8] <;> first | omega | rfl) | (rw [wrap_u16] <;> first | omega | rfl) | (rw [wrap_u32] <;> first | omega | rfl) | rfl)); exact trivial) | (refine kOps_store (cs' := ?_) rfl rfl rfl rfl rfl rfl rfl ty22 ?_ ?_ ?_; rotate_left 1; (simp only [qz1, splice_cl, splice_one, len_cl, mod_eq_of_lt lb, mod_eq_of_lt lr4, mod_eq_of_lt ll, one_mul, toNat_natCast, reduceToNat, hb255, cmp_ge, qz29, cl_get hm, ref_low, hquo, lit_ul0, lit_ul1, qz14, isAggD, qz0, if_false, if_true, reduceIte, agg_cl, qz4, n_add_zero, zero_add, reduceAdd, reduceMul, qz15, length_map]; rfl); (focus (first | (simp only [lit_ul0, lit_ul1, qz14, length_cons, length_nil, len_cl, length_set, length_map, reduceAdd, zero_add, all_cons, all_nil, qz19, one_bv, PV.one, Value.oneCell', Bool.and_self, reduceLeDiff, Nat.le_refl, and_self, qz12]; done) | ((try simp only [lit_ul0, lit_ul1, qz14]); (focus ((repeat' apply And.intro) <;> first | exact True.intro | omega | (with_reducible rfl) | assumption | exact ⟨_, rfl⟩ | (simp only [sda]; done) | (simp only [len_cl]; omega) | (simp [Value.cells, Value.oneCell']; done))))))) | (refine kOps_bin (b := .quo) (pre := ?_) (val := ?_) rfl rfl rfl rfl rfl ?_ ?_ ?_; rotate_left 2; (intro L; simp only [qz1, splice_cl, splice_one, len_cl, mod_eq_of_lt lb, mod_eq_of_lt lr4, mod_eq_of_lt ll, one_mul, toNat_natCast, reduceToNat, hb255, cmp_ge, qz29, cl_get hm, ref_low, hquo, eql_u4 ty24 ty22, neq_u4 ty24 ty22, lit_ul0, lit_ul1, binF_quo, Int.reduceAdd, Int.reduceSub, Int.reduceMul, Int.reduceNeg, Int.sub_zero, cast_ofNat_Int, ne_eq, Int.reduceLT, Int.reduceLE, Int.reduceEq, reduceMod, reduceLT, qz5, ty3]; (first | (rw [wrap_i64] <;> first | omega | rfl) | (rw [wrap_u8] <;> first | omega | rfl) | (rw [wrap_u16] <;> first | omega | rfl) | (rw [wrap_u32] <;> first | omega | rfl) | rfl)); (focus ((repeat' apply And.intro) <;> first | exact True.intro | omega | (with_reducible rfl) | assumption | exact ⟨_, rfl⟩ | (simp only [sda]; done) | (simp only [len_cl]; omega) | (simp [Value.cells, Value.oneCell']; done)))) | (refine kOps_bin (b := .rem) (pre := ?_) (val := ?_) rfl rfl rfl rfl rfl ?_ ?_ ?_; rotate_left 2; (intro L; simp only [qz1, splice_cl, splice_one, len_cl, mod_eq_of_lt lb, mod_eq_of_lt lr4, mod_eq_of_lt ll, one_mul, toNat_natCast, reduceToNat, hb255, cmp_ge, qz29, cl_get hm, ref_low, hquo, eql_u4 ty24 ty22, neq_u4 ty24 ty22, lit_ul0, lit_ul1, binF_rem, Int.reduceAdd, Int.reduceSub, Int.reduceMul, Int.reduceNeg, Int.sub_zero, cast_ofNat_Int, ne_eq, Int.reduceLT, Int.reduceLE, Int.reduceEq, reduceMod, reduceLT, qz5, ty3]; (first | (rw [wrap_i64] <;> first | omega | rfl) | (rw [wrap_u8] <;> first | omega | rfl) | (rw [wrap_u16] <;> first | omega | rfl) | (rw [wrap_u32] <;> first | omega | rfl) | rfl)); (focus ((repeat' apply And.intro) <;> first | exact True.intro | omega | (with_reducible rfl) | assumption | exact ⟨_, rfl⟩ | (simp only [sda]; done) | (simp only [len_cl]; omega) | (simp [Value.cells, Value.oneCell']; done)))) | (refine kOps_bin (b := .shl) (pre := ?_) (val := ?_) rfl rfl rfl rfl rfl ?_ ?_ ?_; rotate_left 2; (intro L; simp only [qz1, splice_cl, splice_one, len_cl, mod_eq_of_lt lb, mod_eq_of_lt lr4, mod_eq_of_lt ll, one_mul, toNat_natCast, reduceToNat, hb255, cmp_ge, qz29, cl_get hm, ref_low, hquo, eql_u4 ty24 ty22, neq_u4 ty24 ty22, lit_ul0, lit_ul1, qz40, Int.reduceAdd, Int.reduceSub, Int.reduceMul, Int.reduceNeg, Int.sub_zero, cast_ofNat_Int, ne_eq, Int.reduceLT, Int.reduceLE, Int.reduceEq, reduceMod, reduceLT, qz5, ty22]; (first | (rw [wrap_i64] <;> first | omega | rfl) | (rw [wrap_u8] <;> first | omega | rfl) | (rw [wrap_u16] <;> first | omega | rfl) | (rw [wrap_u32] <;> first | omega | rfl) | rfl)); (focus ((repeat' apply And.intro) <;> first | exact True.intro | omega | (with_reducible rfl) | assumption | exact ⟨_, rfl⟩ | (simp only [sda]; done) | (simp only [len_cl]; omega) | (simp [Value.cells, Value.oneCell']; done)))) | (refine kOps_bin (b := .sub) (pre := ?_) (val := ?_) rfl rfl rfl rfl rfl ?_ ?_ ?_; rotate_left 2; (intro L; simp only [qz1, splice_cl, splice_one, len_cl, mod_eq_of_lt lb, mod_eq_of_lt lr4, mod_eq_of_lt ll, one_mul, toNat_natCast, reduceToNat, hb255, cmp_ge, qz29, cl_get hm, ref_low, hquo, eql_u4 ty24 ty22, neq_u4 ty24 ty22, lit_ul0, lit_ul1, qz36, Int.reduceAdd, Int.reduceSub, Int.reduceMul, Int.reduceNeg, Int.sub_zero, cast_ofNat_Int, ne_eq, Int.reduceLT, Int.reduceLE, Int.reduceEq, reduceMod, reduceLT, qz5, ty3]; (first | (rw [wrap_i64] <;> first | omega | rfl) | (rw [wrap_u8] <;> first | omega | rfl) | (rw [wrap_u16] <;> first | omega | rfl) | (rw [wrap_u32] <;> first | omega | rfl) | rfl)); exact trivial) | (refine vOps_gundef rfl rfl ?_ ?_; (focus (simp only [qz7, Nat.reduceBEq]; done)); simp only [putIn]) | (refine vOps_gpick (t := ?_) (val := ?_) rfl rfl ?_ rfl rfl ?_ ?_ ?_; rotate_left 2; (focus (simp only [qz7, Nat.reduceBEq]; done)); (simp only [evalIn_tmp, evalIn_const, qz7, Nat.reduceBEq]; rfl); (simp only [evalIn_tmp, evalIn_const, qz7, Nat.reduceBEq]; rfl)) | (refine vOps_pick (t := ?_) (val := ?_) rfl rfl rfl ?_ ?_ ?_; rotate_left 2; (simp only [evalIn_tmp, evalIn_const, qz7, Nat.reduceBEq]; rfl); (simp only [evalIn_tmp, evalIn_const, qz7, Nat.reduceBEq]; rfl)) | (refine vOps_fork (b := ?_) rfl rfl ?_ ?_ ?_; rotate_left 1; (simp only [qz7, Nat.reduceBEq]; rfl); all_goals (intro hb; simp only [hb]; (try simp only [qz27] at hb); try (exfalso; first | omega | exact hb trivial))) | (refine vOps_forkp (b := ?_) rfl ?_ ?_ ?_; rotate_left 1; (simp only [evalIn_tmp, qz7, Nat.reduceBEq]; rfl); all_goals (intro hb; simp only [hb]; (try simp only [qz27] at hb); try (exfalso; first | omega | exact hb trivial))))
          all_goals first
            | (have hd : (l.testBit m).toNat = 1 := by rw [show l.testBit m = true by assumption]; rfl
               have hst := ref_step inv hd
               first
               | (have hc : b ≤ 2 * r + 1 := by omega
                  refine loopC_normal ⟨(m, q + 2 ^ m, 2 * r + 1 - b), by omega, hst.2 hc⟩ [0, 1, 2, 3, 4] (by show m < m + 1; omega) ?_
                  refine weak_mk (fun i h => absurd h (Nat.not_lt_zero i)) (by decide) (by simp) ?_ ?_
                  · simp only [RenRows, qz16, qz6, qz3, qz28, closedL_bv, closedL_cl, qz12]
                    all_goals (exact cl4_congr (by omega))
                  · simp only [RenEnv, qz7, Nat.reduceBEq]
                    (repeat' apply And.intro) <;> first | trivial | exact ren_keep rfl | exact ren_keep (closed_u4 _) | (refine ren_int ?_; omega) | (refine ren_own rfl ?_; first | rfl | omega | (simp; done) | (omega; done)) | (refine ren_int ?_; omega; done) | (refine ren_int ?_; simp; done) | (refine ren_keep ?_; simp only [closed, closedL_bv, closedL_rows, closedL_cl]; done) | (refine ren_ptr rfl; done))
               | (have hc : 2 * r + 1 < b := by omega
                  refine loopC_normal ⟨(m, q, 2 * r + 1), by omega, hst.1 hc⟩ [0, 1, 2, 3, 4] (by show m < m + 1; omega) ?_
                  refine weak_mk (fun i h => absurd h (Nat.not_lt_zero i)) (by decide) (by simp) ?_ ?_
                  · simp only [RenRows, qz16, qz6, qz3, qz28, closedL_bv, closedL_cl, qz12]
                    all_goals (exact cl4_congr (by omega))
                  · simp only [RenEnv, qz7, Nat.reduceBEq]
                    (repeat' apply And.intro) <;> first | trivial | exact ren_keep rfl | exact ren_keep (closed_u4 _) | (refine ren_int ?_; omega) | (refine ren_own rfl ?_; first | rfl | omega | (simp; done) | (omega; done)) | (refine ren_int ?_; omega; done) | (refine ren_int ?_; simp; done) | (refine ren_keep ?_; simp only [closed, closedL_bv, closedL_rows, closedL_cl]; done) | (refine ren_ptr rfl; done)))
            | (have hd : (l.testBit m).toNat = 0 := by rw [show l.testBit m = false by assumption]; rfl
               have hst := ref_step inv hd
               first
               | (have hc : b ≤ 2 * r + 0 := by omega
                  refine loopC_normal ⟨(m, q + 2 ^ m, 2 * r + 0 - b), by omega, hst.2 hc⟩ [0, 1, 2, 3, 4] (by show m < m + 1; omega) ?_
                  refine weak_mk (fun i h => absurd h (Nat.not_lt_zero i)) (by decide) (by simp) ?_ ?_
                  · simp only [RenRows, qz16, qz6, qz3, qz28, closedL_bv, closedL_cl, qz12]
                    all_goals (exact cl4_congr (by omega))
                  · simp only [RenEnv, qz7, Nat.reduceBEq]
                    (repeat' apply And.intro) <;> first | trivial | exact ren_keep rfl | exact ren_keep (closed_u4 _) | (refine ren_int ?_; omega) | (refine ren_own rfl ?_; first | rfl | omega | (simp; done) | (omega; done)) | (refine ren_int ?_; omega; done) | (refine ren_int ?_; simp; done) | (refine ren_keep ?_; simp only [closed, closedL_bv, closedL_rows, closedL_cl]; done) | (refine ren_ptr rfl; done))
               | (have hc : 2 * r + 0 < b := by omega
                  refine loopC_normal ⟨(m, q, 2 * r + 0), by omega, hst.1 hc⟩ [0, 1, 2, 3, 4] (by show m < m + 1; omega) ?_
                  refine weak_mk (fun i h => absurd h (Nat.not_lt_zero i)) (by decide) (by simp) ?_ ?_
                  · simp only [RenRows, qz16, qz6, qz3, qz28, closedL_bv, closedL_cl, qz12]
                    all_goals (exact cl4_congr (by omega))
                  · simp only [RenEnv, qz7, Nat.reduceBEq]
                    (repeat' apply And.intro) <;> first | trivial | exact ren_keep rfl | exact ren_keep (closed_u4 _) | (refine ren_int ?_; omega) | (refine ren_own rfl ?_; first | rfl | omega | (simp; done) | (omega; done)) | (refine ren_int ?_; omega; done) | (refine ren_int ?_; simp; done) | (refine ren_keep ?_; simp only [closed, closedL_bv, closedL_rows, closedL_cl]; done) | (refine ren_ptr rfl; done)))

  · exact hS.elim
noncomputable def B55 : Code := bodyOf Try.f55
theorem B55_eq : Try.f55.body = some B55 := by kernel_rfl
noncomputable def n55_0 := B55
noncomputable def n55_1 := codeAt B55 [0]
noncomputable def n55_2 := codeAt B55 [1]
noncomputable def n55_3 := codeAt B55 [1,0]
noncomputable def n55_4 := codeAt B55 [1,1]
noncomputable def n55_5 := codeAt B55 [1,1,0]
noncomputable def n55_6 := codeAt B55 [1,1,1]
theorem e55_0 : n55_0 = .seq n55_1 n55_2 := rfl
noncomputable def r55_1 := opsAt n55_1
theorem e55_1 : n55_1 = .region 0 (r55_1).toArray false := rfl
theorem e55_2 : n55_2 = .seq n55_3 n55_4 := rfl
noncomputable def r55_3 := opsAt n55_3
theorem e55_3 : n55_3 = .region 1 (r55_3).toArray false := rfl
theorem e55_4 : n55_4 = .seq n55_5 n55_6 := rfl
noncomputable def r55_5 := opsAt n55_5
theorem e55_5 : n55_5 = .region 2 (r55_5).toArray false := rfl
theorem e55_6 : n55_6 = .ret := rfl
theorem f_ref02_reduce : PureOk Try.prog 55 sReduce2 := by
  refine pureOk_of (c := n55_0) (Γ := conOf [(62, .pure sDiv)]) (conOf_ok (conOf_one (S := .pure sDiv) f_ref02_Div (conOf_end))) mixed Try.func55 B55_eq (by decide +kernel) Try.call55 ?_
  intro args hS
  unfold sReduce2 at hS ⊢
  split at hS
  · refine ⟨by rw [Try.ntmps55]; simp, vC_sound ?_⟩
    rename_i xa xm
    obtain ⟨ha, hb, hm⟩ := hS
    obtain ⟨a, la, rfl⟩ := isU_out ha
    obtain ⟨m, lm, rfl⟩ := isU_out hb
    simp only [uv_u4, mod_eq_of_lt la, mod_eq_of_lt lm] at hm ⊢
    clear ha hb
    simp only [qz26, reduceAdd]
    have c2 : (m ≤ 0) = False := eq_false (by omega)
    repeat' (first | (with_reducible first | apply seqC_normal | apply seqC_ret) | ((with_reducible apply wC_seq e55_0; apply wC_region e55_1); refine vOps_open (l := _ :: _) rfl ?_) | ((with_reducible apply wC_seq e55_2; apply kC_less [2, 3, 4] (c := n55_3)); (exact rfl); (exact rfl); (with_reducible apply wC_region e55_3); refine vOps_open (l := _ :: _) rfl ?_) | ((with_reducible apply wC_seq e55_4; apply wC_region e55_5); refine vOps_open (l := _ :: _) rfl ?_) | ((with_reducible apply wC_ret e55_6)) | ((with_reducible apply vOps_nil); try (with_reducible refine And.intro (by kernel_rfl) ?_)) | (refine kOps_box (row := ?_) (n := ?_) rfl rfl rfl rfl rfl ?_ ?_ ?_ ?_; rotate_left 2; (simp only [↓length_append, ↓length_set, ↓length_cons, length_nil, reduceAdd, zero_add]; rfl); (simp only [qz1, splice_cl, splice_one, len_cl, mod_eq_of_lt la, mod_eq_of_lt lm, c2, if_true, if_false, qz24, reduceMod, qz5, eq_self, zero_mod, qz11, qz14]; rfl); (focus (first | rfl | exact one_cl _ _ | exact one_bv _ | (simp only [qz19, all_cons, all_nil, Bool.and_self, PV.one]; done) | (simp [PV.one, qz19, one_bv, Value.oneCell']; done)))) | (refine kOps_alloc (row := ?_) (n := ?_) rfl rfl rfl rfl ty24 ?_ ?_ ?_ ?_; rotate_left 2; (simp only [↓length_append, ↓length_set, ↓length_cons, length_nil, reduceAdd, zero_add]; rfl); (simp only [qz1, splice_cl, splice_one, len_cl, mod_eq_of_lt la, mod_eq_of_lt lm, c2, if_true, if_false, qz24, reduceMod, qz5, eq_self, zero_mod, qz11, Value.cells, qz9, List.toList_toArray, zero_cl4, zero_cl8, lit_ul0]; rfl); (focus (first | (simp only [Value.cells, List.toList_toArray, qz23, Value.oneCell', and_self]; done) | (simp [Value.cells, Value.oneCell']; done)))) | (refine kOps_build (pre := ?_) (val := ?_) rfl rfl rfl rfl ?_ ?_ ?_; rotate_left 2; (intro L; simp only [qz1, splice_cl, splice_one, len_cl, mod_eq_of_lt la, mod_eq_of_lt lm, c2, if_true, if_false, qz24, reduceMod, qz5, eq_self, zero_mod, qz11, buildF, fillB, zeroCells, Value.cells, qz9, List.toList_toArray, zero_cl4, lit_ul0, qz14, cast_ofNat_Int, qz22, qz10, Int.reduceSub, qz3, qz0, length_cons, length_nil, qz6, n_add_zero, qz4, one_mul, reduceAdd, reduceMul, Nat.reduceSub, reduceLeDiff, Nat.reduceEqDiff, toNat_natCast, reduceToNat, reduceIte, isAggD, agg_cl, qz15, length_map, qz16, qz12, and_self, ty24, ty22]; rfl); (focus ((repeat' apply And.intro) <;> first | exact True.intro | omega | (with_reducible rfl) | assumption | exact ⟨_, rfl⟩ | (simp only [sda]; done) | (simp only [len_cl]; omega) | (simp [Value.cells, Value.oneCell']; done)))) | ((first | refine kOps_loadp (pre := ?_) (val := ?_) rfl rfl rfl rfl rfl ty24 ?_ ?_ ?_ | refine kOps_loadr (pre := ?_) (val := ?_) rfl rfl rfl rfl ty24 ?_ ?_ ?_); rotate_left 2; (simp only [qz1, splice_cl, splice_one, len_cl, mod_eq_of_lt la, mod_eq_of_lt lm, c2, if_true, if_false, qz24, reduceMod, qz5, eq_self, zero_mod, qz11, partF, isAggD, qz0, reduceIte, agg_cl, toNat_natCast, reduceToNat, qz4, n_add_zero, reduceAdd, reduceMul, qz15, length_map]; rfl); (focus ((repeat' apply And.intro) <;> first | exact True.intro | omega | (with_reducible rfl) | assumption | exact ⟨_, rfl⟩ | (simp only [sda]; done) | (simp only [len_cl]; omega) | (simp [Value.cells, Value.oneCell']; done)))) | (refine kOps_callc (pre := ?_) (val := ?_) rfl rfl rfl rfl rfl ?_ ?_ ?_ ?_ ?_; rotate_left 2; (simp only [qz1, splice_cl, splice_one, len_cl, mod_eq_of_lt la, mod_eq_of_lt lm, c2, if_true, if_false, qz24, reduceMod, qz5, eq_self, zero_mod, qz11, sDiv, lit_ul0, lit_ul1, nrmC, qz9, qz8, qz25, ulv_ul, uv_u4, qz12, and_self, n_add_zero, n_sub_zero]; rfl); (focus (first | rfl | (simp only [closed, closedL, qz18, closedL_bv, closedL_cl, Bool.and_self, Bool.and_true]; done))); (focus (first | rfl | (simp only [closed, closedL, qz18, closedL_bv, closedL_cl, Bool.and_self, Bool.and_true]; done))); (focus ((repeat' apply And.intro) <;> first | exact True.intro | omega | (with_reducible rfl) | assumption | exact ⟨_, rfl⟩ | (simp only [sda]; done) | (simp only [len_cl]; omega) | (simp [Value.cells, Value.oneCell']; done)))) | (refine kOps_mv rfl rfl rfl rfl ?_) | (refine kOps_ext rfl rfl rfl rfl rfl ?_) | (refine kOps_store (cs' := ?_) rfl rfl rfl rfl rfl rfl rfl ty24 ?_ ?_ ?_; rotate_left 1; (simp only [qz1, splice_cl, splice_one, len_cl, mod_eq_of_lt la, mod_eq_of_lt lm, c2, if_true, if_false, qz24, reduceMod, qz5, eq_self, zero_mod, qz11, lit_ul0, lit_ul1, qz14, isAggD, qz0, reduceIte, agg_cl, toNat_natCast, reduceToNat, qz4, n_add_zero, reduceAdd, reduceMul, qz15, length_map]; rfl); (focus (first | (simp only [lit_ul0, lit_ul1, qz14, length_cons, length_nil, len_cl, length_set, length_map, reduceAdd, zero_add, all_cons, all_nil, qz19, one_bv, PV.one, Value.oneCell', Bool.and_self, reduceLeDiff, Nat.le_refl, and_self, qz12]; done) | ((try simp only [lit_ul0, lit_ul1, qz14]); (focus ((repeat' apply And.intro) <;> first | exact True.intro | omega | (with_reducible rfl) | assumption | exact ⟨_, rfl⟩ | (simp only [sda]; done) | (simp only [len_cl]; omega) | (simp [Value.cells, Value.oneCell']; done))))))) | (refine kOps_as rfl rfl rfl rfl ?_))
    all_goals (
      refine fin_c (p := ?_) (xs := [.cell 4 24]) (by simp) rfl ?_ ?_ ?_ ?_
      rotate_left 2
      · simp only [rsx, qz9, qz1, splice_cl, splice_one, len_cl, mod_eq_of_lt la, mod_eq_of_lt lm, c2, if_true, if_false, qz24, reduceMod, qz5, eq_self, zero_mod, qz11, evalIn_tmp, evalIn_const, evalIn_func, qz7, Nat.reduceBEq, lit_ul0, lit_ul1, loadF, partF, qz3, qz6, qz16, qz12, and_self, Nat.le_refl, reduceLeDiff, isAggD, qz0, reduceIte, agg_cl, toNat_natCast, reduceToNat, qz4, n_add_zero, zero_add, reduceAdd, reduceMul, qz15, length_map, ty22, ty24]; try rfl
      · first | rfl | (simp only [closed, closedL, qz18, closedL_cl, closedL_bv, Bool.and_self, Bool.and_true]; first | done | rfl)
      · rfl
      · simp only [rsx, qz9, qz1, splice_cl, splice_one, len_cl, mod_eq_of_lt la, mod_eq_of_lt lm, c2, if_true, if_false, qz24, reduceMod, qz5, eq_self, zero_mod, qz11, evalIn_tmp, evalIn_const, evalIn_func, qz7, Nat.reduceBEq, lit_ul0, lit_ul1, loadF, partF, qz3, qz6, qz16, qz12, and_self, Nat.le_refl, reduceLeDiff, isAggD, qz0, reduceIte, agg_cl, toNat_natCast, reduceToNat, qz4, n_add_zero, zero_add, reduceAdd, reduceMul, qz15, length_map, ty22, ty24]; try trivial)
  · exact hS.elim
end Go.Ab
