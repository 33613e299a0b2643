import Derived.Test.YtejilmjdkoileaaMP
import Derived.Test.YtejilmjdkoileaaTY
namespace Go.Ab
open Go Go.Proofs
set_option linter.unusedVariables false
set_option linter.unusedSimpArgs false
set_option maxRecDepth 8000
set_option maxHeartbeats 4000000

noncomputable def B19 : Code := bodyOf Try.f19
theorem B19_eq : Try.f19.body = some B19 := by kernel_rfl
noncomputable def n19_0 : Code := B19
noncomputable def n19_1 : Code := codeAt B19 [0]
noncomputable def n19_2 : Code := codeAt B19 [1]
noncomputable def n19_3 : Code := codeAt B19 [1,0]
noncomputable def n19_4 : Code := codeAt B19 [1,1]
noncomputable def n19_5 : Code := codeAt B19 [1,1,0]
noncomputable def n19_6 : Code := codeAt B19 [1,1,0,0]
noncomputable def n19_7 : Code := codeAt B19 [1,1,0,1]
noncomputable def n19_8 : Code := codeAt B19 [1,1,0,1,0]
noncomputable def n19_9 : Code := codeAt B19 [1,1,0,1,0,0]
noncomputable def n19_10 : Code := codeAt B19 [1,1,0,1,0,0,0]
noncomputable def n19_11 : Code := codeAt B19 [1,1,0,1,0,0,1]
noncomputable def n19_12 : Code := codeAt B19 [1,1,0,1,0,0,1,0]
noncomputable def n19_13 : Code := codeAt B19 [1,1,0,1,0,0,1,0,0]
noncomputable def n19_14 : Code := codeAt B19 [1,1,0,1,0,0,1,0,1]
noncomputable def n19_15 : Code := codeAt B19 [1,1,0,1,0,0,1,1]
noncomputable def n19_16 : Code := codeAt B19 [1,1,0,1,0,0,1,1,0]
noncomputable def n19_17 : Code := codeAt B19 [1,1,0,1,0,0,1,1,0,0]
noncomputable def n19_18 : Code := codeAt B19 [1,1,0,1,0,0,1,1,0,0,0]
noncomputable def n19_19 : Code := codeAt B19 [1,1,0,1,0,0,1,1,0,0,1]
noncomputable def n19_20 : Code := codeAt B19 [1,1,0,1,0,0,1,1,1]
noncomputable def n19_21 : Code := codeAt B19 [1,1,1]
noncomputable def n19_22 : Code := codeAt B19 [1,1,1,0]
noncomputable def n19_23 : Code := codeAt B19 [1,1,1,1]
theorem e19_0 : n19_0 = .seq n19_1 n19_2 := rfl
noncomputable def r19_1 := opsAt n19_1
theorem e19_1 : n19_1 = .region 0 (r19_1).toArray false := rfl
theorem e19_2 : n19_2 = .seq n19_3 n19_4 := rfl
noncomputable def r19_3 := opsAt n19_3
theorem e19_3 : n19_3 = .region 1 (r19_3).toArray false := rfl
theorem e19_4 : n19_4 = .seq n19_5 n19_21 := rfl
theorem e19_5 : n19_5 = .seq n19_6 n19_7 := rfl
noncomputable def r19_6 := opsAt n19_6
theorem e19_6 : n19_6 = .region 2 (r19_6).toArray false := rfl
theorem e19_7 : n19_7 = .block 0 n19_8 := rfl
theorem e19_8 : n19_8 = .loop n19_9 := rfl
theorem e19_9 : n19_9 = .seq n19_10 n19_11 := rfl
noncomputable def r19_10 := opsAt n19_10
theorem e19_10 : n19_10 = .region 3 (r19_10).toArray false := rfl
theorem e19_11 : n19_11 = .seq n19_12 n19_15 := rfl
theorem e19_12 : n19_12 = .cond (.tmp 8) n19_13 n19_14 := rfl
theorem e19_13 : n19_13 = .skip := rfl
theorem e19_14 : n19_14 = .exit 0 := rfl
theorem e19_15 : n19_15 = .seq n19_16 n19_20 := rfl
theorem e19_16 : n19_16 = .block 1 n19_17 := rfl
theorem e19_17 : n19_17 = .seq n19_18 n19_19 := rfl
noncomputable def r19_18 := opsAt n19_18
theorem e19_18 : n19_18 = .region 4 (r19_18).toArray false := rfl
noncomputable def r19_19 := opsAt n19_19
theorem e19_19 : n19_19 = .region 5 (r19_19).toArray false := rfl
noncomputable def r19_20 := opsAt n19_20
theorem e19_20 : n19_20 = .region 6 (r19_20).toArray false := rfl
theorem e19_21 : n19_21 = .seq n19_22 n19_23 := rfl
noncomputable def r19_22 := opsAt n19_22
theorem e19_22 : n19_22 = .region 7 (r19_22).toArray false := rfl
theorem e19_23 : n19_23 = .ret := rfl
theorem f_ref04_word : PureOk Try.prog 19 sWord := by
  refine pureOk_of (c := n19_0) (Γ := conOf []) (conOf_ok (conOf_end)) mixed Try.func19 B19_eq (by decide +kernel) Try.call19 ?_
  intro args hS
  unfold sWord at hS ⊢
  split at hS
  · refine ⟨by rw [Try.ntmps19]; simp, vC_sound ?_⟩
    rename_i n cs
    obtain ⟨hB, hn⟩ := hS
    obtain ⟨b, rfl, rfl⟩ := isB_out hB
    simp only [bytesOf_bv]
    clear hB
    simp only [entry_cons, entry_nil, Nat.reduceAdd]
    repeat' (first
      | (with_reducible first | apply seqC_normal | apply blockC_normal | apply seqC_exit | apply blockC_hit | apply seqC_ret | apply blockC_ret | apply loopC_ret | apply loopC_exit)
      | ((with_reducible apply blockC_miss); (exact rfl))
      | ((with_reducible apply wC_seq e19_0; apply wC_region e19_1); refine vOps_open (l := _ :: _) rfl ?_; refine kOps_asc rfl rfl rfl lit_ul0 ?_; refine vOps_nil ?_; (with_reducible apply seqC_normal; apply wC_seq e19_2; apply wC_region e19_3); refine vOps_open (l := _ :: _) rfl ?_; refine kOps_asc rfl rfl rfl lit_ul0 ?_; refine vOps_nil ?_; (with_reducible apply seqC_normal; apply wC_seq e19_4; apply wC_seq e19_5; apply wC_region e19_6); refine vOps_open (l := _ :: _) rfl ?_; refine kOps_mv rfl rfl rfl rfl ?_; refine kOps_len (d := 6) rfl rfl rfl rfl ty25 (by first | exact byt_nil | (refine byt_ro ?_; (first | rfl | assumption | omega | (simp only [List.length_map, List.length_set, List.length_replicate, List.length_cons, List.length_nil, List.length_append, List.length_take, List.length_drop, len_cnt]; omega) | (simp only [List.length_map, List.length_set, List.length_replicate, List.length_cons, List.length_nil, List.length_append, List.length_take, List.length_drop, len_cnt]; done))) | (refine byt_own rfl ?_; (first | rfl | assumption | omega | (simp only [List.length_map, List.length_set, List.length_replicate, List.length_cons, List.length_nil, List.length_append, List.length_take, List.length_drop, len_cnt]; omega) | (simp only [List.length_map, List.length_set, List.length_replicate, List.length_cons, List.length_nil, List.length_append, List.length_take, List.length_drop, len_cnt]; done))) | (refine byt_part rfl ?_ rfl; (first | rfl | assumption | omega | (simp only [List.length_map, List.length_set, List.length_replicate, List.length_cons, List.length_nil, List.length_append, List.length_take, List.length_drop, len_cnt]; omega) | (simp only [List.length_map, List.length_set, List.length_replicate, List.length_cons, List.length_nil, List.length_append, List.length_take, List.length_drop, len_cnt]; done)))) ?_; refine kOps_mv rfl rfl rfl rfl ?_; refine vOps_nil ?_; (with_reducible apply seqC_normal; apply wC_block e19_7))
      | ((with_reducible apply wC_seq e19_21; apply wC_region e19_22); refine vOps_open (l := _ :: _) rfl ?_; refine kOps_mv rfl rfl rfl rfl ?_; refine kOps_as rfl rfl rfl rfl ?_; refine vOps_nil ?_; (with_reducible apply seqC_normal; apply wC_ret e19_23)))
    refine wC_loopI (ι := {i : Nat // i ≤ b.length}) e19_8 (fun i => ([(0, .ro b.length (b.map bv)), (3, ul (rdV b 0 i.1)), (6, .lit (.int .i64 (b.length : Int))), (7, .lit (.int .i64 (i.1 : Int)))], [])) (fun i => b.length - i.1) ⟨0, by omega⟩ [] ?_ ?_
    · show Weak _ _ _ _ _ _
      refine weak_mk (fun i h => absurd h (Nat.not_lt_zero i)) (by decide) (by simp) ?_ ?_
      · simp only [RenRows, List.nil_append, List.cons_append, List.set_cons_zero, List.set_cons_succ, List.getElem?_cons_zero, List.getElem?_cons_succ, Option.some.injEq, LE.cells.injEq, closedL_bv, closedL_wr, and_true, true_and]
        all_goals (rfl)
      · simp only [RenEnv, lookup_cons, Nat.reduceBEq, cond_true, cond_false]
        (repeat' apply And.intro) <;> first | trivial | exact ren_keep rfl | exact ren_keep (closed_u4 _) | (refine ren_int ?_; omega) | (refine ren_own rfl ?_; first | rfl | omega | (simp; done) | (omega; done)) | (refine ren_int ?_; omega; done) | (refine ren_int ?_; simp; done) | (refine ren_keep ?_; simp only [closed, closedL_bv, closedL_wr]; done) | (refine ren_ptr rfl; done) | exact ren_keep rfl
    · rintro ⟨i, hi⟩
      dsimp only
      have h8i : (8 * (i : Int)).toNat = 8 * i := by omega
      repeat' (first
        | (with_reducible first | apply seqC_normal | apply blockC_normal | apply seqC_exit | apply blockC_hit | apply seqC_ret | apply blockC_ret | apply loopC_ret | apply loopC_exit)
        | ((with_reducible apply blockC_miss); (exact rfl))
        | ((with_reducible apply wC_seq e19_9; apply wC_region e19_10); refine vOps_open (l := _ :: _) rfl ?_)
        | ((with_reducible apply wC_seq e19_11; apply kC_cond e19_12); (exact rfl); all_goals (intro hb; first | (cases hb; done) | cases hb | ((try simp only [decide_eq_true_eq, decide_eq_false_iff_not, Bool.not_eq_true', Bool.not_eq_false'] at hb); try (exfalso; first | omega | exact hb trivial))))
        | ((with_reducible apply wC_skip e19_13))
        | ((with_reducible apply wC_exit e19_14))
        | ((with_reducible apply wC_seq e19_15; apply wC_block e19_16; apply wC_seq e19_17; apply wC_region e19_18); refine vOps_open (l := _ :: _) rfl ?_)
        | ((with_reducible apply wC_region e19_19); refine vOps_open (l := _ :: _) rfl ?_)
        | ((with_reducible apply wC_region e19_20); refine vOps_open (l := _ :: _) rfl ?_)
        | ((with_reducible apply wC_seq e19_21; apply wC_region e19_22); refine vOps_open (l := _ :: _) rfl ?_)
        | ((with_reducible apply wC_ret e19_23))
        | ((with_reducible apply vOps_nil); try (with_reducible refine And.intro (by kernel_rfl) ?_))
        | (refine kOps_gon (g := ?_) (p := ?_) rfl rfl ?_ ?_ ?_ ?_; rotate_left 2; fail; (exact rfl); (with_reducible rfl))
        | (refine kOps_gofft (g := ?_) (p := ?_) rfl rfl ?_ ?_ ?_ ?_; rotate_left 2; fail; (exact rfl); (with_reducible rfl))
        | (refine kOps_gofff (g := ?_) (p := ?_) rfl rfl ?_ ?_ ?_ ?_; rotate_left 2; fail; (exact rfl); (with_reducible rfl))
        | (refine kOps_pickt rfl rfl rfl rfl ?_ rfl ?_; (with_reducible rfl))
        | (refine kOps_pickf rfl rfl rfl rfl ?_ rfl ?_; (with_reducible rfl))
        | (refine kOps_bin (b := .lss) (pre := ?_) (val := ?_) rfl rfl rfl rfl rfl ?_ ?_ ?_; rotate_left 2; (intro L; simp only [cells_s4, cells_k2, List.nil_append, List.append_nil, List.cons_append, if_true, getD_bv, Int.toNat_natCast, elemAt, h8i, d_add, d_xor, d_or, lit_ul0, lit_ul1, lss_ul, binF_lss, Int.reduceAdd, Int.reduceSub, Int.reduceMul, Int.reduceNeg, Int.sub_zero, Int.cast_ofNat_Int, ne_eq, Int.reduceLT, Int.reduceLE, Int.reduceEq, Nat.reduceMod, Nat.reduceLT, decide_true, decide_false, ty3]; (first | (rw [wrap_i64] <;> first | omega | rfl) | (rw [wrap_u8] <;> first | omega | rfl) | (rw [wrap_u16] <;> first | omega | rfl) | (rw [wrap_u32] <;> first | omega | rfl) | rfl)); exact trivial)
        | (refine kOps_mv rfl rfl rfl rfl ?_)
        | (refine kOps_as rfl rfl rfl rfl ?_)
        | ((first | (refine kOps_ixas (off' := ?_) rfl rfl rfl rfl rfl rfl ty25 ty5 ?_ ?_ ?_; rotate_left 1; (simp only [cells_s4, cells_k2, List.nil_append, List.append_nil, List.cons_append, if_true, getD_bv, Int.toNat_natCast, elemAt, h8i, Nat.zero_add, n_add_zero, Nat.mul_one, Nat.one_mul, Int.reduceToNat, Int.toNat_zero, Nat.reduceMul, Nat.reduceAdd]; rfl)) | (refine kOps_ixar (cs' := ?_) rfl rfl rfl rfl rfl ty25 ty5 ?_ ?_ ?_; rotate_left 1; (simp only [cells_s4, cells_k2, List.nil_append, List.append_nil, List.cons_append, if_true, getD_bv, Int.toNat_natCast, elemAt, h8i, isAggD, Bool.false_eq_true, if_false, List.getElem?_cons_zero, List.getElem?_cons_succ, List.getD_cons_zero, List.getD_cons_succ, List.drop_zero, List.drop_succ_cons, List.take_succ_cons, List.take_zero, List.length_cons, List.length_nil, List.set_cons_zero, List.set_cons_succ, Nat.zero_add, n_add_zero, Nat.mul_one, Nat.reduceAdd, Nat.reduceMul, Int.reduceToNat, Int.toNat_zero, take_cl, agg_cl, len_cl]; rfl))); (focus ((repeat' apply And.intro) <;> first | exact True.intro | omega | (with_reducible rfl) | assumption | (simp only [List.length_map, List.length_set, List.length_replicate, List.length_cons, List.length_nil, List.length_append, List.length_take, List.length_drop, len_cnt]; omega) | (simp only [cells_s4, cells_k2, cells_agg, one_ul, List.length_cons, List.length_nil, List.all_cons, List.all_nil, Bool.and_self, Nat.reduceAdd, Nat.zero_add, Nat.le_refl, Nat.reduceLeDiff, and_self, true_and, and_true]; done) | (simp only [cells_agg, one_bv, List.length_map, List.length_set, List.length_replicate, List.length_cons, List.length_nil, List.length_append, List.length_take, List.length_drop, len_cnt, and_self, true_and, Nat.le_refl, Nat.reduceAdd, Nat.zero_add]; done) | exact ⟨_, rfl⟩ | (simp only [one_cl, one_ul, cells_u4, cells_ul, len_cl, List.all_cons, List.all_nil, Bool.and_self, List.length_cons, List.length_nil]; done) | (simp only [len_cl]; omega) | (simp [Value.cells, Value.oneCell']; done))))
        | ((first | refine kOps_loadp (pre := ?_) (val := ?_) rfl rfl rfl rfl rfl ty5 ?_ ?_ ?_ | refine kOps_loadr (pre := ?_) (val := ?_) rfl rfl rfl rfl ty5 ?_ ?_ ?_); rotate_left 2; (simp only [cells_s4, cells_k2, List.nil_append, List.append_nil, List.cons_append, if_true, getD_bv, Int.toNat_natCast, elemAt, h8i, partF, isAggD, Bool.false_eq_true, if_false, List.getElem?_cons_zero, List.getElem?_cons_succ, List.getD_cons_zero, List.getD_cons_succ, List.drop_zero, List.drop_succ_cons, List.take_succ_cons, List.take_zero, List.length_cons, List.length_nil, List.set_cons_zero, List.set_cons_succ, Nat.zero_add, n_add_zero, Nat.mul_one, Nat.reduceAdd, Nat.reduceMul, Int.reduceToNat, Int.toNat_zero, take_cl, agg_cl, len_cl]; rfl); (focus ((repeat' apply And.intro) <;> first | exact True.intro | omega | (with_reducible rfl) | assumption | (simp only [List.length_map, List.length_set, List.length_replicate, List.length_cons, List.length_nil, List.length_append, List.length_take, List.length_drop, len_cnt]; omega) | (simp only [cells_s4, cells_k2, cells_agg, one_ul, List.length_cons, List.length_nil, List.all_cons, List.all_nil, Bool.and_self, Nat.reduceAdd, Nat.zero_add, Nat.le_refl, Nat.reduceLeDiff, and_self, true_and, and_true]; done) | (simp only [cells_agg, one_bv, List.length_map, List.length_set, List.length_replicate, List.length_cons, List.length_nil, List.length_append, List.length_take, List.length_drop, len_cnt, and_self, true_and, Nat.le_refl, Nat.reduceAdd, Nat.zero_add]; done) | exact ⟨_, rfl⟩ | (simp only [one_cl, one_ul, cells_u4, cells_ul, len_cl, List.all_cons, List.all_nil, Bool.and_self, List.length_cons, List.length_nil]; done) | (simp only [len_cl]; omega) | (simp [Value.cells, Value.oneCell']; done))))
        | (refine kOps_conv (s := 5) (t := 22) (pre := ?_) (val := ?_) rfl rfl rfl rfl ?_ ?_ ?_; rotate_left 2; (intro L; simp only [cells_s4, cells_k2, List.nil_append, List.append_nil, List.cons_append, if_true, getD_bv, Int.toNat_natCast, elemAt, h8i, cv_5_22, cw_5_22]; first | rfl | (first | (rw [wrap_i64] <;> first | omega | rfl) | (rw [wrap_u8] <;> first | omega | rfl) | (rw [wrap_u16] <;> first | omega | rfl) | (rw [wrap_u32] <;> first | omega | rfl) | rfl)); exact trivial)
        | (refine kOps_bin (b := .mul) (pre := ?_) (val := ?_) rfl rfl rfl rfl rfl ?_ ?_ ?_; rotate_left 2; (intro L; simp only [cells_s4, cells_k2, List.nil_append, List.append_nil, List.cons_append, if_true, getD_bv, Int.toNat_natCast, elemAt, h8i, d_add, d_xor, d_or, lit_ul0, lit_ul1, mul_ul, binF_mul, Int.reduceAdd, Int.reduceSub, Int.reduceMul, Int.reduceNeg, Int.sub_zero, Int.cast_ofNat_Int, ne_eq, Int.reduceLT, Int.reduceLE, Int.reduceEq, Nat.reduceMod, Nat.reduceLT, decide_true, decide_false, ty3]; (first | (rw [wrap_i64] <;> first | omega | rfl) | (rw [wrap_u8] <;> first | omega | rfl) | (rw [wrap_u16] <;> first | omega | rfl) | (rw [wrap_u32] <;> first | omega | rfl) | rfl)); exact trivial)
        | (refine kOps_bin (b := .shl) (pre := ?_) (val := ?_) rfl rfl rfl rfl rfl ?_ ?_ ?_; rotate_left 2; (intro L; simp only [cells_s4, cells_k2, List.nil_append, List.append_nil, List.cons_append, if_true, getD_bv, Int.toNat_natCast, elemAt, h8i, d_add, d_xor, d_or, lit_ul0, lit_ul1, shl_z, shl_ul, binF_shl, Int.reduceAdd, Int.reduceSub, Int.reduceMul, Int.reduceNeg, Int.sub_zero, Int.cast_ofNat_Int, ne_eq, Int.reduceLT, Int.reduceLE, Int.reduceEq, Nat.reduceMod, Nat.reduceLT, decide_true, decide_false, ty22]; (first | (rw [wrap_i64] <;> first | omega | rfl) | (rw [wrap_u8] <;> first | omega | rfl) | (rw [wrap_u16] <;> first | omega | rfl) | (rw [wrap_u32] <;> first | omega | rfl) | rfl)); (focus ((repeat' apply And.intro) <;> first | exact True.intro | omega | (with_reducible rfl) | assumption | (simp only [List.length_map, List.length_set, List.length_replicate, List.length_cons, List.length_nil, List.length_append, List.length_take, List.length_drop, len_cnt]; omega) | (simp only [cells_s4, cells_k2, cells_agg, one_ul, List.length_cons, List.length_nil, List.all_cons, List.all_nil, Bool.and_self, Nat.reduceAdd, Nat.zero_add, Nat.le_refl, Nat.reduceLeDiff, and_self, true_and, and_true]; done) | (simp only [cells_agg, one_bv, List.length_map, List.length_set, List.length_replicate, List.length_cons, List.length_nil, List.length_append, List.length_take, List.length_drop, len_cnt, and_self, true_and, Nat.le_refl, Nat.reduceAdd, Nat.zero_add]; done) | exact ⟨_, rfl⟩ | (simp only [one_cl, one_ul, cells_u4, cells_ul, len_cl, List.all_cons, List.all_nil, Bool.and_self, List.length_cons, List.length_nil]; done) | (simp only [len_cl]; omega) | (simp [Value.cells, Value.oneCell']; done))))
        | (refine kOps_bin (b := .or) (pre := ?_) (val := ?_) rfl rfl rfl rfl rfl ?_ ?_ ?_; rotate_left 2; (intro L; simp only [cells_s4, cells_k2, List.nil_append, List.append_nil, List.cons_append, if_true, getD_bv, Int.toNat_natCast, elemAt, h8i, d_add, d_xor, d_or, lit_ul0, lit_ul1, or_ul, binF_or, Int.reduceAdd, Int.reduceSub, Int.reduceMul, Int.reduceNeg, Int.sub_zero, Int.cast_ofNat_Int, ne_eq, Int.reduceLT, Int.reduceLE, Int.reduceEq, Nat.reduceMod, Nat.reduceLT, decide_true, decide_false, ty22]; (first | (rw [wrap_i64] <;> first | omega | rfl) | (rw [wrap_u8] <;> first | omega | rfl) | (rw [wrap_u16] <;> first | omega | rfl) | (rw [wrap_u32] <;> first | omega | rfl) | rfl)); exact trivial)
        | (refine kOps_bin (b := .add) (pre := ?_) (val := ?_) rfl rfl rfl rfl rfl ?_ ?_ ?_; rotate_left 2; (intro L; simp only [cells_s4, cells_k2, List.nil_append, List.append_nil, List.cons_append, if_true, getD_bv, Int.toNat_natCast, elemAt, h8i, d_add, d_xor, d_or, lit_ul0, lit_ul1, add_ul, binF_add, Int.reduceAdd, Int.reduceSub, Int.reduceMul, Int.reduceNeg, Int.sub_zero, Int.cast_ofNat_Int, ne_eq, Int.reduceLT, Int.reduceLE, Int.reduceEq, Nat.reduceMod, Nat.reduceLT, decide_true, decide_false, ty3]; (first | (rw [wrap_i64] <;> first | omega | rfl) | (rw [wrap_u8] <;> first | omega | rfl) | (rw [wrap_u16] <;> first | omega | rfl) | (rw [wrap_u32] <;> first | omega | rfl) | rfl)); exact trivial)
        | (refine vOps_gundef rfl rfl ?_ ?_; (focus (simp only [lookup_cons, Nat.reduceBEq, cond_true, cond_false]; done)); simp only [putIn])
        | (refine vOps_gpick (t := ?_) (val := ?_) rfl rfl ?_ rfl rfl ?_ ?_ ?_; rotate_left 2; (focus (simp only [lookup_cons, Nat.reduceBEq, cond_true, cond_false]; done)); (simp only [evalIn_tmp, evalIn_const, lookup_cons, Nat.reduceBEq, cond_true, cond_false]; rfl); (simp only [evalIn_tmp, evalIn_const, lookup_cons, Nat.reduceBEq, cond_true, cond_false]; rfl))
        | (refine vOps_pick (t := ?_) (val := ?_) rfl rfl rfl ?_ ?_ ?_; rotate_left 2; (simp only [evalIn_tmp, evalIn_const, lookup_cons, Nat.reduceBEq, cond_true, cond_false]; rfl); (simp only [evalIn_tmp, evalIn_const, lookup_cons, Nat.reduceBEq, cond_true, cond_false]; rfl))
        | (refine vOps_fork (b := ?_) rfl rfl ?_ ?_ ?_; rotate_left 1; (simp only [lookup_cons, Nat.reduceBEq, cond_true, cond_false]; rfl); all_goals (intro hb; simp only [hb]; (try simp only [decide_eq_true_eq, decide_eq_false_iff_not] at hb); try (exfalso; first | omega | exact hb trivial)))
        | (refine vOps_forkp (b := ?_) rfl ?_ ?_ ?_; rotate_left 1; (simp only [evalIn_tmp, lookup_cons, Nat.reduceBEq, cond_true, cond_false]; rfl); all_goals (intro hb; simp only [hb]; (try simp only [decide_eq_true_eq, decide_eq_false_iff_not] at hb); try (exfalso; first | omega | exact hb trivial))))
      · refine loopC_normal ⟨i + 1, by omega⟩ [] (by show b.length - (i + 1) < b.length - i; omega) ?_
        refine weak_mk (fun i h => absurd h (Nat.not_lt_zero i)) (by decide) (by simp) ?_ ?_
        · simp only [RenRows, List.nil_append, List.cons_append, List.set_cons_zero, List.set_cons_succ, List.getElem?_cons_zero, List.getElem?_cons_succ, Option.some.injEq, LE.cells.injEq, closedL_bv, closedL_wr, and_true, true_and]
          all_goals (rfl)
        · simp only [RenEnv, lookup_cons, Nat.reduceBEq, cond_true, cond_false]
          (repeat' apply And.intro) <;> first | trivial | exact ren_keep rfl | exact ren_keep (closed_u4 _) | (refine ren_int ?_; omega) | (refine ren_own rfl ?_; first | rfl | omega | (simp; done) | (omega; done)) | (refine ren_int ?_; omega; done) | (refine ren_int ?_; simp; done) | (refine ren_keep ?_; simp only [closed, closedL_bv, closedL_wr]; done) | (refine ren_ptr rfl; done) | exact ren_wd (by omega)
      · obtain rfl : i = b.length := by omega
        refine fin_c (p := ?_) (xs := [.tmp 2]) (by simp) rfl ?_ ?_ ?_ ?_
        rotate_left 2
        · simp only [resAll_cons, resAll_nil, resPVl_0, resPVl_1, resPVl_2, resOne_tmp, resOne_cell, List.map_cons, List.map_nil, cells_s4, cells_k2, List.nil_append, List.append_nil, List.cons_append, if_true, getD_bv, Int.toNat_natCast, elemAt, h8i, evalIn_tmp, evalIn_const, evalIn_func, lookup_cons, Nat.reduceBEq, cond_true, cond_false, lit_ul0, lit_ul1, loadF, partF, Int.cast_ofNat_Int, Nat.min_self, List.drop_succ_cons, Int.reduceSub, List.getElem?_cons_zero, List.getElem?_cons_succ, List.getD_cons_zero, List.getD_cons_succ, List.getD_nil, List.drop_zero, List.take_succ_cons, List.take_zero, List.take_nil, List.length_cons, List.length_nil, List.set_cons_zero, List.set_cons_succ, Nat.zero_add, n_add_zero, Nat.mul_one, Nat.one_mul, Nat.reduceAdd, Nat.reduceMul, Nat.reduceSub, Nat.reduceLeDiff, Nat.reduceEqDiff, Int.reduceToNat, Int.toNat_zero, reduceIte, if_false, Bool.false_eq_true, isAggD, len_cl, take_cl, agg_cl, take_bytes, List.length_map, true_and, and_true, and_self, ty3, ty5, ty22, ty25]; try rfl
        · first | (with_reducible rfl) | (simp only [closed, closedL, closed_u4, closed_ul, closed_s4, closed_k2, closedL_bv, Bool.and_self, Bool.and_true]; done) | (simp only [closed, closedL, closed_u4, closed_ul, closed_s4, closed_k2, closedL_bv, Bool.and_self, Bool.and_true]; rfl)
        · rw [rdV_all, ul_wd]
        · simp only [resAll_cons, resAll_nil, resPVl_0, resPVl_1, resPVl_2, resOne_tmp, resOne_cell, List.map_cons, List.map_nil, cells_s4, cells_k2, List.nil_append, List.append_nil, List.cons_append, if_true, getD_bv, Int.toNat_natCast, elemAt, h8i, evalIn_tmp, evalIn_const, evalIn_func, lookup_cons, Nat.reduceBEq, cond_true, cond_false, lit_ul0, lit_ul1, loadF, partF, Int.cast_ofNat_Int, Nat.min_self, List.drop_succ_cons, Int.reduceSub, List.getElem?_cons_zero, List.getElem?_cons_succ, List.getD_cons_zero, List.getD_cons_succ, List.getD_nil, List.drop_zero, List.take_succ_cons, List.take_zero, List.take_nil, List.length_cons, List.length_nil, List.set_cons_zero, List.set_cons_succ, Nat.zero_add, n_add_zero, Nat.mul_one, Nat.one_mul, Nat.reduceAdd, Nat.reduceMul, Nat.reduceSub, Nat.reduceLeDiff, Nat.reduceEqDiff, Int.reduceToNat, Int.toNat_zero, reduceIte, if_false, Bool.false_eq_true, isAggD, len_cl, take_cl, agg_cl, take_bytes, List.length_map, true_and, and_true, and_self, ty3, ty5, ty22, ty25]; try trivial

  · exact hS.elim
end Go.Ab
