import Derived.Test.YtaofjdaclnagnaaMG
import Derived.Test.YtaofjdaclnagnaaTY
namespace Go.Ab
open Go Go.Proofs
set_option linter.unusedVariables false
set_option linter.unusedSimpArgs false
set_option maxRecDepth 8000
set_option maxHeartbeats 4000000

noncomputable def B49 : Code := bodyOf Try.f49
theorem B49_eq : Try.f49.body = some B49 := by kernel_rfl
noncomputable def n49_0 : Code := B49
noncomputable def n49_1 : Code := codeAt B49 [0]
noncomputable def n49_2 : Code := codeAt B49 [1]
noncomputable def n49_3 : Code := codeAt B49 [1,0]
noncomputable def n49_4 : Code := codeAt B49 [1,1]
noncomputable def n49_5 : Code := codeAt B49 [1,1,0]
noncomputable def n49_6 : Code := codeAt B49 [1,1,0,0]
noncomputable def n49_7 : Code := codeAt B49 [1,1,0,1]
noncomputable def n49_8 : Code := codeAt B49 [1,1,0,1,0]
noncomputable def n49_9 : Code := codeAt B49 [1,1,0,1,0,0]
noncomputable def n49_10 : Code := codeAt B49 [1,1,0,1,0,0,0]
noncomputable def n49_11 : Code := codeAt B49 [1,1,0,1,0,0,1]
noncomputable def n49_12 : Code := codeAt B49 [1,1,0,1,0,0,1,0]
noncomputable def n49_13 : Code := codeAt B49 [1,1,0,1,0,0,1,0,0]
noncomputable def n49_14 : Code := codeAt B49 [1,1,0,1,0,0,1,0,1]
noncomputable def n49_15 : Code := codeAt B49 [1,1,0,1,0,0,1,1]
noncomputable def n49_16 : Code := codeAt B49 [1,1,0,1,0,0,1,1,0]
noncomputable def n49_17 : Code := codeAt B49 [1,1,0,1,0,0,1,1,0,0]
noncomputable def n49_18 : Code := codeAt B49 [1,1,0,1,0,0,1,1,0,0,0]
noncomputable def n49_19 : Code := codeAt B49 [1,1,0,1,0,0,1,1,0,0,1]
noncomputable def n49_20 : Code := codeAt B49 [1,1,0,1,0,0,1,1,1]
noncomputable def n49_21 : Code := codeAt B49 [1,1,1]
noncomputable def n49_22 : Code := codeAt B49 [1,1,1,0]
noncomputable def n49_23 : Code := codeAt B49 [1,1,1,1]
theorem e49_0 : n49_0 = .seq n49_1 n49_2 := rfl
noncomputable def r49_1 := opsAt n49_1
theorem e49_1 : n49_1 = .region 0 (r49_1).toArray false := rfl
theorem e49_2 : n49_2 = .seq n49_3 n49_4 := rfl
noncomputable def r49_3 := opsAt n49_3
theorem e49_3 : n49_3 = .region 1 (r49_3).toArray false := rfl
theorem e49_4 : n49_4 = .seq n49_5 n49_21 := rfl
theorem e49_5 : n49_5 = .seq n49_6 n49_7 := rfl
noncomputable def r49_6 := opsAt n49_6
theorem e49_6 : n49_6 = .region 2 (r49_6).toArray false := rfl
theorem e49_7 : n49_7 = .block 0 n49_8 := rfl
theorem e49_8 : n49_8 = .loop n49_9 := rfl
theorem e49_9 : n49_9 = .seq n49_10 n49_11 := rfl
noncomputable def r49_10 := opsAt n49_10
theorem e49_10 : n49_10 = .region 3 (r49_10).toArray false := rfl
theorem e49_11 : n49_11 = .seq n49_12 n49_15 := rfl
theorem e49_12 : n49_12 = .cond (.tmp 12) n49_13 n49_14 := rfl
theorem e49_13 : n49_13 = .skip := rfl
theorem e49_14 : n49_14 = .exit 0 := rfl
theorem e49_15 : n49_15 = .seq n49_16 n49_20 := rfl
theorem e49_16 : n49_16 = .block 1 n49_17 := rfl
theorem e49_17 : n49_17 = .seq n49_18 n49_19 := rfl
noncomputable def r49_18 := opsAt n49_18
theorem e49_18 : n49_18 = .region 4 (r49_18).toArray false := rfl
noncomputable def r49_19 := opsAt n49_19
theorem e49_19 : n49_19 = .region 5 (r49_19).toArray false := rfl
noncomputable def r49_20 := opsAt n49_20
theorem e49_20 : n49_20 = .region 6 (r49_20).toArray false := rfl
theorem e49_21 : n49_21 = .seq n49_22 n49_23 := rfl
noncomputable def r49_22 := opsAt n49_22
theorem e49_22 : n49_22 = .region 7 (r49_22).toArray false := rfl
theorem e49_23 : n49_23 = .ret := rfl
theorem f_ref01_little : PureOk Try.prog 49 sLittle := by
  refine pureOk_of (c := n49_0) (Γ := conOf []) (conOf_ok (conOf_end)) mixed Try.func49 B49_eq (by decide +kernel) Try.call49 ?_
  intro args hS
  unfold sLittle at hS ⊢
  split at hS
  · refine ⟨by rw [Try.ntmps49]; simp, vC_sound ?_⟩
    rename_i x w
    obtain ⟨hx, h0, h8⟩ := hS
    obtain ⟨n, ln, rfl⟩ := isul_out hx
    obtain ⟨w, rfl⟩ := Int.eq_ofNat_of_zero_le h0
    simp only [ulv_ul, Nat.mod_eq_of_lt ln, Int.toNat_natCast]
    have hw : w ≤ 8 := by omega
    clear hx h0 h8
    simp only [entry_cons, entry_nil, Nat.reduceAdd]
    repeat' (first
      | (with_reducible first | apply seqC_normal | apply blockC_normal | apply seqC_exit | apply blockC_hit | apply seqC_ret | apply blockC_ret | apply loopC_ret | apply loopC_exit)
      | ((with_reducible apply blockC_miss); (exact rfl))
      | ((with_reducible apply wC_seq e49_0; apply wC_region e49_1); refine vOps_open (l := _ :: _) rfl ?_; refine kOps_as rfl rfl rfl rfl ?_; refine vOps_nil ?_; (with_reducible apply seqC_normal; apply wC_seq e49_2; apply wC_region e49_3); refine vOps_open (l := _ :: _) rfl ?_; refine kOps_mv rfl rfl rfl rfl ?_; refine kOps_mk (d := 8) (l := w) (c := w) rfl rfl rfl rfl rfl rfl ty22 ty5 (by simp only [↓List.length_append, ↓List.length_set, ↓List.length_cons, List.length_nil, Nat.reduceAdd, Nat.zero_add]; rfl) (by rfl) (by rfl) (by first | rfl | assumption | omega | (simp only [lns]; first | done | omega)) ?_; refine kOps_as rfl rfl rfl rfl ?_; refine vOps_nil ?_; (with_reducible apply seqC_normal; apply wC_seq e49_4; apply wC_seq e49_5; apply wC_region e49_6); refine vOps_open (l := _ :: _) rfl ?_; refine kOps_mv rfl rfl rfl rfl ?_; refine kOps_len (d := 10) rfl rfl rfl rfl ty22 (by first | exact byt_nil | ((first | refine byt_ro ?_ | refine byt_own rfl ?_); (first | rfl | assumption | omega | (simp only [lns]; first | done | omega))) | (refine byt_part rfl ?_ rfl; (first | rfl | assumption | omega | (simp only [lns]; first | done | omega)))) ?_; refine kOps_mv rfl rfl rfl rfl ?_; refine vOps_nil ?_; (with_reducible apply seqC_normal; apply wC_block e49_7))
      | ((with_reducible apply wC_seq e49_21; apply wC_region e49_22); refine vOps_open (l := _ :: _) rfl ?_; refine kOps_mv rfl rfl rfl rfl ?_; refine kOps_as rfl rfl rfl rfl ?_; refine vOps_nil ?_; (with_reducible apply seqC_normal; apply wC_ret e49_23)))
    refine wC_loopI (ι := {i : Nat // i ≤ w}) e49_8 (fun i => ([(0, ul n), (5, .own 0 0 w 1), (10, .lit (.int .i64 (w : Int))), (11, .lit (.int .i64 (i.1 : Int)))], [.cells ((fill w 0 (leF n) i.1).map bv)])) (fun i => w - i.1) ⟨0, by omega⟩ [0] ?_ ?_
    · show Weak _ _ _ _ _ _
      refine weak_mk (fun i h => absurd h (Nat.not_lt_zero i)) (by decide) (by simp) ?_ ?_
      · simp only [RenRows, List.nil_append, List.cons_append, List.set_cons_zero, List.set_cons_succ, List.getElem?_cons_zero, List.getElem?_cons_succ, Option.some.injEq, LE.cells.injEq, closedL_bv, closedL_wr, and_true, true_and]
        all_goals (exact bs_congr (fill_zero ..))
      · simp only [RenEnv, lookup_cons, Nat.reduceBEq, cond_true, cond_false]
        (repeat' apply And.intro) <;> first | trivial | exact ren_keep rfl | exact ren_keep (closed_u4 _) | (refine ren_int ?_; omega) | (refine ren_own rfl ?_; first | rfl | omega | (simp; done) | (omega; done)) | (refine ren_int ?_; omega; done) | (refine ren_int ?_; simp; done) | (refine ren_keep ?_; simp only [closed, closedL_bv, closedL_wr]; done) | (refine ren_ptr rfl; done)
    · rintro ⟨i, hi⟩
      dsimp only
      have h8i : (8 * (i : Int)).toNat = 8 * i := by omega
      repeat' (first
        | (with_reducible first | apply seqC_normal | apply blockC_normal | apply seqC_exit | apply blockC_hit | apply seqC_ret | apply blockC_ret | apply loopC_ret | apply loopC_exit)
        | ((with_reducible apply blockC_miss); (exact rfl))
        | ((with_reducible apply wC_seq e49_9; apply wC_region e49_10); refine vOps_open (l := _ :: _) rfl ?_; refine kOps_bin (b := .lss) (pre := ?_) (val := ?_) rfl rfl rfl rfl rfl ?_ ?_ ?_; rotate_left 2; (intro L; simp only [splice_one, cells_bv, getD_bv, set_bv, cells_agg, Nat.mod_eq_of_lt ln, h8i, Int.toNat_natCast, elemAt, lss_ul, binF_lss, Int.reduceAdd, Int.reduceSub, Int.reduceMul, Int.reduceNeg, Int.sub_zero, Int.cast_ofNat_Int, ne_eq, Int.reduceLT, Int.reduceLE, Int.reduceEq, Nat.reduceMod, Nat.reduceLT, decide_true, decide_false, ty3]; (first | (rw [wrap_i64] <;> first | omega | rfl) | (rw [wrap_u8] <;> first | omega | rfl) | (rw [wrap_u16] <;> first | omega | rfl) | (rw [wrap_u32] <;> first | omega | rfl) | rfl)); exact trivial; refine vOps_nil ?_; (with_reducible apply seqC_normal; apply wC_seq e49_11; apply kC_cond e49_12); (exact rfl); all_goals (intro hb; first | (cases hb; done) | cases hb | ((try simp only [decide_eq_true_eq, decide_eq_false_iff_not, Bool.not_eq_true', Bool.not_eq_false'] at hb); try (exfalso; first | omega | exact hb trivial))))
        | ((with_reducible apply wC_skip e49_13))
        | ((with_reducible apply wC_exit e49_14))
        | ((with_reducible apply wC_seq e49_15; apply wC_block e49_16; apply wC_seq e49_17; apply wC_region e49_18); refine vOps_open (l := _ :: _) rfl ?_; refine kOps_mv rfl rfl rfl rfl ?_; refine kOps_as rfl rfl rfl rfl ?_; refine vOps_nil ?_; (with_reducible apply seqC_normal; apply wC_region e49_19); refine vOps_open (l := _ :: _) rfl ?_; refine kOps_mv rfl rfl rfl rfl ?_; refine kOps_mv rfl rfl rfl rfl ?_; refine kOps_mv rfl rfl rfl rfl ?_; refine kOps_mv rfl rfl rfl rfl ?_; refine kOps_bin (b := .mul) (pre := ?_) (val := ?_) rfl rfl rfl rfl rfl ?_ ?_ ?_; rotate_left 2; (intro L; simp only [splice_one, cells_bv, getD_bv, set_bv, cells_agg, Nat.mod_eq_of_lt ln, h8i, Int.toNat_natCast, elemAt, mul_ul, binF_mul, Int.reduceAdd, Int.reduceSub, Int.reduceMul, Int.reduceNeg, Int.sub_zero, Int.cast_ofNat_Int, ne_eq, Int.reduceLT, Int.reduceLE, Int.reduceEq, Nat.reduceMod, Nat.reduceLT, decide_true, decide_false, ty3]; (first | (rw [wrap_i64] <;> first | omega | rfl) | (rw [wrap_u8] <;> first | omega | rfl) | (rw [wrap_u16] <;> first | omega | rfl) | (rw [wrap_u32] <;> first | omega | rfl) | rfl)); exact trivial; refine kOps_bin (b := .shr) (pre := ?_) (val := ?_) rfl rfl rfl rfl rfl ?_ ?_ ?_; rotate_left 2; (intro L; simp only [splice_one, cells_bv, getD_bv, set_bv, cells_agg, Nat.mod_eq_of_lt ln, h8i, Int.toNat_natCast, elemAt, shr_z, shr_ul, binF_shr, Int.reduceAdd, Int.reduceSub, Int.reduceMul, Int.reduceNeg, Int.sub_zero, Int.cast_ofNat_Int, ne_eq, Int.reduceLT, Int.reduceLE, Int.reduceEq, Nat.reduceMod, Nat.reduceLT, decide_true, decide_false, ty23]; (first | (rw [wrap_i64] <;> first | omega | rfl) | (rw [wrap_u8] <;> first | omega | rfl) | (rw [wrap_u16] <;> first | omega | rfl) | (rw [wrap_u32] <;> first | omega | rfl) | rfl)); (focus ((repeat' apply And.intro) <;> first | exact True.intro | omega | (with_reducible rfl) | assumption | (simp only [lns]; first | done | omega) | (simp only [one_bv, cells_bv, one_bv1, List.length_cons, List.length_nil, List.all_cons, List.all_nil, Bool.and_self]; done) | (simp only [cells_agg, one_bv, lns, and_self, true_and, Nat.le_refl, Nat.reduceAdd, Nat.zero_add]; done) | exact one_bv _ | exact ⟨_, rfl⟩ | (simp [PV.one, one_bv, PV.cells, Value.cells, Value.oneCell']; done))); refine kOps_conv (s := 23) (t := 5) (pre := ?_) (val := ?_) rfl rfl rfl rfl ?_ ?_ ?_; rotate_left 2; (intro L; simp only [splice_one, cells_bv, getD_bv, set_bv, cells_agg, Nat.mod_eq_of_lt ln, h8i, Int.toNat_natCast, elemAt, cv_23_5, cw_23_5]; first | rfl | (first | (rw [wrap_i64] <;> first | omega | rfl) | (rw [wrap_u8] <;> first | omega | rfl) | (rw [wrap_u16] <;> first | omega | rfl) | (rw [wrap_u32] <;> first | omega | rfl) | rfl)); exact trivial; (first | (refine kOps_ixas (off' := ?_) rfl rfl rfl rfl rfl rfl ty22 ty5 ?_ ?_ ?_; rotate_left 1; (simp only [splice_one, cells_bv, getD_bv, set_bv, cells_agg, Nat.mod_eq_of_lt ln, h8i, Int.toNat_natCast, elemAt, Nat.zero_add, n_add_zero, Nat.mul_one, Nat.one_mul, Int.reduceToNat, Int.toNat_zero, Nat.reduceMul, Nat.reduceAdd]; rfl)) | (refine kOps_ixar (cs' := ?_) rfl rfl rfl rfl rfl ty22 ty5 ?_ ?_ ?_; rotate_left 1; (simp only [splice_one, cells_bv, getD_bv, set_bv, cells_agg, Nat.mod_eq_of_lt ln, h8i, Int.toNat_natCast, elemAt, isAggD, Bool.false_eq_true, if_false, if_true, reduceIte, take_cl, agg_cl, len_cl, List.drop_zero, Int.reduceToNat, Int.toNat_zero, n_add_zero, Nat.mul_one, Nat.zero_add, Nat.reduceAdd, Nat.reduceMul, take_bytes, List.length_map, List.getD_cons_zero]; rfl))); (focus ((repeat' apply And.intro) <;> first | exact True.intro | omega | (with_reducible rfl) | assumption | (simp only [lns]; first | done | omega) | (simp only [one_bv, cells_bv, one_bv1, List.length_cons, List.length_nil, List.all_cons, List.all_nil, Bool.and_self]; done) | (simp only [cells_agg, one_bv, lns, and_self, true_and, Nat.le_refl, Nat.reduceAdd, Nat.zero_add]; done) | exact one_bv _ | exact ⟨_, rfl⟩ | (simp [PV.one, one_bv, PV.cells, Value.cells, Value.oneCell']; done))); refine kOps_store (cs' := ?_) rfl rfl rfl rfl rfl rfl rfl ty5 ?_ ?_ ?_; rotate_left 1; (simp only [splice_one, cells_bv, getD_bv, set_bv, cells_agg, Nat.mod_eq_of_lt ln, h8i, Int.toNat_natCast, elemAt, cells_ul, cells_u4, isAggD, Bool.false_eq_true, if_false, if_true, reduceIte, take_cl, agg_cl, len_cl, List.drop_zero, Int.reduceToNat, Int.toNat_zero, n_add_zero, Nat.mul_one, Nat.zero_add, Nat.reduceAdd, Nat.reduceMul, take_bytes, List.length_map, List.getD_cons_zero]; rfl); (focus (first | (simp only [cells_ul, cells_u4, cells_bv, List.length_cons, List.length_nil, len_cl, List.length_set, List.length_map, Nat.reduceAdd, Nat.zero_add, List.all_cons, List.all_nil, one_ul, one_cl, one_bv, PV.one, Value.oneCell', Bool.and_self, Nat.reduceLeDiff, Nat.le_refl, and_self, true_and, and_true]; done) | ((try simp only [cells_ul, cells_u4, cells_bv]); (focus ((repeat' apply And.intro) <;> first | exact True.intro | omega | (with_reducible rfl) | assumption | (simp only [lns]; first | done | omega) | (simp only [one_bv, cells_bv, one_bv1, List.length_cons, List.length_nil, List.all_cons, List.all_nil, Bool.and_self]; done) | (simp only [cells_agg, one_bv, lns, and_self, true_and, Nat.le_refl, Nat.reduceAdd, Nat.zero_add]; done) | exact one_bv _ | exact ⟨_, rfl⟩ | (simp [PV.one, one_bv, PV.cells, Value.cells, Value.oneCell']; done)))))); refine vOps_nil ?_)
        | ((with_reducible apply wC_region e49_20); refine vOps_open (l := _ :: _) rfl ?_; refine kOps_bin (b := .add) (pre := ?_) (val := ?_) rfl rfl rfl rfl rfl ?_ ?_ ?_; rotate_left 2; (intro L; simp only [splice_one, cells_bv, getD_bv, set_bv, cells_agg, Nat.mod_eq_of_lt ln, h8i, Int.toNat_natCast, elemAt, add_ul, binF_add, Int.reduceAdd, Int.reduceSub, Int.reduceMul, Int.reduceNeg, Int.sub_zero, Int.cast_ofNat_Int, ne_eq, Int.reduceLT, Int.reduceLE, Int.reduceEq, Nat.reduceMod, Nat.reduceLT, decide_true, decide_false, ty3]; (first | (rw [wrap_i64] <;> first | omega | rfl) | (rw [wrap_u8] <;> first | omega | rfl) | (rw [wrap_u16] <;> first | omega | rfl) | (rw [wrap_u32] <;> first | omega | rfl) | rfl)); exact trivial; refine kOps_mv rfl rfl rfl rfl ?_; refine vOps_nil ?_)
        | ((with_reducible apply wC_seq e49_21; apply wC_region e49_22); refine vOps_open (l := _ :: _) rfl ?_; refine kOps_mv rfl rfl rfl rfl ?_; refine kOps_as rfl rfl rfl rfl ?_; refine vOps_nil ?_; (with_reducible apply seqC_normal; apply wC_ret e49_23)))
      · refine loopC_normal ⟨i + 1, by omega⟩ [0] (by show w - (i + 1) < w - i; omega) ?_
        refine weak_mk (fun i h => absurd h (Nat.not_lt_zero i)) (by decide) (by simp) ?_ ?_
        · simp only [RenRows, List.nil_append, List.cons_append, List.set_cons_zero, List.set_cons_succ, List.getElem?_cons_zero, List.getElem?_cons_succ, Option.some.injEq, LE.cells.injEq, closedL_bv, closedL_wr, and_true, true_and]
          all_goals (exact bs_congr (by rw [leF_def]; exact fill_set (by omega)))
        · simp only [RenEnv, lookup_cons, Nat.reduceBEq, cond_true, cond_false]
          (repeat' apply And.intro) <;> first | trivial | exact ren_keep rfl | exact ren_keep (closed_u4 _) | (refine ren_int ?_; omega) | (refine ren_own rfl ?_; first | rfl | omega | (simp; done) | (omega; done)) | (refine ren_int ?_; omega; done) | (refine ren_int ?_; simp; done) | (refine ren_keep ?_; simp only [closed, closedL_bv, closedL_wr]; done) | (refine ren_ptr rfl; done)
      · obtain rfl : i = w := by omega
        rw [leB_fill]
        exact fin_new (by simp) rfl rfl rfl (by rw [len_leB])

  · exact hS.elim
end Go.Ab
