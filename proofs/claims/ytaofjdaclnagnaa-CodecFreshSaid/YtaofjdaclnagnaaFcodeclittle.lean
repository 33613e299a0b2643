import Derived.Test.YtaofjdaclnagnaaMG
import Derived.Test.YtaofjdaclnagnaaTY
namespace Go.Ab
open Go Go.Proofs
set_option linter.unusedVariables false
set_option linter.unusedSimpArgs false
set_option maxRecDepth 8000
set_option maxHeartbeats 4000000

noncomputable def B47 : Code := bodyOf Try.f47
theorem B47_eq : Try.f47.body = some B47 := by kernel_rfl
noncomputable def n47_0 : Code := B47
noncomputable def n47_1 : Code := codeAt B47 [0]
noncomputable def n47_2 : Code := codeAt B47 [1]
noncomputable def n47_3 : Code := codeAt B47 [1,0]
noncomputable def n47_4 : Code := codeAt B47 [1,1]
noncomputable def n47_5 : Code := codeAt B47 [1,1,0]
noncomputable def n47_6 : Code := codeAt B47 [1,1,0,0]
noncomputable def n47_7 : Code := codeAt B47 [1,1,0,1]
noncomputable def n47_8 : Code := codeAt B47 [1,1,0,1,0]
noncomputable def n47_9 : Code := codeAt B47 [1,1,0,1,0,0]
noncomputable def n47_10 : Code := codeAt B47 [1,1,0,1,0,0,0]
noncomputable def n47_11 : Code := codeAt B47 [1,1,0,1,0,0,1]
noncomputable def n47_12 : Code := codeAt B47 [1,1,0,1,0,0,1,0]
noncomputable def n47_13 : Code := codeAt B47 [1,1,0,1,0,0,1,0,0]
noncomputable def n47_14 : Code := codeAt B47 [1,1,0,1,0,0,1,0,1]
noncomputable def n47_15 : Code := codeAt B47 [1,1,0,1,0,0,1,1]
noncomputable def n47_16 : Code := codeAt B47 [1,1,0,1,0,0,1,1,0]
noncomputable def n47_17 : Code := codeAt B47 [1,1,0,1,0,0,1,1,0,0]
noncomputable def n47_18 : Code := codeAt B47 [1,1,0,1,0,0,1,1,0,0,0]
noncomputable def n47_19 : Code := codeAt B47 [1,1,0,1,0,0,1,1,0,0,1]
noncomputable def n47_20 : Code := codeAt B47 [1,1,0,1,0,0,1,1,1]
noncomputable def n47_21 : Code := codeAt B47 [1,1,1]
noncomputable def n47_22 : Code := codeAt B47 [1,1,1,0]
noncomputable def n47_23 : Code := codeAt B47 [1,1,1,1]
theorem e47_0 : n47_0 = .seq n47_1 n47_2 := rfl
noncomputable def r47_1 := opsAt n47_1
theorem e47_1 : n47_1 = .region 0 (r47_1).toArray false := rfl
theorem e47_2 : n47_2 = .seq n47_3 n47_4 := rfl
noncomputable def r47_3 := opsAt n47_3
theorem e47_3 : n47_3 = .region 1 (r47_3).toArray false := rfl
theorem e47_4 : n47_4 = .seq n47_5 n47_21 := rfl
theorem e47_5 : n47_5 = .seq n47_6 n47_7 := rfl
noncomputable def r47_6 := opsAt n47_6
theorem e47_6 : n47_6 = .region 2 (r47_6).toArray false := rfl
theorem e47_7 : n47_7 = .block 0 n47_8 := rfl
theorem e47_8 : n47_8 = .loop n47_9 := rfl
theorem e47_9 : n47_9 = .seq n47_10 n47_11 := rfl
noncomputable def r47_10 := opsAt n47_10
theorem e47_10 : n47_10 = .region 3 (r47_10).toArray false := rfl
theorem e47_11 : n47_11 = .seq n47_12 n47_15 := rfl
theorem e47_12 : n47_12 = .cond (.tmp 11) n47_13 n47_14 := rfl
theorem e47_13 : n47_13 = .skip := rfl
theorem e47_14 : n47_14 = .exit 0 := rfl
theorem e47_15 : n47_15 = .seq n47_16 n47_20 := rfl
theorem e47_16 : n47_16 = .block 1 n47_17 := rfl
theorem e47_17 : n47_17 = .seq n47_18 n47_19 := rfl
noncomputable def r47_18 := opsAt n47_18
theorem e47_18 : n47_18 = .region 4 (r47_18).toArray false := rfl
noncomputable def r47_19 := opsAt n47_19
theorem e47_19 : n47_19 = .region 5 (r47_19).toArray false := rfl
noncomputable def r47_20 := opsAt n47_20
theorem e47_20 : n47_20 = .region 6 (r47_20).toArray false := rfl
theorem e47_21 : n47_21 = .seq n47_22 n47_23 := rfl
noncomputable def r47_22 := opsAt n47_22
theorem e47_22 : n47_22 = .region 7 (r47_22).toArray false := rfl
theorem e47_23 : n47_23 = .ret := rfl
theorem f_codec_little : PureOk Try.prog 47 sLittle := by
  refine pureOk_of (c := n47_0) (Γ := conOf []) (conOf_ok (conOf_end)) mixed Try.func47 B47_eq (by decide +kernel) Try.call47 ?_
  intro args hS
  unfold sLittle at hS ⊢
  split at hS
  · refine ⟨by rw [Try.ntmps47]; simp, vC_sound ?_⟩
    rename_i x w
    obtain ⟨hx, h0, h8⟩ := hS
    obtain ⟨n, ln, rfl⟩ := isul_out hx
    obtain ⟨w, rfl⟩ := Int.eq_ofNat_of_zero_le h0
    simp only [ulv_ul, Nat.mod_eq_of_lt ln, Int.toNat_natCast]
    have hw : w ≤ 8 := by omega
    clear hx h0 h8
    simp only [entry_cons, entry_nil, Nat.reduceAdd]
    repeat' (first
      | (with_reducible first | apply seqC_normal | apply blockC_normal | apply seqC_exit | apply blockC_hit | apply seqC_ret | apply blockC_ret | apply loopC_ret | apply loopC_exit)
      | ((with_reducible apply blockC_miss); (exact rfl))
      | ((with_reducible apply wC_seq e47_0; apply wC_region e47_1); refine vOps_open (l := _ :: _) rfl ?_; refine kOps_as rfl rfl rfl rfl ?_; refine vOps_nil ?_; (with_reducible apply seqC_normal; apply wC_seq e47_2; apply wC_region e47_3); refine vOps_open (l := _ :: _) rfl ?_; refine kOps_mv rfl rfl rfl rfl ?_; refine kOps_mk (d := 8) (l := 0) (c := w) rfl rfl rfl rfl rfl rfl ty22 ty5 (by simp only [↓List.length_append, ↓List.length_set, ↓List.length_cons, List.length_nil, Nat.reduceAdd, Nat.zero_add]; rfl) (by rfl) (by rfl) (by first | rfl | assumption | omega | (simp only [lns]; first | done | omega)) ?_; refine kOps_as rfl rfl rfl rfl ?_; refine vOps_nil ?_; (with_reducible apply seqC_normal; apply wC_seq e47_4; apply wC_seq e47_5; apply wC_region e47_6); refine vOps_open (l := _ :: _) rfl ?_; refine kOps_mv rfl rfl rfl rfl ?_; refine kOps_mv rfl rfl rfl rfl ?_; refine vOps_nil ?_; (with_reducible apply seqC_normal; apply wC_block e47_7))
      | ((with_reducible apply wC_seq e47_21; apply wC_region e47_22); refine vOps_open (l := _ :: _) rfl ?_; refine kOps_mv rfl rfl rfl rfl ?_; refine kOps_as rfl rfl rfl rfl ?_; refine vOps_nil ?_; (with_reducible apply seqC_normal; apply wC_ret e47_23)))
    refine wC_loopI (ι := {i : Nat // i ≤ w}) e47_8 (fun i => ([(0, ul n), (5, .own 0 0 i.1 1), (9, .lit (.int .i64 (w : Int))), (10, .lit (.int .i64 (i.1 : Int)))], [.cells ((leB n i.1).map bv)])) (fun i => w - i.1) ⟨0, by omega⟩ [0] ?_ ?_
    · show Weak _ _ _ _ _ _
      refine weak_mk (fun i h => absurd h (Nat.not_lt_zero i)) (by decide) (by simp) ?_ ?_
      · simp only [RenRows, List.nil_append, List.cons_append, List.set_cons_zero, List.set_cons_succ, List.getElem?_cons_zero, List.getElem?_cons_succ, Option.some.injEq, LE.cells.injEq, closedL_bv, closedL_wr, and_true, true_and]
        all_goals (exact bs_congr (leB_zero n).symm)
      · simp only [RenEnv, lookup_cons, Nat.reduceBEq, cond_true, cond_false]
        (repeat' apply And.intro) <;> first | trivial | exact ren_keep rfl | exact ren_keep (closed_u4 _) | (refine ren_int ?_; omega) | (refine ren_own rfl ?_; first | rfl | omega | (simp; done) | (omega; done)) | (refine ren_int ?_; omega; done) | (refine ren_int ?_; simp; done) | (refine ren_keep ?_; simp only [closed, closedL_bv, closedL_wr]; done) | (refine ren_ptr rfl; done)
    · rintro ⟨i, hi⟩
      dsimp only
      have h8i : (8 * (i : Int)).toNat = 8 * i := by omega
      repeat' (first
        | (with_reducible first | apply seqC_normal | apply blockC_normal | apply seqC_exit | apply blockC_hit | apply seqC_ret | apply blockC_ret | apply loopC_ret | apply loopC_exit)
        | ((with_reducible apply blockC_miss); (exact rfl))
        | ((with_reducible apply wC_seq e47_9; apply wC_region e47_10); refine vOps_open (l := _ :: _) rfl ?_; refine kOps_bin (b := .lss) (pre := ?_) (val := ?_) rfl rfl rfl rfl rfl ?_ ?_ ?_; rotate_left 2; (intro L; simp only [splice_one, cells_bv, getD_bv, set_bv, cells_agg, Nat.mod_eq_of_lt ln, h8i, Int.toNat_natCast, lss_ul, binF_lss, Int.reduceAdd, Int.reduceSub, Int.reduceMul, Int.reduceNeg, Int.sub_zero, Int.cast_ofNat_Int, ne_eq, Int.reduceLT, Int.reduceLE, Int.reduceEq, Nat.reduceMod, Nat.reduceLT, decide_true, decide_false, ty3]; (first | (rw [wrap_i64] <;> first | omega | rfl) | (rw [wrap_u8] <;> first | omega | rfl) | (rw [wrap_u16] <;> first | omega | rfl) | (rw [wrap_u32] <;> first | omega | rfl) | rfl)); exact trivial; refine vOps_nil ?_; (with_reducible apply seqC_normal; apply wC_seq e47_11; apply kC_cond e47_12); (exact rfl); all_goals (intro hb; first | (cases hb; done) | cases hb | ((try simp only [decide_eq_true_eq, decide_eq_false_iff_not, Bool.not_eq_true', Bool.not_eq_false'] at hb); try (exfalso; first | omega | exact hb trivial))))
        | ((with_reducible apply wC_skip e47_13))
        | ((with_reducible apply wC_exit e47_14))
        | ((with_reducible apply wC_seq e47_15; apply wC_block e47_16; apply wC_seq e47_17; apply wC_region e47_18); refine vOps_open (l := _ :: _) rfl ?_; refine kOps_mv rfl rfl rfl rfl ?_; refine kOps_as rfl rfl rfl rfl ?_; refine vOps_nil ?_; (with_reducible apply seqC_normal; apply wC_region e47_19); refine vOps_open (l := _ :: _) rfl ?_; refine kOps_mv rfl rfl rfl rfl ?_; refine kOps_mv rfl rfl rfl rfl ?_; refine kOps_mv rfl rfl rfl rfl ?_; refine kOps_bin (b := .mul) (pre := ?_) (val := ?_) rfl rfl rfl rfl rfl ?_ ?_ ?_; rotate_left 2; (intro L; simp only [splice_one, cells_bv, getD_bv, set_bv, cells_agg, Nat.mod_eq_of_lt ln, h8i, Int.toNat_natCast, mul_ul, binF_mul, Int.reduceAdd, Int.reduceSub, Int.reduceMul, Int.reduceNeg, Int.sub_zero, Int.cast_ofNat_Int, ne_eq, Int.reduceLT, Int.reduceLE, Int.reduceEq, Nat.reduceMod, Nat.reduceLT, decide_true, decide_false, ty3]; (first | (rw [wrap_i64] <;> first | omega | rfl) | (rw [wrap_u8] <;> first | omega | rfl) | (rw [wrap_u16] <;> first | omega | rfl) | (rw [wrap_u32] <;> first | omega | rfl) | rfl)); exact trivial; refine kOps_bin (b := .shr) (pre := ?_) (val := ?_) rfl rfl rfl rfl rfl ?_ ?_ ?_; rotate_left 2; (intro L; simp only [splice_one, cells_bv, getD_bv, set_bv, cells_agg, Nat.mod_eq_of_lt ln, h8i, Int.toNat_natCast, shr_z, shr_ul, binF_shr, Int.reduceAdd, Int.reduceSub, Int.reduceMul, Int.reduceNeg, Int.sub_zero, Int.cast_ofNat_Int, ne_eq, Int.reduceLT, Int.reduceLE, Int.reduceEq, Nat.reduceMod, Nat.reduceLT, decide_true, decide_false, ty23]; (first | (rw [wrap_i64] <;> first | omega | rfl) | (rw [wrap_u8] <;> first | omega | rfl) | (rw [wrap_u16] <;> first | omega | rfl) | (rw [wrap_u32] <;> first | omega | rfl) | rfl)); (focus ((repeat' apply And.intro) <;> first | exact True.intro | omega | (with_reducible rfl) | assumption | (simp only [lns]; first | done | omega) | (simp only [one_bv, cells_bv, one_bv1, List.length_cons, List.length_nil, List.all_cons, List.all_nil, Bool.and_self]; done) | (simp only [cells_agg, one_bv, lns, and_self, true_and, Nat.le_refl, Nat.reduceAdd, Nat.zero_add]; done) | exact one_bv _ | exact ⟨_, rfl⟩ | (simp [PV.one, one_bv, PV.cells, Value.cells, Value.oneCell']; done))); refine kOps_conv (s := 23) (t := 5) (pre := ?_) (val := ?_) rfl rfl rfl rfl ?_ ?_ ?_; rotate_left 2; (intro L; simp only [splice_one, cells_bv, getD_bv, set_bv, cells_agg, Nat.mod_eq_of_lt ln, h8i, Int.toNat_natCast, cv_23_5, cw_23_5]; first | rfl | (first | (rw [wrap_i64] <;> first | omega | rfl) | (rw [wrap_u8] <;> first | omega | rfl) | (rw [wrap_u16] <;> first | omega | rfl) | (rw [wrap_u32] <;> first | omega | rfl) | rfl)); exact trivial; (first | refine kOps_bsl (d := 19) (ps := ([_] : List UInt8).map bv) rfl rfl rfl rfl rfl (rfl) ty22 ty5 rfl rfl (by decide) (by simp only [↓List.length_append, ↓List.length_set, ↓List.length_cons, List.length_nil, Nat.reduceAdd, Nat.zero_add]; rfl) (by simp only [List.length_map, List.length_cons, List.length_nil, Nat.reduceAdd, Nat.zero_add]) (by decide) (by decide) (by exact one_cells_bv) ?_ | refine kOps_bsd (d := 19) (ps := ([_] : List UInt8).map bv) rfl rfl rfl rfl rfl (rfl) ty22 ty5 rfl rfl (by decide) (by simp only [List.length_map, List.length_cons, List.length_nil, Nat.reduceAdd, Nat.zero_add]) (by decide) (by decide) (by exact one_cells_bv) ?_); refine kOps_app (d := 20) rfl rfl rfl rfl rfl rfl ty22 ty22 ty5 (by first | exact app_nil | (refine app_own rfl ?_; (first | rfl | assumption | omega | (simp only [lns]; first | done | omega)))) (by first | exact byt_nil | ((first | refine byt_ro ?_ | refine byt_own rfl ?_); (first | rfl | assumption | omega | (simp only [lns]; first | done | omega))) | (refine byt_part rfl ?_ rfl; (first | rfl | assumption | omega | (simp only [lns]; first | done | omega)))) (by simp only [↓List.length_append, ↓List.length_set, ↓List.length_cons, List.length_nil, Nat.reduceAdd, Nat.zero_add]; rfl) (by simp only [kill, List.set_cons_zero, List.set_cons_succ, List.cons_append, List.nil_append]; rfl) (by first | rfl | assumption | omega | (simp only [lns]; first | done | omega)) ?_; refine kOps_as rfl rfl rfl rfl ?_; refine vOps_nil ?_)
        | ((with_reducible apply wC_region e47_20); refine vOps_open (l := _ :: _) rfl ?_; refine kOps_bin (b := .add) (pre := ?_) (val := ?_) rfl rfl rfl rfl rfl ?_ ?_ ?_; rotate_left 2; (intro L; simp only [splice_one, cells_bv, getD_bv, set_bv, cells_agg, Nat.mod_eq_of_lt ln, h8i, Int.toNat_natCast, add_ul, binF_add, Int.reduceAdd, Int.reduceSub, Int.reduceMul, Int.reduceNeg, Int.sub_zero, Int.cast_ofNat_Int, ne_eq, Int.reduceLT, Int.reduceLE, Int.reduceEq, Nat.reduceMod, Nat.reduceLT, decide_true, decide_false, ty3]; (first | (rw [wrap_i64] <;> first | omega | rfl) | (rw [wrap_u8] <;> first | omega | rfl) | (rw [wrap_u16] <;> first | omega | rfl) | (rw [wrap_u32] <;> first | omega | rfl) | rfl)); exact trivial; refine kOps_mv rfl rfl rfl rfl ?_; refine vOps_nil ?_)
        | ((with_reducible apply wC_seq e47_21; apply wC_region e47_22); refine vOps_open (l := _ :: _) rfl ?_; refine kOps_mv rfl rfl rfl rfl ?_; refine kOps_as rfl rfl rfl rfl ?_; refine vOps_nil ?_; (with_reducible apply seqC_normal; apply wC_ret e47_23)))
      · refine loopC_normal ⟨i + 1, by omega⟩ [2] (by show w - (i + 1) < w - i; omega) ?_
        refine weak_mk (fun i h => absurd h (Nat.not_lt_zero i)) (by decide) (by simp) ?_ ?_
        · simp only [RenRows, List.nil_append, List.cons_append, List.set_cons_zero, List.set_cons_succ, List.getElem?_cons_zero, List.getElem?_cons_succ, Option.some.injEq, LE.cells.injEq, closedL_bv, closedL_wr, and_true, true_and]
          all_goals (exact bs_congr (by rw [leF_def, leB_succ]))
        · simp only [RenEnv, lookup_cons, Nat.reduceBEq, cond_true, cond_false]
          (repeat' apply And.intro) <;> first | trivial | exact ren_keep rfl | exact ren_keep (closed_u4 _) | (refine ren_int ?_; omega) | (refine ren_own rfl ?_; first | rfl | omega | (simp; done) | (rw [len_leB]; done)) | (refine ren_int ?_; omega; done) | (refine ren_int ?_; simp; done) | (refine ren_keep ?_; simp only [closed, closedL_bv, closedL_wr]; done) | (refine ren_ptr rfl; done)
      · obtain rfl : i = w := by omega
        exact fin_new (by simp) rfl rfl rfl (by rw [len_leB])

  · exact hS.elim
end Go.Ab
