import Derived.Test.YtejilmjdkoileaaMP
import Derived.Test.YtejilmjdkoileaaTY
import Derived.Test.YtejilmjdkoileaaFbitsRotateLeft64
namespace Go.Ab
open Go Go.Proofs
set_option linter.unusedVariables false
set_option linter.unusedSimpArgs false
set_option maxRecDepth 8000
set_option maxHeartbeats 4000000

noncomputable def B17 : Code := bodyOf Try.f17
theorem B17_eq : Try.f17.body = some B17 := by kernel_rfl
noncomputable def n17_0 : Code := B17
noncomputable def n17_1 : Code := codeAt B17 [0]
noncomputable def n17_2 : Code := codeAt B17 [1]
noncomputable def n17_3 : Code := codeAt B17 [1,0]
noncomputable def n17_4 : Code := codeAt B17 [1,0,0]
noncomputable def n17_5 : Code := codeAt B17 [1,0,1]
noncomputable def n17_6 : Code := codeAt B17 [1,0,1,0]
noncomputable def n17_7 : Code := codeAt B17 [1,0,1,0,0]
noncomputable def n17_8 : Code := codeAt B17 [1,0,1,0,0,0]
noncomputable def n17_9 : Code := codeAt B17 [1,0,1,0,0,1]
noncomputable def n17_10 : Code := codeAt B17 [1,0,1,0,0,1,0]
noncomputable def n17_11 : Code := codeAt B17 [1,0,1,0,0,1,0,0]
noncomputable def n17_12 : Code := codeAt B17 [1,0,1,0,0,1,0,1]
noncomputable def n17_13 : Code := codeAt B17 [1,0,1,0,0,1,1]
noncomputable def n17_14 : Code := codeAt B17 [1,0,1,0,0,1,1,0]
noncomputable def n17_15 : Code := codeAt B17 [1,0,1,0,0,1,1,0,0]
noncomputable def n17_16 : Code := codeAt B17 [1,0,1,0,0,1,1,0,0,0]
noncomputable def n17_17 : Code := codeAt B17 [1,0,1,0,0,1,1,0,0,1]
noncomputable def n17_18 : Code := codeAt B17 [1,0,1,0,0,1,1,0,0,1,0]
noncomputable def n17_19 : Code := codeAt B17 [1,0,1,0,0,1,1,0,0,1,1]
noncomputable def n17_20 : Code := codeAt B17 [1,0,1,0,0,1,1,0,0,1,1,0]
noncomputable def n17_21 : Code := codeAt B17 [1,0,1,0,0,1,1,0,0,1,1,1]
noncomputable def n17_22 : Code := codeAt B17 [1,0,1,0,0,1,1,0,0,1,1,1,0]
noncomputable def n17_23 : Code := codeAt B17 [1,0,1,0,0,1,1,0,0,1,1,1,1]
noncomputable def n17_24 : Code := codeAt B17 [1,0,1,0,0,1,1,0,0,1,1,1,1,0]
noncomputable def n17_25 : Code := codeAt B17 [1,0,1,0,0,1,1,0,0,1,1,1,1,1]
noncomputable def n17_26 : Code := codeAt B17 [1,0,1,0,0,1,1,0,0,1,1,1,1,1,0]
noncomputable def n17_27 : Code := codeAt B17 [1,0,1,0,0,1,1,0,0,1,1,1,1,1,1]
noncomputable def n17_28 : Code := codeAt B17 [1,0,1,0,0,1,1,0,0,1,1,1,1,1,1,0]
noncomputable def n17_29 : Code := codeAt B17 [1,0,1,0,0,1,1,0,0,1,1,1,1,1,1,1]
noncomputable def n17_30 : Code := codeAt B17 [1,0,1,0,0,1,1,0,0,1,1,1,1,1,1,1,0]
noncomputable def n17_31 : Code := codeAt B17 [1,0,1,0,0,1,1,0,0,1,1,1,1,1,1,1,1]
noncomputable def n17_32 : Code := codeAt B17 [1,0,1,0,0,1,1,0,0,1,1,1,1,1,1,1,1,0]
noncomputable def n17_33 : Code := codeAt B17 [1,0,1,0,0,1,1,0,0,1,1,1,1,1,1,1,1,1]
noncomputable def n17_34 : Code := codeAt B17 [1,0,1,0,0,1,1,1]
noncomputable def n17_35 : Code := codeAt B17 [1,1]
noncomputable def n17_36 : Code := codeAt B17 [1,1,0]
noncomputable def n17_37 : Code := codeAt B17 [1,1,1]
theorem e17_0 : n17_0 = .seq n17_1 n17_2 := rfl
noncomputable def r17_1 := opsAt n17_1
theorem e17_1 : n17_1 = .region 0 (r17_1).toArray false := rfl
theorem e17_2 : n17_2 = .seq n17_3 n17_35 := rfl
theorem e17_3 : n17_3 = .seq n17_4 n17_5 := rfl
noncomputable def r17_4 := opsAt n17_4
theorem e17_4 : n17_4 = .region 1 (r17_4).toArray false := rfl
theorem e17_5 : n17_5 = .block 0 n17_6 := rfl
theorem e17_6 : n17_6 = .loop n17_7 := rfl
theorem e17_7 : n17_7 = .seq n17_8 n17_9 := rfl
noncomputable def r17_8 := opsAt n17_8
theorem e17_8 : n17_8 = .region 2 (r17_8).toArray false := rfl
theorem e17_9 : n17_9 = .seq n17_10 n17_13 := rfl
theorem e17_10 : n17_10 = .cond (.tmp 7) n17_11 n17_12 := rfl
theorem e17_11 : n17_11 = .skip := rfl
theorem e17_12 : n17_12 = .exit 0 := rfl
theorem e17_13 : n17_13 = .seq n17_14 n17_34 := rfl
theorem e17_14 : n17_14 = .block 1 n17_15 := rfl
theorem e17_15 : n17_15 = .seq n17_16 n17_17 := rfl
noncomputable def r17_16 := opsAt n17_16
theorem e17_16 : n17_16 = .region 3 (r17_16).toArray false := rfl
theorem e17_17 : n17_17 = .seq n17_18 n17_19 := rfl
noncomputable def r17_18 := opsAt n17_18
theorem e17_18 : n17_18 = .region 4 (r17_18).toArray true := rfl
theorem a17_18 : anyOk r17_18 = true := by decide +kernel
theorem e17_19 : n17_19 = .seq n17_20 n17_21 := rfl
noncomputable def r17_20 := opsAt n17_20
theorem e17_20 : n17_20 = .region 5 (r17_20).toArray false := rfl
theorem e17_21 : n17_21 = .seq n17_22 n17_23 := rfl
noncomputable def r17_22 := opsAt n17_22
theorem e17_22 : n17_22 = .region 6 (r17_22).toArray false := rfl
theorem e17_23 : n17_23 = .seq n17_24 n17_25 := rfl
noncomputable def r17_24 := opsAt n17_24
theorem e17_24 : n17_24 = .region 7 (r17_24).toArray true := rfl
theorem a17_24 : anyOk r17_24 = true := by decide +kernel
theorem e17_25 : n17_25 = .seq n17_26 n17_27 := rfl
noncomputable def r17_26 := opsAt n17_26
theorem e17_26 : n17_26 = .region 8 (r17_26).toArray false := rfl
theorem e17_27 : n17_27 = .seq n17_28 n17_29 := rfl
noncomputable def r17_28 := opsAt n17_28
theorem e17_28 : n17_28 = .region 9 (r17_28).toArray true := rfl
theorem a17_28 : anyOk r17_28 = true := by decide +kernel
theorem e17_29 : n17_29 = .seq n17_30 n17_31 := rfl
noncomputable def r17_30 := opsAt n17_30
theorem e17_30 : n17_30 = .region 10 (r17_30).toArray false := rfl
theorem e17_31 : n17_31 = .seq n17_32 n17_33 := rfl
noncomputable def r17_32 := opsAt n17_32
theorem e17_32 : n17_32 = .region 11 (r17_32).toArray true := rfl
theorem a17_32 : anyOk r17_32 = true := by decide +kernel
noncomputable def r17_33 := opsAt n17_33
theorem e17_33 : n17_33 = .region 12 (r17_33).toArray false := rfl
noncomputable def r17_34 := opsAt n17_34
theorem e17_34 : n17_34 = .region 13 (r17_34).toArray false := rfl
theorem e17_35 : n17_35 = .seq n17_36 n17_37 := rfl
noncomputable def r17_36 := opsAt n17_36
theorem e17_36 : n17_36 = .region 14 (r17_36).toArray false := rfl
theorem e17_37 : n17_37 = .ret := rfl
theorem f_sip_rounds : PureOk Try.prog 17 sRounds := by
  refine pureOk_of (c := n17_0) (Γ := conOf [(22, .pure sRotL64)]) (conOf_ok (conOf_one (S := .pure sRotL64) f_bits_RotateLeft64 (conOf_end))) mixed Try.func17 B17_eq (by decide +kernel) Try.call17 ?_
  intro args hS
  unfold sRounds at hS ⊢
  split at hS
  · refine ⟨by rw [Try.ntmps17]; simp, vC_sound ?_⟩
    rename_i s n
    obtain ⟨hs, h0, h1⟩ := hS
    obtain ⟨s, rfl⟩ := s4_out hs
    obtain ⟨n, rfl⟩ := Int.eq_ofNat_of_zero_le h0
    simp only [s4Of_s4, Int.toNat_natCast]
    clear hs h0
    simp only [entry_cons, entry_nil, Nat.reduceAdd]
    repeat' (first
      | (with_reducible first | apply seqC_normal | apply blockC_normal | apply seqC_exit | apply blockC_hit | apply seqC_ret | apply blockC_ret | apply loopC_ret | apply loopC_exit)
      | ((with_reducible apply blockC_miss); (exact rfl))
      | ((with_reducible apply wC_seq e17_0; apply wC_region e17_1); refine vOps_open (l := _ :: _) rfl ?_; refine kOps_box (row := ?_) (n := ?_) rfl rfl rfl rfl rfl ?_ ?_ ?_ ?_; rotate_left 2; (simp only [↓List.length_append, ↓List.length_set, ↓List.length_cons, List.length_nil, Nat.reduceAdd, Nat.zero_add]; rfl); (simp only [cells_s4, cells_k2, List.nil_append, List.append_nil, List.cons_append, if_true, getD_bv, cells_ul, cells_u4, cells_agg, cells_int, cells_bool, cells_string, cells_slice, cells_ro, cells_rptr]; rfl); (focus (first | rfl | exact one_cl _ _ | exact one_bv _ | (simp only [one_cl, one_ul, List.all_cons, List.all_nil, Bool.and_self, PV.one]; done) | (simp [PV.one, one_ul, one_cl, one_bv, Value.oneCell']; done))); refine kOps_alloc (row := ?_) (n := ?_) rfl rfl rfl rfl ty37 ?_ ?_ ?_ ?_; rotate_left 2; (simp only [↓List.length_append, ↓List.length_set, ↓List.length_cons, List.length_nil, Nat.reduceAdd, Nat.zero_add]; rfl); (simp only [cells_s4, cells_k2, List.nil_append, List.append_nil, List.cons_append, if_true, getD_bv, Value.cells, List.map_cons, List.map_nil, List.toList_toArray, lit_ul0]; rfl); (focus (first | (simp only [Value.cells, List.toList_toArray, List.forall_mem_cons, List.forall_mem_nil, Value.oneCell', and_self]; done) | (simp [Value.cells, Value.oneCell']; done))); refine vOps_nil ?_; (with_reducible apply seqC_normal; apply wC_seq e17_2; apply wC_seq e17_3; apply wC_region e17_4); refine vOps_open (l := _ :: _) rfl ?_; refine kOps_mv rfl rfl rfl rfl ?_; refine kOps_mv rfl rfl rfl rfl ?_; refine vOps_nil ?_; (with_reducible apply seqC_normal; apply wC_block e17_5))
      | ((with_reducible apply wC_seq e17_35; apply wC_region e17_36); refine vOps_open (l := _ :: _) rfl ?_; (first | refine kOps_loadp (pre := ?_) (val := ?_) rfl rfl rfl rfl rfl ty37 ?_ ?_ ?_ | refine kOps_loadr (pre := ?_) (val := ?_) rfl rfl rfl rfl ty37 ?_ ?_ ?_); rotate_left 2; (simp only [cells_s4, cells_k2, List.nil_append, List.append_nil, List.cons_append, if_true, getD_bv, partF, isAggD, Bool.false_eq_true, if_false, List.getElem?_cons_zero, List.getElem?_cons_succ, List.getD_cons_zero, List.getD_cons_succ, List.drop_zero, List.drop_succ_cons, List.take_succ_cons, List.take_zero, List.length_cons, List.length_nil, List.set_cons_zero, List.set_cons_succ, Nat.zero_add, n_add_zero, Nat.mul_one, Nat.reduceAdd, Nat.reduceMul, Int.toNat_natCast, Int.reduceToNat, Int.toNat_zero, take_cl, agg_cl, len_cl]; rfl); (focus ((repeat' apply And.intro) <;> first | exact True.intro | omega | (with_reducible rfl) | assumption | (simp only [List.length_map, List.length_set, List.length_replicate, List.length_cons, List.length_nil, List.length_append, List.length_take, List.length_drop, len_cnt]; omega) | (simp only [cells_s4, cells_k2, cells_agg, one_ul, List.length_cons, List.length_nil, List.all_cons, List.all_nil, Bool.and_self, Nat.reduceAdd, Nat.zero_add, Nat.le_refl, Nat.reduceLeDiff, and_self, true_and, and_true]; done) | (simp only [cells_agg, one_bv, List.length_map, List.length_set, List.length_replicate, List.length_cons, List.length_nil, List.length_append, List.length_take, List.length_drop, len_cnt, and_self, true_and, Nat.le_refl, Nat.reduceAdd, Nat.zero_add]; done) | exact ⟨_, rfl⟩ | (simp only [one_cl, one_ul, cells_u4, cells_ul, len_cl, List.all_cons, List.all_nil, Bool.and_self, List.length_cons, List.length_nil]; done) | (simp only [len_cl]; omega) | (simp [Value.cells, Value.oneCell']; done))); refine kOps_store (cs' := ?_) rfl rfl rfl rfl rfl rfl rfl ty37 ?_ ?_ ?_; rotate_left 1; (simp only [cells_s4, cells_k2, List.nil_append, List.append_nil, List.cons_append, if_true, getD_bv, splice, cells_ul, cells_u4, cells_agg, cells_int, cells_bool, cells_string, cells_slice, cells_ro, cells_rptr, isAggD, Bool.false_eq_true, if_false, List.getElem?_cons_zero, List.getElem?_cons_succ, List.getD_cons_zero, List.getD_cons_succ, List.drop_zero, List.drop_succ_cons, List.take_succ_cons, List.take_zero, List.length_cons, List.length_nil, List.set_cons_zero, List.set_cons_succ, Nat.zero_add, n_add_zero, Nat.mul_one, Nat.reduceAdd, Nat.reduceMul, Int.toNat_natCast, Int.reduceToNat, Int.toNat_zero, take_cl, agg_cl, len_cl]; rfl); (focus (first | (simp only [cells_ul, cells_u4, cells_agg, cells_int, cells_bool, cells_string, cells_slice, cells_ro, cells_rptr, List.length_cons, List.length_nil, len_cl, List.length_set, List.length_map, Nat.reduceAdd, Nat.zero_add, List.all_cons, List.all_nil, one_ul, one_cl, one_bv, PV.one, Value.oneCell', Bool.and_self, Nat.reduceLeDiff, Nat.le_refl, and_self, true_and, and_true]; done) | ((try simp only [cells_ul, cells_u4, cells_agg, cells_int, cells_bool, cells_string, cells_slice, cells_ro, cells_rptr]); (focus ((repeat' apply And.intro) <;> first | exact True.intro | omega | (with_reducible rfl) | assumption | (simp only [List.length_map, List.length_set, List.length_replicate, List.length_cons, List.length_nil, List.length_append, List.length_take, List.length_drop, len_cnt]; omega) | (simp only [cells_s4, cells_k2, cells_agg, one_ul, List.length_cons, List.length_nil, List.all_cons, List.all_nil, Bool.and_self, Nat.reduceAdd, Nat.zero_add, Nat.le_refl, Nat.reduceLeDiff, and_self, true_and, and_true]; done) | (simp only [cells_agg, one_bv, List.length_map, List.length_set, List.length_replicate, List.length_cons, List.length_nil, List.length_append, List.length_take, List.length_drop, len_cnt, and_self, true_and, Nat.le_refl, Nat.reduceAdd, Nat.zero_add]; done) | exact ⟨_, rfl⟩ | (simp only [one_cl, one_ul, cells_u4, cells_ul, len_cl, List.all_cons, List.all_nil, Bool.and_self, List.length_cons, List.length_nil]; done) | (simp only [len_cl]; omega) | (simp [Value.cells, Value.oneCell']; done)))))); refine vOps_nil ?_; (with_reducible apply seqC_normal; apply wC_ret e17_37)))
    refine wC_loopI (ι := {i : Nat // i ≤ n}) e17_6 (fun i => ([(2, .ptr 0 0), (4, .ptr 1 0), (5, .lit (.int .i64 (n : Int))), (6, .lit (.int .i64 (i.1 : Int)))], [.cells [ul (srs i.1 s).a.toNat, ul (srs i.1 s).b.toNat, ul (srs i.1 s).c.toNat, ul (srs i.1 s).d.toNat], .cells [ul 0, ul 0, ul 0, ul 0]])) (fun i => n - i.1) ⟨0, by omega⟩ [0, 1] ?_ ?_
    · show Weak _ _ _ _ _ _
      refine weak_mk (fun i h => absurd h (Nat.not_lt_zero i)) (by decide) (by simp) ?_ ?_
      · simp only [RenRows, List.nil_append, List.cons_append, List.set_cons_zero, List.set_cons_succ, List.getElem?_cons_zero, List.getElem?_cons_succ, Option.some.injEq, LE.cells.injEq, closedL_bv, closedL_wr, and_true, true_and]
        all_goals ((rw [srs_zero]; exact ⟨⟨rfl, rfl⟩, rfl⟩))
      · simp only [RenEnv, lookup_cons, Nat.reduceBEq, cond_true, cond_false]
        (repeat' apply And.intro) <;> first | trivial | exact ren_keep rfl | exact ren_keep (closed_u4 _) | (refine ren_int ?_; omega) | (refine ren_own rfl ?_; first | rfl | omega | (simp; done) | (omega; done)) | (refine ren_int ?_; omega; done) | (refine ren_int ?_; simp; done) | (refine ren_keep ?_; simp only [closed, closedL_bv, closedL_wr]; done) | (refine ren_ptr rfl; done)
    · rintro ⟨i, hi⟩
      dsimp only
      repeat' (first
        | (with_reducible first | apply seqC_normal | apply blockC_normal | apply seqC_exit | apply blockC_hit | apply seqC_ret | apply blockC_ret | apply loopC_ret | apply loopC_exit)
        | ((with_reducible apply blockC_miss); (exact rfl))
        | ((with_reducible apply wC_seq e17_7; apply wC_region e17_8); refine vOps_open (l := _ :: _) rfl ?_)
        | ((with_reducible apply wC_seq e17_9; apply kC_cond e17_10); (exact rfl); all_goals (intro hb; first | (cases hb; done) | cases hb | ((try simp only [decide_eq_true_eq, decide_eq_false_iff_not, Bool.not_eq_true', Bool.not_eq_false'] at hb); try (exfalso; first | omega | exact hb trivial))))
        | ((with_reducible apply wC_skip e17_11))
        | ((with_reducible apply wC_exit e17_12))
        | ((with_reducible apply wC_seq e17_13; apply wC_block e17_14; apply wC_seq e17_15; apply wC_region e17_16); refine vOps_open (l := _ :: _) rfl ?_)
        | ((with_reducible apply wC_seq e17_17; apply wC_any e17_18 a17_18); refine vOps_open (l := _ :: _) rfl ?_)
        | ((with_reducible apply wC_seq e17_19; apply wC_region e17_20); refine vOps_open (l := _ :: _) rfl ?_)
        | ((with_reducible apply wC_seq e17_21; apply wC_region e17_22); refine vOps_open (l := _ :: _) rfl ?_)
        | ((with_reducible apply wC_seq e17_23; apply wC_any e17_24 a17_24); refine vOps_open (l := _ :: _) rfl ?_)
        | ((with_reducible apply wC_seq e17_25; apply wC_region e17_26); refine vOps_open (l := _ :: _) rfl ?_)
        | ((with_reducible apply wC_seq e17_27; apply wC_any e17_28 a17_28); refine vOps_open (l := _ :: _) rfl ?_)
        | ((with_reducible apply wC_seq e17_29; apply wC_region e17_30); refine vOps_open (l := _ :: _) rfl ?_)
        | ((with_reducible apply wC_seq e17_31; apply wC_any e17_32 a17_32); refine vOps_open (l := _ :: _) rfl ?_)
        | ((with_reducible apply wC_region e17_33); refine vOps_open (l := _ :: _) rfl ?_)
        | ((with_reducible apply wC_region e17_34); refine vOps_open (l := _ :: _) rfl ?_)
        | ((with_reducible apply wC_seq e17_35; apply wC_region e17_36); refine vOps_open (l := _ :: _) rfl ?_)
        | ((with_reducible apply wC_ret e17_37))
        | ((with_reducible apply vOps_nil); try (with_reducible refine And.intro (by kernel_rfl) ?_))
        | (refine kOps_gon (g := ?_) (p := ?_) rfl rfl ?_ ?_ ?_ ?_; rotate_left 2; fail; (exact rfl); (with_reducible rfl))
        | (refine kOps_gofft (g := ?_) (p := ?_) rfl rfl ?_ ?_ ?_ ?_; rotate_left 2; fail; (exact rfl); (with_reducible rfl))
        | (refine kOps_gofff (g := ?_) (p := ?_) rfl rfl ?_ ?_ ?_ ?_; rotate_left 2; fail; (exact rfl); (with_reducible rfl))
        | (refine kOps_pickt rfl rfl rfl rfl ?_ rfl ?_; (with_reducible rfl))
        | (refine kOps_pickf rfl rfl rfl rfl ?_ rfl ?_; (with_reducible rfl))
        | (refine kOps_bin (b := .lss) (pre := ?_) (val := ?_) rfl rfl rfl rfl rfl ?_ ?_ ?_; rotate_left 2; (intro L; simp only [cells_s4, cells_k2, List.nil_append, List.append_nil, List.cons_append, if_true, getD_bv, d_add, d_xor, d_or, lit_ul0, lit_ul1, lss_ul, binF_lss, Int.reduceAdd, Int.reduceSub, Int.reduceMul, Int.reduceNeg, Int.sub_zero, Int.cast_ofNat_Int, ne_eq, Int.reduceLT, Int.reduceLE, Int.reduceEq, Nat.reduceMod, Nat.reduceLT, decide_true, decide_false, ty3]; (first | (rw [wrap_i64] <;> first | omega | rfl) | (rw [wrap_u8] <;> first | omega | rfl) | (rw [wrap_u16] <;> first | omega | rfl) | (rw [wrap_u32] <;> first | omega | rfl) | rfl)); exact trivial)
        | (refine kOps_fdap (o2 := ?_) rfl rfl rfl rfl rfl fd37_0 ty22 (by decide) ?_ ?_; rotate_left 1; (simp only [Nat.zero_add, Nat.reduceAdd]; rfl))
        | ((first | refine kOps_loadp (pre := ?_) (val := ?_) rfl rfl rfl rfl rfl ty22 ?_ ?_ ?_ | refine kOps_loadr (pre := ?_) (val := ?_) rfl rfl rfl rfl ty22 ?_ ?_ ?_); rotate_left 2; (simp only [cells_s4, cells_k2, List.nil_append, List.append_nil, List.cons_append, if_true, getD_bv, partF, isAggD, Bool.false_eq_true, if_false, List.getElem?_cons_zero, List.getElem?_cons_succ, List.getD_cons_zero, List.getD_cons_succ, List.drop_zero, List.drop_succ_cons, List.take_succ_cons, List.take_zero, List.length_cons, List.length_nil, List.set_cons_zero, List.set_cons_succ, Nat.zero_add, n_add_zero, Nat.mul_one, Nat.reduceAdd, Nat.reduceMul, Int.toNat_natCast, Int.reduceToNat, Int.toNat_zero, take_cl, agg_cl, len_cl]; rfl); (focus ((repeat' apply And.intro) <;> first | exact True.intro | omega | (with_reducible rfl) | assumption | (simp only [List.length_map, List.length_set, List.length_replicate, List.length_cons, List.length_nil, List.length_append, List.length_take, List.length_drop, len_cnt]; omega) | (simp only [cells_s4, cells_k2, cells_agg, one_ul, List.length_cons, List.length_nil, List.all_cons, List.all_nil, Bool.and_self, Nat.reduceAdd, Nat.zero_add, Nat.le_refl, Nat.reduceLeDiff, and_self, true_and, and_true]; done) | (simp only [cells_agg, one_bv, List.length_map, List.length_set, List.length_replicate, List.length_cons, List.length_nil, List.length_append, List.length_take, List.length_drop, len_cnt, and_self, true_and, Nat.le_refl, Nat.reduceAdd, Nat.zero_add]; done) | exact ⟨_, rfl⟩ | (simp only [one_cl, one_ul, cells_u4, cells_ul, len_cl, List.all_cons, List.all_nil, Bool.and_self, List.length_cons, List.length_nil]; done) | (simp only [len_cl]; omega) | (simp [Value.cells, Value.oneCell']; done))))
        | (refine kOps_fdap (o2 := ?_) rfl rfl rfl rfl rfl fd37_1 ty22 (by decide) ?_ ?_; rotate_left 1; (simp only [Nat.zero_add, Nat.reduceAdd]; rfl))
        | (refine kOps_bin (b := .add) (pre := ?_) (val := ?_) rfl rfl rfl rfl rfl ?_ ?_ ?_; rotate_left 2; (intro L; simp only [cells_s4, cells_k2, List.nil_append, List.append_nil, List.cons_append, if_true, getD_bv, d_add, d_xor, d_or, lit_ul0, lit_ul1, add_ul, binF_add, Int.reduceAdd, Int.reduceSub, Int.reduceMul, Int.reduceNeg, Int.sub_zero, Int.cast_ofNat_Int, ne_eq, Int.reduceLT, Int.reduceLE, Int.reduceEq, Nat.reduceMod, Nat.reduceLT, decide_true, decide_false, ty22]; (first | (rw [wrap_i64] <;> first | omega | rfl) | (rw [wrap_u8] <;> first | omega | rfl) | (rw [wrap_u16] <;> first | omega | rfl) | (rw [wrap_u32] <;> first | omega | rfl) | rfl)); exact trivial)
        | (refine kOps_store (cs' := ?_) rfl rfl rfl rfl rfl rfl rfl ty22 ?_ ?_ ?_; rotate_left 1; (simp only [cells_s4, cells_k2, List.nil_append, List.append_nil, List.cons_append, if_true, getD_bv, lit_ul0, lit_ul1, splice, cells_ul, cells_u4, cells_agg, cells_int, cells_bool, cells_string, cells_slice, cells_ro, cells_rptr, isAggD, Bool.false_eq_true, if_false, List.getElem?_cons_zero, List.getElem?_cons_succ, List.getD_cons_zero, List.getD_cons_succ, List.drop_zero, List.drop_succ_cons, List.take_succ_cons, List.take_zero, List.length_cons, List.length_nil, List.set_cons_zero, List.set_cons_succ, Nat.zero_add, n_add_zero, Nat.mul_one, Nat.reduceAdd, Nat.reduceMul, Int.toNat_natCast, Int.reduceToNat, Int.toNat_zero, take_cl, agg_cl, len_cl]; rfl); (focus (first | (simp only [lit_ul0, lit_ul1, cells_ul, cells_u4, cells_agg, cells_int, cells_bool, cells_string, cells_slice, cells_ro, cells_rptr, List.length_cons, List.length_nil, len_cl, List.length_set, List.length_map, Nat.reduceAdd, Nat.zero_add, List.all_cons, List.all_nil, one_ul, one_cl, one_bv, PV.one, Value.oneCell', Bool.and_self, Nat.reduceLeDiff, Nat.le_refl, and_self, true_and, and_true]; done) | ((try simp only [lit_ul0, lit_ul1, cells_ul, cells_u4, cells_agg, cells_int, cells_bool, cells_string, cells_slice, cells_ro, cells_rptr]); (focus ((repeat' apply And.intro) <;> first | exact True.intro | omega | (with_reducible rfl) | assumption | (simp only [List.length_map, List.length_set, List.length_replicate, List.length_cons, List.length_nil, List.length_append, List.length_take, List.length_drop, len_cnt]; omega) | (simp only [cells_s4, cells_k2, cells_agg, one_ul, List.length_cons, List.length_nil, List.all_cons, List.all_nil, Bool.and_self, Nat.reduceAdd, Nat.zero_add, Nat.le_refl, Nat.reduceLeDiff, and_self, true_and, and_true]; done) | (simp only [cells_agg, one_bv, List.length_map, List.length_set, List.length_replicate, List.length_cons, List.length_nil, List.length_append, List.length_take, List.length_drop, len_cnt, and_self, true_and, Nat.le_refl, Nat.reduceAdd, Nat.zero_add]; done) | exact ⟨_, rfl⟩ | (simp only [one_cl, one_ul, cells_u4, cells_ul, len_cl, List.all_cons, List.all_nil, Bool.and_self, List.length_cons, List.length_nil]; done) | (simp only [len_cl]; omega) | (simp [Value.cells, Value.oneCell']; done)))))))
        | (refine kOps_callc (pre := ?_) (val := ?_) rfl rfl rfl rfl rfl ?_ ?_ ?_ ?_ ?_; rotate_left 2; (simp only [cells_s4, cells_k2, List.nil_append, List.append_nil, List.cons_append, if_true, getD_bv, dOf_ul, isS4_s4, isS4_l, s4Of_l, s4Of_s4, s4_eta, isK2_k2, k2a_k2, k2b_k2, isK2_l, k2a_l, k2b_l, d_back, isB_bv, bytesOf_bv, isul_ul, Int.reduceToNat, sRotL64, lit_ul0, lit_ul1, nrmC, List.map_cons, List.map_nil, nrm_ul, nrm_u4, nrm_nil, nrm_int, nrm_bool, nrm_string, nrm_ro, nrm_agg, nrm_rptr, ulv_ul, isU_u4, uv_u4, true_and, and_true, and_self, n_add_zero, Nat.zero_add, Nat.zero_mod, n_sub_zero]; rfl); (focus (first | (with_reducible rfl) | (simp only [closed, closedL, closed_ul, closed_u4, closedL_bv, closedL_cl, Bool.and_self, Bool.and_true, closedL_wr, closed_uw, closed_sv, closed_s4, closed_k2]; done))); (focus (first | (with_reducible rfl) | (simp only [closed, closedL, closed_ul, closed_u4, closedL_bv, closedL_cl, Bool.and_self, Bool.and_true, closedL_wr, closed_uw, closed_sv, closed_s4, closed_k2]; done))); (focus ((repeat' apply And.intro) <;> first | exact True.intro | omega | (with_reducible rfl) | assumption | (simp only [List.length_map, List.length_set, List.length_replicate, List.length_cons, List.length_nil, List.length_append, List.length_take, List.length_drop, len_cnt]; omega) | (simp only [cells_s4, cells_k2, cells_agg, one_ul, List.length_cons, List.length_nil, List.all_cons, List.all_nil, Bool.and_self, Nat.reduceAdd, Nat.zero_add, Nat.le_refl, Nat.reduceLeDiff, and_self, true_and, and_true]; done) | (simp only [cells_agg, one_bv, List.length_map, List.length_set, List.length_replicate, List.length_cons, List.length_nil, List.length_append, List.length_take, List.length_drop, len_cnt, and_self, true_and, Nat.le_refl, Nat.reduceAdd, Nat.zero_add]; done) | exact ⟨_, rfl⟩ | (simp only [one_cl, one_ul, cells_u4, cells_ul, len_cl, List.all_cons, List.all_nil, Bool.and_self, List.length_cons, List.length_nil]; done) | (simp only [len_cl]; omega) | (simp [Value.cells, Value.oneCell']; done))))
        | (refine kOps_bin (b := .xor) (pre := ?_) (val := ?_) rfl rfl rfl rfl rfl ?_ ?_ ?_; rotate_left 2; (intro L; simp only [cells_s4, cells_k2, List.nil_append, List.append_nil, List.cons_append, if_true, getD_bv, d_add, d_xor, d_or, lit_ul0, lit_ul1, xor_ul, binF_xor, Int.reduceAdd, Int.reduceSub, Int.reduceMul, Int.reduceNeg, Int.sub_zero, Int.cast_ofNat_Int, ne_eq, Int.reduceLT, Int.reduceLE, Int.reduceEq, Nat.reduceMod, Nat.reduceLT, decide_true, decide_false, ty22]; (first | (rw [wrap_i64] <;> first | omega | rfl) | (rw [wrap_u8] <;> first | omega | rfl) | (rw [wrap_u16] <;> first | omega | rfl) | (rw [wrap_u32] <;> first | omega | rfl) | rfl)); exact trivial)
        | (refine kOps_fdap (o2 := ?_) rfl rfl rfl rfl rfl fd37_2 ty22 (by decide) ?_ ?_; rotate_left 1; (simp only [Nat.zero_add, Nat.reduceAdd]; rfl))
        | (refine kOps_fdap (o2 := ?_) rfl rfl rfl rfl rfl fd37_3 ty22 (by decide) ?_ ?_; rotate_left 1; (simp only [Nat.zero_add, Nat.reduceAdd]; rfl))
        | (refine kOps_bin (b := .add) (pre := ?_) (val := ?_) rfl rfl rfl rfl rfl ?_ ?_ ?_; rotate_left 2; (intro L; simp only [cells_s4, cells_k2, List.nil_append, List.append_nil, List.cons_append, if_true, getD_bv, d_add, d_xor, d_or, lit_ul0, lit_ul1, add_ul, binF_add, Int.reduceAdd, Int.reduceSub, Int.reduceMul, Int.reduceNeg, Int.sub_zero, Int.cast_ofNat_Int, ne_eq, Int.reduceLT, Int.reduceLE, Int.reduceEq, Nat.reduceMod, Nat.reduceLT, decide_true, decide_false, ty3]; (first | (rw [wrap_i64] <;> first | omega | rfl) | (rw [wrap_u8] <;> first | omega | rfl) | (rw [wrap_u16] <;> first | omega | rfl) | (rw [wrap_u32] <;> first | omega | rfl) | rfl)); exact trivial)
        | (refine kOps_mv rfl rfl rfl rfl ?_)
        | ((first | refine kOps_loadp (pre := ?_) (val := ?_) rfl rfl rfl rfl rfl ty37 ?_ ?_ ?_ | refine kOps_loadr (pre := ?_) (val := ?_) rfl rfl rfl rfl ty37 ?_ ?_ ?_); rotate_left 2; (simp only [cells_s4, cells_k2, List.nil_append, List.append_nil, List.cons_append, if_true, getD_bv, partF, isAggD, Bool.false_eq_true, if_false, List.getElem?_cons_zero, List.getElem?_cons_succ, List.getD_cons_zero, List.getD_cons_succ, List.drop_zero, List.drop_succ_cons, List.take_succ_cons, List.take_zero, List.length_cons, List.length_nil, List.set_cons_zero, List.set_cons_succ, Nat.zero_add, n_add_zero, Nat.mul_one, Nat.reduceAdd, Nat.reduceMul, Int.toNat_natCast, Int.reduceToNat, Int.toNat_zero, take_cl, agg_cl, len_cl]; rfl); (focus ((repeat' apply And.intro) <;> first | exact True.intro | omega | (with_reducible rfl) | assumption | (simp only [List.length_map, List.length_set, List.length_replicate, List.length_cons, List.length_nil, List.length_append, List.length_take, List.length_drop, len_cnt]; omega) | (simp only [cells_s4, cells_k2, cells_agg, one_ul, List.length_cons, List.length_nil, List.all_cons, List.all_nil, Bool.and_self, Nat.reduceAdd, Nat.zero_add, Nat.le_refl, Nat.reduceLeDiff, and_self, true_and, and_true]; done) | (simp only [cells_agg, one_bv, List.length_map, List.length_set, List.length_replicate, List.length_cons, List.length_nil, List.length_append, List.length_take, List.length_drop, len_cnt, and_self, true_and, Nat.le_refl, Nat.reduceAdd, Nat.zero_add]; done) | exact ⟨_, rfl⟩ | (simp only [one_cl, one_ul, cells_u4, cells_ul, len_cl, List.all_cons, List.all_nil, Bool.and_self, List.length_cons, List.length_nil]; done) | (simp only [len_cl]; omega) | (simp [Value.cells, Value.oneCell']; done))))
        | (refine kOps_store (cs' := ?_) rfl rfl rfl rfl rfl rfl rfl ty37 ?_ ?_ ?_; rotate_left 1; (simp only [cells_s4, cells_k2, List.nil_append, List.append_nil, List.cons_append, if_true, getD_bv, lit_ul0, lit_ul1, splice, cells_ul, cells_u4, cells_agg, cells_int, cells_bool, cells_string, cells_slice, cells_ro, cells_rptr, isAggD, Bool.false_eq_true, if_false, List.getElem?_cons_zero, List.getElem?_cons_succ, List.getD_cons_zero, List.getD_cons_succ, List.drop_zero, List.drop_succ_cons, List.take_succ_cons, List.take_zero, List.length_cons, List.length_nil, List.set_cons_zero, List.set_cons_succ, Nat.zero_add, n_add_zero, Nat.mul_one, Nat.reduceAdd, Nat.reduceMul, Int.toNat_natCast, Int.reduceToNat, Int.toNat_zero, take_cl, agg_cl, len_cl]; rfl); (focus (first | (simp only [lit_ul0, lit_ul1, cells_ul, cells_u4, cells_agg, cells_int, cells_bool, cells_string, cells_slice, cells_ro, cells_rptr, List.length_cons, List.length_nil, len_cl, List.length_set, List.length_map, Nat.reduceAdd, Nat.zero_add, List.all_cons, List.all_nil, one_ul, one_cl, one_bv, PV.one, Value.oneCell', Bool.and_self, Nat.reduceLeDiff, Nat.le_refl, and_self, true_and, and_true]; done) | ((try simp only [lit_ul0, lit_ul1, cells_ul, cells_u4, cells_agg, cells_int, cells_bool, cells_string, cells_slice, cells_ro, cells_rptr]); (focus ((repeat' apply And.intro) <;> first | exact True.intro | omega | (with_reducible rfl) | assumption | (simp only [List.length_map, List.length_set, List.length_replicate, List.length_cons, List.length_nil, List.length_append, List.length_take, List.length_drop, len_cnt]; omega) | (simp only [cells_s4, cells_k2, cells_agg, one_ul, List.length_cons, List.length_nil, List.all_cons, List.all_nil, Bool.and_self, Nat.reduceAdd, Nat.zero_add, Nat.le_refl, Nat.reduceLeDiff, and_self, true_and, and_true]; done) | (simp only [cells_agg, one_bv, List.length_map, List.length_set, List.length_replicate, List.length_cons, List.length_nil, List.length_append, List.length_take, List.length_drop, len_cnt, and_self, true_and, Nat.le_refl, Nat.reduceAdd, Nat.zero_add]; done) | exact ⟨_, rfl⟩ | (simp only [one_cl, one_ul, cells_u4, cells_ul, len_cl, List.all_cons, List.all_nil, Bool.and_self, List.length_cons, List.length_nil]; done) | (simp only [len_cl]; omega) | (simp [Value.cells, Value.oneCell']; done)))))))
        | (refine vOps_gundef rfl rfl ?_ ?_; (focus (simp only [lookup_cons, Nat.reduceBEq, cond_true, cond_false]; done)); simp only [putIn])
        | (refine vOps_gpick (t := ?_) (val := ?_) rfl rfl ?_ rfl rfl ?_ ?_ ?_; rotate_left 2; (focus (simp only [lookup_cons, Nat.reduceBEq, cond_true, cond_false]; done)); (simp only [evalIn_tmp, evalIn_const, lookup_cons, Nat.reduceBEq, cond_true, cond_false]; rfl); (simp only [evalIn_tmp, evalIn_const, lookup_cons, Nat.reduceBEq, cond_true, cond_false]; rfl))
        | (refine vOps_pick (t := ?_) (val := ?_) rfl rfl rfl ?_ ?_ ?_; rotate_left 2; (simp only [evalIn_tmp, evalIn_const, lookup_cons, Nat.reduceBEq, cond_true, cond_false]; rfl); (simp only [evalIn_tmp, evalIn_const, lookup_cons, Nat.reduceBEq, cond_true, cond_false]; rfl))
        | (refine vOps_fork (b := ?_) rfl rfl ?_ ?_ ?_; rotate_left 1; (simp only [lookup_cons, Nat.reduceBEq, cond_true, cond_false]; rfl); all_goals (intro hb; simp only [hb]; (try simp only [decide_eq_true_eq, decide_eq_false_iff_not] at hb); try (exfalso; first | omega | exact hb trivial)))
        | (refine vOps_forkp (b := ?_) rfl ?_ ?_ ?_; rotate_left 1; (simp only [evalIn_tmp, lookup_cons, Nat.reduceBEq, cond_true, cond_false]; rfl); all_goals (intro hb; simp only [hb]; (try simp only [decide_eq_true_eq, decide_eq_false_iff_not] at hb); try (exfalso; first | omega | exact hb trivial))))
      · refine loopC_normal ⟨i + 1, by omega⟩ [0, 1] (by show n - (i + 1) < n - i; omega) ?_
        refine weak_mk (fun i h => absurd h (Nat.not_lt_zero i)) (by decide) (by simp) ?_ ?_
        · simp only [RenRows, List.nil_append, List.cons_append, List.set_cons_zero, List.set_cons_succ, List.getElem?_cons_zero, List.getElem?_cons_succ, Option.some.injEq, LE.cells.injEq, closedL_bv, closedL_wr, and_true, true_and]
          all_goals ((rw [srs_succ]; exact ⟨⟨rfl, rfl⟩, rfl⟩))
        · simp only [RenEnv, lookup_cons, Nat.reduceBEq, cond_true, cond_false]
          (repeat' apply And.intro) <;> first | trivial | exact ren_keep rfl | exact ren_keep (closed_u4 _) | (refine ren_int ?_; omega) | (refine ren_own rfl ?_; first | rfl | omega | (simp; done) | (omega; done)) | (refine ren_int ?_; omega; done) | (refine ren_int ?_; simp; done) | (refine ren_keep ?_; simp only [closed, closedL_bv, closedL_wr]; done) | (refine ren_ptr rfl; done)
      · obtain rfl : i = n := by omega
        refine fin_c (p := ?_) (xs := [.cell 4 37]) (by simp) rfl ?_ ?_ ?_ ?_
        rotate_left 2
        · simp only [resAll_cons, resAll_nil, resPVl_0, resPVl_1, resPVl_2, resOne_tmp, resOne_cell, List.map_cons, List.map_nil, cells_s4, cells_k2, List.nil_append, List.append_nil, List.cons_append, if_true, getD_bv, evalIn_tmp, evalIn_const, evalIn_func, lookup_cons, Nat.reduceBEq, cond_true, cond_false, lit_ul0, lit_ul1, loadF, partF, Int.cast_ofNat_Int, Nat.min_self, List.drop_succ_cons, Int.reduceSub, List.getElem?_cons_zero, List.getElem?_cons_succ, List.getD_cons_zero, List.getD_cons_succ, List.getD_nil, List.drop_zero, List.take_succ_cons, List.take_zero, List.take_nil, List.length_cons, List.length_nil, List.set_cons_zero, List.set_cons_succ, Nat.zero_add, n_add_zero, Nat.mul_one, Nat.one_mul, Nat.reduceAdd, Nat.reduceMul, Nat.reduceSub, Nat.reduceLeDiff, Nat.reduceEqDiff, Int.toNat_natCast, Int.reduceToNat, Int.toNat_zero, reduceIte, if_false, Bool.false_eq_true, isAggD, len_cl, take_cl, agg_cl, take_bytes, List.length_map, true_and, and_true, and_self, ty3, ty22, ty37]; try rfl
        · first | (with_reducible rfl) | (simp only [closed, closedL, closed_u4, closed_ul, closed_s4, closed_k2, closedL_bv, Bool.and_self, Bool.and_true]; done) | (simp only [closed, closedL, closed_u4, closed_ul, closed_s4, closed_k2, closedL_bv, Bool.and_self, Bool.and_true]; rfl)
        · rfl
        · simp only [resAll_cons, resAll_nil, resPVl_0, resPVl_1, resPVl_2, resOne_tmp, resOne_cell, List.map_cons, List.map_nil, cells_s4, cells_k2, List.nil_append, List.append_nil, List.cons_append, if_true, getD_bv, evalIn_tmp, evalIn_const, evalIn_func, lookup_cons, Nat.reduceBEq, cond_true, cond_false, lit_ul0, lit_ul1, loadF, partF, Int.cast_ofNat_Int, Nat.min_self, List.drop_succ_cons, Int.reduceSub, List.getElem?_cons_zero, List.getElem?_cons_succ, List.getD_cons_zero, List.getD_cons_succ, List.getD_nil, List.drop_zero, List.take_succ_cons, List.take_zero, List.take_nil, List.length_cons, List.length_nil, List.set_cons_zero, List.set_cons_succ, Nat.zero_add, n_add_zero, Nat.mul_one, Nat.one_mul, Nat.reduceAdd, Nat.reduceMul, Nat.reduceSub, Nat.reduceLeDiff, Nat.reduceEqDiff, Int.toNat_natCast, Int.reduceToNat, Int.toNat_zero, reduceIte, if_false, Bool.false_eq_true, isAggD, len_cl, take_cl, agg_cl, take_bytes, List.length_map, true_and, and_true, and_self, ty3, ty22, ty37]; try trivial

  · exact hS.elim
end Go.Ab
