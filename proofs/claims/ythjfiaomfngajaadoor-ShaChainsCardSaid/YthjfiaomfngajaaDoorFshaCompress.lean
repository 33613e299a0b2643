import Derived.Test.YthjfiaomfngajaaDoorTY
import Derived.Test.YthjfiaomfngajaaDoorMG
import Derived.Test.YthjfiaomfngajaaDoorFshaschedule
import Derived.Test.YthjfiaomfngajaaDoorFsharotr
namespace Go.Ab
open Go Go.Proofs
set_option linter.unusedVariables false
set_option linter.unusedSimpArgs false
set_option maxRecDepth 8000
set_option maxHeartbeats 4000000

noncomputable def B11 : Code := bodyOf Tryd.f11
theorem B11_eq : Tryd.f11.body = some B11 := by kernel_rfl
noncomputable def n11_0 : Code := B11
noncomputable def n11_1 : Code := codeAt B11 [0]
noncomputable def n11_2 : Code := codeAt B11 [1]
noncomputable def n11_3 : Code := codeAt B11 [1,0]
noncomputable def n11_4 : Code := codeAt B11 [1,1]
noncomputable def n11_5 : Code := codeAt B11 [1,1,0]
noncomputable def n11_6 : Code := codeAt B11 [1,1,1]
noncomputable def n11_7 : Code := codeAt B11 [1,1,1,0]
noncomputable def n11_8 : Code := codeAt B11 [1,1,1,1]
noncomputable def n11_9 : Code := codeAt B11 [1,1,1,1,0]
noncomputable def n11_10 : Code := codeAt B11 [1,1,1,1,0,0]
noncomputable def n11_11 : Code := codeAt B11 [1,1,1,1,0,1]
noncomputable def n11_12 : Code := codeAt B11 [1,1,1,1,0,1,0]
noncomputable def n11_13 : Code := codeAt B11 [1,1,1,1,0,1,0,0]
noncomputable def n11_14 : Code := codeAt B11 [1,1,1,1,0,1,0,0,0]
noncomputable def n11_15 : Code := codeAt B11 [1,1,1,1,0,1,0,0,1]
noncomputable def n11_16 : Code := codeAt B11 [1,1,1,1,0,1,0,0,1,0]
noncomputable def n11_17 : Code := codeAt B11 [1,1,1,1,0,1,0,0,1,0,0]
noncomputable def n11_18 : Code := codeAt B11 [1,1,1,1,0,1,0,0,1,0,1]
noncomputable def n11_19 : Code := codeAt B11 [1,1,1,1,0,1,0,0,1,1]
noncomputable def n11_20 : Code := codeAt B11 [1,1,1,1,0,1,0,0,1,1,0]
noncomputable def n11_21 : Code := codeAt B11 [1,1,1,1,0,1,0,0,1,1,0,0]
noncomputable def n11_22 : Code := codeAt B11 [1,1,1,1,0,1,0,0,1,1,0,0,0]
noncomputable def n11_23 : Code := codeAt B11 [1,1,1,1,0,1,0,0,1,1,0,0,1]
noncomputable def n11_24 : Code := codeAt B11 [1,1,1,1,0,1,0,0,1,1,0,0,1,0]
noncomputable def n11_25 : Code := codeAt B11 [1,1,1,1,0,1,0,0,1,1,0,0,1,1]
noncomputable def n11_26 : Code := codeAt B11 [1,1,1,1,0,1,0,0,1,1,0,0,1,1,0]
noncomputable def n11_27 : Code := codeAt B11 [1,1,1,1,0,1,0,0,1,1,0,0,1,1,1]
noncomputable def n11_28 : Code := codeAt B11 [1,1,1,1,0,1,0,0,1,1,1]
noncomputable def n11_29 : Code := codeAt B11 [1,1,1,1,1]
noncomputable def n11_30 : Code := codeAt B11 [1,1,1,1,1,0]
noncomputable def n11_31 : Code := codeAt B11 [1,1,1,1,1,0,0]
noncomputable def n11_32 : Code := codeAt B11 [1,1,1,1,1,0,1]
noncomputable def n11_33 : Code := codeAt B11 [1,1,1,1,1,0,1,0]
noncomputable def n11_34 : Code := codeAt B11 [1,1,1,1,1,0,1,0,0]
noncomputable def n11_35 : Code := codeAt B11 [1,1,1,1,1,0,1,0,0,0]
noncomputable def n11_36 : Code := codeAt B11 [1,1,1,1,1,0,1,0,0,1]
noncomputable def n11_37 : Code := codeAt B11 [1,1,1,1,1,0,1,0,0,1,0]
noncomputable def n11_38 : Code := codeAt B11 [1,1,1,1,1,0,1,0,0,1,0,0]
noncomputable def n11_39 : Code := codeAt B11 [1,1,1,1,1,0,1,0,0,1,0,1]
noncomputable def n11_40 : Code := codeAt B11 [1,1,1,1,1,0,1,0,0,1,1]
noncomputable def n11_41 : Code := codeAt B11 [1,1,1,1,1,0,1,0,0,1,1,0]
noncomputable def n11_42 : Code := codeAt B11 [1,1,1,1,1,0,1,0,0,1,1,0,0]
noncomputable def n11_43 : Code := codeAt B11 [1,1,1,1,1,0,1,0,0,1,1,0,0,0]
noncomputable def n11_44 : Code := codeAt B11 [1,1,1,1,1,0,1,0,0,1,1,0,0,1]
noncomputable def n11_45 : Code := codeAt B11 [1,1,1,1,1,0,1,0,0,1,1,1]
noncomputable def n11_46 : Code := codeAt B11 [1,1,1,1,1,1]
noncomputable def n11_47 : Code := codeAt B11 [1,1,1,1,1,1,0]
noncomputable def n11_48 : Code := codeAt B11 [1,1,1,1,1,1,1]
theorem e11_0 : n11_0 = .seq n11_1 n11_2 := rfl
noncomputable def r11_1 := opsAt n11_1
theorem e11_1 : n11_1 = .region 0 (r11_1).toArray false := rfl
theorem e11_2 : n11_2 = .seq n11_3 n11_4 := rfl
noncomputable def r11_3 := opsAt n11_3
theorem e11_3 : n11_3 = .region 1 (r11_3).toArray false := rfl
theorem e11_4 : n11_4 = .seq n11_5 n11_6 := rfl
noncomputable def r11_5 := opsAt n11_5
theorem e11_5 : n11_5 = .region 2 (r11_5).toArray true := rfl
theorem a11_5 : anyOk r11_5 = true := by decide +kernel
theorem e11_6 : n11_6 = .seq n11_7 n11_8 := rfl
noncomputable def r11_7 := opsAt n11_7
theorem e11_7 : n11_7 = .region 3 (r11_7).toArray true := rfl
theorem a11_7 : anyOk r11_7 = true := by decide +kernel
theorem e11_8 : n11_8 = .seq n11_9 n11_29 := rfl
theorem e11_9 : n11_9 = .seq n11_10 n11_11 := rfl
noncomputable def r11_10 := opsAt n11_10
theorem e11_10 : n11_10 = .region 4 (r11_10).toArray false := rfl
theorem e11_11 : n11_11 = .block 0 n11_12 := rfl
theorem e11_12 : n11_12 = .loop n11_13 := rfl
theorem e11_13 : n11_13 = .seq n11_14 n11_15 := rfl
noncomputable def r11_14 := opsAt n11_14
theorem e11_14 : n11_14 = .region 5 (r11_14).toArray false := rfl
theorem e11_15 : n11_15 = .seq n11_16 n11_19 := rfl
theorem e11_16 : n11_16 = .cond (.tmp 38) n11_17 n11_18 := rfl
theorem e11_17 : n11_17 = .skip := rfl
theorem e11_18 : n11_18 = .exit 0 := rfl
theorem e11_19 : n11_19 = .seq n11_20 n11_28 := rfl
theorem e11_20 : n11_20 = .block 1 n11_21 := rfl
theorem e11_21 : n11_21 = .seq n11_22 n11_23 := rfl
noncomputable def r11_22 := opsAt n11_22
theorem e11_22 : n11_22 = .region 6 (r11_22).toArray false := rfl
theorem e11_23 : n11_23 = .seq n11_24 n11_25 := rfl
noncomputable def r11_24 := opsAt n11_24
theorem e11_24 : n11_24 = .region 7 (r11_24).toArray true := rfl
theorem a11_24 : anyOk r11_24 = true := by decide +kernel
theorem e11_25 : n11_25 = .seq n11_26 n11_27 := rfl
noncomputable def r11_26 := opsAt n11_26
theorem e11_26 : n11_26 = .region 8 (r11_26).toArray false := rfl
noncomputable def r11_27 := opsAt n11_27
theorem e11_27 : n11_27 = .region 9 (r11_27).toArray false := rfl
noncomputable def r11_28 := opsAt n11_28
theorem e11_28 : n11_28 = .region 10 (r11_28).toArray false := rfl
theorem e11_29 : n11_29 = .seq n11_30 n11_46 := rfl
theorem e11_30 : n11_30 = .seq n11_31 n11_32 := rfl
noncomputable def r11_31 := opsAt n11_31
theorem e11_31 : n11_31 = .region 11 (r11_31).toArray false := rfl
theorem e11_32 : n11_32 = .block 2 n11_33 := rfl
theorem e11_33 : n11_33 = .loop n11_34 := rfl
theorem e11_34 : n11_34 = .seq n11_35 n11_36 := rfl
noncomputable def r11_35 := opsAt n11_35
theorem e11_35 : n11_35 = .region 12 (r11_35).toArray false := rfl
theorem e11_36 : n11_36 = .seq n11_37 n11_40 := rfl
theorem e11_37 : n11_37 = .cond (.tmp 110) n11_38 n11_39 := rfl
theorem e11_38 : n11_38 = .skip := rfl
theorem e11_39 : n11_39 = .exit 2 := rfl
theorem e11_40 : n11_40 = .seq n11_41 n11_45 := rfl
theorem e11_41 : n11_41 = .block 3 n11_42 := rfl
theorem e11_42 : n11_42 = .seq n11_43 n11_44 := rfl
noncomputable def r11_43 := opsAt n11_43
theorem e11_43 : n11_43 = .region 13 (r11_43).toArray false := rfl
noncomputable def r11_44 := opsAt n11_44
theorem e11_44 : n11_44 = .region 14 (r11_44).toArray false := rfl
noncomputable def r11_45 := opsAt n11_45
theorem e11_45 : n11_45 = .region 15 (r11_45).toArray false := rfl
theorem e11_46 : n11_46 = .seq n11_47 n11_48 := rfl
noncomputable def r11_47 := opsAt n11_47
theorem e11_47 : n11_47 = .region 16 (r11_47).toArray false := rfl
theorem e11_48 : n11_48 = .ret := rfl
theorem f_sha_Compress : PureOk Tryd.prog 11 sCompress := by
  refine pureOk_of (c := n11_0) (Γ := conOf [(24, .pure sSched), (25, .pure sRotr)]) (conOf_ok (conOf_one (S := .pure sSched) f_sha_schedule (conOf_one (S := .pure sRotr) f_sha_rotr (conOf_end)))) mixed Tryd.func11 B11_eq (by decide +kernel) Tryd.call11 ?_
  intro args hS
  unfold sCompress at hS ⊢
  split at hS
  · refine ⟨by rw [Tryd.ntmps11]; simp, vC_sound ?_⟩
    rename_i s cs
    obtain ⟨hs, hB⟩ := hS
    obtain ⟨s, rfl⟩ := isS_out hs
    obtain ⟨b, hb, rfl⟩ := isB_out hB
    simp only [bytesOf_bv, sOf_sv]
    have hl : b.length = 64 := hb.symm
    clear hs hB
    simp only [entry_cons, entry_nil, Nat.reduceAdd]
    have hisB : isB 64 (b.map bv) ↔ True := by rw [← hl]; exact isB_bv b
    repeat' (first
      | (with_reducible first | apply seqC_normal | apply blockC_normal | apply seqC_exit | apply blockC_hit | apply seqC_ret | apply blockC_ret | apply loopC_ret | apply loopC_exit)
      | ((with_reducible apply blockC_miss); (exact rfl))
      | ((with_reducible apply wC_seq e11_0; apply wC_region e11_1); refine vOps_open (l := _ :: _) rfl ?_)
      | ((with_reducible apply wC_seq e11_2; apply wC_region e11_3); refine vOps_open (l := _ :: _) rfl ?_)
      | ((with_reducible apply wC_seq e11_4; apply wC_any e11_5 a11_5); refine vOps_open (l := _ :: _) rfl ?_)
      | ((with_reducible apply wC_seq e11_6; apply wC_any e11_7 a11_7); refine vOps_open (l := _ :: _) rfl ?_)
      | ((with_reducible apply wC_seq e11_8; apply wC_seq e11_9; apply wC_region e11_10); refine vOps_open (l := _ :: _) rfl ?_)
      | ((with_reducible apply wC_block e11_11))
      | ((with_reducible apply wC_seq e11_29; apply wC_seq e11_30; apply wC_region e11_31); refine vOps_open (l := _ :: _) rfl ?_)
      | ((with_reducible apply wC_block e11_32))
      | ((with_reducible apply wC_seq e11_46; apply wC_region e11_47); refine vOps_open (l := _ :: _) rfl ?_)
      | ((with_reducible apply wC_ret e11_48))
      | ((with_reducible apply vOps_nil); try (with_reducible refine And.intro (by kernel_rfl) ?_))
      | (refine kOps_gon (g := ?_) (p := ?_) rfl rfl ?_ ?_ ?_ ?_; rotate_left 2; fail; (exact rfl); (with_reducible rfl))
      | (refine kOps_gofft (g := ?_) (p := ?_) rfl rfl ?_ ?_ ?_ ?_; rotate_left 2; fail; (exact rfl); (with_reducible rfl))
      | (refine kOps_gofff (g := ?_) (p := ?_) rfl rfl ?_ ?_ ?_ ?_; rotate_left 2; fail; (exact rfl); (with_reducible rfl))
      | (refine kOps_pickt rfl rfl rfl rfl ?_ rfl ?_; (with_reducible rfl))
      | (refine kOps_pickf rfl rfl rfl rfl ?_ rfl ?_; (with_reducible rfl))
      | (refine kOps_box (row := ?_) (n := ?_) rfl rfl rfl rfl rfl ?_ ?_ ?_ ?_; rotate_left 2; (simp only [↓List.length_append, ↓List.length_set, ↓List.length_cons, List.length_nil, Nat.reduceAdd, Nat.zero_add]; rfl); (simp only [q5, take_bs, take_wr, hl, Nat.le_refl, List.length_replicate, lg0, lg1, lg2, lg3, lg4, lg5, lg6, lg7, len_l, cells_sv, splice_w, len_sched, len_kk, eq_self, cells_ul, cells_u4]; rfl); (focus (first | rfl | exact one_cl _ _ | exact one_bv _ | (simp only [one_cl, one_ul, List.all_cons, List.all_nil, Bool.and_self, PV.one]; done) | (simp [PV.one, one_ul, one_cl, one_bv, Value.oneCell']; done))))
      | (refine kOps_alloc (row := _) (n := ?_) rfl rfl rfl rfl ty23 ?_ zr23 zo23 ?_; rotate_left 1; (simp only [↓List.length_append, ↓List.length_set, ↓List.length_cons, List.length_nil, Nat.reduceAdd, Nat.zero_add]; rfl))
      | ((first | refine kOps_loadp (pre := ?_) (val := ?_) rfl rfl rfl rfl rfl ty24 ?_ ?_ ?_ | refine kOps_loadr (pre := ?_) (val := ?_) rfl rfl rfl rfl ty24 ?_ ?_ ?_); rotate_left 2; (simp only [q5, take_bs, take_wr, hl, Nat.le_refl, List.length_replicate, lg0, lg1, lg2, lg3, lg4, lg5, lg6, lg7, len_l, cells_sv, splice_w, len_sched, len_kk, eq_self, partF, isAggD, Bool.false_eq_true, if_false, if_true, reduceIte, take_cl, agg_cl, len_cl, List.drop_zero, Int.toNat_natCast, Int.reduceToNat, Int.toNat_zero, n_add_zero, Nat.mul_one, Nat.zero_add, Nat.reduceAdd, Nat.reduceMul, take_bytes, List.length_map, List.getD_cons_zero]; rfl); (focus ((repeat' apply And.intro) <;> first | exact True.intro | omega | (with_reducible rfl) | assumption | (simp only [lna, hl]; omega) | (simp only [q1]; done) | (simp only [q4, lna, hl, and_self, true_and, Nat.le_refl, Nat.reduceAdd, Nat.zero_add]; done) | exact len_g0 | exact (isByte_bv _).2 trivial | exact one_bv _ | (simp [PV.one, one_bv, closedL_bv, flatL_bv, closedL, closed, isByte_bv, PV.cells]; done) | exact ⟨_, rfl⟩ | (simp only [q2]; done) | (simp only [len_cl]; omega) | (simp [Value.cells, Value.oneCell']; done))))
      | (refine kOps_callc (pre := ?_) (val := ?_) rfl rfl rfl rfl rfl ?_ ?_ ?_ ?_ ?_; rotate_left 2; (simp only [q5, take_bs, take_wr, hl, Nat.le_refl, List.length_replicate, lg0, lg1, lg2, lg3, lg4, lg5, lg6, lg7, len_l, cells_sv, splice_w, len_sched, len_kk, eq_self, isB_bv, hisB, bytesOf_bv, sSched, sRotr, lit_ul0, lit_ul1, nrmC, List.map_cons, List.map_nil, q8, isul_ul, ulv_ul, isU_u4, uv_u4, true_and, and_true, and_self, n_add_zero, Nat.zero_add, Nat.zero_mod, n_sub_zero]; rfl); (focus (first | (with_reducible rfl) | (simp only [closed, closedL, closed_ul, closed_u4, closedL_bv, closedL_cl, Bool.and_self, Bool.and_true, closedL_wr, closed_uw, closed_sv]; done))); (focus (first | (with_reducible rfl) | (simp only [closed, closedL, closed_ul, closed_u4, closedL_bv, closedL_cl, Bool.and_self, Bool.and_true, closedL_wr, closed_uw, closed_sv]; done))); (focus ((repeat' apply And.intro) <;> first | exact True.intro | omega | (with_reducible rfl) | assumption | (simp only [lna, hl]; omega) | (simp only [q1]; done) | (simp only [q4, lna, hl, and_self, true_and, Nat.le_refl, Nat.reduceAdd, Nat.zero_add]; done) | exact len_g0 | exact (isByte_bv _).2 trivial | exact one_bv _ | (simp [PV.one, one_bv, closedL_bv, flatL_bv, closedL, closed, isByte_bv, PV.cells]; done) | exact ⟨_, rfl⟩ | (simp only [q2]; done) | (simp only [len_cl]; omega) | (simp [Value.cells, Value.oneCell']; done))))
      | (refine kOps_alloc (row := _) (n := ?_) rfl rfl rfl rfl ty44 ?_ zr44 zo44 ?_; rotate_left 1; (simp only [↓List.length_append, ↓List.length_set, ↓List.length_cons, List.length_nil, Nat.reduceAdd, Nat.zero_add]; rfl))
      | (refine kOps_store (cs' := ?_) rfl rfl rfl rfl rfl rfl rfl ty44 ?_ ?_ ?_; rotate_left 1; (simp only [q5, take_bs, take_wr, hl, Nat.le_refl, List.length_replicate, lg0, lg1, lg2, lg3, lg4, lg5, lg6, lg7, len_l, cells_sv, splice_w, len_sched, len_kk, eq_self, lit_ul0, lit_ul1, cells_ul, cells_u4, isAggD, Bool.false_eq_true, if_false, if_true, reduceIte, take_cl, agg_cl, len_cl, List.drop_zero, Int.toNat_natCast, Int.reduceToNat, Int.toNat_zero, n_add_zero, Nat.mul_one, Nat.zero_add, Nat.reduceAdd, Nat.reduceMul, take_bytes, List.length_map, List.getD_cons_zero]; rfl); (focus (first | (simp only [lit_ul0, lit_ul1, cells_ul, cells_u4, cells_bv, List.length_cons, List.length_nil, len_cl, List.length_set, List.length_map, Nat.reduceAdd, Nat.zero_add, List.all_cons, List.all_nil, one_ul, one_cl, one_bv, PV.one, Value.oneCell', Bool.and_self, Nat.reduceLeDiff, Nat.le_refl, and_self, true_and, and_true]; done) | ((try simp only [lit_ul0, lit_ul1, cells_ul, cells_u4, cells_bv]); (focus ((repeat' apply And.intro) <;> first | exact True.intro | omega | (with_reducible rfl) | assumption | (simp only [lna, hl]; omega) | (simp only [q1]; done) | (simp only [q4, lna, hl, and_self, true_and, Nat.le_refl, Nat.reduceAdd, Nat.zero_add]; done) | exact len_g0 | exact (isByte_bv _).2 trivial | exact one_bv _ | (simp [PV.one, one_bv, closedL_bv, flatL_bv, closedL, closed, isByte_bv, PV.cells]; done) | exact ⟨_, rfl⟩ | (simp only [q2]; done) | (simp only [len_cl]; omega) | (simp [Value.cells, Value.oneCell']; done)))))))
      | ((first | (refine kOps_ixap (off' := ?_) rfl rfl rfl rfl rfl rfl ty23 ty22 ?_ ?_ ?_; rotate_left 1; (simp only [q5, take_bs, take_wr, hl, Nat.le_refl, List.length_replicate, lg0, lg1, lg2, lg3, lg4, lg5, lg6, lg7, len_l, cells_sv, splice_w, len_sched, len_kk, eq_self, Nat.zero_add, n_add_zero, Nat.mul_one, Nat.one_mul, Int.toNat_natCast, Int.reduceToNat, Int.toNat_zero, Nat.reduceMul, Nat.reduceAdd]; rfl)) | (refine kOps_ixaq (cs' := ?_) rfl rfl rfl rfl rfl ty23 ty22 ?_ ?_ ?_; rotate_left 1; (simp only [q5, take_bs, take_wr, hl, Nat.le_refl, List.length_replicate, lg0, lg1, lg2, lg3, lg4, lg5, lg6, lg7, len_l, cells_sv, splice_w, len_sched, len_kk, eq_self, elemAt, isAggD, Bool.false_eq_true, if_false, if_true, reduceIte, take_cl, agg_cl, len_cl, List.drop_zero, Int.toNat_natCast, Int.reduceToNat, Int.toNat_zero, n_add_zero, Nat.mul_one, Nat.zero_add, Nat.reduceAdd, Nat.reduceMul, take_bytes, List.length_map, List.getD_cons_zero]; rfl))); (focus ((repeat' apply And.intro) <;> first | exact True.intro | omega | (with_reducible rfl) | assumption | (simp only [lna, hl]; omega) | (simp only [q1]; done) | (simp only [q4, lna, hl, and_self, true_and, Nat.le_refl, Nat.reduceAdd, Nat.zero_add]; done) | exact len_g0 | exact (isByte_bv _).2 trivial | exact one_bv _ | (simp [PV.one, one_bv, closedL_bv, flatL_bv, closedL, closed, isByte_bv, PV.cells]; done) | exact ⟨_, rfl⟩ | (simp only [q2]; done) | (simp only [len_cl]; omega) | (simp [Value.cells, Value.oneCell']; done))))
      | ((first | refine kOps_loadp (pre := ?_) (val := ?_) rfl rfl rfl rfl rfl ty22 ?_ ?_ ?_ | refine kOps_loadr (pre := ?_) (val := ?_) rfl rfl rfl rfl ty22 ?_ ?_ ?_); rotate_left 2; (simp only [q5, take_bs, take_wr, hl, Nat.le_refl, List.length_replicate, lg0, lg1, lg2, lg3, lg4, lg5, lg6, lg7, len_l, cells_sv, splice_w, len_sched, len_kk, eq_self, partF, isAggD, Bool.false_eq_true, if_false, if_true, reduceIte, take_cl, agg_cl, len_cl, List.drop_zero, Int.toNat_natCast, Int.reduceToNat, Int.toNat_zero, n_add_zero, Nat.mul_one, Nat.zero_add, Nat.reduceAdd, Nat.reduceMul, take_bytes, List.length_map, List.getD_cons_zero]; rfl); (focus ((repeat' apply And.intro) <;> first | exact True.intro | omega | (with_reducible rfl) | assumption | (simp only [lna, hl]; omega) | (simp only [q1]; done) | (simp only [q4, lna, hl, and_self, true_and, Nat.le_refl, Nat.reduceAdd, Nat.zero_add]; done) | exact len_g0 | exact (isByte_bv _).2 trivial | exact one_bv _ | (simp [PV.one, one_bv, closedL_bv, flatL_bv, closedL, closed, isByte_bv, PV.cells]; done) | exact ⟨_, rfl⟩ | (simp only [q2]; done) | (simp only [len_cl]; omega) | (simp [Value.cells, Value.oneCell']; done))))
      | (refine kOps_as rfl rfl rfl rfl ?_)
      | (refine kOps_mv rfl rfl rfl rfl ?_)
      | (refine kOps_build (pre := _) (val := _) rfl rfl rfl rfl (fun L => buildW (l := [_, _, _, _, _, _, _, _]) ty23 ty22 rfl (by rfl) (rfl)) trivial ?_)
      | ((first | refine kOps_loadp (pre := ?_) (val := ?_) rfl rfl rfl rfl rfl ty23 ?_ ?_ ?_ | refine kOps_loadr (pre := ?_) (val := ?_) rfl rfl rfl rfl ty23 ?_ ?_ ?_); rotate_left 2; (simp only [q5, take_bs, take_wr, hl, Nat.le_refl, List.length_replicate, lg0, lg1, lg2, lg3, lg4, lg5, lg6, lg7, len_l, cells_sv, splice_w, len_sched, len_kk, eq_self, partF, isAggD, Bool.false_eq_true, if_false, if_true, reduceIte, take_cl, agg_cl, len_cl, List.drop_zero, Int.toNat_natCast, Int.reduceToNat, Int.toNat_zero, n_add_zero, Nat.mul_one, Nat.zero_add, Nat.reduceAdd, Nat.reduceMul, take_bytes, List.length_map, List.getD_cons_zero]; rfl); (focus ((repeat' apply And.intro) <;> first | exact True.intro | omega | (with_reducible rfl) | assumption | (simp only [lna, hl]; omega) | (simp only [q1]; done) | (simp only [q4, lna, hl, and_self, true_and, Nat.le_refl, Nat.reduceAdd, Nat.zero_add]; done) | exact len_g0 | exact (isByte_bv _).2 trivial | exact one_bv _ | (simp [PV.one, one_bv, closedL_bv, flatL_bv, closedL, closed, isByte_bv, PV.cells]; done) | exact ⟨_, rfl⟩ | (simp only [q2]; done) | (simp only [len_cl]; omega) | (simp [Value.cells, Value.oneCell']; done))))
      | (refine kOps_store (cs' := ?_) rfl rfl rfl rfl rfl rfl rfl ty23 ?_ ?_ ?_; rotate_left 1; (simp only [q5, take_bs, take_wr, hl, Nat.le_refl, List.length_replicate, lg0, lg1, lg2, lg3, lg4, lg5, lg6, lg7, len_l, cells_sv, splice_w, len_sched, len_kk, eq_self, lit_ul0, lit_ul1, cells_ul, cells_u4, isAggD, Bool.false_eq_true, if_false, if_true, reduceIte, take_cl, agg_cl, len_cl, List.drop_zero, Int.toNat_natCast, Int.reduceToNat, Int.toNat_zero, n_add_zero, Nat.mul_one, Nat.zero_add, Nat.reduceAdd, Nat.reduceMul, take_bytes, List.length_map, List.getD_cons_zero]; rfl); (focus (first | (simp only [lit_ul0, lit_ul1, cells_ul, cells_u4, cells_bv, List.length_cons, List.length_nil, len_cl, List.length_set, List.length_map, Nat.reduceAdd, Nat.zero_add, List.all_cons, List.all_nil, one_ul, one_cl, one_bv, PV.one, Value.oneCell', Bool.and_self, Nat.reduceLeDiff, Nat.le_refl, and_self, true_and, and_true]; done) | ((try simp only [lit_ul0, lit_ul1, cells_ul, cells_u4, cells_bv]); (focus ((repeat' apply And.intro) <;> first | exact True.intro | omega | (with_reducible rfl) | assumption | (simp only [lna, hl]; omega) | (simp only [q1]; done) | (simp only [q4, lna, hl, and_self, true_and, Nat.le_refl, Nat.reduceAdd, Nat.zero_add]; done) | exact len_g0 | exact (isByte_bv _).2 trivial | exact one_bv _ | (simp [PV.one, one_bv, closedL_bv, flatL_bv, closedL, closed, isByte_bv, PV.cells]; done) | exact ⟨_, rfl⟩ | (simp only [q2]; done) | (simp only [len_cl]; omega) | (simp [Value.cells, Value.oneCell']; done)))))))
      | (refine vOps_gundef rfl rfl ?_ ?_; (focus (simp only [lookup_cons, Nat.reduceBEq, cond_true, cond_false]; done)); simp only [putIn])
      | (refine vOps_gpick (t := ?_) (val := ?_) rfl rfl ?_ rfl rfl ?_ ?_ ?_; rotate_left 2; (focus (simp only [lookup_cons, Nat.reduceBEq, cond_true, cond_false]; done)); (simp only [evalIn_tmp, evalIn_const, lookup_cons, Nat.reduceBEq, cond_true, cond_false]; rfl); (simp only [evalIn_tmp, evalIn_const, lookup_cons, Nat.reduceBEq, cond_true, cond_false]; rfl))
      | (refine vOps_pick (t := ?_) (val := ?_) rfl rfl rfl ?_ ?_ ?_; rotate_left 2; (simp only [evalIn_tmp, evalIn_const, lookup_cons, Nat.reduceBEq, cond_true, cond_false]; rfl); (simp only [evalIn_tmp, evalIn_const, lookup_cons, Nat.reduceBEq, cond_true, cond_false]; rfl))
      | (refine vOps_fork (b := ?_) rfl rfl ?_ ?_ ?_; rotate_left 1; (simp only [lookup_cons, Nat.reduceBEq, cond_true, cond_false]; rfl); all_goals (intro hb; simp only [hb]; (try simp only [decide_eq_true_eq, decide_eq_false_iff_not] at hb); try (exfalso; first | omega | exact hb trivial)))
      | (refine vOps_forkp (b := ?_) rfl ?_ ?_ ?_; rotate_left 1; (simp only [evalIn_tmp, lookup_cons, Nat.reduceBEq, cond_true, cond_false]; rfl); all_goals (intro hb; simp only [hb]; (try simp only [decide_eq_true_eq, decide_eq_false_iff_not] at hb); try (exfalso; first | omega | exact hb trivial))))
    refine wC_loopI (ι := {t : Nat // t ≤ 64}) e11_12 (fun t => ([(2, .ptr 0 0), (4, .ptr 2 0), (5, .ptr 3 0), (6, uw (rnds (sched b) s t.1).a), (7, uw (rnds (sched b) s t.1).b), (8, uw (rnds (sched b) s t.1).c), (9, uw (rnds (sched b) s t.1).d), (10, uw (rnds (sched b) s t.1).e), (11, uw (rnds (sched b) s t.1).f), (12, uw (rnds (sched b) s t.1).g), (13, uw (rnds (sched b) s t.1).h), (37, .lit (.int .i64 (t.1 : Int)))], [.cells (wr s.l), .cells (b.map bv), .cells (wr (List.replicate 8 0)), .cells (wr (sched b))])) (fun t => 64 - t.1) ⟨0, by omega⟩ [0, 1, 2, 3] ?_ ?_
    · show Weak _ _ _ _ _ _
      refine weak_mk (fun i h => absurd h (Nat.not_lt_zero i)) (by decide) (by simp) ?_ ?_
      · simp only [RenRows, List.nil_append, List.cons_append, List.set_cons_zero, List.set_cons_succ, List.getElem?_cons_zero, List.getElem?_cons_succ, Option.some.injEq, LE.cells.injEq, closedL_bv, closedL_wr, and_true, true_and]
        all_goals (rfl)
      · simp only [RenEnv, lookup_cons, Nat.reduceBEq, cond_true, cond_false]
        (repeat' apply And.intro) <;> first | trivial | exact ren_keep rfl | exact ren_keep (closed_u4 _) | (refine ren_int ?_; omega) | (refine ren_own rfl ?_; first | rfl | omega | (simp; done) | (omega; done)) | (refine ren_int ?_; omega; done) | (refine ren_int ?_; simp; done) | (refine ren_keep ?_; simp only [closed, closedL_bv, closedL_wr]; done) | (refine ren_ptr rfl; done) | (simp only [rnds_succ]; exact ren_eq rfl rfl) | (simp only [rnds_zero]; exact ren_keep rfl)
    · rintro ⟨t, ht⟩
      dsimp only
      repeat' (first
        | (with_reducible first | apply seqC_normal | apply blockC_normal | apply seqC_exit | apply blockC_hit | apply seqC_ret | apply blockC_ret | apply loopC_ret | apply loopC_exit)
        | ((with_reducible apply blockC_miss); (exact rfl))
        | ((with_reducible apply wC_seq e11_13; apply wC_region e11_14); refine vOps_open (l := _ :: _) rfl ?_)
        | ((with_reducible apply wC_seq e11_15; apply kC_cond e11_16); (exact rfl); all_goals (intro hb; first | (cases hb; done) | cases hb | ((try simp only [decide_eq_true_eq, decide_eq_false_iff_not, Bool.not_eq_true', Bool.not_eq_false'] at hb); try (exfalso; first | omega | exact hb trivial))))
        | ((with_reducible apply wC_skip e11_17))
        | ((with_reducible apply wC_exit e11_18))
        | ((with_reducible apply wC_seq e11_19; apply wC_block e11_20; apply wC_seq e11_21; apply wC_region e11_22); refine vOps_open (l := _ :: _) rfl ?_)
        | ((with_reducible apply wC_seq e11_23; apply wC_any e11_24 a11_24); refine vOps_open (l := _ :: _) rfl ?_)
        | ((with_reducible apply wC_seq e11_25; apply wC_region e11_26); refine vOps_open (l := _ :: _) rfl ?_)
        | ((with_reducible apply wC_region e11_27); refine vOps_open (l := _ :: _) rfl ?_)
        | ((with_reducible apply wC_region e11_28); refine vOps_open (l := _ :: _) rfl ?_)
        | ((with_reducible apply wC_seq e11_29; apply wC_seq e11_30; apply wC_region e11_31); refine vOps_open (l := _ :: _) rfl ?_)
        | ((with_reducible apply wC_block e11_32))
        | ((with_reducible apply wC_seq e11_46; apply wC_region e11_47); refine vOps_open (l := _ :: _) rfl ?_)
        | ((with_reducible apply wC_ret e11_48))
        | ((with_reducible apply vOps_nil); try (with_reducible refine And.intro (by kernel_rfl) ?_))
        | (refine kOps_gon (g := ?_) (p := ?_) rfl rfl ?_ ?_ ?_ ?_; rotate_left 2; fail; (exact rfl); (with_reducible rfl))
        | (refine kOps_gofft (g := ?_) (p := ?_) rfl rfl ?_ ?_ ?_ ?_; rotate_left 2; fail; (exact rfl); (with_reducible rfl))
        | (refine kOps_gofff (g := ?_) (p := ?_) rfl rfl ?_ ?_ ?_ ?_; rotate_left 2; fail; (exact rfl); (with_reducible rfl))
        | (refine kOps_pickt rfl rfl rfl rfl ?_ rfl ?_; (with_reducible rfl))
        | (refine kOps_pickf rfl rfl rfl rfl ?_ rfl ?_; (with_reducible rfl))
        | (refine kOps_bin (b := .lss) (pre := ?_) (val := ?_) rfl rfl rfl rfl rfl ?_ ?_ ?_; rotate_left 2; (intro L; simp only [q5, Int.toNat_natCast, gl0, elemAt, len_kk, len_sched, lit_ul0, lit_ul1, lss_ul, binF_lss, Int.reduceAdd, Int.reduceSub, Int.reduceMul, Int.reduceNeg, Int.sub_zero, Int.cast_ofNat_Int, ne_eq, Int.reduceLT, Int.reduceLE, Int.reduceEq, Nat.reduceMod, Nat.reduceLT, decide_true, decide_false, ty3]; (first | (rw [wrap_i64] <;> first | omega | rfl) | (rw [wrap_u8] <;> first | omega | rfl) | (rw [wrap_u16] <;> first | omega | rfl) | (rw [wrap_u32] <;> first | omega | rfl) | rfl)); exact trivial)
        | (refine kOps_mv rfl rfl rfl rfl ?_)
        | (refine kOps_as rfl rfl rfl rfl ?_)
        | (refine kOps_callc (pre := ?_) (val := ?_) rfl rfl rfl rfl rfl ?_ ?_ ?_ ?_ ?_; rotate_left 2; (simp only [q5, Int.toNat_natCast, gl0, elemAt, len_kk, len_sched, isW32_uw, wOf_uw, sSched, sRotr, lit_ul0, lit_ul1, nrmC, List.map_cons, List.map_nil, q8, isul_ul, ulv_ul, isU_u4, uv_u4, bytesOf_bv, isB_bv, true_and, and_true, and_self, n_add_zero, Nat.zero_add, Nat.zero_mod, n_sub_zero]; rfl); (focus (first | (with_reducible rfl) | (simp only [closed, closedL, closed_ul, closed_u4, closedL_bv, closedL_cl, Bool.and_self, Bool.and_true, closedL_wr, closed_uw, closed_sv]; done))); (focus (first | (with_reducible rfl) | (simp only [closed, closedL, closed_ul, closed_u4, closedL_bv, closedL_cl, Bool.and_self, Bool.and_true, closedL_wr, closed_uw, closed_sv]; done))); (focus ((repeat' apply And.intro) <;> first | exact True.intro | omega | (with_reducible rfl) | assumption | (simp only [lna, hl]; omega) | (simp only [q1]; done) | (simp only [q4, lna, hl, and_self, true_and, Nat.le_refl, Nat.reduceAdd, Nat.zero_add]; done) | exact len_g0 | exact (isByte_bv _).2 trivial | exact one_bv _ | (simp [PV.one, one_bv, closedL_bv, flatL_bv, closedL, closed, isByte_bv, PV.cells]; done) | exact ⟨_, rfl⟩ | (simp only [q2]; done) | (simp only [len_cl]; omega) | (simp [Value.cells, Value.oneCell']; done))))
        | (refine kOps_bin (b := .xor) (pre := ?_) (val := ?_) rfl rfl rfl rfl rfl ?_ ?_ ?_; rotate_left 2; (intro L; simp only [q5, Int.toNat_natCast, gl0, elemAt, len_kk, len_sched, lit_ul0, lit_ul1, xor_uw, binF_xor, Int.reduceAdd, Int.reduceSub, Int.reduceMul, Int.reduceNeg, Int.sub_zero, Int.cast_ofNat_Int, ne_eq, Int.reduceLT, Int.reduceLE, Int.reduceEq, Nat.reduceMod, Nat.reduceLT, decide_true, decide_false, ty22]; (first | (rw [wrap_i64] <;> first | omega | rfl) | (rw [wrap_u8] <;> first | omega | rfl) | (rw [wrap_u16] <;> first | omega | rfl) | (rw [wrap_u32] <;> first | omega | rfl) | rfl)); exact trivial)
        | (refine kOps_bin (b := .add) (pre := ?_) (val := ?_) rfl rfl rfl rfl rfl ?_ ?_ ?_; rotate_left 2; (intro L; simp only [q5, Int.toNat_natCast, gl0, elemAt, len_kk, len_sched, lit_ul0, lit_ul1, add_uw, binF_add, Int.reduceAdd, Int.reduceSub, Int.reduceMul, Int.reduceNeg, Int.sub_zero, Int.cast_ofNat_Int, ne_eq, Int.reduceLT, Int.reduceLE, Int.reduceEq, Nat.reduceMod, Nat.reduceLT, decide_true, decide_false, ty22]; (first | (rw [wrap_i64] <;> first | omega | rfl) | (rw [wrap_u8] <;> first | omega | rfl) | (rw [wrap_u16] <;> first | omega | rfl) | (rw [wrap_u32] <;> first | omega | rfl) | rfl)); exact trivial)
        | (refine kOps_bin (b := .and) (pre := ?_) (val := ?_) rfl rfl rfl rfl rfl ?_ ?_ ?_; rotate_left 2; (intro L; simp only [q5, Int.toNat_natCast, gl0, elemAt, len_kk, len_sched, lit_ul0, lit_ul1, and_uw, binF_and, Int.reduceAdd, Int.reduceSub, Int.reduceMul, Int.reduceNeg, Int.sub_zero, Int.cast_ofNat_Int, ne_eq, Int.reduceLT, Int.reduceLE, Int.reduceEq, Nat.reduceMod, Nat.reduceLT, decide_true, decide_false, ty22]; (first | (rw [wrap_i64] <;> first | omega | rfl) | (rw [wrap_u8] <;> first | omega | rfl) | (rw [wrap_u16] <;> first | omega | rfl) | (rw [wrap_u32] <;> first | omega | rfl) | rfl)); exact trivial)
        | (refine kOps_un (b := .xor) (pre := ?_) (val := ?_) rfl rfl rfl rfl ?_ ?_ ?_; rotate_left 2; (intro L; simp only [q5, Int.toNat_natCast, gl0, elemAt, len_kk, len_sched, not_ul, not_uw, unF_not, unF_neg]; (first | (rw [wrap_i64] <;> first | omega | rfl) | (rw [wrap_u8] <;> first | omega | rfl) | (rw [wrap_u16] <;> first | omega | rfl) | (rw [wrap_u32] <;> first | omega | rfl) | rfl)); exact trivial)
        | ((first | (refine kOps_ixap (off' := ?_) rfl rfl rfl rfl rfl rfl ty44 ty22 ?_ ?_ ?_; rotate_left 1; (simp only [q5, Int.toNat_natCast, gl0, elemAt, len_kk, len_sched, Nat.zero_add, n_add_zero, Nat.mul_one, Nat.one_mul, Int.reduceToNat, Int.toNat_zero, Nat.reduceMul, Nat.reduceAdd]; rfl)) | (refine kOps_ixaq (cs' := ?_) rfl rfl rfl rfl rfl ty44 ty22 ?_ ?_ ?_; rotate_left 1; (simp only [q5, Int.toNat_natCast, gl0, elemAt, len_kk, len_sched, isAggD, Bool.false_eq_true, if_false, if_true, reduceIte, take_cl, agg_cl, len_cl, List.drop_zero, Int.reduceToNat, Int.toNat_zero, n_add_zero, Nat.mul_one, Nat.zero_add, Nat.reduceAdd, Nat.reduceMul, take_bytes, List.length_map, List.getD_cons_zero]; rfl))); (focus ((repeat' apply And.intro) <;> first | exact True.intro | omega | (with_reducible rfl) | assumption | (simp only [lna, hl]; omega) | (simp only [q1]; done) | (simp only [q4, lna, hl, and_self, true_and, Nat.le_refl, Nat.reduceAdd, Nat.zero_add]; done) | exact len_g0 | exact (isByte_bv _).2 trivial | exact one_bv _ | (simp [PV.one, one_bv, closedL_bv, flatL_bv, closedL, closed, isByte_bv, PV.cells]; done) | exact ⟨_, rfl⟩ | (simp only [q2]; done) | (simp only [len_cl]; omega) | (simp [Value.cells, Value.oneCell']; done))))
        | ((first | refine kOps_loadp (pre := ?_) (val := ?_) rfl rfl rfl rfl rfl ty22 ?_ ?_ ?_ | refine kOps_loadr (pre := ?_) (val := ?_) rfl rfl rfl rfl ty22 ?_ ?_ ?_); rotate_left 2; (simp only [q5, Int.toNat_natCast, gl0, elemAt, len_kk, len_sched, partF, isAggD, Bool.false_eq_true, if_false, if_true, reduceIte, take_cl, agg_cl, len_cl, List.drop_zero, Int.reduceToNat, Int.toNat_zero, n_add_zero, Nat.mul_one, Nat.zero_add, Nat.reduceAdd, Nat.reduceMul, take_bytes, List.length_map, List.getD_cons_zero]; rfl); (focus ((repeat' apply And.intro) <;> first | exact True.intro | omega | (with_reducible rfl) | assumption | (simp only [lna, hl]; omega) | (simp only [q1]; done) | (simp only [q4, lna, hl, and_self, true_and, Nat.le_refl, Nat.reduceAdd, Nat.zero_add]; done) | exact len_g0 | exact (isByte_bv _).2 trivial | exact one_bv _ | (simp [PV.one, one_bv, closedL_bv, flatL_bv, closedL, closed, isByte_bv, PV.cells]; done) | exact ⟨_, rfl⟩ | (simp only [q2]; done) | (simp only [len_cl]; omega) | (simp [Value.cells, Value.oneCell']; done))))
        | (refine kOps_bin (b := .add) (pre := ?_) (val := ?_) rfl rfl rfl rfl rfl ?_ ?_ ?_; rotate_left 2; (intro L; simp only [q5, Int.toNat_natCast, gl0, elemAt, len_kk, len_sched, lit_ul0, lit_ul1, add_ul, binF_add, Int.reduceAdd, Int.reduceSub, Int.reduceMul, Int.reduceNeg, Int.sub_zero, Int.cast_ofNat_Int, ne_eq, Int.reduceLT, Int.reduceLE, Int.reduceEq, Nat.reduceMod, Nat.reduceLT, decide_true, decide_false, ty3]; (first | (rw [wrap_i64] <;> first | omega | rfl) | (rw [wrap_u8] <;> first | omega | rfl) | (rw [wrap_u16] <;> first | omega | rfl) | (rw [wrap_u32] <;> first | omega | rfl) | rfl)); exact trivial)
        | (refine kOps_build (pre := _) (val := _) rfl rfl rfl rfl (fun L => buildW (l := [_, _, _, _, _, _, _, _]) ty23 ty22 rfl (by rfl) (rfl)) trivial ?_)
        | ((first | refine kOps_loadp (pre := ?_) (val := ?_) rfl rfl rfl rfl rfl ty23 ?_ ?_ ?_ | refine kOps_loadr (pre := ?_) (val := ?_) rfl rfl rfl rfl ty23 ?_ ?_ ?_); rotate_left 2; (simp only [q5, Int.toNat_natCast, gl0, elemAt, len_kk, len_sched, partF, isAggD, Bool.false_eq_true, if_false, if_true, reduceIte, take_cl, agg_cl, len_cl, List.drop_zero, Int.reduceToNat, Int.toNat_zero, n_add_zero, Nat.mul_one, Nat.zero_add, Nat.reduceAdd, Nat.reduceMul, take_bytes, List.length_map, List.getD_cons_zero]; rfl); (focus ((repeat' apply And.intro) <;> first | exact True.intro | omega | (with_reducible rfl) | assumption | (simp only [lna, hl]; omega) | (simp only [q1]; done) | (simp only [q4, lna, hl, and_self, true_and, Nat.le_refl, Nat.reduceAdd, Nat.zero_add]; done) | exact len_g0 | exact (isByte_bv _).2 trivial | exact one_bv _ | (simp [PV.one, one_bv, closedL_bv, flatL_bv, closedL, closed, isByte_bv, PV.cells]; done) | exact ⟨_, rfl⟩ | (simp only [q2]; done) | (simp only [len_cl]; omega) | (simp [Value.cells, Value.oneCell']; done))))
        | (refine kOps_store (cs' := ?_) rfl rfl rfl rfl rfl rfl rfl ty23 ?_ ?_ ?_; rotate_left 1; (simp only [q5, Int.toNat_natCast, gl0, elemAt, len_kk, len_sched, lit_ul0, lit_ul1, cells_ul, cells_u4, isAggD, Bool.false_eq_true, if_false, if_true, reduceIte, take_cl, agg_cl, len_cl, List.drop_zero, Int.reduceToNat, Int.toNat_zero, n_add_zero, Nat.mul_one, Nat.zero_add, Nat.reduceAdd, Nat.reduceMul, take_bytes, List.length_map, List.getD_cons_zero]; rfl); (focus (first | (simp only [lit_ul0, lit_ul1, cells_ul, cells_u4, cells_bv, List.length_cons, List.length_nil, len_cl, List.length_set, List.length_map, Nat.reduceAdd, Nat.zero_add, List.all_cons, List.all_nil, one_ul, one_cl, one_bv, PV.one, Value.oneCell', Bool.and_self, Nat.reduceLeDiff, Nat.le_refl, and_self, true_and, and_true]; done) | ((try simp only [lit_ul0, lit_ul1, cells_ul, cells_u4, cells_bv]); (focus ((repeat' apply And.intro) <;> first | exact True.intro | omega | (with_reducible rfl) | assumption | (simp only [lna, hl]; omega) | (simp only [q1]; done) | (simp only [q4, lna, hl, and_self, true_and, Nat.le_refl, Nat.reduceAdd, Nat.zero_add]; done) | exact len_g0 | exact (isByte_bv _).2 trivial | exact one_bv _ | (simp [PV.one, one_bv, closedL_bv, flatL_bv, closedL, closed, isByte_bv, PV.cells]; done) | exact ⟨_, rfl⟩ | (simp only [q2]; done) | (simp only [len_cl]; omega) | (simp [Value.cells, Value.oneCell']; done)))))))
        | (refine vOps_gundef rfl rfl ?_ ?_; (focus (simp only [lookup_cons, Nat.reduceBEq, cond_true, cond_false]; done)); simp only [putIn])
        | (refine vOps_gpick (t := ?_) (val := ?_) rfl rfl ?_ rfl rfl ?_ ?_ ?_; rotate_left 2; (focus (simp only [lookup_cons, Nat.reduceBEq, cond_true, cond_false]; done)); (simp only [evalIn_tmp, evalIn_const, lookup_cons, Nat.reduceBEq, cond_true, cond_false]; rfl); (simp only [evalIn_tmp, evalIn_const, lookup_cons, Nat.reduceBEq, cond_true, cond_false]; rfl))
        | (refine vOps_pick (t := ?_) (val := ?_) rfl rfl rfl ?_ ?_ ?_; rotate_left 2; (simp only [evalIn_tmp, evalIn_const, lookup_cons, Nat.reduceBEq, cond_true, cond_false]; rfl); (simp only [evalIn_tmp, evalIn_const, lookup_cons, Nat.reduceBEq, cond_true, cond_false]; rfl))
        | (refine vOps_fork (b := ?_) rfl rfl ?_ ?_ ?_; rotate_left 1; (simp only [lookup_cons, Nat.reduceBEq, cond_true, cond_false]; rfl); all_goals (intro hb; simp only [hb]; (try simp only [decide_eq_true_eq, decide_eq_false_iff_not] at hb); try (exfalso; first | omega | exact hb trivial)))
        | (refine vOps_forkp (b := ?_) rfl ?_ ?_ ?_; rotate_left 1; (simp only [evalIn_tmp, lookup_cons, Nat.reduceBEq, cond_true, cond_false]; rfl); all_goals (intro hb; simp only [hb]; (try simp only [decide_eq_true_eq, decide_eq_false_iff_not] at hb); try (exfalso; first | omega | exact hb trivial))))
      · refine loopC_normal ⟨t + 1, by omega⟩ [0, 1, 2, 3] (by show 64 - (t + 1) < 64 - t; omega) ?_
        refine weak_mk (fun i h => absurd h (Nat.not_lt_zero i)) (by decide) (by simp) ?_ ?_
        · simp only [RenRows, List.nil_append, List.cons_append, List.set_cons_zero, List.set_cons_succ, List.getElem?_cons_zero, List.getElem?_cons_succ, Option.some.injEq, LE.cells.injEq, closedL_bv, closedL_wr, and_true, true_and]
          all_goals (rfl)
        · simp only [RenEnv, lookup_cons, Nat.reduceBEq, cond_true, cond_false]
          (repeat' apply And.intro) <;> first | trivial | exact ren_keep rfl | exact ren_keep (closed_u4 _) | (refine ren_int ?_; omega) | (refine ren_own rfl ?_; first | rfl | omega | (simp; done) | (omega; done)) | (refine ren_int ?_; omega; done) | (refine ren_int ?_; simp; done) | (refine ren_keep ?_; simp only [closed, closedL_bv, closedL_wr]; done) | (refine ren_ptr rfl; done) | (simp only [rnds_succ]; exact ren_eq rfl rfl) | (simp only [rnds_zero]; exact ren_keep rfl)
      · obtain rfl : t = 64 := by omega
        refine wC_loopI (ι := {i : Nat // i ≤ 8}) e11_33 (fun i => ([(2, .ptr 0 0), (4, .ptr 2 0), (108, .agg (wr (rnds (sched b) s 64).l)), (109, .lit (.int .i64 (i.1 : Int)))], [.cells (wr (addI s (rnds (sched b) s 64) i.1)), .cells (b.map bv), .cells (wr (List.replicate 8 0)), .cells (wr (sched b))])) (fun i => 8 - i.1) ⟨0, by omega⟩ [0, 1, 2, 3] ?_ ?_
        · show Weak _ _ _ _ _ _
          refine weak_mk (fun i h => absurd h (Nat.not_lt_zero i)) (by decide) (by simp) ?_ ?_
          · simp only [RenRows, List.nil_append, List.cons_append, List.set_cons_zero, List.set_cons_succ, List.getElem?_cons_zero, List.getElem?_cons_succ, Option.some.injEq, LE.cells.injEq, closedL_bv, closedL_wr, and_true, true_and, ← addI_zero]
            all_goals (rfl)
          · simp only [RenEnv, lookup_cons, Nat.reduceBEq, cond_true, cond_false]
            (repeat' apply And.intro) <;> first | trivial | exact ren_keep rfl | exact ren_keep (closed_u4 _) | (refine ren_int ?_; omega) | (refine ren_own rfl ?_; first | rfl | omega | (simp; done) | (omega; done)) | (refine ren_int ?_; omega; done) | (refine ren_int ?_; simp; done) | (refine ren_keep ?_; simp only [closed, closedL_bv, closedL_wr]; done) | (refine ren_ptr rfl; done) | (simp only [rnds_succ]; exact ren_eq rfl rfl) | (simp only [rnds_zero]; exact ren_keep rfl)
        · rintro ⟨i, hi⟩
          dsimp only
          repeat' (first
            | (with_reducible first | apply seqC_normal | apply blockC_normal | apply seqC_exit | apply blockC_hit | apply seqC_ret | apply blockC_ret | apply loopC_ret | apply loopC_exit)
            | ((with_reducible apply blockC_miss); (exact rfl))
            | ((with_reducible apply wC_seq e11_34; apply wC_region e11_35); refine vOps_open (l := _ :: _) rfl ?_)
            | ((with_reducible apply wC_seq e11_36; apply kC_cond e11_37); (exact rfl); all_goals (intro hb; first | (cases hb; done) | cases hb | ((try simp only [decide_eq_true_eq, decide_eq_false_iff_not, Bool.not_eq_true', Bool.not_eq_false'] at hb); try (exfalso; first | omega | exact hb trivial))))
            | ((with_reducible apply wC_skip e11_38))
            | ((with_reducible apply wC_exit e11_39))
            | ((with_reducible apply wC_seq e11_40; apply wC_block e11_41; apply wC_seq e11_42; apply wC_region e11_43); refine vOps_open (l := _ :: _) rfl ?_)
            | ((with_reducible apply wC_region e11_44); refine vOps_open (l := _ :: _) rfl ?_)
            | ((with_reducible apply wC_region e11_45); refine vOps_open (l := _ :: _) rfl ?_)
            | ((with_reducible apply wC_seq e11_46; apply wC_region e11_47); refine vOps_open (l := _ :: _) rfl ?_)
            | ((with_reducible apply wC_ret e11_48))
            | ((with_reducible apply vOps_nil); try (with_reducible refine And.intro (by kernel_rfl) ?_))
            | (refine kOps_gon (g := ?_) (p := ?_) rfl rfl ?_ ?_ ?_ ?_; rotate_left 2; fail; (exact rfl); (with_reducible rfl))
            | (refine kOps_gofft (g := ?_) (p := ?_) rfl rfl ?_ ?_ ?_ ?_; rotate_left 2; fail; (exact rfl); (with_reducible rfl))
            | (refine kOps_gofff (g := ?_) (p := ?_) rfl rfl ?_ ?_ ?_ ?_; rotate_left 2; fail; (exact rfl); (with_reducible rfl))
            | (refine kOps_pickt rfl rfl rfl rfl ?_ rfl ?_; (with_reducible rfl))
            | (refine kOps_pickf rfl rfl rfl rfl ?_ rfl ?_; (with_reducible rfl))
            | (refine kOps_bin (b := .lss) (pre := ?_) (val := ?_) rfl rfl rfl rfl rfl ?_ ?_ ?_; rotate_left 2; (intro L; simp only [q5, Int.toNat_natCast, index_wr ty23 ty22, len_addI, splice_w, take_wr, len_l, List.length_replicate, Nat.le_refl, eq_self, lit_ul0, lit_ul1, lss_ul, binF_lss, Int.reduceAdd, Int.reduceSub, Int.reduceMul, Int.reduceNeg, Int.sub_zero, Int.cast_ofNat_Int, ne_eq, Int.reduceLT, Int.reduceLE, Int.reduceEq, Nat.reduceMod, Nat.reduceLT, decide_true, decide_false, ty3]; (first | (rw [wrap_i64] <;> first | omega | rfl) | (rw [wrap_u8] <;> first | omega | rfl) | (rw [wrap_u16] <;> first | omega | rfl) | (rw [wrap_u32] <;> first | omega | rfl) | rfl)); exact trivial)
            | (refine kOps_mv rfl rfl rfl rfl ?_)
            | (refine kOps_ix (pre := ?_) (val := ?_) rfl rfl rfl rfl rfl ?_ ?_ ?_; rotate_left 2; (intro L; simp only [q5, Int.toNat_natCast, index_wr ty23 ty22, len_addI, splice_w, take_wr, len_l, List.length_replicate, Nat.le_refl, eq_self, indexF, partF, isAggD, Bool.false_eq_true, if_false, if_true, reduceIte, take_cl, agg_cl, len_cl, List.drop_zero, Int.reduceToNat, Int.toNat_zero, n_add_zero, Nat.mul_one, Nat.zero_add, Nat.reduceAdd, Nat.reduceMul, take_bytes, List.length_map, List.getD_cons_zero, ty23, ty22]; rfl); (focus ((repeat' apply And.intro) <;> first | exact True.intro | omega | (with_reducible rfl) | assumption | (simp only [lna, hl]; omega) | (simp only [q1]; done) | (simp only [q4, lna, hl, and_self, true_and, Nat.le_refl, Nat.reduceAdd, Nat.zero_add]; done) | (simp only [len_addI, len_l, len_wr]; omega) | exact (isByte_bv _).2 trivial | exact one_bv _ | (simp [PV.one, one_bv, closedL_bv, flatL_bv, closedL, closed, isByte_bv, PV.cells]; done) | exact ⟨_, rfl⟩ | (simp only [q2]; done) | (simp only [len_cl]; omega) | (simp [Value.cells, Value.oneCell']; done))))
            | (refine kOps_as rfl rfl rfl rfl ?_)
            | ((first | (refine kOps_ixap (off' := ?_) rfl rfl rfl rfl rfl rfl ty23 ty22 ?_ ?_ ?_; rotate_left 1; (simp only [q5, Int.toNat_natCast, index_wr ty23 ty22, len_addI, splice_w, take_wr, len_l, List.length_replicate, Nat.le_refl, eq_self, Nat.zero_add, n_add_zero, Nat.mul_one, Nat.one_mul, Int.reduceToNat, Int.toNat_zero, Nat.reduceMul, Nat.reduceAdd]; rfl)) | (refine kOps_ixaq (cs' := ?_) rfl rfl rfl rfl rfl ty23 ty22 ?_ ?_ ?_; rotate_left 1; (simp only [q5, Int.toNat_natCast, index_wr ty23 ty22, len_addI, splice_w, take_wr, len_l, List.length_replicate, Nat.le_refl, eq_self, elemAt, isAggD, Bool.false_eq_true, if_false, if_true, reduceIte, take_cl, agg_cl, len_cl, List.drop_zero, Int.reduceToNat, Int.toNat_zero, n_add_zero, Nat.mul_one, Nat.zero_add, Nat.reduceAdd, Nat.reduceMul, take_bytes, List.length_map, List.getD_cons_zero]; rfl))); (focus ((repeat' apply And.intro) <;> first | exact True.intro | omega | (with_reducible rfl) | assumption | (simp only [lna, hl]; omega) | (simp only [q1]; done) | (simp only [q4, lna, hl, and_self, true_and, Nat.le_refl, Nat.reduceAdd, Nat.zero_add]; done) | (simp only [len_addI, len_l, len_wr]; omega) | exact (isByte_bv _).2 trivial | exact one_bv _ | (simp [PV.one, one_bv, closedL_bv, flatL_bv, closedL, closed, isByte_bv, PV.cells]; done) | exact ⟨_, rfl⟩ | (simp only [q2]; done) | (simp only [len_cl]; omega) | (simp [Value.cells, Value.oneCell']; done))))
            | ((first | refine kOps_loadp (pre := ?_) (val := ?_) rfl rfl rfl rfl rfl ty22 ?_ ?_ ?_ | refine kOps_loadr (pre := ?_) (val := ?_) rfl rfl rfl rfl ty22 ?_ ?_ ?_); rotate_left 2; (simp only [q5, Int.toNat_natCast, index_wr ty23 ty22, len_addI, splice_w, take_wr, len_l, List.length_replicate, Nat.le_refl, eq_self, partF, isAggD, Bool.false_eq_true, if_false, if_true, reduceIte, take_cl, agg_cl, len_cl, List.drop_zero, Int.reduceToNat, Int.toNat_zero, n_add_zero, Nat.mul_one, Nat.zero_add, Nat.reduceAdd, Nat.reduceMul, take_bytes, List.length_map, List.getD_cons_zero]; rfl); (focus ((repeat' apply And.intro) <;> first | exact True.intro | omega | (with_reducible rfl) | assumption | (simp only [lna, hl]; omega) | (simp only [q1]; done) | (simp only [q4, lna, hl, and_self, true_and, Nat.le_refl, Nat.reduceAdd, Nat.zero_add]; done) | (simp only [len_addI, len_l, len_wr]; omega) | exact (isByte_bv _).2 trivial | exact one_bv _ | (simp [PV.one, one_bv, closedL_bv, flatL_bv, closedL, closed, isByte_bv, PV.cells]; done) | exact ⟨_, rfl⟩ | (simp only [q2]; done) | (simp only [len_cl]; omega) | (simp [Value.cells, Value.oneCell']; done))))
            | (refine kOps_bin (b := .add) (pre := ?_) (val := ?_) rfl rfl rfl rfl rfl ?_ ?_ ?_; rotate_left 2; (intro L; simp only [q5, Int.toNat_natCast, index_wr ty23 ty22, len_addI, splice_w, take_wr, len_l, List.length_replicate, Nat.le_refl, eq_self, lit_ul0, lit_ul1, add_uw, binF_add, Int.reduceAdd, Int.reduceSub, Int.reduceMul, Int.reduceNeg, Int.sub_zero, Int.cast_ofNat_Int, ne_eq, Int.reduceLT, Int.reduceLE, Int.reduceEq, Nat.reduceMod, Nat.reduceLT, decide_true, decide_false, ty22]; (first | (rw [wrap_i64] <;> first | omega | rfl) | (rw [wrap_u8] <;> first | omega | rfl) | (rw [wrap_u16] <;> first | omega | rfl) | (rw [wrap_u32] <;> first | omega | rfl) | rfl)); exact trivial)
            | (refine kOps_store (cs' := ?_) rfl rfl rfl rfl rfl rfl rfl ty22 ?_ ?_ ?_; rotate_left 1; (simp only [q5, Int.toNat_natCast, index_wr ty23 ty22, len_addI, splice_w, take_wr, len_l, List.length_replicate, Nat.le_refl, eq_self, lit_ul0, lit_ul1, cells_ul, cells_u4, isAggD, Bool.false_eq_true, if_false, if_true, reduceIte, take_cl, agg_cl, len_cl, List.drop_zero, Int.reduceToNat, Int.toNat_zero, n_add_zero, Nat.mul_one, Nat.zero_add, Nat.reduceAdd, Nat.reduceMul, take_bytes, List.length_map, List.getD_cons_zero]; rfl); (focus (first | (simp only [lit_ul0, lit_ul1, cells_ul, cells_u4, cells_bv, List.length_cons, List.length_nil, len_cl, List.length_set, List.length_map, Nat.reduceAdd, Nat.zero_add, List.all_cons, List.all_nil, one_ul, one_cl, one_bv, PV.one, Value.oneCell', Bool.and_self, Nat.reduceLeDiff, Nat.le_refl, and_self, true_and, and_true]; done) | ((try simp only [lit_ul0, lit_ul1, cells_ul, cells_u4, cells_bv]); (focus ((repeat' apply And.intro) <;> first | exact True.intro | omega | (with_reducible rfl) | assumption | (simp only [lna, hl]; omega) | (simp only [q1]; done) | (simp only [q4, lna, hl, and_self, true_and, Nat.le_refl, Nat.reduceAdd, Nat.zero_add]; done) | (simp only [len_addI, len_l, len_wr]; omega) | exact (isByte_bv _).2 trivial | exact one_bv _ | (simp [PV.one, one_bv, closedL_bv, flatL_bv, closedL, closed, isByte_bv, PV.cells]; done) | exact ⟨_, rfl⟩ | (simp only [q2]; done) | (simp only [len_cl]; omega) | (simp [Value.cells, Value.oneCell']; done)))))))
            | (refine kOps_bin (b := .add) (pre := ?_) (val := ?_) rfl rfl rfl rfl rfl ?_ ?_ ?_; rotate_left 2; (intro L; simp only [q5, Int.toNat_natCast, index_wr ty23 ty22, len_addI, splice_w, take_wr, len_l, List.length_replicate, Nat.le_refl, eq_self, lit_ul0, lit_ul1, add_ul, binF_add, Int.reduceAdd, Int.reduceSub, Int.reduceMul, Int.reduceNeg, Int.sub_zero, Int.cast_ofNat_Int, ne_eq, Int.reduceLT, Int.reduceLE, Int.reduceEq, Nat.reduceMod, Nat.reduceLT, decide_true, decide_false, ty3]; (first | (rw [wrap_i64] <;> first | omega | rfl) | (rw [wrap_u8] <;> first | omega | rfl) | (rw [wrap_u16] <;> first | omega | rfl) | (rw [wrap_u32] <;> first | omega | rfl) | rfl)); exact trivial)
            | ((first | refine kOps_loadp (pre := ?_) (val := ?_) rfl rfl rfl rfl rfl ty23 ?_ ?_ ?_ | refine kOps_loadr (pre := ?_) (val := ?_) rfl rfl rfl rfl ty23 ?_ ?_ ?_); rotate_left 2; (simp only [q5, Int.toNat_natCast, index_wr ty23 ty22, len_addI, splice_w, take_wr, len_l, List.length_replicate, Nat.le_refl, eq_self, partF, isAggD, Bool.false_eq_true, if_false, if_true, reduceIte, take_cl, agg_cl, len_cl, List.drop_zero, Int.reduceToNat, Int.toNat_zero, n_add_zero, Nat.mul_one, Nat.zero_add, Nat.reduceAdd, Nat.reduceMul, take_bytes, List.length_map, List.getD_cons_zero]; rfl); (focus ((repeat' apply And.intro) <;> first | exact True.intro | omega | (with_reducible rfl) | assumption | (simp only [lna, hl]; omega) | (simp only [q1]; done) | (simp only [q4, lna, hl, and_self, true_and, Nat.le_refl, Nat.reduceAdd, Nat.zero_add]; done) | (simp only [len_addI, len_l, len_wr]; omega) | exact (isByte_bv _).2 trivial | exact one_bv _ | (simp [PV.one, one_bv, closedL_bv, flatL_bv, closedL, closed, isByte_bv, PV.cells]; done) | exact ⟨_, rfl⟩ | (simp only [q2]; done) | (simp only [len_cl]; omega) | (simp [Value.cells, Value.oneCell']; done))))
            | (refine kOps_store (cs' := ?_) rfl rfl rfl rfl rfl rfl rfl ty23 ?_ ?_ ?_; rotate_left 1; (simp only [q5, Int.toNat_natCast, index_wr ty23 ty22, len_addI, splice_w, take_wr, len_l, List.length_replicate, Nat.le_refl, eq_self, lit_ul0, lit_ul1, cells_ul, cells_u4, isAggD, Bool.false_eq_true, if_false, if_true, reduceIte, take_cl, agg_cl, len_cl, List.drop_zero, Int.reduceToNat, Int.toNat_zero, n_add_zero, Nat.mul_one, Nat.zero_add, Nat.reduceAdd, Nat.reduceMul, take_bytes, List.length_map, List.getD_cons_zero]; rfl); (focus (first | (simp only [lit_ul0, lit_ul1, cells_ul, cells_u4, cells_bv, List.length_cons, List.length_nil, len_cl, List.length_set, List.length_map, Nat.reduceAdd, Nat.zero_add, List.all_cons, List.all_nil, one_ul, one_cl, one_bv, PV.one, Value.oneCell', Bool.and_self, Nat.reduceLeDiff, Nat.le_refl, and_self, true_and, and_true]; done) | ((try simp only [lit_ul0, lit_ul1, cells_ul, cells_u4, cells_bv]); (focus ((repeat' apply And.intro) <;> first | exact True.intro | omega | (with_reducible rfl) | assumption | (simp only [lna, hl]; omega) | (simp only [q1]; done) | (simp only [q4, lna, hl, and_self, true_and, Nat.le_refl, Nat.reduceAdd, Nat.zero_add]; done) | (simp only [len_addI, len_l, len_wr]; omega) | exact (isByte_bv _).2 trivial | exact one_bv _ | (simp [PV.one, one_bv, closedL_bv, flatL_bv, closedL, closed, isByte_bv, PV.cells]; done) | exact ⟨_, rfl⟩ | (simp only [q2]; done) | (simp only [len_cl]; omega) | (simp [Value.cells, Value.oneCell']; done)))))))
            | (refine vOps_gundef rfl rfl ?_ ?_; (focus (simp only [lookup_cons, Nat.reduceBEq, cond_true, cond_false]; done)); simp only [putIn])
            | (refine vOps_gpick (t := ?_) (val := ?_) rfl rfl ?_ rfl rfl ?_ ?_ ?_; rotate_left 2; (focus (simp only [lookup_cons, Nat.reduceBEq, cond_true, cond_false]; done)); (simp only [evalIn_tmp, evalIn_const, lookup_cons, Nat.reduceBEq, cond_true, cond_false]; rfl); (simp only [evalIn_tmp, evalIn_const, lookup_cons, Nat.reduceBEq, cond_true, cond_false]; rfl))
            | (refine vOps_pick (t := ?_) (val := ?_) rfl rfl rfl ?_ ?_ ?_; rotate_left 2; (simp only [evalIn_tmp, evalIn_const, lookup_cons, Nat.reduceBEq, cond_true, cond_false]; rfl); (simp only [evalIn_tmp, evalIn_const, lookup_cons, Nat.reduceBEq, cond_true, cond_false]; rfl))
            | (refine vOps_fork (b := ?_) rfl rfl ?_ ?_ ?_; rotate_left 1; (simp only [lookup_cons, Nat.reduceBEq, cond_true, cond_false]; rfl); all_goals (intro hb; simp only [hb]; (try simp only [decide_eq_true_eq, decide_eq_false_iff_not] at hb); try (exfalso; first | omega | exact hb trivial)))
            | (refine vOps_forkp (b := ?_) rfl ?_ ?_ ?_; rotate_left 1; (simp only [evalIn_tmp, lookup_cons, Nat.reduceBEq, cond_true, cond_false]; rfl); all_goals (intro hb; simp only [hb]; (try simp only [decide_eq_true_eq, decide_eq_false_iff_not] at hb); try (exfalso; first | omega | exact hb trivial))))
          · refine loopC_normal ⟨i + 1, by omega⟩ [0, 1, 2, 3] (by show 8 - (i + 1) < 8 - i; omega) ?_
            refine weak_mk (fun i h => absurd h (Nat.not_lt_zero i)) (by decide) (by simp) ?_ ?_
            · simp only [RenRows, List.nil_append, List.cons_append, List.set_cons_zero, List.set_cons_succ, List.getElem?_cons_zero, List.getElem?_cons_succ, Option.some.injEq, LE.cells.injEq, closedL_bv, closedL_wr, and_true, true_and]
              all_goals (exact wr_congr (addI_set (by omega)))
            · simp only [RenEnv, lookup_cons, Nat.reduceBEq, cond_true, cond_false]
              (repeat' apply And.intro) <;> first | trivial | exact ren_keep rfl | exact ren_keep (closed_u4 _) | (refine ren_int ?_; omega) | (refine ren_own rfl ?_; first | rfl | omega | (simp; done) | (omega; done)) | (refine ren_int ?_; omega; done) | (refine ren_int ?_; simp; done) | (refine ren_keep ?_; simp only [closed, closedL_bv, closedL_wr]; done) | (refine ren_ptr rfl; done) | (simp only [rnds_succ]; exact ren_eq rfl rfl) | (simp only [rnds_zero]; exact ren_keep rfl)
          · obtain rfl : i = 8 := by omega
            refine fin_c (p := ?_) (xs := [.cell 4 23]) (by simp) rfl ?_ ?_ ?_ ?_
            rotate_left 2
            · simp only [q7, List.map_cons, List.map_nil, q5, Int.toNat_natCast, index_wr ty23 ty22, len_addI, splice_w, take_wr, len_l, List.length_replicate, Nat.le_refl, eq_self, evalIn_tmp, evalIn_const, evalIn_func, lookup_cons, Nat.reduceBEq, cond_true, cond_false, lit_ul0, lit_ul1, loadF, partF, List.getElem?_cons_zero, List.getElem?_cons_succ, List.set_cons_zero, List.set_cons_succ, List.cons_append, List.nil_append, true_and, and_true, and_self, Nat.reduceLeDiff, isAggD, Bool.false_eq_true, if_false, if_true, reduceIte, take_cl, agg_cl, len_cl, List.drop_zero, Int.reduceToNat, Int.toNat_zero, n_add_zero, Nat.mul_one, Nat.zero_add, Nat.reduceAdd, Nat.reduceMul, take_bytes, List.length_map, List.getD_cons_zero, ty3, ty5, ty22, ty23, ty24, ty44]; try rfl
            · first | (with_reducible rfl) | (simp only [closed, closedL, closed_u4, closed_ul, closed_uw, closed_sv, closedL_bv, closedL_wr, Bool.and_self, Bool.and_true]; first | done | rfl)
            · exact compress_agg s b
            · simp only [q7, List.map_cons, List.map_nil, q5, Int.toNat_natCast, index_wr ty23 ty22, len_addI, splice_w, take_wr, len_l, List.length_replicate, Nat.le_refl, eq_self, evalIn_tmp, evalIn_const, evalIn_func, lookup_cons, Nat.reduceBEq, cond_true, cond_false, lit_ul0, lit_ul1, loadF, partF, List.getElem?_cons_zero, List.getElem?_cons_succ, List.set_cons_zero, List.set_cons_succ, List.cons_append, List.nil_append, true_and, and_true, and_self, Nat.reduceLeDiff, isAggD, Bool.false_eq_true, if_false, if_true, reduceIte, take_cl, agg_cl, len_cl, List.drop_zero, Int.reduceToNat, Int.toNat_zero, n_add_zero, Nat.mul_one, Nat.zero_add, Nat.reduceAdd, Nat.reduceMul, take_bytes, List.length_map, List.getD_cons_zero, ty3, ty5, ty22, ty23, ty24, ty44]; try trivial

  · exact hS.elim
end Go.Ab
