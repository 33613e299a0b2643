import Derived.Test.YthjfiaomfngajaaDoorTY
import Derived.Test.YthjfiaomfngajaaDoorMG
import Derived.Test.YthjfiaomfngajaaDoorFshaCompress
namespace Go.Ab
open Go Go.Proofs
set_option linter.unusedVariables false
set_option linter.unusedSimpArgs false
set_option maxRecDepth 8000
set_option maxHeartbeats 4000000

noncomputable def B29 : Code := bodyOf Tryd.f29
theorem B29_eq : Tryd.f29.body = some B29 := by kernel_rfl
noncomputable def n29_0 : Code := B29
noncomputable def n29_1 : Code := codeAt B29 [0]
noncomputable def n29_2 : Code := codeAt B29 [1]
noncomputable def n29_3 : Code := codeAt B29 [1,0]
noncomputable def n29_4 : Code := codeAt B29 [1,0,0]
noncomputable def n29_5 : Code := codeAt B29 [1,0,0,0]
noncomputable def n29_6 : Code := codeAt B29 [1,0,0,0,0]
noncomputable def n29_7 : Code := codeAt B29 [1,0,0,0,0,0]
noncomputable def n29_8 : Code := codeAt B29 [1,0,0,0,0,1]
noncomputable def n29_9 : Code := codeAt B29 [1,0,0,0,0,1,0]
noncomputable def n29_10 : Code := codeAt B29 [1,0,0,0,0,1,1]
noncomputable def n29_11 : Code := codeAt B29 [1,0,0,0,1]
noncomputable def n29_12 : Code := codeAt B29 [1,0,0,0,1,0]
noncomputable def n29_13 : Code := codeAt B29 [1,0,0,0,1,0,0]
noncomputable def n29_14 : Code := codeAt B29 [1,0,0,0,1,0,1]
noncomputable def n29_15 : Code := codeAt B29 [1,1]
noncomputable def n29_16 : Code := codeAt B29 [1,1,0]
noncomputable def n29_17 : Code := codeAt B29 [1,1,1]
theorem e29_0 : n29_0 = .seq n29_1 n29_2 := rfl
noncomputable def r29_1 := opsAt n29_1
theorem e29_1 : n29_1 = .region 0 (r29_1).toArray false := rfl
theorem e29_2 : n29_2 = .seq n29_3 n29_15 := rfl
theorem e29_3 : n29_3 = .block 0 n29_4 := rfl
theorem e29_4 : n29_4 = .loop n29_5 := rfl
theorem e29_5 : n29_5 = .seq n29_6 n29_11 := rfl
theorem e29_6 : n29_6 = .seq n29_7 n29_8 := rfl
noncomputable def r29_7 := opsAt n29_7
theorem e29_7 : n29_7 = .region 1 (r29_7).toArray false := rfl
theorem e29_8 : n29_8 = .cond (.tmp 7) n29_9 n29_10 := rfl
theorem e29_9 : n29_9 = .skip := rfl
theorem e29_10 : n29_10 = .exit 0 := rfl
theorem e29_11 : n29_11 = .block 1 n29_12 := rfl
theorem e29_12 : n29_12 = .seq n29_13 n29_14 := rfl
noncomputable def r29_13 := opsAt n29_13
theorem e29_13 : n29_13 = .region 2 (r29_13).toArray true := rfl
theorem a29_13 : anyOk r29_13 = true := by decide +kernel
noncomputable def r29_14 := opsAt n29_14
theorem e29_14 : n29_14 = .region 3 (r29_14).toArray false := rfl
theorem e29_15 : n29_15 = .seq n29_16 n29_17 := rfl
noncomputable def r29_16 := opsAt n29_16
theorem e29_16 : n29_16 = .region 4 (r29_16).toArray false := rfl
theorem e29_17 : n29_17 = .ret := rfl
theorem f_sha_compressAll : PureOk Tryd.prog 29 sCompAll := by
  refine pureOk_of (c := n29_0) (Γ := conOf [(11, .pure sCompress)]) (conOf_ok (conOf_one (S := .pure sCompress) f_sha_Compress (conOf_end))) mixed Tryd.func29 B29_eq (by decide +kernel) Tryd.call29 ?_
  intro args hS
  unfold sCompAll at hS ⊢
  split at hS
  · refine ⟨by rw [Tryd.ntmps29]; simp, vC_sound ?_⟩
    rename_i s n cs
    obtain ⟨hs, hB, h64, hle⟩ := hS
    obtain ⟨s, rfl⟩ := isS_out hs
    obtain ⟨b, rfl, rfl⟩ := isB_out hB
    simp only [bytesOf_bv, sOf_sv]
    clear hs hB
    simp only [entry_cons, entry_nil, Nat.reduceAdd]
    repeat' (first
      | (with_reducible first | apply seqC_normal | apply blockC_normal | apply seqC_exit | apply blockC_hit | apply seqC_ret | apply blockC_ret | apply loopC_ret | apply loopC_exit)
      | ((with_reducible apply blockC_miss); (exact rfl))
      | ((with_reducible apply wC_seq e29_0; apply wC_region e29_1); refine vOps_open (l := _ :: _) rfl ?_; refine kOps_box (row := ?_) (n := ?_) rfl rfl rfl rfl rfl ?_ ?_ ?_ ?_; rotate_left 2; (simp only [↓List.length_append, ↓List.length_set, ↓List.length_cons, List.length_nil, Nat.reduceAdd, Nat.zero_add]; rfl); (simp only [q5, cells_sv, take_wr, splice_w, len_l, List.length_replicate, Nat.le_refl, eq_self, agg_sv, cells_ul, cells_u4]; rfl); (focus (first | rfl | exact one_cl _ _ | exact one_bv _ | (simp only [one_cl, one_ul, List.all_cons, List.all_nil, Bool.and_self, PV.one]; done) | (simp [PV.one, one_ul, one_cl, one_bv, Value.oneCell']; done))); refine kOps_alloc (row := _) (n := ?_) rfl rfl rfl rfl ty23 ?_ zr23 zo23 ?_; rotate_left 1; (simp only [↓List.length_append, ↓List.length_set, ↓List.length_cons, List.length_nil, Nat.reduceAdd, Nat.zero_add]; rfl); refine vOps_nil ?_; (with_reducible apply seqC_normal; apply wC_seq e29_2; apply wC_block e29_3))
      | ((with_reducible apply wC_seq e29_15; apply wC_region e29_16); refine vOps_open (l := _ :: _) rfl ?_; (first | refine kOps_loadp (pre := ?_) (val := ?_) rfl rfl rfl rfl rfl ty23 ?_ ?_ ?_ | refine kOps_loadr (pre := ?_) (val := ?_) rfl rfl rfl rfl ty23 ?_ ?_ ?_); rotate_left 2; (simp only [q5, cells_sv, take_wr, splice_w, len_l, List.length_replicate, Nat.le_refl, eq_self, agg_sv, partF, isAggD, Bool.false_eq_true, if_false, if_true, reduceIte, take_cl, agg_cl, len_cl, List.drop_zero, Int.toNat_natCast, Int.reduceToNat, Int.toNat_zero, n_add_zero, Nat.mul_one, Nat.zero_add, Nat.reduceAdd, Nat.reduceMul, take_bytes, List.length_map, List.getD_cons_zero]; rfl); (focus ((repeat' apply And.intro) <;> first | exact True.intro | omega | (with_reducible rfl) | assumption | (simp only [lnb]; omega) | (simp only [q1]; done) | (simp only [q4, lnb, and_self, true_and, Nat.le_refl, Nat.reduceAdd, Nat.zero_add]; done) | exact (isByte_bv _).2 trivial | exact one_bv _ | (simp [PV.one, one_bv, closedL_bv, flatL_bv, closedL, closed, isByte_bv, PV.cells]; done) | exact ⟨_, rfl⟩ | (simp only [q2]; done) | (simp only [len_cl]; omega) | (simp [Value.cells, Value.oneCell']; done))); refine kOps_store (cs' := ?_) rfl rfl rfl rfl rfl rfl rfl ty23 ?_ ?_ ?_; rotate_left 1; (simp only [q5, cells_sv, take_wr, splice_w, len_l, List.length_replicate, Nat.le_refl, eq_self, agg_sv, cells_ul, cells_u4, isAggD, Bool.false_eq_true, if_false, if_true, reduceIte, take_cl, agg_cl, len_cl, List.drop_zero, Int.toNat_natCast, Int.reduceToNat, Int.toNat_zero, n_add_zero, Nat.mul_one, Nat.zero_add, Nat.reduceAdd, Nat.reduceMul, take_bytes, List.length_map, List.getD_cons_zero]; rfl); (focus (first | (simp only [cells_ul, cells_u4, cells_bv, List.length_cons, List.length_nil, len_cl, List.length_set, List.length_map, Nat.reduceAdd, Nat.zero_add, List.all_cons, List.all_nil, one_ul, one_cl, one_bv, PV.one, Value.oneCell', Bool.and_self, Nat.reduceLeDiff, Nat.le_refl, and_self, true_and, and_true]; done) | ((try simp only [cells_ul, cells_u4, cells_bv]); (focus ((repeat' apply And.intro) <;> first | exact True.intro | omega | (with_reducible rfl) | assumption | (simp only [lnb]; omega) | (simp only [q1]; done) | (simp only [q4, lnb, and_self, true_and, Nat.le_refl, Nat.reduceAdd, Nat.zero_add]; done) | exact (isByte_bv _).2 trivial | exact one_bv _ | (simp [PV.one, one_bv, closedL_bv, flatL_bv, closedL, closed, isByte_bv, PV.cells]; done) | exact ⟨_, rfl⟩ | (simp only [q2]; done) | (simp only [len_cl]; omega) | (simp [Value.cells, Value.oneCell']; done)))))); refine vOps_nil ?_; (with_reducible apply seqC_normal; apply wC_ret e29_17)))
    refine wC_loopI (ι := {i : Nat // 64 * i ≤ b.length}) e29_4 (fun i => ([(1, .ro (b.length - 64 * i.1) ((b.drop (64 * i.1)).map bv)), (2, .ptr 0 0), (4, .ptr 1 0)], [.cells (wr (absorb i.1 s b).l), .cells (wr (List.replicate 8 0))])) (fun i => b.length - 64 * i.1) ⟨0, by omega⟩ [0, 1] ?_ ?_
    · show Weak _ _ _ _ _ _
      refine weak_mk (fun i h => absurd h (Nat.not_lt_zero i)) (by decide) (by simp) ?_ ?_
      · simp only [RenRows, List.nil_append, List.cons_append, List.set_cons_zero, List.set_cons_succ, List.getElem?_cons_zero, List.getElem?_cons_succ, Option.some.injEq, LE.cells.injEq, closedL_bv, closedL_wr, and_true, true_and]
        all_goals (rw [absorb_zero])
      · simp only [RenEnv, lookup_cons, Nat.reduceBEq, cond_true, cond_false]
        (repeat' apply And.intro) <;> first | trivial | exact ren_keep rfl | exact ren_keep (closed_u4 _) | (refine ren_int ?_; omega) | (refine ren_own rfl ?_; first | rfl | omega | (simp; done) | (omega; done)) | (refine ren_int ?_; omega; done) | (refine ren_int ?_; simp; done) | (refine ren_keep ?_; simp only [closed, closedL_bv, closedL_wr]; done) | (refine ren_ptr rfl; done)
    · rintro ⟨i, hi⟩
      dsimp only
      have hdl : (b.drop (64 * i)).length = b.length - 64 * i := List.length_drop
      by_cases hlt : 64 * i < b.length
      · have htl : ((b.drop (64 * i)).take 64).length = 64 := by rw [List.length_take, hdl]; omega
        have hisB : isB 64 (((b.drop (64 * i)).take 64).map bv) ↔ True := isB_iff htl.symm
        repeat' (first
          | (with_reducible first | apply seqC_normal | apply blockC_normal | apply seqC_exit | apply blockC_hit | apply seqC_ret | apply blockC_ret | apply loopC_ret | apply loopC_exit)
          | ((with_reducible apply blockC_miss); (exact rfl))
          | ((with_reducible apply wC_seq e29_5; apply wC_seq e29_6; apply wC_region e29_7); refine vOps_open (l := _ :: _) rfl ?_)
          | ((with_reducible apply kC_cond e29_8); (exact rfl); all_goals (intro hb; first | (cases hb; done) | cases hb | ((try simp only [decide_eq_true_eq, decide_eq_false_iff_not, Bool.not_eq_true', Bool.not_eq_false'] at hb); try (exfalso; first | omega | exact hb trivial))))
          | ((with_reducible apply wC_skip e29_9))
          | ((with_reducible apply wC_exit e29_10))
          | ((with_reducible apply wC_block e29_11; apply wC_seq e29_12; apply wC_any e29_13 a29_13); refine vOps_open (l := _ :: _) rfl ?_)
          | ((with_reducible apply wC_region e29_14); refine vOps_open (l := _ :: _) rfl ?_)
          | ((with_reducible apply wC_seq e29_15; apply wC_region e29_16); refine vOps_open (l := _ :: _) rfl ?_)
          | ((with_reducible apply wC_ret e29_17))
          | ((with_reducible apply vOps_nil); try (with_reducible refine And.intro (by kernel_rfl) ?_))
          | (refine kOps_gon (g := ?_) (p := ?_) rfl rfl ?_ ?_ ?_ ?_; rotate_left 2; fail; (exact rfl); (with_reducible rfl))
          | (refine kOps_gofft (g := ?_) (p := ?_) rfl rfl ?_ ?_ ?_ ?_; rotate_left 2; fail; (exact rfl); (with_reducible rfl))
          | (refine kOps_gofff (g := ?_) (p := ?_) rfl rfl ?_ ?_ ?_ ?_; rotate_left 2; fail; (exact rfl); (with_reducible rfl))
          | (refine kOps_pickt rfl rfl rfl rfl ?_ rfl ?_; (with_reducible rfl))
          | (refine kOps_pickf rfl rfl rfl rfl ?_ rfl ?_; (with_reducible rfl))
          | (refine kOps_mv rfl rfl rfl rfl ?_)
          | (refine kOps_len (d := 6) rfl rfl rfl rfl ty29 (by first | exact byt_nil | (refine byt_ro ?_; (first | rfl | assumption | omega | (simp only [lnb]; first | omega | done))) | (refine byt_own rfl ?_; (first | rfl | assumption | omega | (simp only [lnb]; first | omega | done))) | (refine byt_part rfl ?_ rfl; (first | rfl | assumption | omega | (simp only [lnb]; first | omega | done)))) ?_)
          | (refine kOps_bin (b := .gtr) (pre := ?_) (val := ?_) rfl rfl rfl rfl rfl ?_ ?_ ?_; rotate_left 2; (intro L; simp only [q5, cells_sv, take_wr, splice_w, len_l, List.length_replicate, Nat.le_refl, eq_self, agg_sv, take_bs, htl, lit_ul0, lit_ul1, gtr_ul, binF_gtr, Int.reduceAdd, Int.reduceSub, Int.reduceMul, Int.reduceNeg, Int.sub_zero, Int.cast_ofNat_Int, ne_eq, Int.reduceLT, Int.reduceLE, Int.reduceEq, Nat.reduceMod, Nat.reduceLT, decide_true, decide_false, ty3]; (first | (rw [wrap_i64] <;> first | omega | rfl) | (rw [wrap_u8] <;> first | omega | rfl) | (rw [wrap_u16] <;> first | omega | rfl) | (rw [wrap_u32] <;> first | omega | rfl) | rfl)); exact trivial)
          | ((first | refine kOps_loadp (pre := ?_) (val := ?_) rfl rfl rfl rfl rfl ty23 ?_ ?_ ?_ | refine kOps_loadr (pre := ?_) (val := ?_) rfl rfl rfl rfl ty23 ?_ ?_ ?_); rotate_left 2; (simp only [q5, cells_sv, take_wr, splice_w, len_l, List.length_replicate, Nat.le_refl, eq_self, agg_sv, take_bs, htl, partF, isAggD, Bool.false_eq_true, if_false, if_true, reduceIte, take_cl, agg_cl, len_cl, List.drop_zero, Int.toNat_natCast, Int.reduceToNat, Int.toNat_zero, n_add_zero, Nat.mul_one, Nat.zero_add, Nat.reduceAdd, Nat.reduceMul, take_bytes, List.length_map, List.getD_cons_zero]; rfl); (focus ((repeat' apply And.intro) <;> first | exact True.intro | omega | (with_reducible rfl) | assumption | (simp only [lnb, htl]; omega) | (simp only [q1]; done) | (simp only [q4, lnb, htl, and_self, true_and, Nat.le_refl, Nat.reduceAdd, Nat.zero_add]; done) | exact (isByte_bv _).2 trivial | exact one_bv _ | (simp [PV.one, one_bv, closedL_bv, flatL_bv, closedL, closed, isByte_bv, PV.cells]; done) | exact ⟨_, rfl⟩ | (simp only [q2]; done) | (simp only [len_cl]; omega) | (simp [Value.cells, Value.oneCell']; done))))
          | (refine kOps_slr (d := 10) (l := 0) (w := 64) rfl rfl rfl rfl ty29 ty5 rfl (by first | exact bnd_none | exact bnd_some rfl) (by first | exact bnd_none | exact bnd_some rfl) (by refine ⟨?_, ?_, ?_, ?_⟩ <;> (first | rfl | assumption | omega | (simp only [lnb]; first | omega | done))) (by first | (rw [List.drop_zero]; done) | rfl) ?_)
          | (refine kOps_arp (d := 11) rfl rfl rfl rfl ty24 ty5 rfl (by refine ⟨?_, ?_, ?_⟩ <;> (first | rfl | assumption | omega | (simp only [lnb]; first | omega | done))) (by exact take64 _) ?_)
          | ((first | refine kOps_loadp (pre := ?_) (val := ?_) rfl rfl rfl rfl rfl ty24 ?_ ?_ ?_ | refine kOps_loadr (pre := ?_) (val := ?_) rfl rfl rfl rfl ty24 ?_ ?_ ?_); rotate_left 2; (simp only [q5, cells_sv, take_wr, splice_w, len_l, List.length_replicate, Nat.le_refl, eq_self, agg_sv, take_bs, htl, partF, isAggD, Bool.false_eq_true, if_false, if_true, reduceIte, take_cl, agg_cl, len_cl, List.drop_zero, Int.toNat_natCast, Int.reduceToNat, Int.toNat_zero, n_add_zero, Nat.mul_one, Nat.zero_add, Nat.reduceAdd, Nat.reduceMul, take_bytes, List.length_map, List.getD_cons_zero]; rfl); (focus ((repeat' apply And.intro) <;> first | exact True.intro | omega | (with_reducible rfl) | assumption | (simp only [lnb, htl]; omega) | (simp only [q1]; done) | (simp only [q4, lnb, htl, and_self, true_and, Nat.le_refl, Nat.reduceAdd, Nat.zero_add]; done) | exact (isByte_bv _).2 trivial | exact one_bv _ | (simp [PV.one, one_bv, closedL_bv, flatL_bv, closedL, closed, isByte_bv, PV.cells]; done) | exact ⟨_, rfl⟩ | (simp only [q2]; done) | (simp only [len_cl]; omega) | (simp [Value.cells, Value.oneCell']; done))))
          | (refine kOps_callc (pre := ?_) (val := ?_) rfl rfl rfl rfl rfl ?_ ?_ ?_ ?_ ?_; rotate_left 2; (simp only [q5, cells_sv, take_wr, splice_w, len_l, List.length_replicate, Nat.le_refl, eq_self, agg_sv, take_bs, htl, isS_sv, sOf_sv, hisB, bytesOf_bv, sCompress, lit_ul0, lit_ul1, nrmC, List.map_cons, List.map_nil, q8, isul_ul, ulv_ul, isU_u4, uv_u4, isB_bv, true_and, and_true, and_self, n_add_zero, Nat.zero_add, Nat.zero_mod, n_sub_zero]; rfl); (focus (first | (with_reducible rfl) | (simp only [closed, closedL, closed_ul, closed_u4, closedL_bv, closedL_cl, Bool.and_self, Bool.and_true, closedL_wr, closed_uw, closed_sv]; done))); (focus (first | (with_reducible rfl) | (simp only [closed, closedL, closed_ul, closed_u4, closedL_bv, closedL_cl, Bool.and_self, Bool.and_true, closedL_wr, closed_uw, closed_sv]; done))); (focus ((repeat' apply And.intro) <;> first | exact True.intro | omega | (with_reducible rfl) | assumption | (simp only [lnb, htl]; omega) | (simp only [q1]; done) | (simp only [q4, lnb, htl, and_self, true_and, Nat.le_refl, Nat.reduceAdd, Nat.zero_add]; done) | exact (isByte_bv _).2 trivial | exact one_bv _ | (simp [PV.one, one_bv, closedL_bv, flatL_bv, closedL, closed, isByte_bv, PV.cells]; done) | exact ⟨_, rfl⟩ | (simp only [q2]; done) | (simp only [len_cl]; omega) | (simp [Value.cells, Value.oneCell']; done))))
          | (refine kOps_store (cs' := ?_) rfl rfl rfl rfl rfl rfl rfl ty23 ?_ ?_ ?_; rotate_left 1; (simp only [q5, cells_sv, take_wr, splice_w, len_l, List.length_replicate, Nat.le_refl, eq_self, agg_sv, take_bs, htl, lit_ul0, lit_ul1, cells_ul, cells_u4, isAggD, Bool.false_eq_true, if_false, if_true, reduceIte, take_cl, agg_cl, len_cl, List.drop_zero, Int.toNat_natCast, Int.reduceToNat, Int.toNat_zero, n_add_zero, Nat.mul_one, Nat.zero_add, Nat.reduceAdd, Nat.reduceMul, take_bytes, List.length_map, List.getD_cons_zero]; rfl); (focus (first | (simp only [lit_ul0, lit_ul1, cells_ul, cells_u4, cells_bv, List.length_cons, List.length_nil, len_cl, List.length_set, List.length_map, Nat.reduceAdd, Nat.zero_add, List.all_cons, List.all_nil, one_ul, one_cl, one_bv, PV.one, Value.oneCell', Bool.and_self, Nat.reduceLeDiff, Nat.le_refl, and_self, true_and, and_true]; done) | ((try simp only [lit_ul0, lit_ul1, cells_ul, cells_u4, cells_bv]); (focus ((repeat' apply And.intro) <;> first | exact True.intro | omega | (with_reducible rfl) | assumption | (simp only [lnb, htl]; omega) | (simp only [q1]; done) | (simp only [q4, lnb, htl, and_self, true_and, Nat.le_refl, Nat.reduceAdd, Nat.zero_add]; done) | exact (isByte_bv _).2 trivial | exact one_bv _ | (simp [PV.one, one_bv, closedL_bv, flatL_bv, closedL, closed, isByte_bv, PV.cells]; done) | exact ⟨_, rfl⟩ | (simp only [q2]; done) | (simp only [len_cl]; omega) | (simp [Value.cells, Value.oneCell']; done)))))))
          | (refine kOps_slr (d := 15) (l := 64) (w := b.length - 64 * (i + 1)) rfl rfl rfl rfl ty29 ty5 rfl (by first | exact bnd_none | exact bnd_some rfl) (by first | exact bnd_none | exact bnd_some rfl) (by refine ⟨?_, ?_, ?_, ?_⟩ <;> (first | rfl | assumption | omega | (simp only [lnb]; first | omega | done))) (by exact drop64 (by omega)) ?_)
          | (refine kOps_as rfl rfl rfl rfl ?_)
          | (refine vOps_gundef rfl rfl ?_ ?_; (focus (simp only [lookup_cons, Nat.reduceBEq, cond_true, cond_false]; done)); simp only [putIn])
          | (refine vOps_gpick (t := ?_) (val := ?_) rfl rfl ?_ rfl rfl ?_ ?_ ?_; rotate_left 2; (focus (simp only [lookup_cons, Nat.reduceBEq, cond_true, cond_false]; done)); (simp only [evalIn_tmp, evalIn_const, lookup_cons, Nat.reduceBEq, cond_true, cond_false]; rfl); (simp only [evalIn_tmp, evalIn_const, lookup_cons, Nat.reduceBEq, cond_true, cond_false]; rfl))
          | (refine vOps_pick (t := ?_) (val := ?_) rfl rfl rfl ?_ ?_ ?_; rotate_left 2; (simp only [evalIn_tmp, evalIn_const, lookup_cons, Nat.reduceBEq, cond_true, cond_false]; rfl); (simp only [evalIn_tmp, evalIn_const, lookup_cons, Nat.reduceBEq, cond_true, cond_false]; rfl))
          | (refine vOps_fork (b := ?_) rfl rfl ?_ ?_ ?_; rotate_left 1; (simp only [lookup_cons, Nat.reduceBEq, cond_true, cond_false]; rfl); all_goals (intro hb; simp only [hb]; (try simp only [decide_eq_true_eq, decide_eq_false_iff_not] at hb); try (exfalso; first | omega | exact hb trivial)))
          | (refine vOps_forkp (b := ?_) rfl ?_ ?_ ?_; rotate_left 1; (simp only [evalIn_tmp, lookup_cons, Nat.reduceBEq, cond_true, cond_false]; rfl); all_goals (intro hb; simp only [hb]; (try simp only [decide_eq_true_eq, decide_eq_false_iff_not] at hb); try (exfalso; first | omega | exact hb trivial))))
        refine loopC_normal ⟨i + 1, by omega⟩ [0, 1] (by show b.length - 64 * (i + 1) < b.length - 64 * i; omega) ?_
        refine weak_mk (fun i h => absurd h (Nat.not_lt_zero i)) (by decide) (by simp) ?_ ?_
        · simp only [RenRows, List.nil_append, List.cons_append, List.set_cons_zero, List.set_cons_succ, List.getElem?_cons_zero, List.getElem?_cons_succ, Option.some.injEq, LE.cells.injEq, closedL_bv, closedL_wr, and_true, true_and]
          all_goals (rw [absorb_succ])
        · simp only [RenEnv, lookup_cons, Nat.reduceBEq, cond_true, cond_false]
          (repeat' apply And.intro) <;> first | trivial | exact ren_keep rfl | exact ren_keep (closed_u4 _) | (refine ren_int ?_; omega) | (refine ren_own rfl ?_; first | rfl | omega | (simp; done) | (omega; done)) | (refine ren_int ?_; omega; done) | (refine ren_int ?_; simp; done) | (refine ren_keep ?_; simp only [closed, closedL_bv, closedL_wr]; done) | (refine ren_ptr rfl; done)
      · have hi2 : b.length / 64 = i := by omega
        rw [hi2]
        repeat' (first
          | (with_reducible first | apply seqC_normal | apply blockC_normal | apply seqC_exit | apply blockC_hit | apply seqC_ret | apply blockC_ret | apply loopC_ret | apply loopC_exit)
          | ((with_reducible apply blockC_miss); (exact rfl))
          | ((with_reducible apply wC_seq e29_5; apply wC_seq e29_6; apply wC_region e29_7); refine vOps_open (l := _ :: _) rfl ?_)
          | ((with_reducible apply kC_cond e29_8); (exact rfl); all_goals (intro hb; first | (cases hb; done) | cases hb | ((try simp only [decide_eq_true_eq, decide_eq_false_iff_not, Bool.not_eq_true', Bool.not_eq_false'] at hb); try (exfalso; first | omega | exact hb trivial))))
          | ((with_reducible apply wC_skip e29_9))
          | ((with_reducible apply wC_exit e29_10))
          | ((with_reducible apply wC_block e29_11; apply wC_seq e29_12; apply wC_any e29_13 a29_13); refine vOps_open (l := _ :: _) rfl ?_)
          | ((with_reducible apply wC_region e29_14); refine vOps_open (l := _ :: _) rfl ?_)
          | ((with_reducible apply wC_seq e29_15; apply wC_region e29_16); refine vOps_open (l := _ :: _) rfl ?_)
          | ((with_reducible apply wC_ret e29_17))
          | ((with_reducible apply vOps_nil); try (with_reducible refine And.intro (by kernel_rfl) ?_))
          | (refine kOps_gon (g := ?_) (p := ?_) rfl rfl ?_ ?_ ?_ ?_; rotate_left 2; fail; (exact rfl); (with_reducible rfl))
          | (refine kOps_gofft (g := ?_) (p := ?_) rfl rfl ?_ ?_ ?_ ?_; rotate_left 2; fail; (exact rfl); (with_reducible rfl))
          | (refine kOps_gofff (g := ?_) (p := ?_) rfl rfl ?_ ?_ ?_ ?_; rotate_left 2; fail; (exact rfl); (with_reducible rfl))
          | (refine kOps_pickt rfl rfl rfl rfl ?_ rfl ?_; (with_reducible rfl))
          | (refine kOps_pickf rfl rfl rfl rfl ?_ rfl ?_; (with_reducible rfl))
          | (refine kOps_mv rfl rfl rfl rfl ?_)
          | (refine kOps_len (d := 6) rfl rfl rfl rfl ty29 (by first | exact byt_nil | (refine byt_ro ?_; (first | rfl | assumption | omega | (simp only [lnb]; first | omega | done))) | (refine byt_own rfl ?_; (first | rfl | assumption | omega | (simp only [lnb]; first | omega | done))) | (refine byt_part rfl ?_ rfl; (first | rfl | assumption | omega | (simp only [lnb]; first | omega | done)))) ?_)
          | (refine kOps_bin (b := .gtr) (pre := ?_) (val := ?_) rfl rfl rfl rfl rfl ?_ ?_ ?_; rotate_left 2; (intro L; simp only [q5, cells_sv, take_wr, splice_w, len_l, List.length_replicate, Nat.le_refl, eq_self, agg_sv, lit_ul0, lit_ul1, gtr_ul, binF_gtr, Int.reduceAdd, Int.reduceSub, Int.reduceMul, Int.reduceNeg, Int.sub_zero, Int.cast_ofNat_Int, ne_eq, Int.reduceLT, Int.reduceLE, Int.reduceEq, Nat.reduceMod, Nat.reduceLT, decide_true, decide_false, ty3]; (first | (rw [wrap_i64] <;> first | omega | rfl) | (rw [wrap_u8] <;> first | omega | rfl) | (rw [wrap_u16] <;> first | omega | rfl) | (rw [wrap_u32] <;> first | omega | rfl) | rfl)); exact trivial)
          | ((first | refine kOps_loadp (pre := ?_) (val := ?_) rfl rfl rfl rfl rfl ty23 ?_ ?_ ?_ | refine kOps_loadr (pre := ?_) (val := ?_) rfl rfl rfl rfl ty23 ?_ ?_ ?_); rotate_left 2; (simp only [q5, cells_sv, take_wr, splice_w, len_l, List.length_replicate, Nat.le_refl, eq_self, agg_sv, partF, isAggD, Bool.false_eq_true, if_false, if_true, reduceIte, take_cl, agg_cl, len_cl, List.drop_zero, Int.toNat_natCast, Int.reduceToNat, Int.toNat_zero, n_add_zero, Nat.mul_one, Nat.zero_add, Nat.reduceAdd, Nat.reduceMul, take_bytes, List.length_map, List.getD_cons_zero]; rfl); (focus ((repeat' apply And.intro) <;> first | exact True.intro | omega | (with_reducible rfl) | assumption | (simp only [lnb]; omega) | (simp only [q1]; done) | (simp only [q4, lnb, and_self, true_and, Nat.le_refl, Nat.reduceAdd, Nat.zero_add]; done) | exact (isByte_bv _).2 trivial | exact one_bv _ | (simp [PV.one, one_bv, closedL_bv, flatL_bv, closedL, closed, isByte_bv, PV.cells]; done) | exact ⟨_, rfl⟩ | (simp only [q2]; done) | (simp only [len_cl]; omega) | (simp [Value.cells, Value.oneCell']; done))))
          | (refine kOps_slr (d := 10) (l := 0) (w := _) rfl rfl rfl rfl ty29 ty5 rfl (by first | exact bnd_none | exact bnd_some rfl) (by first | exact bnd_none | exact bnd_some rfl) (by refine ⟨?_, ?_, ?_, ?_⟩ <;> (first | rfl | assumption | omega | (simp only [lnb]; first | omega | done))) (by first | (rw [List.drop_zero]; done) | rfl) ?_)
          | (refine kOps_arp (d := 11) rfl rfl rfl rfl ty24 ty5 rfl (by refine ⟨?_, ?_, ?_⟩ <;> (first | rfl | assumption | omega | (simp only [lnb]; first | omega | done))) (by rfl) ?_)
          | ((first | refine kOps_loadp (pre := ?_) (val := ?_) rfl rfl rfl rfl rfl ty24 ?_ ?_ ?_ | refine kOps_loadr (pre := ?_) (val := ?_) rfl rfl rfl rfl ty24 ?_ ?_ ?_); rotate_left 2; (simp only [q5, cells_sv, take_wr, splice_w, len_l, List.length_replicate, Nat.le_refl, eq_self, agg_sv, partF, isAggD, Bool.false_eq_true, if_false, if_true, reduceIte, take_cl, agg_cl, len_cl, List.drop_zero, Int.toNat_natCast, Int.reduceToNat, Int.toNat_zero, n_add_zero, Nat.mul_one, Nat.zero_add, Nat.reduceAdd, Nat.reduceMul, take_bytes, List.length_map, List.getD_cons_zero]; rfl); (focus ((repeat' apply And.intro) <;> first | exact True.intro | omega | (with_reducible rfl) | assumption | (simp only [lnb]; omega) | (simp only [q1]; done) | (simp only [q4, lnb, and_self, true_and, Nat.le_refl, Nat.reduceAdd, Nat.zero_add]; done) | exact (isByte_bv _).2 trivial | exact one_bv _ | (simp [PV.one, one_bv, closedL_bv, flatL_bv, closedL, closed, isByte_bv, PV.cells]; done) | exact ⟨_, rfl⟩ | (simp only [q2]; done) | (simp only [len_cl]; omega) | (simp [Value.cells, Value.oneCell']; done))))
          | (refine kOps_callc (pre := ?_) (val := ?_) rfl rfl rfl rfl rfl ?_ ?_ ?_ ?_ ?_; rotate_left 2; (simp only [q5, cells_sv, take_wr, splice_w, len_l, List.length_replicate, Nat.le_refl, eq_self, agg_sv, sCompress, lit_ul0, lit_ul1, nrmC, List.map_cons, List.map_nil, q8, isul_ul, ulv_ul, isU_u4, uv_u4, bytesOf_bv, isB_bv, true_and, and_true, and_self, n_add_zero, Nat.zero_add, Nat.zero_mod, n_sub_zero]; rfl); (focus (first | (with_reducible rfl) | (simp only [closed, closedL, closed_ul, closed_u4, closedL_bv, closedL_cl, Bool.and_self, Bool.and_true, closedL_wr, closed_uw, closed_sv]; done))); (focus (first | (with_reducible rfl) | (simp only [closed, closedL, closed_ul, closed_u4, closedL_bv, closedL_cl, Bool.and_self, Bool.and_true, closedL_wr, closed_uw, closed_sv]; done))); (focus ((repeat' apply And.intro) <;> first | exact True.intro | omega | (with_reducible rfl) | assumption | (simp only [lnb]; omega) | (simp only [q1]; done) | (simp only [q4, lnb, and_self, true_and, Nat.le_refl, Nat.reduceAdd, Nat.zero_add]; done) | exact (isByte_bv _).2 trivial | exact one_bv _ | (simp [PV.one, one_bv, closedL_bv, flatL_bv, closedL, closed, isByte_bv, PV.cells]; done) | exact ⟨_, rfl⟩ | (simp only [q2]; done) | (simp only [len_cl]; omega) | (simp [Value.cells, Value.oneCell']; done))))
          | (refine kOps_store (cs' := ?_) rfl rfl rfl rfl rfl rfl rfl ty23 ?_ ?_ ?_; rotate_left 1; (simp only [q5, cells_sv, take_wr, splice_w, len_l, List.length_replicate, Nat.le_refl, eq_self, agg_sv, lit_ul0, lit_ul1, cells_ul, cells_u4, isAggD, Bool.false_eq_true, if_false, if_true, reduceIte, take_cl, agg_cl, len_cl, List.drop_zero, Int.toNat_natCast, Int.reduceToNat, Int.toNat_zero, n_add_zero, Nat.mul_one, Nat.zero_add, Nat.reduceAdd, Nat.reduceMul, take_bytes, List.length_map, List.getD_cons_zero]; rfl); (focus (first | (simp only [lit_ul0, lit_ul1, cells_ul, cells_u4, cells_bv, List.length_cons, List.length_nil, len_cl, List.length_set, List.length_map, Nat.reduceAdd, Nat.zero_add, List.all_cons, List.all_nil, one_ul, one_cl, one_bv, PV.one, Value.oneCell', Bool.and_self, Nat.reduceLeDiff, Nat.le_refl, and_self, true_and, and_true]; done) | ((try simp only [lit_ul0, lit_ul1, cells_ul, cells_u4, cells_bv]); (focus ((repeat' apply And.intro) <;> first | exact True.intro | omega | (with_reducible rfl) | assumption | (simp only [lnb]; omega) | (simp only [q1]; done) | (simp only [q4, lnb, and_self, true_and, Nat.le_refl, Nat.reduceAdd, Nat.zero_add]; done) | exact (isByte_bv _).2 trivial | exact one_bv _ | (simp [PV.one, one_bv, closedL_bv, flatL_bv, closedL, closed, isByte_bv, PV.cells]; done) | exact ⟨_, rfl⟩ | (simp only [q2]; done) | (simp only [len_cl]; omega) | (simp [Value.cells, Value.oneCell']; done)))))))
          | (refine kOps_slr (d := 15) (l := 0) (w := _) rfl rfl rfl rfl ty29 ty5 rfl (by first | exact bnd_none | exact bnd_some rfl) (by first | exact bnd_none | exact bnd_some rfl) (by refine ⟨?_, ?_, ?_, ?_⟩ <;> (first | rfl | assumption | omega | (simp only [lnb]; first | omega | done))) (by first | (rw [List.drop_zero]; done) | rfl) ?_)
          | (refine kOps_as rfl rfl rfl rfl ?_)
          | (refine vOps_gundef rfl rfl ?_ ?_; (focus (simp only [lookup_cons, Nat.reduceBEq, cond_true, cond_false]; done)); simp only [putIn])
          | (refine vOps_gpick (t := ?_) (val := ?_) rfl rfl ?_ rfl rfl ?_ ?_ ?_; rotate_left 2; (focus (simp only [lookup_cons, Nat.reduceBEq, cond_true, cond_false]; done)); (simp only [evalIn_tmp, evalIn_const, lookup_cons, Nat.reduceBEq, cond_true, cond_false]; rfl); (simp only [evalIn_tmp, evalIn_const, lookup_cons, Nat.reduceBEq, cond_true, cond_false]; rfl))
          | (refine vOps_pick (t := ?_) (val := ?_) rfl rfl rfl ?_ ?_ ?_; rotate_left 2; (simp only [evalIn_tmp, evalIn_const, lookup_cons, Nat.reduceBEq, cond_true, cond_false]; rfl); (simp only [evalIn_tmp, evalIn_const, lookup_cons, Nat.reduceBEq, cond_true, cond_false]; rfl))
          | (refine vOps_fork (b := ?_) rfl rfl ?_ ?_ ?_; rotate_left 1; (simp only [lookup_cons, Nat.reduceBEq, cond_true, cond_false]; rfl); all_goals (intro hb; simp only [hb]; (try simp only [decide_eq_true_eq, decide_eq_false_iff_not] at hb); try (exfalso; first | omega | exact hb trivial)))
          | (refine vOps_forkp (b := ?_) rfl ?_ ?_ ?_; rotate_left 1; (simp only [evalIn_tmp, lookup_cons, Nat.reduceBEq, cond_true, cond_false]; rfl); all_goals (intro hb; simp only [hb]; (try simp only [decide_eq_true_eq, decide_eq_false_iff_not] at hb); try (exfalso; first | omega | exact hb trivial))))
        refine fin_c (p := ?_) (xs := [.cell 4 23]) (by simp) rfl ?_ ?_ ?_ ?_
        rotate_left 2
        · simp only [q7, List.map_cons, List.map_nil, q5, cells_sv, take_wr, splice_w, len_l, List.length_replicate, Nat.le_refl, eq_self, agg_sv, evalIn_tmp, evalIn_const, evalIn_func, lookup_cons, Nat.reduceBEq, cond_true, cond_false, lit_ul0, lit_ul1, loadF, partF, List.getElem?_cons_zero, List.getElem?_cons_succ, List.set_cons_zero, List.set_cons_succ, List.cons_append, List.nil_append, true_and, and_true, and_self, Nat.reduceLeDiff, isAggD, Bool.false_eq_true, if_false, if_true, reduceIte, take_cl, agg_cl, len_cl, List.drop_zero, Int.toNat_natCast, Int.reduceToNat, Int.toNat_zero, n_add_zero, Nat.mul_one, Nat.zero_add, Nat.reduceAdd, Nat.reduceMul, take_bytes, List.length_map, List.getD_cons_zero, ty3, ty5, ty22, ty23, ty24, ty29]; try rfl
        · first | (with_reducible rfl) | (simp only [closed, closedL, closed_u4, closed_ul, closed_uw, closed_sv, closedL_bv, closedL_wr, Bool.and_self, Bool.and_true]; first | done | rfl)
        · rfl
        · simp only [q7, List.map_cons, List.map_nil, q5, cells_sv, take_wr, splice_w, len_l, List.length_replicate, Nat.le_refl, eq_self, agg_sv, evalIn_tmp, evalIn_const, evalIn_func, lookup_cons, Nat.reduceBEq, cond_true, cond_false, lit_ul0, lit_ul1, loadF, partF, List.getElem?_cons_zero, List.getElem?_cons_succ, List.set_cons_zero, List.set_cons_succ, List.cons_append, List.nil_append, true_and, and_true, and_self, Nat.reduceLeDiff, isAggD, Bool.false_eq_true, if_false, if_true, reduceIte, take_cl, agg_cl, len_cl, List.drop_zero, Int.toNat_natCast, Int.reduceToNat, Int.toNat_zero, n_add_zero, Nat.mul_one, Nat.zero_add, Nat.reduceAdd, Nat.reduceMul, take_bytes, List.length_map, List.getD_cons_zero, ty3, ty5, ty22, ty23, ty24, ty29]; try trivial

  · exact hS.elim
end Go.Ab
