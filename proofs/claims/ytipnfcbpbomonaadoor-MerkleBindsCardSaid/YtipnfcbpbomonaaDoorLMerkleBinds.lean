/-
  The Go function MerkleBinds of the statements of layer 7 returns true for all numbers, all lists of digests and all digests, and writes nothing that was there before; the two tables of constants hold at the start what the program's text lays.
-/
import Derived.Test.YtipnfcbpbomonaaDoorCards
import Derived.Test.YtipnfcbpbomonaaDoorTie
import Derived.SevenTiedAt
import Derived.WalkKit
import Derived.ProofKit
import Derived.LaidMore
import Derived.OpenShut
import Derived.ShutString
import Derived.ChangeOld
import Derived.Below
import Derived.Test.YtipnfcbpbomonaaDoorZ2
import Derived.Test.YtipnfcbpbomonaaDoorD
import Derived.Test.YtipnfcbpbomonaaDoorM11
import Derived.Test.YtipnfcbpbomonaaDoorM12
namespace Go.Proofs.YtipnfcbpbomonaaDoor.merkleBinds
open Go.ChangeShapes Go.WideShapes Go.ChangeAt Go.RowKit
open Go.ChangeMaps (open_string shut_string)
set_option linter.unusedVariables false
set_option linter.unusedSimpArgs false
theorem walk (w : World) (hG : Go.Ab.Globs Go.Ab.no [] w) (a0 : Int) (w0 : (Lit.int .i64 a0).wf = true) (a1 : Int) (w1 : (Lit.int .i64 a1).wf = true) (v2 : Value) (R2 : ∃ a : List Nat, (a.length ≤ maxLen ∧ ∀ x ∈ a, x < 2 ^ 256) ∧ Go.Ab.RepV Go.Ab.no [] w (Go.Ab.roK Go.Ab.hl a) v2) (v3 : Value) (R3 : ∃ a : List Nat, (a.length ≤ maxLen ∧ ∀ x ∈ a, x < 2 ^ 256) ∧ Go.Ab.RepV Go.Ab.no [] w (Go.Ab.roK Go.Ab.hl a) v3) (z4 : List Int) (l4 : z4.length = 32) (w4 : ∀ z ∈ z4, (Lit.int .u8 z).wf = true) (z5 : List Int) (l5 : z5.length = 32) (w5 : ∀ z ∈ z5, (Lit.int .u8 z).wf = true) :
    Calls Tryd.prog 10 #[.int .i64 a0, .int .i64 a1, v2, v3, .agg (z4.map (Value.int .u8)).toArray, .agg (z5.map (Value.int .u8)).toArray] w fun e w' => e = .returned (.bool true) ∧ Below w.heap.size w w' := by
  obtain ⟨x2, o2, r2⟩ := R2
  obtain ⟨x3, o3, r3⟩ := R3
  obtain ⟨n4, b4, r4⟩ := Go.Ab.h32_rep (w := w) l4 w4
  obtain ⟨n5, b5, r5⟩ := Go.Ab.h32_rep (w := w) l5 w5
  exact Go.Ab.law_run (Go.Ab.c_law_MerkleBinds o2.2 o3.2 b4 b5) (args := [Go.Ab.li a0, Go.Ab.li a1, Go.Ab.roK Go.Ab.hl x2, Go.Ab.roK Go.Ab.hl x3, Go.Ab.h32 n4, Go.Ab.h32 n5]) (vs := [_, _, _, _, _, _]) rfl rfl (by simp [Go.Ab.closedL, Go.Ab.closed, Go.Ab.li, Go.Ab.closed_h32, Go.Ab.closed_roK]) ⟨_, _, rfl, (by simp only [Go.Ab.li, Go.Ab.RepV]), ⟨_, _, rfl, (by simp only [Go.Ab.li, Go.Ab.RepV]), ⟨_, _, rfl, r2, ⟨_, _, rfl, r3, ⟨_, _, rfl, r4, ⟨_, _, rfl, r5, rfl⟩⟩⟩⟩⟩⟩ hG
set_option maxRecDepth 100000 in
theorem lifted (os : Os) (started : os.Started) (H : Type) (enc : TypeId × Value → H) :
    ReturnsInHanded {} Tryd.checked os 10 .any (fun w args => (Rows.merkleBindsSpec.pre enc Tryd.prog Tryd.f10 [] false w args ∧ laidMetH Tryd.prog laidL w) ∧ sizedMet enc Tryd.prog Tryd.f10 (OpenSpec.ofChange Rows.merkleBindsSpec) false w args)
      (Rows.merkleBindsSpec.post enc Tryd.prog Tryd.f10 false true false false) := by
  refine returnsInHanded_of_change_and (C := Tryd.checked) (X := fun w _ => laidMetH Tryd.prog laidL w) (fun _ _ _ hh h => h.of_heap hh) own started (by kernel_rfl) Tryd.func10
    (ChangeSpec.witness_shaped (enc := enc) (C := Tryd.checked) (os := os) (X := fun w _ => laidMetH Tryd.prog laidL w) false (World.doorLaid Tryd.prog 400 os) #[.int .i64 0, .int .i64 0, .slice none 0 0, .slice none 0 0, .agg #[.int .u8 0, .int .u8 0, .int .u8 0, .int .u8 0, .int .u8 0, .int .u8 0, .int .u8 0, .int .u8 0, .int .u8 0, .int .u8 0, .int .u8 0, .int .u8 0, .int .u8 0, .int .u8 0, .int .u8 0, .int .u8 0, .int .u8 0, .int .u8 0, .int .u8 0, .int .u8 0, .int .u8 0, .int .u8 0, .int .u8 0, .int .u8 0, .int .u8 0, .int .u8 0, .int .u8 0, .int .u8 0, .int .u8 0, .int .u8 0, .int .u8 0, .int .u8 0], .agg #[.int .u8 0, .int .u8 0, .int .u8 0, .int .u8 0, .int .u8 0, .int .u8 0, .int .u8 0, .int .u8 0, .int .u8 0, .int .u8 0, .int .u8 0, .int .u8 0, .int .u8 0, .int .u8 0, .int .u8 0, .int .u8 0, .int .u8 0, .int .u8 0, .int .u8 0, .int .u8 0, .int .u8 0, .int .u8 0, .int .u8 0, .int .u8 0, .int .u8 0, .int .u8 0, .int .u8 0, .int .u8 0, .int .u8 0, .int .u8 0, .int .u8 0, .int .u8 0]] 8 rfl (World.shaped_of_RefB (by kernel_rfl) (by kernel_rfl)) (by kernel_rfl) (by kernel_rfl) (by kernel_rfl) (door_met os _)) ?_
  intro W base args ds gs before hval0 hW _ _ hL _
  have hval : ∀ (j : Nat) t v, Tryd.f10.params[j]? = some t → args[j]? = some v → Value.okWide Tryd.prog W .any base t v := hval0
  have hW' := hW
  obtain ⟨p, q, hA0, hV, rfl, hfz, hnd⟩ := hW
  have hA : DataW.TrodAll enc Tryd.prog W 0 (fun _ => true) true Tryd.f10.params.toList args.toList ds p := hA0
  rw [Tryd.params10] at hA hval
  obtain ⟨v0, vs0, d0, ds0, p0, q0, hargs, rfl, rfl, h0, r0⟩ := trodAll_cons hA
  obtain ⟨v1, vs1, d1, ds1, p1, q1, rfl, rfl, rfl, h1, r1⟩ := trodAll_cons r0
  obtain ⟨v2, vs2, d2, ds2, p2, q2, rfl, rfl, rfl, h2, r2⟩ := trodAll_cons r1
  obtain ⟨v3, vs3, d3, ds3, p3, q3, rfl, rfl, rfl, h3, r3⟩ := trodAll_cons r2
  obtain ⟨v4, vs4, d4, ds4, p4, q4, rfl, rfl, rfl, h4, r4⟩ := trodAll_cons r3
  obtain ⟨v5, vs5, d5, ds5, p5, q5, rfl, rfl, rfl, h5, r5⟩ := trodAll_cons r4
  obtain ⟨rfl, rfl, rfl⟩ := trodAll_nil r5
  obtain rfl : args = #[v0, v1, v2, v3, v4, v5] := by cases args; simp_all
  obtain ⟨rfl, rfl⟩ := trodVars_none hV
  obtain ⟨a0, rfl, rfl, rfl, w0⟩ := open_int Tryd.underlying3 (hval 0 3 v0 rfl rfl) h0
  obtain ⟨a1, rfl, rfl, rfl, w1⟩ := open_int Tryd.underlying3 (hval 1 3 v1 rfl rfl) h1
  have k2 := h2
  have lt2 : ∀ x ∈ p2, x.block < W.heap.size := by obtain ⟨m, hm⟩ := k2; exact DataW.trod_lt m _ _ _ hm
  obtain ⟨a2, len2, cap2, rfl⟩ := okWide_slice Tryd.underlying22 (hval 2 22 v2 rfl rfl)
  have R2 := Go.Ab.rd_one (w := W) (Go.Ab.rd_slice Tryd.underlying22 (by kernel_rfl) (by decide) (Go.Ab.rd_h32 Tryd.underlying24 (by kernel_rfl) (by kernel_rfl) (by kernel_rfl))) rfl h2
  have k3 := h3
  have lt3 : ∀ x ∈ p3, x.block < W.heap.size := by obtain ⟨m, hm⟩ := k3; exact DataW.trod_lt m _ _ _ hm
  obtain ⟨a3, len3, cap3, rfl⟩ := okWide_slice Tryd.underlying22 (hval 3 22 v3 rfl rfl)
  have R3 := Go.Ab.rd_one (w := W) (Go.Ab.rd_slice Tryd.underlying22 (by kernel_rfl) (by decide) (Go.Ab.rd_h32 Tryd.underlying24 (by kernel_rfl) (by kernel_rfl) (by kernel_rfl))) rfl h3
  have k4 := h4
  have lt4 : ∀ x ∈ p4, x.block < W.heap.size := by obtain ⟨m, hm⟩ := k4; exact DataW.trod_lt m _ _ _ hm
  obtain ⟨z4, l4, rfl, w4⟩ := Go.Ab.open_nums Tryd.underlying24 (by kernel_rfl) (by kernel_rfl) Tryd.underlying5 (hval 4 24 v4 rfl rfl) h4
  have k5 := h5
  have lt5 : ∀ x ∈ p5, x.block < W.heap.size := by obtain ⟨m, hm⟩ := k5; exact DataW.trod_lt m _ _ _ hm
  obtain ⟨z5, l5, rfl, w5⟩ := Go.Ab.open_nums Tryd.underlying24 (by kernel_rfl) (by kernel_rfl) Tryd.underlying5 (hval 5 24 v5 rfl rfl) h5
  clear hA0 hval0
  refine (walk W (globs_of hL) a0 w0 a1 w1 (.slice a2 len2 cap2) R2 (.slice a3 len3 cap3) R3 z4 l4 w4 z5 l5 w5).mono fun e W' ⟨he, bel⟩ => ?_
  subst he
  exact ⟨_, rfl, _, _, _, [], _, [], hW', trodAll_mk1 (shut_bool Tryd.underlying4 _), (trodAll_cons_mk (shut_int Tryd.underlying3 w0) (trodAll_cons_mk (shut_int Tryd.underlying3 w1) (trodAll_cons_mk (Below.trod laidOut (by kernel_rfl) (of_decide_eq_true (by kernel_rfl)) k2 bel lt2) (trodAll_cons_mk (Below.trod laidOut (by kernel_rfl) (of_decide_eq_true (by kernel_rfl)) k3 bel lt3) (trodAll_cons_mk (Below.trod laidOut (by kernel_rfl) (of_decide_eq_true (by kernel_rfl)) k4 bel lt4) (trodAll_cons_mk (Below.trod laidOut (by kernel_rfl) (of_decide_eq_true (by kernel_rfl)) k5 bel lt5) trodAll_mk0)))))), rfl, bel.frame _, fun h => by cases h⟩

theorem over : Rows.MerkleBindsSaid :=
  OpenClaim.holds_of_wide 10 Tryd.f10 rfl rfl rfl rfl rfl rfl rfl ⟨rfl, rfl, rfl, rfl, rfl⟩ rfl rfl rfl rfl rfl (by kernel_rfl) Tryd.func10 (by kernel_rfl)
    (of_decide_eq_true (by kernel_rfl)) (by unfold Func.isWrapper; first | (rw [if_pos (by decide +kernel)]; kernel_rfl) | (rw [if_neg (by decide +kernel)]; exact ⟨rfl, rfl⟩))
    (fun os started H enc _ => lifted os started H enc)

theorem proved : Rows.MerkleBindsCardSaid :=
  Claim7.holds_tied_plain_at .later [] [.data, .data] true (true, "fdf3d4696c3b5470da5ca3288ee6f88f4d700618148c90a983a85115a30d35ec") false
    over (fun _ h => by cases h) (by kernel_rfl) (fun _ h => by cases h) merkleBinds_row_tie rfl ⟨rfl, rfl⟩ (by kernel_rfl) rfl
    (fun f fn hf hfn => by
      obtain rfl : f = 10 := Option.some.inj ((show Tryd.prog.funcNamed "lightclient/lightclientlaw07.MerkleBinds" = some 10 by kernel_rfl).symm.trans hf) |>.symm
      obtain rfl : fn = Tryd.f10 := (Option.some.inj (Tryd.func10.symm.trans hfn)).symm
      exact ⟨by kernel_rfl, fun j t ht => by
        rw [Tryd.params10] at ht
        have hm : t ∈ [3, 3, 22, 22, 24, 24] := by simpa using Array.mem_of_getElem? ht
        have hall : ([3, 3, 22, 22, 24, 24].all fun u => !Tryd.prog.wantsStandIn u) = true := by kernel_rfl
        exact (show Tryd.prog.wantsStandIn t = false by simpa using List.all_eq_true.1 hall t hm)⟩)
    (by kernel_rfl)
#print axioms proved
end Go.Proofs.YtipnfcbpbomonaaDoor.merkleBinds
