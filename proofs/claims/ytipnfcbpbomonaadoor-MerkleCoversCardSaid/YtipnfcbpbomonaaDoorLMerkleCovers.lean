/-
  The Go function MerkleCovers of the statements of layer 7 returns true for all lists of digests and all lists of marks, and writes nothing that was there before; the two tables of constants hold at the start what the program's text lays.
-/
import Derived.Test.YtipnfcbpbomonaaDoorCards
import Derived.Test.YtipnfcbpbomonaaDoorTie
import Derived.SevenTiedAt
import Derived.WalkKit
import Derived.ProofKit
import Derived.LaidMore
import Derived.OpenShut
import Derived.ShutString
import Derived.ChangeOld
import Derived.Below
import Derived.Test.YtipnfcbpbomonaaDoorZ7
import Derived.Test.YtipnfcbpbomonaaDoorD
import Derived.Test.YtipnfcbpbomonaaDoorM11
import Derived.Test.YtipnfcbpbomonaaDoorM12
namespace Go.Proofs.YtipnfcbpbomonaaDoor.merkleCovers
open Go.ChangeShapes Go.WideShapes Go.ChangeAt Go.RowKit
open Go.ChangeMaps (open_string shut_string)
set_option linter.unusedVariables false
set_option linter.unusedSimpArgs false
theorem walk (w : World) (hG : Go.Ab.Globs Go.Ab.no [] w) (v0 : Value) (R0 : ∃ a : List Nat, (a.length ≤ maxLen ∧ ∀ x ∈ a, x < 2 ^ 256) ∧ Go.Ab.RepV Go.Ab.no [] w (Go.Ab.roK Go.Ab.hl a) v0) (v1 : Value) (R1 : ∃ a : List Bool, (a.length ≤ maxLen ∧ ∀ x ∈ a, True) ∧ Go.Ab.RepV Go.Ab.no [] w (Go.Ab.roK Go.Ab.bo1 a) v1) :
    Calls Tryd.prog 9 #[v0, v1] w fun e w' => e = .returned (.bool true) ∧ Below w.heap.size w w' := by
  obtain ⟨x0, o0, r0⟩ := R0
  obtain ⟨x1, o1, r1⟩ := R1
  exact Go.Ab.law_run (Go.Ab.c_law_MerkleCovers ) (args := [Go.Ab.roK Go.Ab.hl x0, Go.Ab.roK Go.Ab.bo1 x1]) (vs := [_, _]) rfl rfl (by simp [Go.Ab.closedL, Go.Ab.closed_roK]) ⟨_, _, rfl, r0, ⟨_, _, rfl, r1, rfl⟩⟩ hG
set_option maxRecDepth 100000 in
theorem lifted (os : Os) (started : os.Started) (H : Type) (enc : TypeId × Value → H) :
    ReturnsInHanded {} Tryd.checked os 9 .any (fun w args => (Rows.merkleCoversSpec.pre enc Tryd.prog Tryd.f9 [] false w args ∧ laidMetH Tryd.prog laidL w) ∧ sizedMet enc Tryd.prog Tryd.f9 (OpenSpec.ofChange Rows.merkleCoversSpec) false w args)
      (Rows.merkleCoversSpec.post enc Tryd.prog Tryd.f9 false true false false) := by
  refine returnsInHanded_of_change_and (C := Tryd.checked) (X := fun w _ => laidMetH Tryd.prog laidL w) (fun _ _ _ hh h => h.of_heap hh) own started (by kernel_rfl) Tryd.func9
    (ChangeSpec.witness_shaped (enc := enc) (C := Tryd.checked) (os := os) (X := fun w _ => laidMetH Tryd.prog laidL w) false (World.doorLaid Tryd.prog 400 os) #[.slice none 0 0, .slice none 0 0] 8 rfl (World.shaped_of_RefB (by kernel_rfl) (by kernel_rfl)) (by kernel_rfl) (by kernel_rfl) (by kernel_rfl) (door_met os _)) ?_
  intro W base args ds gs before hval0 hW _ _ hL _
  have hval : ∀ (j : Nat) t v, Tryd.f9.params[j]? = some t → args[j]? = some v → Value.okWide Tryd.prog W .any base t v := hval0
  have hW' := hW
  obtain ⟨p, q, hA0, hV, rfl, hfz, hnd⟩ := hW
  have hA : DataW.TrodAll enc Tryd.prog W 0 (fun _ => true) true Tryd.f9.params.toList args.toList ds p := hA0
  rw [Tryd.params9] at hA hval
  obtain ⟨v0, vs0, d0, ds0, p0, q0, hargs, rfl, rfl, h0, r0⟩ := trodAll_cons hA
  obtain ⟨v1, vs1, d1, ds1, p1, q1, rfl, rfl, rfl, h1, r1⟩ := trodAll_cons r0
  obtain ⟨rfl, rfl, rfl⟩ := trodAll_nil r1
  obtain rfl : args = #[v0, v1] := by cases args; simp_all
  obtain ⟨rfl, rfl⟩ := trodVars_none hV
  have k0 := h0
  have lt0 : ∀ x ∈ p0, x.block < W.heap.size := by obtain ⟨m, hm⟩ := k0; exact DataW.trod_lt m _ _ _ hm
  obtain ⟨a0, len0, cap0, rfl⟩ := okWide_slice Tryd.underlying22 (hval 0 22 v0 rfl rfl)
  have R0 := Go.Ab.rd_one (w := W) (Go.Ab.rd_slice Tryd.underlying22 (by kernel_rfl) (by decide) (Go.Ab.rd_h32 Tryd.underlying24 (by kernel_rfl) (by kernel_rfl) (by kernel_rfl))) rfl h0
  have k1 := h1
  have lt1 : ∀ x ∈ p1, x.block < W.heap.size := by obtain ⟨m, hm⟩ := k1; exact DataW.trod_lt m _ _ _ hm
  obtain ⟨a1, len1, cap1, rfl⟩ := okWide_slice Tryd.underlying40 (hval 1 40 v1 rfl rfl)
  have R1 := Go.Ab.rd_one (w := W) (Go.Ab.rd_slice (f := Go.Ab.bo1) Tryd.underlying40 (by kernel_rfl) (by decide) (Go.Ab.rd_bool Tryd.underlying4)) rfl h1
  clear hA0 hval0
  refine (walk W (globs_of hL) (.slice a0 len0 cap0) R0 (.slice a1 len1 cap1) R1).mono fun e W' ⟨he, bel⟩ => ?_
  subst he
  exact ⟨_, rfl, _, _, _, [], _, [], hW', trodAll_mk1 (shut_bool Tryd.underlying4 _), (trodAll_cons_mk (Below.trod laidOut (by kernel_rfl) (of_decide_eq_true (by kernel_rfl)) k0 bel lt0) (trodAll_cons_mk (Below.trod laidOut (by kernel_rfl) (of_decide_eq_true (by kernel_rfl)) k1 bel lt1) trodAll_mk0)), rfl, bel.frame _, fun h => by cases h⟩

theorem over : Rows.MerkleCoversSaid :=
  OpenClaim.holds_of_wide 9 Tryd.f9 rfl rfl rfl rfl rfl rfl rfl ⟨rfl, rfl, rfl, rfl, rfl⟩ rfl rfl rfl rfl rfl (by kernel_rfl) Tryd.func9 (by kernel_rfl)
    (of_decide_eq_true (by kernel_rfl)) (by unfold Func.isWrapper; first | (rw [if_pos (by decide +kernel)]; kernel_rfl) | (rw [if_neg (by decide +kernel)]; exact ⟨rfl, rfl⟩))
    (fun os started H enc _ => lifted os started H enc)

theorem proved : Rows.MerkleCoversCardSaid :=
  Claim7.holds_tied_plain_at .later [] [.data, .data] true (true, "fdf3d4696c3b5470da5ca3288ee6f88f4d700618148c90a983a85115a30d35ec") false
    over (fun _ h => by cases h) (by kernel_rfl) (fun _ h => by cases h) merkleCovers_row_tie rfl ⟨rfl, rfl⟩ (by kernel_rfl) rfl
    (fun f fn hf hfn => by
      obtain rfl : f = 9 := Option.some.inj ((show Tryd.prog.funcNamed "lightclient/lightclientlaw07.MerkleCovers" = some 9 by kernel_rfl).symm.trans hf) |>.symm
      obtain rfl : fn = Tryd.f9 := (Option.some.inj (Tryd.func9.symm.trans hfn)).symm
      exact ⟨by kernel_rfl, fun j t ht => by
        rw [Tryd.params9] at ht
        have hm : t ∈ [22, 40] := by simpa using Array.mem_of_getElem? ht
        have hall : ([22, 40].all fun u => !Tryd.prog.wantsStandIn u) = true := by kernel_rfl
        exact (show Tryd.prog.wantsStandIn t = false by simpa using List.all_eq_true.1 hall t hm)⟩)
    (by kernel_rfl)
#print axioms proved
end Go.Proofs.YtipnfcbpbomonaaDoor.merkleCovers
