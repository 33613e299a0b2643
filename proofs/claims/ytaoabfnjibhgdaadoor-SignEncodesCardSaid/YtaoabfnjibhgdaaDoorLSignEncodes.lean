/-
  The Go function SignEncodes of the statements of layer 6 returns true for all signatures and all slices of bytes, and writes nothing that was there before; the two tables of constants hold at the start what the program's text lays.
-/
import Derived.Test.YtaoabfnjibhgdaaDoorCards
import Derived.Test.YtaoabfnjibhgdaaDoorTie
import Derived.SevenTiedAt
import Derived.WalkKit
import Derived.ProofKit
import Derived.LaidMore
import Derived.OpenShut
import Derived.ShutString
import Derived.ChangeOld
import Derived.Below
import Derived.Test.YtaoabfnjibhgdaaDoorZ7
import Derived.Test.YtaoabfnjibhgdaaDoorD
import Derived.Test.YtaoabfnjibhgdaaDoorM11
import Derived.Test.YtaoabfnjibhgdaaDoorM12
namespace Go.Proofs.YtaoabfnjibhgdaaDoor.signEncodes
open Go.ChangeShapes Go.WideShapes Go.ChangeAt Go.RowKit
open Go.ChangeMaps (open_string shut_string)
set_option linter.unusedVariables false
set_option linter.unusedSimpArgs false
theorem walk (w : World) (hG : Go.Ab.Globs Go.Ab.no [] w) (v0 : Value) (R0 : ∃ a : Nat × Nat, (a.1 < 2 ^ 256 ∧ a.2 < 2 ^ 256) ∧ Go.Ab.RepV Go.Ab.no [] w (.agg (Go.Ab.cl 4 a.1 ++ Go.Ab.cl 4 a.2)) v0) (v1 : Value) (R1 : ∃ a : List UInt8, a.length ≤ maxLen ∧ Go.Ab.RepV Go.Ab.no [] w (Go.Ab.roK Go.Ab.b1 a) v1) :
    Calls Tryd.prog 8 #[v0, v1] w fun e w' => e = .returned (.bool true) ∧ Below w.heap.size w w' := by
  obtain ⟨x0, o0, r0⟩ := R0
  obtain ⟨x1, o1, r1⟩ := R1
  exact Go.Ab.law_run (Go.Ab.c_law_SignEncodes o0.1 o0.2) (args := [.agg (Go.Ab.cl 4 x0.1 ++ Go.Ab.cl 4 x0.2), Go.Ab.roK Go.Ab.b1 x1]) (vs := [_, _]) rfl rfl (by simp [Go.Ab.closedL, Go.Ab.closed_roK, Go.Ab.closed_sig]) ⟨_, _, rfl, r0, ⟨_, _, rfl, r1, rfl⟩⟩ hG
set_option maxRecDepth 100000 in
theorem lifted (os : Os) (started : os.Started) (H : Type) (enc : TypeId × Value → H) :
    ReturnsInHanded {} Tryd.checked os 8 .any (fun w args => (Rows.signEncodesSpec.pre enc Tryd.prog Tryd.f8 [] false w args ∧ laidMetH Tryd.prog laidL w) ∧ sizedMet enc Tryd.prog Tryd.f8 (OpenSpec.ofChange Rows.signEncodesSpec) false w args)
      (Rows.signEncodesSpec.post enc Tryd.prog Tryd.f8 false true false false) := by
  refine returnsInHanded_of_change_and (C := Tryd.checked) (X := fun w _ => laidMetH Tryd.prog laidL w) (fun _ _ _ hh h => h.of_heap hh) own started (by kernel_rfl) Tryd.func8
    (ChangeSpec.witness_shaped (enc := enc) (C := Tryd.checked) (os := os) (X := fun w _ => laidMetH Tryd.prog laidL w) false (World.doorLaid Tryd.prog 400 os) #[.agg #[.int .u64 0, .int .u64 0, .int .u64 0, .int .u64 0, .int .u64 0, .int .u64 0, .int .u64 0, .int .u64 0], .slice none 0 0] 8 rfl (World.shaped_of_RefB (by kernel_rfl) (by kernel_rfl)) (by kernel_rfl) (by kernel_rfl) (by kernel_rfl) (door_met os _)) ?_
  intro W base args ds gs before hval0 hW _ _ hL _
  have hval : ∀ (j : Nat) t v, Tryd.f8.params[j]? = some t → args[j]? = some v → Value.okWide Tryd.prog W .any base t v := hval0
  have hW' := hW
  obtain ⟨p, q, hA0, hV, rfl, hfz, hnd⟩ := hW
  have hA : DataW.TrodAll enc Tryd.prog W 0 (fun _ => true) true Tryd.f8.params.toList args.toList ds p := hA0
  rw [Tryd.params8] at hA hval
  obtain ⟨v0, vs0, d0, ds0, p0, q0, hargs, rfl, rfl, h0, r0⟩ := trodAll_cons hA
  obtain ⟨v1, vs1, d1, ds1, p1, q1, rfl, rfl, rfl, h1, r1⟩ := trodAll_cons r0
  obtain ⟨rfl, rfl, rfl⟩ := trodAll_nil r1
  obtain rfl : args = #[v0, v1] := by cases args; simp_all
  obtain ⟨rfl, rfl⟩ := trodVars_none hV
  have k0 := h0
  have lt0 : ∀ x ∈ p0, x.block < W.heap.size := by obtain ⟨m, hm⟩ := k0; exact DataW.trod_lt m _ _ _ hm
  obtain ⟨cs0, hv0, _⟩ := okWide_struct Tryd.underlying36 (hval 0 36 v0 rfl rfl)
  have R0 := Go.Ab.rd_agg (w := W) (Go.Ab.rd_two Tryd.underlying36 (by kernel_rfl) rfl rfl rfl rfl (by kernel_rfl) (Go.Ab.rd_u256 Tryd.underlying24 (by kernel_rfl) (by kernel_rfl) (by kernel_rfl))) hv0 h0
  have k1 := h1
  have lt1 : ∀ x ∈ p1, x.block < W.heap.size := by obtain ⟨m, hm⟩ := k1; exact DataW.trod_lt m _ _ _ hm
  obtain ⟨a1, len1, cap1, rfl⟩ := okWide_slice Tryd.underlying47 (hval 1 47 v1 rfl rfl)
  have R1 := Go.Ab.rd_one (w := W) (Go.Ab.rd_bytes Tryd.underlying47 (by kernel_rfl) (by kernel_rfl)) rfl h1
  clear hA0 hval0
  refine (walk W (globs_of hL) v0 R0 (.slice a1 len1 cap1) R1).mono fun e W' ⟨he, bel⟩ => ?_
  subst he
  exact ⟨_, rfl, _, _, _, [], _, [], hW', trodAll_mk1 (shut_bool Tryd.underlying4 _), (trodAll_cons_mk (Below.trod laidOut (by kernel_rfl) (of_decide_eq_true (by kernel_rfl)) k0 bel lt0) (trodAll_cons_mk (Below.trod laidOut (by kernel_rfl) (of_decide_eq_true (by kernel_rfl)) k1 bel lt1) trodAll_mk0)), rfl, bel.frame _, fun h => by cases h⟩

theorem over : Rows.SignEncodesSaid :=
  OpenClaim.holds_of_wide 8 Tryd.f8 rfl rfl rfl rfl rfl rfl rfl ⟨rfl, rfl, rfl, rfl, rfl⟩ rfl rfl rfl rfl rfl (by kernel_rfl) Tryd.func8 (by kernel_rfl)
    (of_decide_eq_true (by kernel_rfl)) (by unfold Func.isWrapper; first | (rw [if_pos (by decide +kernel)]; kernel_rfl) | (rw [if_neg (by decide +kernel)]; exact ⟨rfl, rfl⟩))
    (fun os started H enc _ => lifted os started H enc)

theorem proved : Rows.SignEncodesCardSaid :=
  Claim7.holds_tied_plain_at .later [] [.data, .data] true (true, "8c955cf7068790928938de9453af8fad86e5604f9510ed328cb49688cb682fc3") false
    over (fun _ h => by cases h) (by kernel_rfl) (fun _ h => by cases h) signEncodes_row_tie rfl ⟨rfl, rfl⟩ (by kernel_rfl) rfl
    (fun f fn hf hfn => by
      obtain rfl : f = 8 := Option.some.inj ((show Tryd.prog.funcNamed "lightclient/lightclientlaw06.SignEncodes" = some 8 by kernel_rfl).symm.trans hf) |>.symm
      obtain rfl : fn = Tryd.f8 := (Option.some.inj (Tryd.func8.symm.trans hfn)).symm
      exact ⟨by kernel_rfl, fun j t ht => by
        rw [Tryd.params8] at ht
        have hm : t ∈ [36, 47] := by simpa using Array.mem_of_getElem? ht
        have hall : ([36, 47].all fun u => !Tryd.prog.wantsStandIn u) = true := by kernel_rfl
        exact (show Tryd.prog.wantsStandIn t = false by simpa using List.all_eq_true.1 hall t hm)⟩)
    (by kernel_rfl)
#print axioms proved
end Go.Proofs.YtaoabfnjibhgdaaDoor.signEncodes
