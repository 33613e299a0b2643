/-
  No cell of these rows narrows 'for every input' (looked for: loops, veiled, ifaces, maps, wideKeys, modest, calm, conditions, laid).
  DERIVED. THE GIVEN ROWS OF THIS SEAT. 6 by the template 'for every input the law returns true; each argument reads behind the call as it read before'; 0 by the template 'total and deterministic' (their statements: YtmnkapmcclhiiaaTotals.lean).
  GIVEN WITH THE SEED: the statements are not yours to turn. If you find one false, say at which input.
  Laid BY PROGRAM, IN A SANDBOX (cutbox-rows.mjs): the forced cells as the released guide's own fill.sh prints them over the translation 8fb5eb2ee978d053… (all of the seat's roots in one cut). By AI agents, Wed Nov 11 2026. No macro, syntax, notation, axiom, sorry.
-/
import Derived.Test.YtmnkapmcclhiiaaChecked
import GoSem.Claim
import GoSem.ClaimJoined
import GoSem.ClaimMapViews
import Derived.JoinedTies
import Derived.KernelRfl
namespace Go.Proofs.Ytmnkapmcclhiiaa
/- THE CELL 'sum', in the pinned program and in every row, IS THE sha256 OF THE DUMP (.gsa) THAT YtmnkapmcclhiiaaProg.lean LOADS. Nothing in Lean hashes anything: it is a label: what it is worth is what the hold of that sum in a sandbox is worth. -/
noncomputable def Try.pinned : Pinned := { name := "ytmnkapmcclhiiaa", sum := "8fb5eb2ee978d053e8205ba3a0757e3fad5d433a468c4ef26d42befefbb3444c", checked := Try.checked }
namespace Rows
def none {H : Type} : Left H := { results := [], args := [] }

/-- 'lightclientlaw05.GroupConstants': WHATEVER THE INPUT: true; the input reads as it did. -/
def groupConstantsSpec : ChangeSpec := { name := "groupConstants", fn := fun _ => fun
  | [d] => { results := [.lit (.bool true)], args := [d] }
  | _ => none }
def groupConstantsRow : OpenClaim := { program := "ytmnkapmcclhiiaa", sum := "8fb5eb2ee978d053e8205ba3a0757e3fad5d433a468c4ef26d42befefbb3444c", func := "lightclient/lightclientlaw05.GroupConstants", spec := "groupConstants", inPlace := ["math/bits.Sub64", "math/bits.Add64"], apart := false }
def GroupConstantsSaid : Prop := groupConstantsRow.holds Try.pinned (OpenSpec.ofChange groupConstantsSpec)

/-- ITS FALSE NEIGHBOUR: 'it returns false'. Refute it at one input. -/
def groupConstantsWrong : ChangeSpec := { name := "groupConstants", fn := fun _ => fun
  | [d] => { results := [.lit (.bool false)], args := [d] }
  | _ => none }
def GroupConstantsWrongFalsely : Prop := groupConstantsRow.holds Try.pinned (OpenSpec.ofChange groupConstantsWrong)

/-- 'lightclientlaw05.GroupPowers': WHATEVER THE INPUT: true; the input reads as it did. -/
def groupPowersSpec : ChangeSpec := { name := "groupPowers", fn := fun _ => fun
  | [d1, d2] => { results := [.lit (.bool true)], args := [d1, d2] }
  | _ => none }
def groupPowersRow : OpenClaim := { program := "ytmnkapmcclhiiaa", sum := "8fb5eb2ee978d053e8205ba3a0757e3fad5d433a468c4ef26d42befefbb3444c", func := "lightclient/lightclientlaw05.GroupPowers", spec := "groupPowers", inPlace := ["math/bits.Sub64", "math/bits.Add64"], apart := false }
def GroupPowersSaid : Prop := groupPowersRow.holds Try.pinned (OpenSpec.ofChange groupPowersSpec)

/-- ITS FALSE NEIGHBOUR: 'it returns false'. Refute it at one input. -/
def groupPowersWrong : ChangeSpec := { name := "groupPowers", fn := fun _ => fun
  | [d1, d2] => { results := [.lit (.bool false)], args := [d1, d2] }
  | _ => none }
def GroupPowersWrongFalsely : Prop := groupPowersRow.holds Try.pinned (OpenSpec.ofChange groupPowersWrong)

/-- 'lightclientlaw05.GroupScalars': WHATEVER THE INPUT: true; the input reads as it did. -/
def groupScalarsSpec : ChangeSpec := { name := "groupScalars", fn := fun _ => fun
  | [d1, d2, d3] => { results := [.lit (.bool true)], args := [d1, d2, d3] }
  | _ => none }
def groupScalarsRow : OpenClaim := { program := "ytmnkapmcclhiiaa", sum := "8fb5eb2ee978d053e8205ba3a0757e3fad5d433a468c4ef26d42befefbb3444c", func := "lightclient/lightclientlaw05.GroupScalars", spec := "groupScalars", inPlace := ["math/bits.Sub64", "math/bits.Add64"], apart := false }
def GroupScalarsSaid : Prop := groupScalarsRow.holds Try.pinned (OpenSpec.ofChange groupScalarsSpec)

/-- ITS FALSE NEIGHBOUR: 'it returns false'. Refute it at one input. -/
def groupScalarsWrong : ChangeSpec := { name := "groupScalars", fn := fun _ => fun
  | [d1, d2, d3] => { results := [.lit (.bool false)], args := [d1, d2, d3] }
  | _ => none }
def GroupScalarsWrongFalsely : Prop := groupScalarsRow.holds Try.pinned (OpenSpec.ofChange groupScalarsWrong)

/-- 'lightclientlaw05.GroupAdds': WHATEVER THE INPUT: true; the input reads as it did. -/
def groupAddsSpec : ChangeSpec := { name := "groupAdds", fn := fun _ => fun
  | [d1, d2] => { results := [.lit (.bool true)], args := [d1, d2] }
  | _ => none }
def groupAddsRow : OpenClaim := { program := "ytmnkapmcclhiiaa", sum := "8fb5eb2ee978d053e8205ba3a0757e3fad5d433a468c4ef26d42befefbb3444c", func := "lightclient/lightclientlaw05.GroupAdds", spec := "groupAdds", inPlace := ["math/bits.Add64", "math/bits.Sub64"], apart := false }
def GroupAddsSaid : Prop := groupAddsRow.holds Try.pinned (OpenSpec.ofChange groupAddsSpec)

/-- ITS FALSE NEIGHBOUR: 'it returns false'. Refute it at one input. -/
def groupAddsWrong : ChangeSpec := { name := "groupAdds", fn := fun _ => fun
  | [d1, d2] => { results := [.lit (.bool false)], args := [d1, d2] }
  | _ => none }
def GroupAddsWrongFalsely : Prop := groupAddsRow.holds Try.pinned (OpenSpec.ofChange groupAddsWrong)

/-- 'lightclientlaw05.GroupCloses': WHATEVER THE INPUT: true; the input reads as it did. -/
def groupClosesSpec : ChangeSpec := { name := "groupCloses", fn := fun _ => fun
  | [d1, d2] => { results := [.lit (.bool true)], args := [d1, d2] }
  | _ => none }
def groupClosesRow : OpenClaim := { program := "ytmnkapmcclhiiaa", sum := "8fb5eb2ee978d053e8205ba3a0757e3fad5d433a468c4ef26d42befefbb3444c", func := "lightclient/lightclientlaw05.GroupCloses", spec := "groupCloses", inPlace := ["math/bits.Add64", "math/bits.Sub64"], apart := false }
def GroupClosesSaid : Prop := groupClosesRow.holds Try.pinned (OpenSpec.ofChange groupClosesSpec)

/-- ITS FALSE NEIGHBOUR: 'it returns false'. Refute it at one input. -/
def groupClosesWrong : ChangeSpec := { name := "groupCloses", fn := fun _ => fun
  | [d1, d2] => { results := [.lit (.bool false)], args := [d1, d2] }
  | _ => none }
def GroupClosesWrongFalsely : Prop := groupClosesRow.holds Try.pinned (OpenSpec.ofChange groupClosesWrong)

/-- 'lightclientlaw05.GroupSquares': WHATEVER THE INPUT: true; the input reads as it did. -/
def groupSquaresSpec : ChangeSpec := { name := "groupSquares", fn := fun _ => fun
  | [d] => { results := [.lit (.bool true)], args := [d] }
  | _ => none }
def groupSquaresRow : OpenClaim := { program := "ytmnkapmcclhiiaa", sum := "8fb5eb2ee978d053e8205ba3a0757e3fad5d433a468c4ef26d42befefbb3444c", func := "lightclient/lightclientlaw05.GroupSquares", spec := "groupSquares", inPlace := ["math/bits.Sub64", "math/bits.Add64"], apart := false }
def GroupSquaresSaid : Prop := groupSquaresRow.holds Try.pinned (OpenSpec.ofChange groupSquaresSpec)

/-- ITS FALSE NEIGHBOUR: 'it returns false'. Refute it at one input. -/
def groupSquaresWrong : ChangeSpec := { name := "groupSquares", fn := fun _ => fun
  | [d] => { results := [.lit (.bool false)], args := [d] }
  | _ => none }
def GroupSquaresWrongFalsely : Prop := groupSquaresRow.holds Try.pinned (OpenSpec.ofChange groupSquaresWrong)

/- THE SECOND FORM. 'bulk': how many values and letters a reading holds, each counted each time it is reached (what is shared counts as often as it is met; a slice's spare places count too). A statement '..UptoSaid' is the law's where the arguments, and the package variables that the reading takes, are together of bulk at most 1048576: NARROWER than '..Said'. Prove '..Said' where nothing that the law and all that it calls make is longer than what came in: it says more and counts as full. Else prove '..UptoSaid'. A law counts once. -/
mutual
def uptoBulk {H : Type} : DataW H → Nat
  | .lit (.string bytes) => bytes.length + 1
  | .lit _ => 1
  | .nil => 1
  | .ptr d => uptoBulk d + 1
  | .slice elems spare => uptoBulkAll elems + uptoBulkAll spare + 1
  | .agg parts => uptoBulkAll parts + 1
  | .iface _ d => uptoBulk d + 1
  | .map entries => uptoBulkEntries entries + 1
  | .held _ => 1
def uptoBulkAll {H : Type} : List (DataW H) → Nat
  | [] => 0
  | d :: r => uptoBulk d + uptoBulkAll r
def uptoBulkEntries {H : Type} : List (Lit × DataW H) → Nat
  | [] => 0
  | x :: r => uptoBulkEntry x + uptoBulkEntries r
def uptoBulkEntry {H : Type} : Lit × DataW H → Nat
  | (.string bytes, d) => bytes.length + uptoBulk d + 1
  | (_, d) => uptoBulk d + 1
 end
def uptoSmall : (H : Type) → List (DataW H) → Bool := fun _ ds => decide (uptoBulkAll ds ≤ 1048576)
def OpenSpec.upto (s : _root_.Go.ChangeSpec) : _root_.Go.OpenSpec := { _root_.Go.OpenSpec.ofChange s with cond := some uptoSmall }

/-- 'lightclientlaw05.GroupConstants', WHERE WHAT IT READS IS OF BULK AT MOST 1048576: true; the input reads as it did. -/
def groupConstantsUptoRow : OpenClaim := { program := "ytmnkapmcclhiiaa", sum := "8fb5eb2ee978d053e8205ba3a0757e3fad5d433a468c4ef26d42befefbb3444c", func := "lightclient/lightclientlaw05.GroupConstants", spec := "groupConstants", inPlace := ["math/bits.Sub64", "math/bits.Add64"], apart := false, narrowed := true }
def GroupConstantsUptoSaid : Prop := groupConstantsUptoRow.holds Try.pinned (OpenSpec.upto groupConstantsSpec)

/-- 'lightclientlaw05.GroupPowers', WHERE WHAT IT READS IS OF BULK AT MOST 1048576: true; the input reads as it did. -/
def groupPowersUptoRow : OpenClaim := { program := "ytmnkapmcclhiiaa", sum := "8fb5eb2ee978d053e8205ba3a0757e3fad5d433a468c4ef26d42befefbb3444c", func := "lightclient/lightclientlaw05.GroupPowers", spec := "groupPowers", inPlace := ["math/bits.Sub64", "math/bits.Add64"], apart := false, narrowed := true }
def GroupPowersUptoSaid : Prop := groupPowersUptoRow.holds Try.pinned (OpenSpec.upto groupPowersSpec)

/-- 'lightclientlaw05.GroupScalars', WHERE WHAT IT READS IS OF BULK AT MOST 1048576: true; the input reads as it did. -/
def groupScalarsUptoRow : OpenClaim := { program := "ytmnkapmcclhiiaa", sum := "8fb5eb2ee978d053e8205ba3a0757e3fad5d433a468c4ef26d42befefbb3444c", func := "lightclient/lightclientlaw05.GroupScalars", spec := "groupScalars", inPlace := ["math/bits.Sub64", "math/bits.Add64"], apart := false, narrowed := true }
def GroupScalarsUptoSaid : Prop := groupScalarsUptoRow.holds Try.pinned (OpenSpec.upto groupScalarsSpec)

/-- 'lightclientlaw05.GroupAdds', WHERE WHAT IT READS IS OF BULK AT MOST 1048576: true; the input reads as it did. -/
def groupAddsUptoRow : OpenClaim := { program := "ytmnkapmcclhiiaa", sum := "8fb5eb2ee978d053e8205ba3a0757e3fad5d433a468c4ef26d42befefbb3444c", func := "lightclient/lightclientlaw05.GroupAdds", spec := "groupAdds", inPlace := ["math/bits.Add64", "math/bits.Sub64"], apart := false, narrowed := true }
def GroupAddsUptoSaid : Prop := groupAddsUptoRow.holds Try.pinned (OpenSpec.upto groupAddsSpec)

/-- 'lightclientlaw05.GroupCloses', WHERE WHAT IT READS IS OF BULK AT MOST 1048576: true; the input reads as it did. -/
def groupClosesUptoRow : OpenClaim := { program := "ytmnkapmcclhiiaa", sum := "8fb5eb2ee978d053e8205ba3a0757e3fad5d433a468c4ef26d42befefbb3444c", func := "lightclient/lightclientlaw05.GroupCloses", spec := "groupCloses", inPlace := ["math/bits.Add64", "math/bits.Sub64"], apart := false, narrowed := true }
def GroupClosesUptoSaid : Prop := groupClosesUptoRow.holds Try.pinned (OpenSpec.upto groupClosesSpec)

/-- 'lightclientlaw05.GroupSquares', WHERE WHAT IT READS IS OF BULK AT MOST 1048576: true; the input reads as it did. -/
def groupSquaresUptoRow : OpenClaim := { program := "ytmnkapmcclhiiaa", sum := "8fb5eb2ee978d053e8205ba3a0757e3fad5d433a468c4ef26d42befefbb3444c", func := "lightclient/lightclientlaw05.GroupSquares", spec := "groupSquares", inPlace := ["math/bits.Sub64", "math/bits.Add64"], apart := false, narrowed := true }
def GroupSquaresUptoSaid : Prop := groupSquaresUptoRow.holds Try.pinned (OpenSpec.upto groupSquaresSpec)

end Rows
end Go.Proofs.Ytmnkapmcclhiiaa
