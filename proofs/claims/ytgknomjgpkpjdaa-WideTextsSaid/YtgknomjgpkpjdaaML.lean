import Derived.Test.YtgknomjgpkpjdaaMJ
namespace Go.Ab
open Go Go.RowKit
set_option linter.unusedVariables false
variable {P : Program} {L : LH}
def by32 (n : Nat) : List UInt8 := (List.range 32).map fun j => UInt8.ofNat (n / 2 ^ (8 * (31 - j)))
def hl (n : Nat) : List PV := (by32 n).map bv
def h32 (n : Nat) : PV := .agg (hl n)
def hv : PV → Nat
  | .agg cs => (cs.foldl (fun s c => s * 256 + (byteOf c).toNat) 0)
  | _ => 0
theorem closedL_hl (n : Nat) : closedL (hl n) = true := closedL_bv _
theorem closed_h32 (n : Nat) : closed (h32 n) = true := closedL_hl n
theorem byte_bv (b : UInt8) : byteOf (bv b) = b := by
  have := map_byteOf_bv [b]
  simpa using this
end Go.Ab
