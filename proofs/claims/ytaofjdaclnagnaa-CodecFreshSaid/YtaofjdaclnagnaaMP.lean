import Derived.Test.YtaofjdaclnagnaaMY
namespace Go.Ab
open Go Go.RowKit
set_option linter.unusedVariables false
variable {P : Program} {L : LH}
def by32 (n : Nat) : List UInt8 := (List.range 32).map fun j => UInt8.ofNat (n / 2 ^ (8 * (31 - j)))
def hl (n : Nat) : List PV := (by32 n).map bv
def hv : PV → Nat
  | .agg cs => (cs.foldl (fun s c => s * 256 + (byteOf c).toNat) 0)
  | _ => 0
end Go.Ab
namespace Go.Ab
open Go Go.RowKit
set_option linter.unusedVariables false
variable {P : Program} {L : LH}
theorem neq_bv {t : TypeId} (a b : UInt8) : binF P .neq t (bv a) (bv b) L = ⟨True, .lit (.bool (decide (a.toNat ≠ b.toNat))), L⟩ := by
  simp only [bv, binF_neq, ne_eq, Int.ofNat_inj]
end Go.Ab
