import Derived.Test.YtgknomjgpkpjdaaML
namespace Go.Ab
open Go Go.RowKit
set_option linter.unusedVariables false
variable {P : Program} {L : LH}
theorem lss_bv {t : TypeId} (a b : UInt8) : binF P .lss t (bv a) (bv b) L = ⟨True, .lit (.bool (decide (a.toNat < b.toNat))), L⟩ := by
  simp only [bv, binF_lss, Int.ofNat_lt]
end Go.Ab
