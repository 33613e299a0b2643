import Derived.Test.YtaofjdaclnagnaaMX
namespace Go.Ab
open Go Go.RowKit
set_option linter.unusedVariables false
theorem val_ul (z : Int) (h0 : 0 ≤ z) (h1 : z < 18446744073709551616) : Value.int .u64 z = Value.int .u64 ((z.toNat % 18446744073709551616 : Nat) : Int) := by
  congr 1; omega
end Go.Ab
