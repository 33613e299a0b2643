import Derived.Test.YthjfiaomfngajaaDoorMW9
namespace Go.Ab
open Go Go.RowKit
set_option linter.unusedVariables false
theorem tdiv64 (m : Nat) : (m : Int).tdiv 64 = ((m / 64 : Nat) : Int) := (Int.ofNat_tdiv m 64).symm
end Go.Ab
namespace Go.Ab
open Go Go.RowKit
set_option linter.unusedVariables false
end Go.Ab
namespace Go.Ab
open Go Go.RowKit
set_option linter.unusedVariables false
end Go.Ab
namespace Go.Ab
open Go Go.RowKit
set_option linter.unusedVariables false
end Go.Ab
