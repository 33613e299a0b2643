import Derived.Test.YtmnkapmcclhiiaaMX
namespace Go.Ab
open Go Go.RowKit
set_option linter.unusedVariables false
theorem cl_one (x : Nat) : (cl 4 0).set 0 (ul x) = cl 4 (x % 18446744073709551616) := by
  rw [cl4 0]
  exact list4 (by omega)
end Go.Ab
