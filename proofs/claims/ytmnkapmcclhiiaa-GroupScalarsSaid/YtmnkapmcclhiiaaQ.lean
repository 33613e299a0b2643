import Derived.Test.YtmnkapmcclhiiaaM8
import Derived.Test.YtmnkapmcclhiiaaChecked
import Derived.Eval
namespace Go.Ab
open Go Go.Proofs
theorem mixed : Try.prog.follows .mixedOrders = true := Checked.mixed Try.checked
end Go.Ab
