import Derived.Test.YtaoabfnjibhgdaaDoorM9
import Derived.Test.YtaoabfnjibhgdaaDoorChecked
import Derived.Eval
namespace Go.Ab
open Go Go.Proofs
theorem mixed : Tryd.prog.follows .mixedOrders = true := Checked.mixed Tryd.checked
end Go.Ab
