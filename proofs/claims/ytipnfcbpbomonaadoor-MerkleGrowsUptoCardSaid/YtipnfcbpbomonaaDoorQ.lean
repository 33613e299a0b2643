import Derived.Test.YtipnfcbpbomonaaDoorM10
import Derived.Test.YtipnfcbpbomonaaDoorM12
import Derived.Test.YtipnfcbpbomonaaDoorChecked
import Derived.Eval
namespace Go.Ab
open Go Go.Proofs
theorem mixed : Tryd.prog.follows .mixedOrders = true := Checked.mixed Tryd.checked
end Go.Ab
