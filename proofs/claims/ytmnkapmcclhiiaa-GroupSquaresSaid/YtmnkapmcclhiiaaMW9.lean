import Derived.Test.YtmnkapmcclhiiaaME
namespace Go.Ab
open Go Go.RowKit
set_option linter.unusedVariables false
set_option maxRecDepth 4000
theorem binF_beql {P : Program} {L : LH} {t : TypeId} {a b : Bool} : binF P .eql t (.lit (.bool a)) (.lit (.bool b)) L = ⟨(tyOf P t).map (·.und) = some .bool, .lit (.bool (a == b)), L⟩ := rfl
theorem binF_bneq {P : Program} {L : LH} {t : TypeId} {a b : Bool} : binF P .neq t (.lit (.bool a)) (.lit (.bool b)) L = ⟨(tyOf P t).map (·.und) = some .bool, .lit (.bool (!(a == b))), L⟩ := rfl
end Go.Ab
