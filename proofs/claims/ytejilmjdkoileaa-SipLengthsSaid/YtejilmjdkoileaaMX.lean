import Derived.Test.YtejilmjdkoileaaMW9
namespace Go.Ab
open Go Go.RowKit
set_option linter.unusedVariables false
end Go.Ab
namespace Go.Ab
open Go Go.RowKit
set_option linter.unusedVariables false
end Go.Ab
namespace Go.Ab
open Go Go.RowKit
set_option linter.unusedVariables false
end Go.Ab
namespace Go.Ab
open Go Go.RowKit
set_option linter.unusedVariables false
end Go.Ab
