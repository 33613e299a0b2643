import Derived.Test.YtgknomjgpkpjdaaMF
namespace Go.Ab
open Go Go.RowKit
set_option linter.unusedVariables false
end Go.Ab
