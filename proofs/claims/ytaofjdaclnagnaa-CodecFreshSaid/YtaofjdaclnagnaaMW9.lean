import Derived.Test.YtaofjdaclnagnaaME
namespace Go.Ab
open Go Go.RowKit
set_option linter.unusedVariables false
set_option maxRecDepth 4000
end Go.Ab
