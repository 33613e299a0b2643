import Derived.Test.YtmnkapmcclhiiaaMK
import Derived.Test.YtmnkapmcclhiiaaMY
namespace Go.Ab
open Go Go.Proofs Go.RowKit
set_option linter.unusedVariables false
set_option linter.unusedSimpArgs false
theorem globs0 {W : World} : Globs no [] W := by
  intro g
  show RepV no [] W (.rptr []) _
  simp only [RepV]
  exact ⟨_, _, rfl, .inl trivial⟩
end Go.Ab
