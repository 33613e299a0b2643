import Derived.Test.YtgknomjgpkpjdaaTY
import Derived.Test.YtgknomjgpkpjdaaME
namespace Go.Ab
open Go Go.Proofs
theorem f_bits_Add64 : ExtOk Try.prog 53 sAdd64 := add64_ext Try.func53 (by kernel_rfl) (by kernel_rfl) (by kernel_rfl) (by kernel_rfl)
end Go.Ab
