import Derived.Test.YtgknomjgpkpjdaaTY
import Derived.Test.YtgknomjgpkpjdaaME
namespace Go.Ab
open Go Go.Proofs
theorem f_bits_Sub64 : ExtOk Try.prog 54 sSub64 := sub64_ext Try.func54 (by kernel_rfl) (by kernel_rfl) (by kernel_rfl) (by kernel_rfl)
end Go.Ab
