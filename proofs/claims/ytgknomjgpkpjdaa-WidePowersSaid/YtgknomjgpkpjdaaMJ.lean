import Derived.Test.YtgknomjgpkpjdaaMI
namespace Go.Ab
open Go Go.RowKit
set_option linter.unusedVariables false
def sLExp : List PV → Prop × PV
  | [x, y, z, u] => (isU x ∧ isU y ∧ isul z ∧ isul u, .lit (.bool true))
  | _ => (False, .any)
theorem cl_one (x : Nat) : (cl 4 0).set 0 (ul x) = cl 4 (x % 18446744073709551616) := by
  rw [cl4 0]
  exact list4 (by omega)
theorem rem0_pow (z y m : Nat) : rem0 (rem0 z m ^ y) m = rem0 (z ^ y) m := by
  by_cases c : m = 0
  · rw [rem0_zero c, rem0_zero c]
  · rw [rem0_pos c, rem0_pos c, rem0_pos c, ← Nat.pow_mod]
theorem exp_sum (a x y m : Nat) : rem0 (rem0 (a ^ x) m * rem0 (a ^ y) m) m = rem0 (a ^ (x + y)) m := by
  rw [rem0_mul, ← Nat.pow_add]
theorem exp_prod (a x y m : Nat) : rem0 (rem0 (a ^ x) m ^ y) m = rem0 (a ^ (x * y)) m := by
  rw [rem0_pow, ← Nat.pow_mul]
theorem val_ul (z : Int) (h0 : 0 ≤ z) (h1 : z < 18446744073709551616) : Value.int .u64 z = Value.int .u64 ((z.toNat % 18446744073709551616 : Nat) : Int) := by
  congr 1; omega
end Go.Ab
