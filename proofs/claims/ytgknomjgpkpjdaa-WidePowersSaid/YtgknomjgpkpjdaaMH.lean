import Derived.Test.YtgknomjgpkpjdaaMG
namespace Go.Ab
open Go Go.RowKit
set_option linter.unusedVariables false
theorem pow64 {k : Nat} (hk : k ≤ 64) : 2 ^ (64 - k) * 2 ^ k = 18446744073709551616 := by
  rw [← Nat.pow_add, Nat.sub_add_cancel hk]
theorem shl_word (X : Nat) {k : Nat} (hk : k ≤ 64) : X % 18446744073709551616 / 2 ^ (64 - k) ||| X / 18446744073709551616 * 2 ^ k = X / 2 ^ (64 - k) := by
  have hp : 0 < 2 ^ (64 - k) := Nat.pow_pos (by decide)
  have hw := pow64 hk
  have hlt : X % 18446744073709551616 / 2 ^ (64 - k) < 2 ^ k := by
    apply Nat.div_lt_of_lt_mul
    rw [hw]; exact Nat.mod_lt _ (by decide)
  rw [Nat.or_comm, or_add hlt]
  have e : X = X % 18446744073709551616 + 2 ^ (64 - k) * (2 ^ k * (X / 18446744073709551616)) := by
    rw [← Nat.mul_assoc, hw]; exact (Nat.mod_add_div X 18446744073709551616).symm
  conv => rhs; rw [e, Nat.add_mul_div_left _ _ hp]
  rw [Nat.mul_comm (2 ^ k)]; omega
theorem shlw1 (a : Nat) {k : Nat} (hk : k ≤ 64) : a % 18446744073709551616 / 2 ^ (64 - k) ||| a / 18446744073709551616 * 2 ^ k = a / 2 ^ (64 - k) := shl_word a hk
theorem shlw2 (a : Nat) {k : Nat} (hk : k ≤ 64) : a / 18446744073709551616 % 18446744073709551616 / 2 ^ (64 - k) ||| a / 340282366920938463463374607431768211456 * 2 ^ k = a / 18446744073709551616 / 2 ^ (64 - k) := by
  have := shl_word (a / 18446744073709551616) hk
  rwa [Nat.div_div_eq_div_mul, show 18446744073709551616 * 18446744073709551616 = 340282366920938463463374607431768211456 by decide] at this
theorem shlw3 (a : Nat) {k : Nat} (hk : k ≤ 64) : a / 340282366920938463463374607431768211456 % 18446744073709551616 / 2 ^ (64 - k) ||| a / 6277101735386680763835789423207666416102355444464034512896 * 2 ^ k = a / 340282366920938463463374607431768211456 / 2 ^ (64 - k) := by
  have := shl_word (a / 340282366920938463463374607431768211456) hk
  rwa [Nat.div_div_eq_div_mul, show 340282366920938463463374607431768211456 * 18446744073709551616 = 6277101735386680763835789423207666416102355444464034512896 by decide] at this
theorem mul_up (a : Nat) {k : Nat} (hk : k ≤ 64) : a * 2 ^ k / 18446744073709551616 = a / 2 ^ (64 - k) := by
  rw [← pow64 hk, Nat.mul_div_mul_right _ _ (Nat.pow_pos (by decide))]
theorem shl_words (a : Nat) {k : Nat} (hk : k ≤ 64) : a * 2 ^ k / 340282366920938463463374607431768211456 = a / 18446744073709551616 / 2 ^ (64 - k) ∧ a * 2 ^ k / 6277101735386680763835789423207666416102355444464034512896 = a / 340282366920938463463374607431768211456 / 2 ^ (64 - k) := by
  constructor
  · rw [show 340282366920938463463374607431768211456 = 18446744073709551616 * 18446744073709551616 by decide, ← Nat.div_div_eq_div_mul, mul_up a hk, Nat.div_div_eq_div_mul, Nat.div_div_eq_div_mul, Nat.mul_comm]
  · rw [show 6277101735386680763835789423207666416102355444464034512896 = 18446744073709551616 * 340282366920938463463374607431768211456 by decide, ← Nat.div_div_eq_div_mul, mul_up a hk, Nat.div_div_eq_div_mul, Nat.div_div_eq_div_mul, Nat.mul_comm]
theorem shl_row0 (a : Nat) {k : Nat} (hk : k ≤ 64) : [ul (a * 2 ^ k), ul (a / 2 ^ (64 - k)), ul (a / 18446744073709551616 / 2 ^ (64 - k)), ul (a / 340282366920938463463374607431768211456 / 2 ^ (64 - k))] = cl 4 (a * 2 ^ k) := by
  rw [cl4, mul_up a hk, (shl_words a hk).1, (shl_words a hk).2]
theorem shl_row1 (a : Nat) {k : Nat} (hk : k ≤ 64) : [ul 0, ul (a * 2 ^ k), ul (a / 2 ^ (64 - k)), ul (a / 18446744073709551616 / 2 ^ (64 - k))] = cl 4 (a * 2 ^ k * 18446744073709551616) := by
  rw [← mul_up a hk, ← (shl_words a hk).1]
  exact list4 (by omega)
theorem shl_row2 (a : Nat) {k : Nat} (hk : k ≤ 64) : [ul 0, ul 0, ul (a * 2 ^ k), ul (a / 2 ^ (64 - k))] = cl 4 (a * 2 ^ k * 340282366920938463463374607431768211456) := by
  rw [← mul_up a hk]
  exact list4 (by omega)
theorem shl_row3 (a k : Nat) : [ul 0, ul 0, ul 0, ul (a * 2 ^ k)] = cl 4 (a * 2 ^ k * 6277101735386680763835789423207666416102355444464034512896) := list4 (by omega)
theorem pow_split (a k w : Nat) : a * 2 ^ (64 * w + k) = a * 2 ^ k * 2 ^ (64 * w) := by rw [Nat.add_comm, Nat.pow_add, Nat.mul_assoc]
theorem shl_big (a : Nat) {m : Nat} (h : 256 ≤ m) : cl 4 0 = cl 4 (a * 2 ^ m) := by
  apply cl4_congr
  rw [show m = 256 + (m - 256) by omega, Nat.pow_add, ← Nat.mul_assoc, Nat.mul_right_comm, show (2 : Nat) ^ 256 = 115792089237316195423570985008687907853269984665640564039457584007913129639936 by decide, Nat.mul_mod_left]
theorem shrw (X : Nat) {k : Nat} (hk : k ≤ 64) : X % 18446744073709551616 / 2 ^ k ||| X / 18446744073709551616 * 2 ^ (64 - k) = X / 2 ^ k := by
  have := shl_word X (k := 64 - k) (by omega)
  rwa [show 64 - (64 - k) = k by omega] at this
theorem shrw1 (a : Nat) {k : Nat} (hk : k ≤ 64) : a % 18446744073709551616 / 2 ^ k ||| a / 18446744073709551616 * 2 ^ (64 - k) = a / 2 ^ k := shrw a hk
theorem shrw2 (a : Nat) {k : Nat} (hk : k ≤ 64) : a / 18446744073709551616 % 18446744073709551616 / 2 ^ k ||| a / 340282366920938463463374607431768211456 * 2 ^ (64 - k) = a / 18446744073709551616 / 2 ^ k := by
  have := shrw (a / 18446744073709551616) hk
  rwa [Nat.div_div_eq_div_mul, show 18446744073709551616 * 18446744073709551616 = 340282366920938463463374607431768211456 by decide] at this
theorem shrw3 (a : Nat) {k : Nat} (hk : k ≤ 64) : a / 340282366920938463463374607431768211456 % 18446744073709551616 / 2 ^ k ||| a / 6277101735386680763835789423207666416102355444464034512896 * 2 ^ (64 - k) = a / 340282366920938463463374607431768211456 / 2 ^ k := by
  have := shrw (a / 340282366920938463463374607431768211456) hk
  rwa [Nat.div_div_eq_div_mul, show 340282366920938463463374607431768211456 * 18446744073709551616 = 6277101735386680763835789423207666416102355444464034512896 by decide] at this
theorem shrw4 {a : Nat} (ha : a < 115792089237316195423570985008687907853269984665640564039457584007913129639936) (k : Nat) : a / 6277101735386680763835789423207666416102355444464034512896 % 18446744073709551616 / 2 ^ k = a / 6277101735386680763835789423207666416102355444464034512896 / 2 ^ k := by
  rw [Nat.mod_eq_of_lt (by omega)]
theorem swap_div (a b c : Nat) : a / b / c = a / c / b := by rw [Nat.div_div_eq_div_mul, Nat.mul_comm, Nat.div_div_eq_div_mul]
theorem shr_row0 (a k : Nat) : [ul (a / 2 ^ k), ul (a / 18446744073709551616 / 2 ^ k), ul (a / 340282366920938463463374607431768211456 / 2 ^ k), ul (a / 6277101735386680763835789423207666416102355444464034512896 / 2 ^ k)] = cl 4 (a / 2 ^ k) := by
  rw [cl4, swap_div a 18446744073709551616, swap_div a 340282366920938463463374607431768211456, swap_div a 6277101735386680763835789423207666416102355444464034512896]
theorem small_div {a : Nat} (ha : a < 115792089237316195423570985008687907853269984665640564039457584007913129639936) (k D : Nat) : a / D / 2 ^ k ≤ a / D := Nat.div_le_self _ _
theorem shr_row1 {a : Nat} (ha : a < 115792089237316195423570985008687907853269984665640564039457584007913129639936) (k : Nat) : [ul (a / 18446744073709551616 / 2 ^ k), ul (a / 340282366920938463463374607431768211456 / 2 ^ k), ul (a / 6277101735386680763835789423207666416102355444464034512896 / 2 ^ k), ul 0] = cl 4 (a / 18446744073709551616 / 2 ^ k) := by
  have h := small_div ha k 18446744073709551616
  rw [show 340282366920938463463374607431768211456 = 18446744073709551616 * 18446744073709551616 by decide, show 6277101735386680763835789423207666416102355444464034512896 = 18446744073709551616 * 340282366920938463463374607431768211456 by decide, ← Nat.div_div_eq_div_mul, ← Nat.div_div_eq_div_mul, swap_div (a / 18446744073709551616) 18446744073709551616, swap_div (a / 18446744073709551616) 340282366920938463463374607431768211456]
  generalize a / 18446744073709551616 / 2 ^ k = x at *
  exact list4 (by omega)
theorem shr_row2 {a : Nat} (ha : a < 115792089237316195423570985008687907853269984665640564039457584007913129639936) (k : Nat) : [ul (a / 340282366920938463463374607431768211456 / 2 ^ k), ul (a / 6277101735386680763835789423207666416102355444464034512896 / 2 ^ k), ul 0, ul 0] = cl 4 (a / 340282366920938463463374607431768211456 / 2 ^ k) := by
  have h := small_div ha k 340282366920938463463374607431768211456
  rw [show 6277101735386680763835789423207666416102355444464034512896 = 340282366920938463463374607431768211456 * 18446744073709551616 by decide, ← Nat.div_div_eq_div_mul, swap_div (a / 340282366920938463463374607431768211456) 18446744073709551616]
  generalize a / 340282366920938463463374607431768211456 / 2 ^ k = x at *
  exact list4 (by omega)
theorem shr_row3 {a : Nat} (ha : a < 115792089237316195423570985008687907853269984665640564039457584007913129639936) (k : Nat) : [ul (a / 6277101735386680763835789423207666416102355444464034512896 / 2 ^ k), ul 0, ul 0, ul 0] = cl 4 (a / 6277101735386680763835789423207666416102355444464034512896 / 2 ^ k) := by
  have h := small_div ha k 6277101735386680763835789423207666416102355444464034512896
  generalize a / 6277101735386680763835789423207666416102355444464034512896 / 2 ^ k = x at *
  exact list4 (by omega)
theorem div_split (a k w : Nat) : a / 2 ^ (64 * w + k) = a / 2 ^ (64 * w) / 2 ^ k := by rw [Nat.pow_add, Nat.div_div_eq_div_mul]
theorem shr_big {a : Nat} (ha : a < 115792089237316195423570985008687907853269984665640564039457584007913129639936) {m : Nat} (h : 256 ≤ m) : a / 2 ^ m = 0 := by
  apply Nat.div_eq_of_lt
  have h1 : (2 : Nat) ^ 256 ≤ 2 ^ m := Nat.pow_le_pow_right (by decide) h
  have h2 : (2 : Nat) ^ 256 = 115792089237316195423570985008687907853269984665640564039457584007913129639936 := by decide
  omega
theorem ref_set {o i : Nat} (hi : i < 256) (ho : o < 2 ^ i) : (cl 4 o).set (i / 64) (ul (o / 2 ^ (64 * (i / 64)) ||| 2 ^ (i % 64))) = cl 4 (o + 2 ^ i) := by
  have hr : i % 64 < 64 := by omega
  have e1 : 2 ^ i = 2 ^ (64 * (i / 64)) * 2 ^ (i % 64) := by rw [← Nat.pow_add, Nat.div_add_mod]
  have hp : 0 < 2 ^ (64 * (i / 64)) := Nat.pow_pos (by decide)
  have hy : o / 2 ^ (64 * (i / 64)) < 2 ^ (i % 64) := Nat.div_lt_of_lt_mul (by rw [← e1]; exact ho)
  have ho2 : o / 2 ^ (64 * (i / 64)) ||| 2 ^ (i % 64) = o / 2 ^ (64 * (i / 64)) + 2 ^ (i % 64) := by
    have := (Nat.two_pow_add_eq_or_of_lt hy 1).symm
    rw [Nat.mul_one] at this
    rw [Nat.or_comm, this]; omega
  have hT : 2 ^ (i % 64) ≤ 9223372036854775808 := Nat.pow_le_pow_right (n := 2) (by decide) (show i % 64 ≤ 63 by omega)
  rw [ho2, e1]
  generalize hT2 : 2 ^ (i % 64) = T at *
  have hc : i / 64 = 0 ∨ i / 64 = 1 ∨ i / 64 = 2 ∨ i / 64 = 3 := by omega
  rcases hc with h | h | h | h
  · rw [h] at hy ⊢
    simp only [Nat.reduceMul, Nat.reducePow, Nat.div_one] at hy ⊢
    rw [cl4 o]
    exact list4 (by omega)
  · rw [h] at hy ⊢
    simp only [Nat.reduceMul, Nat.reducePow] at hy ⊢
    rw [cl4 o]
    exact list4 (by omega)
  · rw [h] at hy ⊢
    simp only [Nat.reduceMul, Nat.reducePow] at hy ⊢
    rw [cl4 o]
    exact list4 (by omega)
  · rw [h] at hy ⊢
    simp only [Nat.reduceMul, Nat.reducePow] at hy ⊢
    rw [cl4 o]
    exact list4 (by omega)
theorem shr_bits (x i : Nat) : x % 2 ^ (i + 1) = x % 2 ^ i + (x.testBit i).toNat * 2 ^ i := by
  rw [low_bits]; omega
theorem shr_end {a : Nat} (ha : a < 115792089237316195423570985008687907853269984665640564039457584007913129639936) {m i : Nat} (h : 256 ≤ i + m) : a / 2 ^ m % 2 ^ i = a / 2 ^ m := by
  apply Nat.mod_eq_of_lt
  apply Nat.div_lt_of_lt_mul
  rw [← Nat.pow_add]
  have h1 : (2 : Nat) ^ 256 ≤ 2 ^ (m + i) := Nat.pow_le_pow_right (by decide) (by omega)
  have h2 : (2 : Nat) ^ 256 = 115792089237316195423570985008687907853269984665640564039457584007913129639936 := by decide
  omega
theorem shr_test (a m i : Nat) : a.testBit (i + m) = (a / 2 ^ m).testBit i := by rw [Nat.testBit_div_two_pow]
theorem shl_fin0 (a : Nat) {m : Nat} (h : m / 64 = 0) : [ul (a * 2 ^ (m % 64)), ul (a / 2 ^ (64 - m % 64)), ul (a / 18446744073709551616 / 2 ^ (64 - m % 64)), ul (a / 340282366920938463463374607431768211456 / 2 ^ (64 - m % 64))] = cl 4 (a * 2 ^ m) := by
  have hk : m % 64 ≤ 64 := by omega
  have e : m = 64 * 0 + m % 64 := by omega
  conv => rhs; rw [e, pow_split a (m % 64) 0]
  simp only [Nat.reduceMul, Nat.reducePow, Nat.mul_one]
  exact shl_row0 a hk
theorem shr_fin0 {a : Nat} (la : a < 115792089237316195423570985008687907853269984665640564039457584007913129639936) {m : Nat} (h : m / 64 = 0) : [ul (a / 2 ^ (m % 64)), ul (a / 18446744073709551616 / 2 ^ (m % 64)), ul (a / 340282366920938463463374607431768211456 / 2 ^ (m % 64)), ul (a / 6277101735386680763835789423207666416102355444464034512896 / 2 ^ (m % 64))] = cl 4 (a / 2 ^ m) := by
  have e : m = 64 * 0 + m % 64 := by omega
  conv => rhs; rw [e, div_split a (m % 64) 0]
  simp only [Nat.reduceMul, Nat.reducePow, Nat.div_one]
  exact shr_row0 a (m % 64)
theorem shl_fin1 (a : Nat) {m : Nat} (h : m / 64 = 1) : [ul 0, ul (a * 2 ^ (m % 64)), ul (a / 2 ^ (64 - m % 64)), ul (a / 18446744073709551616 / 2 ^ (64 - m % 64))] = cl 4 (a * 2 ^ m) := by
  have hk : m % 64 ≤ 64 := by omega
  have e : m = 64 * 1 + m % 64 := by omega
  conv => rhs; rw [e, pow_split a (m % 64) 1]
  simp only [Nat.reduceMul, Nat.reducePow]
  exact shl_row1 a hk
theorem shr_fin1 {a : Nat} (la : a < 115792089237316195423570985008687907853269984665640564039457584007913129639936) {m : Nat} (h : m / 64 = 1) : [ul (a / 18446744073709551616 / 2 ^ (m % 64)), ul (a / 340282366920938463463374607431768211456 / 2 ^ (m % 64)), ul (a / 6277101735386680763835789423207666416102355444464034512896 / 2 ^ (m % 64)), ul 0] = cl 4 (a / 2 ^ m) := by
  have e : m = 64 * 1 + m % 64 := by omega
  conv => rhs; rw [e, div_split a (m % 64) 1]
  simp only [Nat.reduceMul, Nat.reducePow]
  exact shr_row1 la (m % 64)
theorem shl_fin2 (a : Nat) {m : Nat} (h : m / 64 = 2) : [ul 0, ul 0, ul (a * 2 ^ (m % 64)), ul (a / 2 ^ (64 - m % 64))] = cl 4 (a * 2 ^ m) := by
  have hk : m % 64 ≤ 64 := by omega
  have e : m = 64 * 2 + m % 64 := by omega
  conv => rhs; rw [e, pow_split a (m % 64) 2]
  simp only [Nat.reduceMul, Nat.reducePow]
  exact shl_row2 a hk
theorem shr_fin2 {a : Nat} (la : a < 115792089237316195423570985008687907853269984665640564039457584007913129639936) {m : Nat} (h : m / 64 = 2) : [ul (a / 340282366920938463463374607431768211456 / 2 ^ (m % 64)), ul (a / 6277101735386680763835789423207666416102355444464034512896 / 2 ^ (m % 64)), ul 0, ul 0] = cl 4 (a / 2 ^ m) := by
  have e : m = 64 * 2 + m % 64 := by omega
  conv => rhs; rw [e, div_split a (m % 64) 2]
  simp only [Nat.reduceMul, Nat.reducePow]
  exact shr_row2 la (m % 64)
theorem shl_fin3 (a : Nat) {m : Nat} (h : m / 64 = 3) : [ul 0, ul 0, ul 0, ul (a * 2 ^ (m % 64))] = cl 4 (a * 2 ^ m) := by
  have hk : m % 64 ≤ 64 := by omega
  have e : m = 64 * 3 + m % 64 := by omega
  conv => rhs; rw [e, pow_split a (m % 64) 3]
  simp only [Nat.reduceMul, Nat.reducePow]
  exact shl_row3 a (m % 64)
theorem shr_fin3 {a : Nat} (la : a < 115792089237316195423570985008687907853269984665640564039457584007913129639936) {m : Nat} (h : m / 64 = 3) : [ul (a / 6277101735386680763835789423207666416102355444464034512896 / 2 ^ (m % 64)), ul 0, ul 0, ul 0] = cl 4 (a / 2 ^ m) := by
  have e : m = 64 * 3 + m % 64 := by omega
  conv => rhs; rw [e, div_split a (m % 64) 3]
  simp only [Nat.reduceMul, Nat.reducePow]
  exact shr_row3 la (m % 64)
def sLSh : List PV → Prop × PV
  | [x, .lit (.int .i64 n)] => (isU x ∧ -9223372036854775808 ≤ n ∧ n ≤ 9223372036854775807, .lit (.bool true))
  | _ => (False, .any)
def sLUndo : List PV → Prop × PV
  | [x, y, z, .lit (.int .u8 n)] => (isU x ∧ isU y ∧ isU z ∧ 0 ≤ n ∧ n < 256, .lit (.bool true))
  | _ => (False, .any)
end Go.Ab
