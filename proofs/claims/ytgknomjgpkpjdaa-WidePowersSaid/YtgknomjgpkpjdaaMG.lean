import Derived.Test.YtgknomjgpkpjdaaMF
namespace Go.Ab
open Go Go.RowKit
set_option linter.unusedVariables false
theorem rem0_lt {m : Nat} (hm : m < 115792089237316195423570985008687907853269984665640564039457584007913129639936) (x : Nat) : rem0 x m < 115792089237316195423570985008687907853269984665640564039457584007913129639936 := by
  unfold rem0
  split
  · decide
  · rename_i h
    exact Nat.lt_trans (Nat.mod_lt _ (by omega)) hm
theorem rem0_mod {m : Nat} (hm : m < 115792089237316195423570985008687907853269984665640564039457584007913129639936) (x : Nat) : rem0 x m % 115792089237316195423570985008687907853269984665640564039457584007913129639936 = rem0 x m := Nat.mod_eq_of_lt (rem0_lt hm x)
theorem rem0_pos {m : Nat} (h : m ≠ 0) (x : Nat) : rem0 x m = x % m := if_neg h
theorem rem0_zero {m : Nat} (h : m = 0) (x : Nat) : rem0 x m = 0 := if_pos h
theorem rem0_mul (x y m : Nat) : rem0 (rem0 x m * rem0 y m) m = rem0 (x * y) m := by
  by_cases c : m = 0
  · rw [rem0_zero c, rem0_zero c]
  · rw [rem0_pos c, rem0_pos c, rem0_pos c, rem0_pos c, ← Nat.mul_mod]
theorem rem0_mul_l (x y m : Nat) : rem0 (rem0 x m * y) m = rem0 (x * y) m := by
  by_cases c : m = 0
  · rw [rem0_zero c, rem0_zero c]
  · rw [rem0_pos c, rem0_pos c, rem0_pos c, Nat.mod_mul_mod]
theorem mod_hi {h l m : Nat} : (h % m * 115792089237316195423570985008687907853269984665640564039457584007913129639936 + l) % m = (h * 115792089237316195423570985008687907853269984665640564039457584007913129639936 + l) % m := by
  rw [Nat.add_mod, Nat.mod_mul_mod, ← Nat.add_mod]
theorem add_red {a b m : Nat} (hm : m ≠ 0) : rem0 (a + b) m = if m ≤ a % m + b % m then a % m + b % m - m else a % m + b % m := by
  rw [rem0_pos hm, Nat.add_mod]
  have h1 := Nat.mod_lt a (show 0 < m by omega)
  have h2 := Nat.mod_lt b (show 0 < m by omega)
  split
  · rename_i h
    have e : a % m + b % m = (a % m + b % m - m) + m := by omega
    conv => lhs; rw [e]
    rw [Nat.add_mod_right, Nat.mod_eq_of_lt (by omega)]
  · exact Nat.mod_eq_of_lt (by omega)
theorem sub_red {a b m : Nat} (hm : m ≠ 0) : rem0 (a + (m - b % m)) m = if a % m < b % m then a % m + m - b % m else a % m - b % m := by
  have h1 := Nat.mod_lt a (show 0 < m by omega)
  have h2 := Nat.mod_lt b (show 0 < m by omega)
  rw [rem0_pos hm, ← Nat.mod_add_mod]
  split
  · rw [Nat.mod_eq_of_lt (by omega)]; omega
  · have e : a % m + (m - b % m) = (a % m - b % m) + m := by omega
    rw [e, Nat.add_mod_right, Nat.mod_eq_of_lt (by omega)]
theorem exp_bit (a e k : Nat) : a ^ (e / 2 ^ k) = a ^ (e / 2 ^ (k + 1)) * a ^ (e / 2 ^ (k + 1)) * a ^ (e / 2 ^ k % 2) := by
  rw [← Nat.pow_add, ← Nat.pow_add]
  congr 1
  rw [Nat.pow_succ, ← Nat.div_div_eq_div_mul]
  omega
theorem exp_step0 {r a e k m : Nat} (hr : r = rem0 (a ^ (e / 2 ^ (k + 1))) m) (hb : e.testBit k = false) : rem0 (r * r) m = rem0 (a ^ (e / 2 ^ k)) m := by
  have h0 : e / 2 ^ k % 2 = 0 := by
    rw [Nat.testBit_eq_decide_div_mod_eq] at hb
    have := of_decide_eq_false hb
    omega
  rw [hr, rem0_mul, exp_bit a e k, h0, Nat.pow_zero, Nat.mul_one]
theorem exp_step1 {r a e k m : Nat} (hr : r = rem0 (a ^ (e / 2 ^ (k + 1))) m) (hb : e.testBit k = true) : rem0 (rem0 (r * r) m * a) m = rem0 (a ^ (e / 2 ^ k)) m := by
  have h0 : e / 2 ^ k % 2 = 1 := by
    rw [Nat.testBit_eq_decide_div_mod_eq] at hb
    exact of_decide_eq_true hb
  rw [hr, rem0_mul, rem0_mul_l, exp_bit a e k, h0, Nat.pow_one]
theorem exp_start {a e m t : Nat} (h : e < 2 ^ t) : rem0 1 m = rem0 (a ^ (e / 2 ^ t)) m := by
  rw [Nat.div_eq_of_lt h, Nat.pow_zero]
theorem exp_done (a e m : Nat) : rem0 (a ^ (e / 2 ^ 0)) m = rem0 (a ^ e) m := by
  rw [Nat.pow_zero, Nat.div_one]
theorem blen_lt (n : Nat) : n < 2 ^ blen n := by
  unfold blen
  split
  · rename_i h; subst h; decide
  · exact Nat.lt_log2_self
theorem blen_le {n : Nat} (h : n < 115792089237316195423570985008687907853269984665640564039457584007913129639936) : blen n ≤ 256 := by
  unfold blen
  split
  · omega
  · rename_i h0
    have := (Nat.log2_lt h0 (k := 256)).2 (by have : (2 : Nat) ^ 256 = 115792089237316195423570985008687907853269984665640564039457584007913129639936 := by decide
                                              omega)
    omega
theorem bit_fin' (a m : Nat) : decide (a / 2 ^ m % 2 % 18446744073709551616 = 1) = a.testBit m := by
  have := bit_fin a m
  rwa [show 1 % 18446744073709551616 = 1 by decide] at this
theorem mul_hi {a b : Nat} (ha : a < 115792089237316195423570985008687907853269984665640564039457584007913129639936) (hb : b < 115792089237316195423570985008687907853269984665640564039457584007913129639936) : a * b / 115792089237316195423570985008687907853269984665640564039457584007913129639936 < 115792089237316195423570985008687907853269984665640564039457584007913129639936 := by
  apply Nat.div_lt_of_lt_mul
  exact Nat.mul_lt_mul'' ha hb
theorem blen_zero : blen 0 = 0 := rfl
theorem lt_bit {a m : Nat} (h : a < 2 ^ (m + 1)) (hb : a.testBit m = false) : a < 2 ^ m := by
  rw [Nat.testBit_eq_decide_div_mod_eq] at hb
  have h1 := of_decide_eq_false hb
  have h2 : a / 2 ^ m < 2 := Nat.div_lt_of_lt_mul (by rw [Nat.pow_succ] at h; exact h)
  have h3 : a / 2 ^ m = 0 := by
    generalize a / 2 ^ m = z at *
    omega
  exact (Nat.div_eq_zero_iff_lt (Nat.pow_pos (by decide))).1 h3
theorem blen_eq {a m : Nat} (h : a < 2 ^ (m + 1)) (h2 : 2 ^ m ≤ a) : blen a = m + 1 := by
  have hp : 0 < 2 ^ m := Nat.pow_pos (by decide)
  have h0 : a ≠ 0 := by omega
  unfold blen
  rw [if_neg h0]
  have h3 := (Nat.log2_lt h0).2 h
  have h4 := (Nat.le_log2 h0).2 h2
  omega
theorem blen_bit {a m : Nat} (h : a < 2 ^ (m + 1)) (hb : a.testBit m = true) : blen a = m + 1 := by
  refine blen_eq h ?_
  exact Nat.ge_two_pow_of_testBit hb
theorem rem0_add_l (x y m : Nat) : rem0 (rem0 x m + y) m = rem0 (x + y) m := by
  by_cases c : m = 0
  · rw [rem0_zero c, rem0_zero c]
  · rw [rem0_pos c, rem0_pos c, rem0_pos c, Nat.mod_add_mod]
theorem rem0_add_r (x y m : Nat) : rem0 (x + rem0 y m) m = rem0 (x + y) m := by
  rw [Nat.add_comm, rem0_add_l, Nat.add_comm]
theorem rem0_mul_r (x y m : Nat) : rem0 (x * rem0 y m) m = rem0 (x * y) m := by
  rw [Nat.mul_comm, rem0_mul_l, Nat.mul_comm]
theorem ring3 (a b c m : Nat) : rem0 (rem0 (a + b) m + c) m = rem0 (a + rem0 (b + c) m) m := by
  rw [rem0_add_l, rem0_add_r, Nat.add_assoc]
theorem ring4 (a b c m : Nat) : rem0 (rem0 (a * b) m * c) m = rem0 (a * rem0 (b * c) m) m := by
  rw [rem0_mul_l, rem0_mul_r, Nat.mul_assoc]
theorem ring5 (a b c m : Nat) : rem0 (a * rem0 (b + c) m) m = rem0 (rem0 (a * b) m + rem0 (a * c) m) m := by
  rw [rem0_mul_r, rem0_add_l, rem0_add_r, Nat.mul_add]
theorem ring6 (a b m : Nat) : rem0 (rem0 (a + (m - b % m)) m + b) m = rem0 a m := by
  rw [rem0_add_l]
  by_cases c : m = 0
  · rw [rem0_zero c, rem0_zero c]
  · rw [rem0_pos c, rem0_pos c]
    have h := Nat.mod_lt b (show 0 < m by omega)
    have e : a + (m - b % m) + b = a + m * (b / m + 1) := by
      have := Nat.mod_add_div b m
      rw [Nat.mul_add, Nat.mul_one]
      generalize m * (b / m) = z at *
      omega
    rw [e, Nat.add_mul_mod_self_left]
theorem ring1 (a b m : Nat) : rem0 (b + a) m = rem0 (a + b) m := by rw [Nat.add_comm]
theorem ring2 (a b m : Nat) : rem0 (b * a) m = rem0 (a * b) m := by rw [Nat.mul_comm]
end Go.Ab
