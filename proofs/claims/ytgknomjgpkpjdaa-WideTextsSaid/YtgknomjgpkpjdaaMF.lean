import Derived.Test.YtgknomjgpkpjdaaME
namespace Go.Ab
open Go Go.RowKit
set_option linter.unusedVariables false
theorem bit_word (a : Nat) {m : Nat} : a / 2 ^ (64 * (m / 64)) % 18446744073709551616 / 2 ^ (m % 64) % 2 = a / 2 ^ m % 2 := by
  have h : ((a / 2 ^ (64 * (m / 64))) % 2 ^ 64).testBit (m % 64) = a.testBit m := by
    rw [Nat.testBit_mod_two_pow, Nat.testBit_div_two_pow, show m % 64 + 64 * (m / 64) = m by omega]
    have : m % 64 < 64 := by omega
    simp [this]
  simp only [Nat.testBit_eq_decide_div_mod_eq] at h
  have h2 := decide_eq_decide.1 h
  have e : (2 : Nat) ^ 64 = 18446744073709551616 := by decide
  rw [e] at h2
  have h3 : a / 2 ^ m % 2 < 2 := Nat.mod_lt _ (by decide)
  have h4 : a / 2 ^ (64 * (m / 64)) % 18446744073709551616 / 2 ^ (m % 64) % 2 < 2 := Nat.mod_lt _ (by decide)
  omega
theorem bit_fin (a m : Nat) : decide (a / 2 ^ m % 2 % 18446744073709551616 = 1 % 18446744073709551616) = a.testBit m := by
  rw [Nat.testBit_eq_decide_div_mod_eq]
  have h3 : a / 2 ^ m % 2 < 2 := Nat.mod_lt _ (by decide)
  exact decide_eq_decide.2 (by omega)
theorem top_bit {r : Nat} (h : r < 115792089237316195423570985008687907853269984665640564039457584007913129639936) : r.testBit 255 = decide (57896044618658097711785492504343953926634992332820282019728792003956564819968 ≤ r) := by
  rw [Nat.testBit_eq_decide_div_mod_eq]
  have e : (2 : Nat) ^ 255 = 57896044618658097711785492504343953926634992332820282019728792003956564819968 := by decide
  rw [e]
  exact decide_eq_decide.2 (by omega)
theorem cmp_ge (a b : Nat) : (0 ≤ cmpN a b) = (b ≤ a) := by
  unfold cmpN
  apply propext
  split
  · omega
  · split <;> omega
theorem tdiv64 (m : Nat) : (m : Int).tdiv 64 = ((m / 64 : Nat) : Int) := (Int.ofNat_tdiv m 64).symm
theorem tmod64 (m : Nat) : (m : Int).tmod 64 = ((m % 64 : Nat) : Int) := (Int.ofNat_tmod m 64).symm
theorem cl_get {m : Nat} (h : m < 256) (n : Nat) (d : PV) : (cl 4 n).getD (m / 64) d = ul (n / 2 ^ (64 * (m / 64))) := getD_cl (by omega) d
theorem ref_low (r : Nat) : (cl 4 (r + r)).set 0 (ul (r + r ||| 1)) = cl 4 (2 * r + 1) := by
  have e : r + r ||| 1 = 2 * r + 1 := by
    have := or_one (x := r) (b := 1) (by omega)
    rw [show r + r = r * 2 by omega, this]; omega
  rw [e, cl4]
  exact list4 (by omega)
theorem ref_quo {q m : Nat} (hm : m < 256) (hq : q % 2 ^ (m + 1) = 0) (hlt : q < 115792089237316195423570985008687907853269984665640564039457584007913129639936) : (cl 4 q).set (m / 64) (ul (q / 2 ^ (64 * (m / 64)) ||| 2 ^ (m % 64))) = cl 4 (q + 2 ^ m) := by
  have hr : m % 64 < 64 := by omega
  have e1 : 2 ^ m = 2 ^ (64 * (m / 64)) * 2 ^ (m % 64) := by rw [← Nat.pow_add, Nat.div_add_mod]
  have e2 : 2 ^ (m + 1) = 2 ^ (64 * (m / 64)) * (2 * 2 ^ (m % 64)) := by rw [Nat.pow_succ, e1, Nat.mul_assoc, Nat.mul_comm (2 ^ (m % 64))]
  rw [e2] at hq
  rw [e1]
  have hc : m / 64 = 0 ∨ m / 64 = 1 ∨ m / 64 = 2 ∨ m / 64 = 3 := by omega
  rcases hc with h | h | h | h
  · rw [h] at hq ⊢
    simp only [Nat.reduceMul, Nat.reducePow, Nat.div_one] at hq ⊢
    rw [cl4 q]
    exact div_quo0 hr hq hlt
  · rw [h] at hq ⊢
    simp only [Nat.reduceMul, Nat.reducePow] at hq ⊢
    rw [cl4 q]
    exact div_quo1 hr hq hlt
  · rw [h] at hq ⊢
    simp only [Nat.reduceMul, Nat.reducePow] at hq ⊢
    rw [cl4 q]
    exact div_quo2 hr hq hlt
  · rw [h] at hq ⊢
    simp only [Nat.reduceMul, Nat.reducePow] at hq ⊢
    rw [cl4 q]
    exact div_quo3 hr hq hlt
theorem low_bits (lo m : Nat) : lo % 2 ^ (m + 1) = (lo.testBit m).toNat * 2 ^ m + lo % 2 ^ m := by
  rw [Nat.toNat_testBit, Nat.pow_succ, Nat.mod_mul, Nat.mul_comm (2 ^ m)]; omega
theorem ref_step {N b q r lo m : Nat} (h : DivInv (2 ^ (m + 1)) N b q r (lo % 2 ^ (m + 1))) {d : Nat} (hd : (lo.testBit m).toNat = d) :
    (2 * r + d < b → DivInv (2 ^ m) N b q (2 * r + d) (lo % 2 ^ m)) ∧ (b ≤ 2 * r + d → DivInv (2 ^ m) N b (q + 2 ^ m) (2 * r + d - b) (lo % 2 ^ m)) := by
  have e : 2 ^ (m + 1) = 2 * 2 ^ m := by rw [Nat.pow_succ, Nat.mul_comm]
  have hl := low_bits lo m
  rw [hd] at hl
  have hd1 : d ≤ 1 := by rw [← hd]; cases lo.testBit m <;> simp
  have hs : 0 < 2 ^ m := Nat.pow_pos (by decide)
  generalize hx : lo % 2 ^ (m + 1) = x at h hl
  rw [e] at h
  exact ⟨h.low hl (Nat.mod_lt _ hs) hs, h.high hl (Nat.mod_lt _ hs) hs hd1⟩
end Go.Ab
