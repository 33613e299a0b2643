import Derived.Test.YtmnkapmcclhiiaaMW9
namespace Go.Ab
open Go Go.RowKit
set_option linter.unusedVariables false
theorem bit_word (a : Nat) {m : Nat} : a / 2 ^ (64 * (m / 64)) % 18446744073709551616 / 2 ^ (m % 64) % 2 = a / 2 ^ m % 2 := by
  have h : ((a / 2 ^ (64 * (m / 64))) % 2 ^ 64).testBit (m % 64) = a.testBit m := by
    rw [Nat.testBit_mod_two_pow, Nat.testBit_div_two_pow, show m % 64 + 64 * (m / 64) = m by omega]
    have : m % 64 < 64 := by omega
    simp [this]
  simp only [Nat.testBit_eq_decide_div_mod_eq] at h
  have h2 := decide_eq_decide.1 h
  have e : (2 : Nat) ^ 64 = 18446744073709551616 := by decide
  rw [e] at h2
  have h3 : a / 2 ^ m % 2 < 2 := Nat.mod_lt _ (by decide)
  have h4 : a / 2 ^ (64 * (m / 64)) % 18446744073709551616 / 2 ^ (m % 64) % 2 < 2 := Nat.mod_lt _ (by decide)
  omega
theorem bit_fin (a m : Nat) : decide (a / 2 ^ m % 2 % 18446744073709551616 = 1 % 18446744073709551616) = a.testBit m := by
  rw [Nat.testBit_eq_decide_div_mod_eq]
  have h3 : a / 2 ^ m % 2 < 2 := Nat.mod_lt _ (by decide)
  exact decide_eq_decide.2 (by omega)
theorem top_bit {r : Nat} (h : r < 115792089237316195423570985008687907853269984665640564039457584007913129639936) : r.testBit 255 = decide (57896044618658097711785492504343953926634992332820282019728792003956564819968 ≤ r) := by
  rw [Nat.testBit_eq_decide_div_mod_eq]
  have e : (2 : Nat) ^ 255 = 57896044618658097711785492504343953926634992332820282019728792003956564819968 := by decide
  rw [e]
  exact decide_eq_decide.2 (by omega)
theorem cmp_ge (a b : Nat) : (0 ≤ cmpN a b) = (b ≤ a) := by
  unfold cmpN
  apply propext
  split
  · omega
  · split <;> omega
theorem tdiv64 (m : Nat) : (m : Int).tdiv 64 = ((m / 64 : Nat) : Int) := (Int.ofNat_tdiv m 64).symm
theorem tmod64 (m : Nat) : (m : Int).tmod 64 = ((m % 64 : Nat) : Int) := (Int.ofNat_tmod m 64).symm
theorem cl_get {m : Nat} (h : m < 256) (n : Nat) (d : PV) : (cl 4 n).getD (m / 64) d = ul (n / 2 ^ (64 * (m / 64))) := getD_cl (by omega) d
theorem ref_low (r : Nat) : (cl 4 (r + r)).set 0 (ul (r + r ||| 1)) = cl 4 (2 * r + 1) := by
  have e : r + r ||| 1 = 2 * r + 1 := by
    have := or_one (x := r) (b := 1) (by omega)
    rw [show r + r = r * 2 by omega, this]; omega
  rw [e, cl4]
  exact list4 (by omega)
theorem ref_quo {q m : Nat} (hm : m < 256) (hq : q % 2 ^ (m + 1) = 0) (hlt : q < 115792089237316195423570985008687907853269984665640564039457584007913129639936) : (cl 4 q).set (m / 64) (ul (q / 2 ^ (64 * (m / 64)) ||| 2 ^ (m % 64))) = cl 4 (q + 2 ^ m) := by
  have hr : m % 64 < 64 := by omega
  have e1 : 2 ^ m = 2 ^ (64 * (m / 64)) * 2 ^ (m % 64) := by rw [← Nat.pow_add, Nat.div_add_mod]
  have e2 : 2 ^ (m + 1) = 2 ^ (64 * (m / 64)) * (2 * 2 ^ (m % 64)) := by rw [Nat.pow_succ, e1, Nat.mul_assoc, Nat.mul_comm (2 ^ (m % 64))]
  rw [e2] at hq
  rw [e1]
  have hc : m / 64 = 0 ∨ m / 64 = 1 ∨ m / 64 = 2 ∨ m / 64 = 3 := by omega
  rcases hc with h | h | h | h
  · rw [h] at hq ⊢
    simp only [Nat.reduceMul, Nat.reducePow, Nat.div_one] at hq ⊢
    rw [cl4 q]
    exact div_quo0 hr hq hlt
  · rw [h] at hq ⊢
    simp only [Nat.reduceMul, Nat.reducePow] at hq ⊢
    rw [cl4 q]
    exact div_quo1 hr hq hlt
  · rw [h] at hq ⊢
    simp only [Nat.reduceMul, Nat.reducePow] at hq ⊢
    rw [cl4 q]
    exact div_quo2 hr hq hlt
  · rw [h] at hq ⊢
    simp only [Nat.reduceMul, Nat.reducePow] at hq ⊢
    rw [cl4 q]
    exact div_quo3 hr hq hlt
theorem low_bits (lo m : Nat) : lo % 2 ^ (m + 1) = (lo.testBit m).toNat * 2 ^ m + lo % 2 ^ m := by
  rw [Nat.toNat_testBit, Nat.pow_succ, Nat.mod_mul, Nat.mul_comm (2 ^ m)]; omega
theorem ref_step {N b q r lo m : Nat} (h : DivInv (2 ^ (m + 1)) N b q r (lo % 2 ^ (m + 1))) {d : Nat} (hd : (lo.testBit m).toNat = d) :
    (2 * r + d < b → DivInv (2 ^ m) N b q (2 * r + d) (lo % 2 ^ m)) ∧ (b ≤ 2 * r + d → DivInv (2 ^ m) N b (q + 2 ^ m) (2 * r + d - b) (lo % 2 ^ m)) := by
  have e : 2 ^ (m + 1) = 2 * 2 ^ m := by rw [Nat.pow_succ, Nat.mul_comm]
  have hl := low_bits lo m
  rw [hd] at hl
  have hd1 : d ≤ 1 := by rw [← hd]; cases lo.testBit m <;> simp
  have hs : 0 < 2 ^ m := Nat.pow_pos (by decide)
  generalize hx : lo % 2 ^ (m + 1) = x at h hl
  rw [e] at h
  exact ⟨h.low hl (Nat.mod_lt _ hs) hs, h.high hl (Nat.mod_lt _ hs) hs hd1⟩
end Go.Ab
namespace Go.Ab
open Go Go.RowKit
set_option linter.unusedVariables false
theorem rem0_lt {m : Nat} (hm : m < 115792089237316195423570985008687907853269984665640564039457584007913129639936) (x : Nat) : rem0 x m < 115792089237316195423570985008687907853269984665640564039457584007913129639936 := by
  unfold rem0
  split
  · decide
  · rename_i h
    exact Nat.lt_trans (Nat.mod_lt _ (by omega)) hm
theorem rem0_mod {m : Nat} (hm : m < 115792089237316195423570985008687907853269984665640564039457584007913129639936) (x : Nat) : rem0 x m % 115792089237316195423570985008687907853269984665640564039457584007913129639936 = rem0 x m := Nat.mod_eq_of_lt (rem0_lt hm x)
theorem rem0_pos {m : Nat} (h : m ≠ 0) (x : Nat) : rem0 x m = x % m := if_neg h
theorem rem0_zero {m : Nat} (h : m = 0) (x : Nat) : rem0 x m = 0 := if_pos h
theorem rem0_mul (x y m : Nat) : rem0 (rem0 x m * rem0 y m) m = rem0 (x * y) m := by
  by_cases c : m = 0
  · rw [rem0_zero c, rem0_zero c]
  · rw [rem0_pos c, rem0_pos c, rem0_pos c, rem0_pos c, ← Nat.mul_mod]
theorem rem0_mul_l (x y m : Nat) : rem0 (rem0 x m * y) m = rem0 (x * y) m := by
  by_cases c : m = 0
  · rw [rem0_zero c, rem0_zero c]
  · rw [rem0_pos c, rem0_pos c, rem0_pos c, Nat.mod_mul_mod]
theorem mod_hi {h l m : Nat} : (h % m * 115792089237316195423570985008687907853269984665640564039457584007913129639936 + l) % m = (h * 115792089237316195423570985008687907853269984665640564039457584007913129639936 + l) % m := by
  rw [Nat.add_mod, Nat.mod_mul_mod, ← Nat.add_mod]
theorem add_red {a b m : Nat} (hm : m ≠ 0) : rem0 (a + b) m = if m ≤ a % m + b % m then a % m + b % m - m else a % m + b % m := by
  rw [rem0_pos hm, Nat.add_mod]
  have h1 := Nat.mod_lt a (show 0 < m by omega)
  have h2 := Nat.mod_lt b (show 0 < m by omega)
  split
  · rename_i h
    have e : a % m + b % m = (a % m + b % m - m) + m := by omega
    conv => lhs; rw [e]
    rw [Nat.add_mod_right, Nat.mod_eq_of_lt (by omega)]
  · exact Nat.mod_eq_of_lt (by omega)
theorem sub_red {a b m : Nat} (hm : m ≠ 0) : rem0 (a + (m - b % m)) m = if a % m < b % m then a % m + m - b % m else a % m - b % m := by
  have h1 := Nat.mod_lt a (show 0 < m by omega)
  have h2 := Nat.mod_lt b (show 0 < m by omega)
  rw [rem0_pos hm, ← Nat.mod_add_mod]
  split
  · rw [Nat.mod_eq_of_lt (by omega)]; omega
  · have e : a % m + (m - b % m) = (a % m - b % m) + m := by omega
    rw [e, Nat.add_mod_right, Nat.mod_eq_of_lt (by omega)]
theorem exp_bit (a e k : Nat) : a ^ (e / 2 ^ k) = a ^ (e / 2 ^ (k + 1)) * a ^ (e / 2 ^ (k + 1)) * a ^ (e / 2 ^ k % 2) := by
  rw [← Nat.pow_add, ← Nat.pow_add]
  congr 1
  rw [Nat.pow_succ, ← Nat.div_div_eq_div_mul]
  omega
theorem exp_step0 {r a e k m : Nat} (hr : r = rem0 (a ^ (e / 2 ^ (k + 1))) m) (hb : e.testBit k = false) : rem0 (r * r) m = rem0 (a ^ (e / 2 ^ k)) m := by
  have h0 : e / 2 ^ k % 2 = 0 := by
    rw [Nat.testBit_eq_decide_div_mod_eq] at hb
    have := of_decide_eq_false hb
    omega
  rw [hr, rem0_mul, exp_bit a e k, h0, Nat.pow_zero, Nat.mul_one]
theorem exp_step1 {r a e k m : Nat} (hr : r = rem0 (a ^ (e / 2 ^ (k + 1))) m) (hb : e.testBit k = true) : rem0 (rem0 (r * r) m * a) m = rem0 (a ^ (e / 2 ^ k)) m := by
  have h0 : e / 2 ^ k % 2 = 1 := by
    rw [Nat.testBit_eq_decide_div_mod_eq] at hb
    exact of_decide_eq_true hb
  rw [hr, rem0_mul, rem0_mul_l, exp_bit a e k, h0, Nat.pow_one]
theorem exp_start {a e m t : Nat} (h : e < 2 ^ t) : rem0 1 m = rem0 (a ^ (e / 2 ^ t)) m := by
  rw [Nat.div_eq_of_lt h, Nat.pow_zero]
theorem exp_done (a e m : Nat) : rem0 (a ^ (e / 2 ^ 0)) m = rem0 (a ^ e) m := by
  rw [Nat.pow_zero, Nat.div_one]
theorem blen_lt (n : Nat) : n < 2 ^ blen n := by
  unfold blen
  split
  · rename_i h; subst h; decide
  · exact Nat.lt_log2_self
theorem blen_le {n : Nat} (h : n < 115792089237316195423570985008687907853269984665640564039457584007913129639936) : blen n ≤ 256 := by
  unfold blen
  split
  · omega
  · rename_i h0
    have := (Nat.log2_lt h0 (k := 256)).2 (by have : (2 : Nat) ^ 256 = 115792089237316195423570985008687907853269984665640564039457584007913129639936 := by decide
                                              omega)
    omega
theorem bit_fin' (a m : Nat) : decide (a / 2 ^ m % 2 % 18446744073709551616 = 1) = a.testBit m := by
  have := bit_fin a m
  rwa [show 1 % 18446744073709551616 = 1 by decide] at this
theorem mul_hi {a b : Nat} (ha : a < 115792089237316195423570985008687907853269984665640564039457584007913129639936) (hb : b < 115792089237316195423570985008687907853269984665640564039457584007913129639936) : a * b / 115792089237316195423570985008687907853269984665640564039457584007913129639936 < 115792089237316195423570985008687907853269984665640564039457584007913129639936 := by
  apply Nat.div_lt_of_lt_mul
  exact Nat.mul_lt_mul'' ha hb
theorem blen_zero : blen 0 = 0 := rfl
theorem lt_bit {a m : Nat} (h : a < 2 ^ (m + 1)) (hb : a.testBit m = false) : a < 2 ^ m := by
  rw [Nat.testBit_eq_decide_div_mod_eq] at hb
  have h1 := of_decide_eq_false hb
  have h2 : a / 2 ^ m < 2 := Nat.div_lt_of_lt_mul (by rw [Nat.pow_succ] at h; exact h)
  have h3 : a / 2 ^ m = 0 := by
    generalize a / 2 ^ m = z at *
    omega
  exact (Nat.div_eq_zero_iff_lt (Nat.pow_pos (by decide))).1 h3
theorem blen_eq {a m : Nat} (h : a < 2 ^ (m + 1)) (h2 : 2 ^ m ≤ a) : blen a = m + 1 := by
  have hp : 0 < 2 ^ m := Nat.pow_pos (by decide)
  have h0 : a ≠ 0 := by omega
  unfold blen
  rw [if_neg h0]
  have h3 := (Nat.log2_lt h0).2 h
  have h4 := (Nat.le_log2 h0).2 h2
  omega
theorem blen_bit {a m : Nat} (h : a < 2 ^ (m + 1)) (hb : a.testBit m = true) : blen a = m + 1 := by
  refine blen_eq h ?_
  exact Nat.ge_two_pow_of_testBit hb
end Go.Ab
namespace Go.Ab
open Go Go.RowKit
set_option linter.unusedVariables false
theorem shr_big {a : Nat} (ha : a < 115792089237316195423570985008687907853269984665640564039457584007913129639936) {m : Nat} (h : 256 ≤ m) : a / 2 ^ m = 0 := by
  apply Nat.div_eq_of_lt
  have h1 : (2 : Nat) ^ 256 ≤ 2 ^ m := Nat.pow_le_pow_right (by decide) h
  have h2 : (2 : Nat) ^ 256 = 115792089237316195423570985008687907853269984665640564039457584007913129639936 := by decide
  omega
theorem ref_set {o i : Nat} (hi : i < 256) (ho : o < 2 ^ i) : (cl 4 o).set (i / 64) (ul (o / 2 ^ (64 * (i / 64)) ||| 2 ^ (i % 64))) = cl 4 (o + 2 ^ i) := by
  have hr : i % 64 < 64 := by omega
  have e1 : 2 ^ i = 2 ^ (64 * (i / 64)) * 2 ^ (i % 64) := by rw [← Nat.pow_add, Nat.div_add_mod]
  have hp : 0 < 2 ^ (64 * (i / 64)) := Nat.pow_pos (by decide)
  have hy : o / 2 ^ (64 * (i / 64)) < 2 ^ (i % 64) := Nat.div_lt_of_lt_mul (by rw [← e1]; exact ho)
  have ho2 : o / 2 ^ (64 * (i / 64)) ||| 2 ^ (i % 64) = o / 2 ^ (64 * (i / 64)) + 2 ^ (i % 64) := by
    have := (Nat.two_pow_add_eq_or_of_lt hy 1).symm
    rw [Nat.mul_one] at this
    rw [Nat.or_comm, this]; omega
  have hT : 2 ^ (i % 64) ≤ 9223372036854775808 := Nat.pow_le_pow_right (n := 2) (by decide) (show i % 64 ≤ 63 by omega)
  rw [ho2, e1]
  generalize hT2 : 2 ^ (i % 64) = T at *
  have hc : i / 64 = 0 ∨ i / 64 = 1 ∨ i / 64 = 2 ∨ i / 64 = 3 := by omega
  rcases hc with h | h | h | h
  · rw [h] at hy ⊢
    simp only [Nat.reduceMul, Nat.reducePow, Nat.div_one] at hy ⊢
    rw [cl4 o]
    exact list4 (by omega)
  · rw [h] at hy ⊢
    simp only [Nat.reduceMul, Nat.reducePow] at hy ⊢
    rw [cl4 o]
    exact list4 (by omega)
  · rw [h] at hy ⊢
    simp only [Nat.reduceMul, Nat.reducePow] at hy ⊢
    rw [cl4 o]
    exact list4 (by omega)
  · rw [h] at hy ⊢
    simp only [Nat.reduceMul, Nat.reducePow] at hy ⊢
    rw [cl4 o]
    exact list4 (by omega)
theorem shr_bits (x i : Nat) : x % 2 ^ (i + 1) = x % 2 ^ i + (x.testBit i).toNat * 2 ^ i := by
  rw [low_bits]; omega
theorem shr_end {a : Nat} (ha : a < 115792089237316195423570985008687907853269984665640564039457584007913129639936) {m i : Nat} (h : 256 ≤ i + m) : a / 2 ^ m % 2 ^ i = a / 2 ^ m := by
  apply Nat.mod_eq_of_lt
  apply Nat.div_lt_of_lt_mul
  rw [← Nat.pow_add]
  have h1 : (2 : Nat) ^ 256 ≤ 2 ^ (m + i) := Nat.pow_le_pow_right (by decide) (by omega)
  have h2 : (2 : Nat) ^ 256 = 115792089237316195423570985008687907853269984665640564039457584007913129639936 := by decide
  omega
theorem shr_test (a m i : Nat) : a.testBit (i + m) = (a / 2 ^ m).testBit i := by rw [Nat.testBit_div_two_pow]
end Go.Ab
namespace Go.Ab
open Go Go.RowKit
set_option linter.unusedVariables false
theorem idx_tab {P : Program} {L : LH} {t s b : Nat} {z : Value} {tab : ByteArray} (h : tyOf P t = some ⟨.string, s, b, z⟩) (hs : tab.size = 256) (ht : ∀ i : _root_.Fin 256, tab.data.toList.getD i.val 0 = UInt8.ofNat (blen i.val)) (x : UInt8) : indexF P t (.lit (.string tab)) (bv x) L = ⟨True, bv (UInt8.ofNat (blen x.toNat)), L⟩ := by
  have hx : x.toNat < 256 := x.toNat_lt
  have ht := ht ⟨x.toNat, hx⟩
  simp only [bv, indexF, h]
  have e1 : (0 ≤ (x.toNat : Int) ∧ (x.toNat : Int) < (tab.size : Int)) = True := by
    apply eq_true
    rw [hs]
    exact ⟨by omega, by omega⟩
  rw [e1, Int.toNat_natCast]
  congr 1
  exact congrArg bv ht
theorem blen_sh {a k : Nat} (h : 2 ^ k ≤ a) : blen a = k + blen (a / 2 ^ k) := by
  have hp : 0 < 2 ^ k := Nat.pow_pos (by decide)
  have h1 : 1 ≤ a / 2 ^ k := (Nat.one_le_div_iff hp).2 h
  have h0 : a / 2 ^ k ≠ 0 := by omega
  have e : blen (a / 2 ^ k) = (a / 2 ^ k).log2 + 1 := by unfold blen; rw [if_neg h0]
  rw [e]
  rw [show k + ((a / 2 ^ k).log2 + 1) = k + (a / 2 ^ k).log2 + 1 by omega]
  apply blen_eq
  · have h2 := Nat.lt_log2_self (n := a / 2 ^ k)
    have h3 := Nat.mul_lt_mul_of_pos_left h2 hp
    rw [Nat.add_assoc, Nat.pow_add]
    have h4 := Nat.mod_add_div a (2 ^ k)
    have h5 := Nat.mod_lt a hp
    have h6 : 2 ^ k * (a / 2 ^ k) + 2 ^ k ≤ 2 ^ k * 2 ^ ((a / 2 ^ k).log2 + 1) := by
      rw [← Nat.mul_succ]; exact Nat.mul_le_mul_left _ h2
    omega
  · have h2 := Nat.log2_self_le h0
    rw [Nat.pow_add]
    exact Nat.le_trans (Nat.mul_le_mul_left _ h2) (Nat.mul_div_le a (2 ^ k))
theorem blen_32 {a : Nat} (h : 4294967296 ≤ a) : blen a = 32 + blen (a / 4294967296) := blen_sh (k := 32) h
theorem blen_16 {a : Nat} (h : 65536 ≤ a) : blen a = 16 + blen (a / 65536) := blen_sh (k := 16) h
theorem blen_8 {a : Nat} (h : 256 ≤ a) : blen a = 8 + blen (a / 256) := blen_sh (k := 8) h
theorem blen_0 {a : Nat} (h : a < 256) : blen (a % 256) % 256 = blen a := by
  rw [Nat.mod_eq_of_lt h]
  apply Nat.mod_eq_of_lt
  by_cases h0 : a = 0
  · subst h0; decide
  · have h1 : blen a = a.log2 + 1 := by unfold blen; rw [if_neg h0]
    have h2 := (Nat.log2_lt h0 (k := 8)).2 h
    omega
theorem blen_w1 {a : Nat} (h : 18446744073709551616 ≤ a) : blen a = 64 + blen (a / 18446744073709551616) := blen_sh (k := 64) h
theorem blen_w2 {a : Nat} (h : 340282366920938463463374607431768211456 ≤ a) : blen a = 128 + blen (a / 340282366920938463463374607431768211456) := blen_sh (k := 128) h
theorem blen_w3 {a : Nat} (h : 6277101735386680763835789423207666416102355444464034512896 ≤ a) : blen a = 192 + blen (a / 6277101735386680763835789423207666416102355444464034512896) := blen_sh (k := 192) h
theorem blen_64 {a : Nat} (h : a < 18446744073709551616) : blen a ≤ 64 := by
  by_cases h0 : a = 0
  · subst h0; decide
  · have h1 : blen a = a.log2 + 1 := by unfold blen; rw [if_neg h0]
    have h2 := (Nat.log2_lt h0 (k := 64)).2 h
    omega
end Go.Ab
