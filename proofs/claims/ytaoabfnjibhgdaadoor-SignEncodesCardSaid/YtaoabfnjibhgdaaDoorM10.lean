import Derived.Test.YtaoabfnjibhgdaaDoorM9
namespace Go.Ab
open Go Go.RowKit
set_option linter.unusedVariables false
set_option linter.unusedSimpArgs false
theorem list4 {a b c d n : Nat} (h : n % 115792089237316195423570985008687907853269984665640564039457584007913129639936 = a % 18446744073709551616 + (b % 18446744073709551616) * 18446744073709551616 + (c % 18446744073709551616) * 340282366920938463463374607431768211456 + (d % 18446744073709551616) * 6277101735386680763835789423207666416102355444464034512896) :
    [ul a, ul b, ul c, ul d] = cl 4 n := four_eq h
def cmpN (a b : Nat) : Int := if a < b then -1 else if a = b then 0 else 1
def blen (n : Nat) : Nat := if n = 0 then 0 else n.log2 + 1
def rem0 (n m : Nat) : Nat := if m = 0 then 0 else n % m
theorem mul64_hi {a b : Nat} (ha : a < 18446744073709551616) (hb : b < 18446744073709551616) :
    (a / 4294967296 * (b / 4294967296) + (a / 4294967296 * (b % 4294967296) + a % 4294967296 * (b % 4294967296) / 4294967296) / 4294967296 +
      ((a / 4294967296 * (b % 4294967296) + a % 4294967296 * (b % 4294967296) / 4294967296) % 4294967296 + a % 4294967296 * (b / 4294967296)) / 4294967296) = a * b / 18446744073709551616 := by
  have e : a * b = (a / 4294967296) * (b / 4294967296) * 18446744073709551616 + ((a / 4294967296) * (b % 4294967296) + (a % 4294967296) * (b / 4294967296)) * 4294967296 + (a % 4294967296) * (b % 4294967296) := by
    have h1 : a = a / 4294967296 * 4294967296 + a % 4294967296 := by omega
    have h2 : b = b / 4294967296 * 4294967296 + b % 4294967296 := by omega
    generalize a / 4294967296 = x at *
    generalize b / 4294967296 = y at *
    generalize a % 4294967296 = u at *
    generalize b % 4294967296 = v at *
    subst h1 h2
    simp only [Nat.add_mul, Nat.mul_add]
    have e1 : x * 4294967296 * (y * 4294967296) = x * y * 18446744073709551616 := by
      rw [Nat.mul_mul_mul_comm]
    have e2 : x * 4294967296 * v = x * v * 4294967296 := Nat.mul_right_comm _ _ _
    have e3 : u * (y * 4294967296) = u * y * 4294967296 := (Nat.mul_assoc _ _ _).symm
    omega
  rw [e]
  generalize a / 4294967296 * (b / 4294967296) = p
  generalize a / 4294967296 * (b % 4294967296) = q
  generalize a % 4294967296 * (b % 4294967296) = r
  generalize a % 4294967296 * (b / 4294967296) = s
  omega
theorem or_add {x b k : Nat} (h : b < 2 ^ k) : x * 2 ^ k ||| b = x * 2 ^ k + b := by
  rw [Nat.mul_comm]; exact (Nat.two_pow_add_eq_or_of_lt h x).symm
theorem or_one {x b : Nat} (h : b ≤ 1) : x * 2 ||| b = x * 2 + b := by
  have := or_add (x := x) (k := 1) (b := b) (by omega)
  simpa using this
theorem closedL_bv (bs : List UInt8) : closedL (bs.map bv) = true := by
  rw [closedL_iff]; intro p hp; rw [List.mem_map] at hp; obtain ⟨b, _, rfl⟩ := hp; rfl
theorem cmpB {a b : Nat} : (cmpN a b ≤ 0 ↔ a ≤ b) ∧ (cmpN a b < 0 ↔ a < b) ∧ (cmpN a b ≥ 0 ↔ b ≤ a) ∧ (cmpN a b > 0 ↔ b < a) ∧ (cmpN a b = 0 ↔ a = b) := by
  unfold cmpN
  split
  · omega
  · split <;> omega
theorem cLeT {a b : Nat} (h : decide (cmpN a b ≤ 0) = true) : a ≤ b := cmpB.1.1 (of_decide_eq_true h)
theorem cLeF {a b : Nat} (h : decide (cmpN a b ≤ 0) = false) : b < a := Nat.lt_of_not_le fun hh => of_decide_eq_false h (cmpB.1.2 hh)
theorem cLtT {a b : Nat} (h : decide (cmpN a b < 0) = true) : a < b := cmpB.2.1.1 (of_decide_eq_true h)
theorem cLtF {a b : Nat} (h : decide (cmpN a b < 0) = false) : b ≤ a := Nat.le_of_not_lt fun hh => of_decide_eq_false h (cmpB.2.1.2 hh)
theorem cGeT {a b : Nat} (h : decide (cmpN a b ≥ 0) = true) : b ≤ a := cmpB.2.2.1.1 (of_decide_eq_true h)
theorem cGeF {a b : Nat} (h : decide (cmpN a b ≥ 0) = false) : a < b := Nat.lt_of_not_le fun hh => of_decide_eq_false h (cmpB.2.2.1.2 hh)
theorem bit_hi {r : Nat} (h : r < 2 ^ 256) (hb : Nat.testBit r 255 = true) : 2 ^ 255 ≤ r := by
  rw [Nat.testBit_eq_decide_div_mod_eq] at hb
  have := of_decide_eq_true hb
  omega
theorem bit_lo {r : Nat} (h : r < 2 ^ 256) (hb : Nat.testBit r 255 = false) : r < 2 ^ 255 := by
  rw [Nat.testBit_eq_decide_div_mod_eq] at hb
  have := of_decide_eq_false hb
  omega
structure DivInv (S N b q r lo : Nat) : Prop where
  eq : N = q * b + r * S + lo
  ll : lo < S
  lr : r < b
  lq : q % S = 0
  lN : N < b * 115792089237316195423570985008687907853269984665640564039457584007913129639936
theorem DivInv.qlt {S N b q r lo : Nat} (h : DivInv S N b q r lo) : q < 115792089237316195423570985008687907853269984665640564039457584007913129639936 := by
  have h1 : q * b < b * 115792089237316195423570985008687907853269984665640564039457584007913129639936 := by have := h.eq; have := h.lN; omega
  rw [Nat.mul_comm b] at h1
  exact Nat.lt_of_mul_lt_mul_right h1
theorem DivInv.low {S N b q r lo d l : Nat} (h : DivInv (2 * S) N b q r lo) (hd : lo = d * S + l) (hl : l < S) (hs : 0 < S) (hlt : 2 * r + d < b) : DivInv S N b q (2 * r + d) l := by
  refine ⟨?_, hl, hlt, ?_, h.lN⟩
  · rw [h.eq, hd, Nat.add_mul, show r * (2 * S) = 2 * r * S by rw [← Nat.mul_assoc, Nat.mul_comm r 2]]
    omega
  · have := h.lq
    exact Nat.mod_eq_zero_of_dvd (Nat.dvd_trans (Nat.dvd_mul_left S 2) (Nat.dvd_of_mod_eq_zero this))
theorem DivInv.high {S N b q r lo d l : Nat} (h : DivInv (2 * S) N b q r lo) (hd : lo = d * S + l) (hl : l < S) (hs : 0 < S) (hd1 : d ≤ 1) (hle : b ≤ 2 * r + d) : DivInv S N b (q + S) (2 * r + d - b) l := by
  refine ⟨?_, hl, ?_, ?_, h.lN⟩
  · have e1 : (q + S) * b = q * b + b * S := by rw [Nat.add_mul, Nat.mul_comm S b]
    have e2 : (2 * r + d - b) * S + b * S = (2 * r + d) * S := by rw [← Nat.add_mul]; congr 1; omega
    have e3 : (2 * r + d) * S = 2 * r * S + d * S := Nat.add_mul ..
    have e4 : r * (2 * S) = 2 * r * S := by rw [← Nat.mul_assoc, Nat.mul_comm r 2]
    have := h.eq
    omega
  · have := h.lr; omega
  · have h2 := Nat.dvd_trans (Nat.dvd_mul_left S 2) (Nat.dvd_of_mod_eq_zero h.lq)
    exact Nat.mod_eq_zero_of_dvd (Nat.dvd_add h2 (Nat.dvd_refl S))
theorem DivInv.done {N b q r lo : Nat} (h : DivInv 1 N b q r lo) : N / b = q ∧ N % b = r := by
  have h1 := h.eq
  have h2 := h.ll
  have h3 := h.lr
  have e : lo = 0 := by omega
  subst e
  have e2 : N = r + b * q := by rw [h1, Nat.mul_comm b q]; omega
  constructor
  · rw [e2, Nat.add_mul_div_left _ _ (by omega), Nat.div_eq_of_lt h3, Nat.zero_add]
  · rw [e2, Nat.add_mul_mod_self_left, Nat.mod_eq_of_lt h3]
theorem DivInv.early {S N b q : Nat} (h : DivInv S N b q 0 0) : N / b = q ∧ N % b = 0 := by
  have h1 := h.eq
  have h3 := h.lr
  have e2 : N = b * q := by rw [h1, Nat.mul_comm b q]; omega
  constructor
  · rw [e2, Nat.mul_div_cancel_left _ h3]
  · rw [e2, Nat.mul_mod_right]
theorem DivInv.start {hi lo b : Nat} (h : hi < b) (hl : lo < 115792089237316195423570985008687907853269984665640564039457584007913129639936) : DivInv 115792089237316195423570985008687907853269984665640564039457584007913129639936 (hi * 115792089237316195423570985008687907853269984665640564039457584007913129639936 + lo) b 0 hi lo := by
  refine ⟨by omega, hl, h, by omega, ?_⟩
  have : (hi + 1) * 115792089237316195423570985008687907853269984665640564039457584007913129639936 ≤ b * 115792089237316195423570985008687907853269984665640564039457584007913129639936 := Nat.mul_le_mul_right _ h
  have e : (hi + 1) * 115792089237316195423570985008687907853269984665640564039457584007913129639936 = hi * 115792089237316195423570985008687907853269984665640564039457584007913129639936 + 115792089237316195423570985008687907853269984665640564039457584007913129639936 := Nat.succ_mul ..
  omega
theorem xor_top (x m : Nat) : x ^^^ (x / 2 ^ m * 2 ^ m) = x % 2 ^ m := by
  apply Nat.eq_of_testBit_eq
  intro i
  rw [Nat.testBit_xor, Nat.mul_comm, Nat.testBit_two_pow_mul, Nat.testBit_div_two_pow, Nat.testBit_mod_two_pow]
  by_cases h : i < m
  · have : ¬ (i ≥ m) := by omega
    simp [h, this]
  · have h2 : i ≥ m := by omega
    simp [h, h2, Nat.sub_add_cancel h2]
theorem or_top {y m : Nat} (h : y % (2 * 2 ^ m) = 0) : y ||| 2 ^ m = y + 2 ^ m := by
  have e : 2 * 2 ^ m = 2 ^ (m + 1) := by rw [Nat.pow_succ, Nat.mul_comm]
  rw [e] at h
  have hy : y = 2 ^ (m + 1) * (y / 2 ^ (m + 1)) := by have := Nat.mod_add_div y (2 ^ (m + 1)); omega
  have hlt : 2 ^ m < 2 ^ (m + 1) := Nat.pow_lt_pow_right (by decide) (by omega)
  rw [hy]
  exact (Nat.two_pow_add_eq_or_of_lt hlt _).symm
theorem two_dvd {m : Nat} (hm : m < 64) : ∃ c, 18446744073709551616 = 2 * 2 ^ m * c ∧ 0 < c := by
  refine ⟨2 ^ (63 - m), ?_, Nat.pow_pos (by decide)⟩
  rw [show 2 * 2 ^ m = 2 ^ (m + 1) by rw [Nat.pow_succ, Nat.mul_comm], ← Nat.pow_add, show m + 1 + (63 - m) = 64 by omega]
theorem bit_facts {lo D m : Nat} (hD : 0 < D) (hm : m < 64) (hl : lo < D * (2 * 2 ^ m)) :
    lo / D % 18446744073709551616 / 2 ^ m % 2 = lo / (D * 2 ^ m) ∧ lo / (D * 2 ^ m) ≤ 1 ∧ lo / D < 2 * 2 ^ m ∧ 2 * 2 ^ m ≤ 18446744073709551616 ∧ lo / D ^^^ lo / (D * 2 ^ m) * 2 ^ m = lo / D % 2 ^ m ∧ lo % (D * 2 ^ m) = lo % D + D * (lo / D % 2 ^ m) ∧ lo = lo / (D * 2 ^ m) * (D * 2 ^ m) + lo % (D * 2 ^ m) := by
  obtain ⟨c, hc, hc0⟩ := two_dvd hm
  have hx : lo / D < 2 * 2 ^ m := Nat.div_lt_of_lt_mul hl
  have hW : 2 * 2 ^ m ≤ 18446744073709551616 := by rw [hc]; exact Nat.le_mul_of_pos_right _ hc0
  have hp : 0 < 2 ^ m := Nat.pow_pos (by decide)
  have hd : lo / (D * 2 ^ m) = lo / D / 2 ^ m := (Nat.div_div_eq_div_mul ..).symm
  have h1 : lo / D / 2 ^ m < 2 := Nat.div_lt_of_lt_mul (by rw [Nat.mul_comm]; exact hx)
  refine ⟨?_, ?_, hx, hW, ?_, Nat.mod_mul, ?_⟩
  · rw [Nat.mod_eq_of_lt (a := lo / D) (by omega), hd]; exact Nat.mod_eq_of_lt h1
  · rw [hd]; omega
  · rw [hd]; exact xor_top _ _
  · exact (Nat.div_add_mod' ..).symm
theorem quo_facts {q D m : Nat} (hD : 0 < D) (hm : m < 64) (hq : q % (D * (2 * 2 ^ m)) = 0) :
    (q / D ||| 2 ^ m) = q / D + 2 ^ m ∧ q / D % 18446744073709551616 + 2 ^ m < 18446744073709551616 ∧ q % D = 0 := by
  obtain ⟨c, hc, hc0⟩ := two_dvd hm
  have h1 : q % D + D * (q / D % (2 * 2 ^ m)) = 0 := by rw [← Nat.mod_mul]; exact hq
  have h2 : q / D % (2 * 2 ^ m) = 0 := by
    rcases Nat.mul_eq_zero.1 (show D * (q / D % (2 * 2 ^ m)) = 0 by omega) with h | h
    · omega
    · exact h
  refine ⟨or_top h2, ?_, by omega⟩
  have hp : 0 < 2 ^ m := Nat.pow_pos (by decide)
  have h3 : q / D % 18446744073709551616 % (2 * 2 ^ m) = 0 := by rw [hc, Nat.mod_mul_right_mod, h2]
  have hlt : q / D % 18446744073709551616 < 18446744073709551616 := Nat.mod_lt _ (by decide)
  generalize q / D % 18446744073709551616 = y at *
  have hy : y = 2 * 2 ^ m * (y / (2 * 2 ^ m)) := by have := Nat.mod_add_div y (2 * 2 ^ m); omega
  have hlt2 : y / (2 * 2 ^ m) < c := by
    rw [hc] at hlt
    exact Nat.div_lt_of_lt_mul hlt
  have : 2 * 2 ^ m * (y / (2 * 2 ^ m) + 1) ≤ 2 * 2 ^ m * c := Nat.mul_le_mul_left _ hlt2
  rw [Nat.mul_add] at this
  omega
theorem div_row0 {lo m : Nat} (hm : m < 64) (hl : lo < 1 * (2 * 2 ^ m)) :
    [ul (lo ^^^ lo / (1 * 2 ^ m) * 2 ^ m), ul (lo / 18446744073709551616), ul (lo / 340282366920938463463374607431768211456), ul (lo / 6277101735386680763835789423207666416102355444464034512896)] = cl 4 (lo % (1 * 2 ^ m)) := by
  obtain ⟨h1, h2, h3, h4, h5, h6, h7⟩ := bit_facts (D := 1) (by decide) hm hl
  rw [h6]
  rw [Nat.div_one] at *
  try simp only [Nat.mod_one, Nat.zero_add, Nat.one_mul] at *
  rw [h5]
  have h8 : lo % 2 ^ m ≤ lo := Nat.mod_le _ _
  refine list4 ?_
  generalize lo % 2 ^ m = e at *
  generalize 2 * 2 ^ m = T at *
  omega
theorem div_quo0 {q m : Nat} (hm : m < 64) (hq : q % (1 * (2 * 2 ^ m)) = 0) (hlt : q < 115792089237316195423570985008687907853269984665640564039457584007913129639936) :
    [ul (q ||| 2 ^ m), ul (q / 18446744073709551616), ul (q / 340282366920938463463374607431768211456), ul (q / 6277101735386680763835789423207666416102355444464034512896)] = cl 4 (q + 1 * 2 ^ m) := by
  obtain ⟨h1, h2, h3⟩ := quo_facts (D := 1) (by decide) hm hq
  simp only [Nat.div_one, Nat.mod_one, Nat.one_mul] at *
  rw [h1]
  refine list4 ?_
  generalize 2 ^ m = T at *
  omega
theorem div_row1 {lo m : Nat} (hm : m < 64) (hl : lo < 18446744073709551616 * (2 * 2 ^ m)) :
    [ul lo, ul (lo / 18446744073709551616 ^^^ lo / (18446744073709551616 * 2 ^ m) * 2 ^ m), ul (lo / 340282366920938463463374607431768211456), ul (lo / 6277101735386680763835789423207666416102355444464034512896)] = cl 4 (lo % (18446744073709551616 * 2 ^ m)) := by
  obtain ⟨h1, h2, h3, h4, h5, h6, h7⟩ := bit_facts (D := 18446744073709551616) (by decide) hm hl
  rw [h6]
  skip
  skip
  rw [h5]
  have h8 : lo / 18446744073709551616 % 2 ^ m ≤ lo / 18446744073709551616 := Nat.mod_le _ _
  refine list4 ?_
  generalize lo / 18446744073709551616 % 2 ^ m = e at *
  generalize 2 * 2 ^ m = T at *
  omega
theorem div_quo1 {q m : Nat} (hm : m < 64) (hq : q % (18446744073709551616 * (2 * 2 ^ m)) = 0) (hlt : q < 115792089237316195423570985008687907853269984665640564039457584007913129639936) :
    [ul q, ul (q / 18446744073709551616 ||| 2 ^ m), ul (q / 340282366920938463463374607431768211456), ul (q / 6277101735386680763835789423207666416102355444464034512896)] = cl 4 (q + 18446744073709551616 * 2 ^ m) := by
  obtain ⟨h1, h2, h3⟩ := quo_facts (D := 18446744073709551616) (by decide) hm hq
  skip
  rw [h1]
  refine list4 ?_
  generalize 2 ^ m = T at *
  omega
theorem div_row2 {lo m : Nat} (hm : m < 64) (hl : lo < 340282366920938463463374607431768211456 * (2 * 2 ^ m)) :
    [ul lo, ul (lo / 18446744073709551616), ul (lo / 340282366920938463463374607431768211456 ^^^ lo / (340282366920938463463374607431768211456 * 2 ^ m) * 2 ^ m), ul (lo / 6277101735386680763835789423207666416102355444464034512896)] = cl 4 (lo % (340282366920938463463374607431768211456 * 2 ^ m)) := by
  obtain ⟨h1, h2, h3, h4, h5, h6, h7⟩ := bit_facts (D := 340282366920938463463374607431768211456) (by decide) hm hl
  rw [h6]
  skip
  skip
  rw [h5]
  have h8 : lo / 340282366920938463463374607431768211456 % 2 ^ m ≤ lo / 340282366920938463463374607431768211456 := Nat.mod_le _ _
  refine list4 ?_
  generalize lo / 340282366920938463463374607431768211456 % 2 ^ m = e at *
  generalize 2 * 2 ^ m = T at *
  omega
theorem div_quo2 {q m : Nat} (hm : m < 64) (hq : q % (340282366920938463463374607431768211456 * (2 * 2 ^ m)) = 0) (hlt : q < 115792089237316195423570985008687907853269984665640564039457584007913129639936) :
    [ul q, ul (q / 18446744073709551616), ul (q / 340282366920938463463374607431768211456 ||| 2 ^ m), ul (q / 6277101735386680763835789423207666416102355444464034512896)] = cl 4 (q + 340282366920938463463374607431768211456 * 2 ^ m) := by
  obtain ⟨h1, h2, h3⟩ := quo_facts (D := 340282366920938463463374607431768211456) (by decide) hm hq
  skip
  rw [h1]
  refine list4 ?_
  generalize 2 ^ m = T at *
  omega
theorem div_row3 {lo m : Nat} (hm : m < 64) (hl : lo < 6277101735386680763835789423207666416102355444464034512896 * (2 * 2 ^ m)) :
    [ul lo, ul (lo / 18446744073709551616), ul (lo / 340282366920938463463374607431768211456), ul (lo / 6277101735386680763835789423207666416102355444464034512896 ^^^ lo / (6277101735386680763835789423207666416102355444464034512896 * 2 ^ m) * 2 ^ m)] = cl 4 (lo % (6277101735386680763835789423207666416102355444464034512896 * 2 ^ m)) := by
  obtain ⟨h1, h2, h3, h4, h5, h6, h7⟩ := bit_facts (D := 6277101735386680763835789423207666416102355444464034512896) (by decide) hm hl
  rw [h6]
  skip
  skip
  rw [h5]
  have h8 : lo / 6277101735386680763835789423207666416102355444464034512896 % 2 ^ m ≤ lo / 6277101735386680763835789423207666416102355444464034512896 := Nat.mod_le _ _
  refine list4 ?_
  generalize lo / 6277101735386680763835789423207666416102355444464034512896 % 2 ^ m = e at *
  generalize 2 * 2 ^ m = T at *
  omega
theorem div_quo3 {q m : Nat} (hm : m < 64) (hq : q % (6277101735386680763835789423207666416102355444464034512896 * (2 * 2 ^ m)) = 0) (hlt : q < 115792089237316195423570985008687907853269984665640564039457584007913129639936) :
    [ul q, ul (q / 18446744073709551616), ul (q / 340282366920938463463374607431768211456), ul (q / 6277101735386680763835789423207666416102355444464034512896 ||| 2 ^ m)] = cl 4 (q + 6277101735386680763835789423207666416102355444464034512896 * 2 ^ m) := by
  obtain ⟨h1, h2, h3⟩ := quo_facts (D := 6277101735386680763835789423207666416102355444464034512896) (by decide) hm hq
  skip
  rw [h1]
  refine list4 ?_
  generalize 2 ^ m = T at *
  omega
theorem bit_word (a : Nat) {m : Nat} : a / 2 ^ (64 * (m / 64)) % 18446744073709551616 / 2 ^ (m % 64) % 2 = a / 2 ^ m % 2 := by
  have h : ((a / 2 ^ (64 * (m / 64))) % 2 ^ 64).testBit (m % 64) = a.testBit m := by
    rw [Nat.testBit_mod_two_pow, Nat.testBit_div_two_pow, show m % 64 + 64 * (m / 64) = m by omega]
    have : m % 64 < 64 := by omega
    simp [this]
  simp only [Nat.testBit_eq_decide_div_mod_eq] at h
  have h2 := decide_eq_decide.1 h
  have e : (2 : Nat) ^ 64 = 18446744073709551616 := by decide
  rw [e] at h2
  have h3 : a / 2 ^ m % 2 < 2 := Nat.mod_lt _ (by decide)
  have h4 : a / 2 ^ (64 * (m / 64)) % 18446744073709551616 / 2 ^ (m % 64) % 2 < 2 := Nat.mod_lt _ (by decide)
  omega
theorem ref_low (r : Nat) : (cl 4 (r + r)).set 0 (ul (r + r ||| 1)) = cl 4 (2 * r + 1) := by
  have e : r + r ||| 1 = 2 * r + 1 := by
    have := or_one (x := r) (b := 1) (by omega)
    rw [show r + r = r * 2 by omega, this]; omega
  rw [e, cl4]
  exact list4 (by omega)
theorem ref_quo {q m : Nat} (hm : m < 256) (hq : q % 2 ^ (m + 1) = 0) (hlt : q < 115792089237316195423570985008687907853269984665640564039457584007913129639936) : (cl 4 q).set (m / 64) (ul (q / 2 ^ (64 * (m / 64)) ||| 2 ^ (m % 64))) = cl 4 (q + 2 ^ m) := by
  have hr : m % 64 < 64 := by omega
  have e1 : 2 ^ m = 2 ^ (64 * (m / 64)) * 2 ^ (m % 64) := by rw [← Nat.pow_add, Nat.div_add_mod]
  have e2 : 2 ^ (m + 1) = 2 ^ (64 * (m / 64)) * (2 * 2 ^ (m % 64)) := by rw [Nat.pow_succ, e1, Nat.mul_assoc, Nat.mul_comm (2 ^ (m % 64))]
  rw [e2] at hq
  rw [e1]
  have hc : m / 64 = 0 ∨ m / 64 = 1 ∨ m / 64 = 2 ∨ m / 64 = 3 := by omega
  rcases hc with h | h | h | h
  · rw [h] at hq ⊢
    simp only [Nat.reduceMul, Nat.reducePow, Nat.div_one] at hq ⊢
    rw [cl4 q]
    exact div_quo0 hr hq hlt
  · rw [h] at hq ⊢
    simp only [Nat.reduceMul, Nat.reducePow] at hq ⊢
    rw [cl4 q]
    exact div_quo1 hr hq hlt
  · rw [h] at hq ⊢
    simp only [Nat.reduceMul, Nat.reducePow] at hq ⊢
    rw [cl4 q]
    exact div_quo2 hr hq hlt
  · rw [h] at hq ⊢
    simp only [Nat.reduceMul, Nat.reducePow] at hq ⊢
    rw [cl4 q]
    exact div_quo3 hr hq hlt
theorem low_bits (lo m : Nat) : lo % 2 ^ (m + 1) = (lo.testBit m).toNat * 2 ^ m + lo % 2 ^ m := by
  rw [Nat.toNat_testBit, Nat.pow_succ, Nat.mod_mul, Nat.mul_comm (2 ^ m)]; omega
theorem ref_step {N b q r lo m : Nat} (h : DivInv (2 ^ (m + 1)) N b q r (lo % 2 ^ (m + 1))) {d : Nat} (hd : (lo.testBit m).toNat = d) :
    (2 * r + d < b → DivInv (2 ^ m) N b q (2 * r + d) (lo % 2 ^ m)) ∧ (b ≤ 2 * r + d → DivInv (2 ^ m) N b (q + 2 ^ m) (2 * r + d - b) (lo % 2 ^ m)) := by
  have e : 2 ^ (m + 1) = 2 * 2 ^ m := by rw [Nat.pow_succ, Nat.mul_comm]
  have hl := low_bits lo m
  rw [hd] at hl
  have hd1 : d ≤ 1 := by rw [← hd]; cases lo.testBit m <;> simp
  have hs : 0 < 2 ^ m := Nat.pow_pos (by decide)
  generalize hx : lo % 2 ^ (m + 1) = x at h hl
  rw [e] at h
  exact ⟨h.low hl (Nat.mod_lt _ hs) hs, h.high hl (Nat.mod_lt _ hs) hs hd1⟩
theorem rem0_lt {m : Nat} (hm : m < 115792089237316195423570985008687907853269984665640564039457584007913129639936) (x : Nat) : rem0 x m < 115792089237316195423570985008687907853269984665640564039457584007913129639936 := by
  unfold rem0
  split
  · decide
  · rename_i h
    exact Nat.lt_trans (Nat.mod_lt _ (by omega)) hm
theorem rem0_pos {m : Nat} (h : m ≠ 0) (x : Nat) : rem0 x m = x % m := if_neg h
theorem rem0_zero {m : Nat} (h : m = 0) (x : Nat) : rem0 x m = 0 := if_pos h
theorem rem0_mul (x y m : Nat) : rem0 (rem0 x m * rem0 y m) m = rem0 (x * y) m := by
  by_cases c : m = 0
  · rw [rem0_zero c, rem0_zero c]
  · rw [rem0_pos c, rem0_pos c, rem0_pos c, rem0_pos c, ← Nat.mul_mod]
theorem rem0_mul_l (x y m : Nat) : rem0 (rem0 x m * y) m = rem0 (x * y) m := by
  by_cases c : m = 0
  · rw [rem0_zero c, rem0_zero c]
  · rw [rem0_pos c, rem0_pos c, rem0_pos c, Nat.mod_mul_mod]
theorem mod_hi {h l m : Nat} : (h % m * 115792089237316195423570985008687907853269984665640564039457584007913129639936 + l) % m = (h * 115792089237316195423570985008687907853269984665640564039457584007913129639936 + l) % m := by
  rw [Nat.add_mod, Nat.mod_mul_mod, ← Nat.add_mod]
theorem add_red {a b m : Nat} (hm : m ≠ 0) : rem0 (a + b) m = if m ≤ a % m + b % m then a % m + b % m - m else a % m + b % m := by
  rw [rem0_pos hm, Nat.add_mod]
  have h1 := Nat.mod_lt a (show 0 < m by omega)
  have h2 := Nat.mod_lt b (show 0 < m by omega)
  split
  · rename_i h
    have e : a % m + b % m = (a % m + b % m - m) + m := by omega
    conv => lhs; rw [e]
    rw [Nat.add_mod_right, Nat.mod_eq_of_lt (by omega)]
  · exact Nat.mod_eq_of_lt (by omega)
theorem sub_red {a b m : Nat} (hm : m ≠ 0) : rem0 (a + (m - b % m)) m = if a % m < b % m then a % m + m - b % m else a % m - b % m := by
  have h1 := Nat.mod_lt a (show 0 < m by omega)
  have h2 := Nat.mod_lt b (show 0 < m by omega)
  rw [rem0_pos hm, ← Nat.mod_add_mod]
  split
  · rw [Nat.mod_eq_of_lt (by omega)]; omega
  · have e : a % m + (m - b % m) = (a % m - b % m) + m := by omega
    rw [e, Nat.add_mod_right, Nat.mod_eq_of_lt (by omega)]
theorem exp_bit (a e k : Nat) : a ^ (e / 2 ^ k) = a ^ (e / 2 ^ (k + 1)) * a ^ (e / 2 ^ (k + 1)) * a ^ (e / 2 ^ k % 2) := by
  rw [← Nat.pow_add, ← Nat.pow_add]
  congr 1
  rw [Nat.pow_succ, ← Nat.div_div_eq_div_mul]
  omega
theorem exp_step0 {r a e k m : Nat} (hr : r = rem0 (a ^ (e / 2 ^ (k + 1))) m) (hb : e.testBit k = false) : rem0 (r * r) m = rem0 (a ^ (e / 2 ^ k)) m := by
  have h0 : e / 2 ^ k % 2 = 0 := by
    rw [Nat.testBit_eq_decide_div_mod_eq] at hb
    have := of_decide_eq_false hb
    omega
  rw [hr, rem0_mul, exp_bit a e k, h0, Nat.pow_zero, Nat.mul_one]
theorem exp_step1 {r a e k m : Nat} (hr : r = rem0 (a ^ (e / 2 ^ (k + 1))) m) (hb : e.testBit k = true) : rem0 (rem0 (r * r) m * a) m = rem0 (a ^ (e / 2 ^ k)) m := by
  have h0 : e / 2 ^ k % 2 = 1 := by
    rw [Nat.testBit_eq_decide_div_mod_eq] at hb
    exact of_decide_eq_true hb
  rw [hr, rem0_mul, rem0_mul_l, exp_bit a e k, h0, Nat.pow_one]
theorem exp_start {a e m t : Nat} (h : e < 2 ^ t) : rem0 1 m = rem0 (a ^ (e / 2 ^ t)) m := by
  rw [Nat.div_eq_of_lt h, Nat.pow_zero]
theorem blen_lt (n : Nat) : n < 2 ^ blen n := by
  unfold blen
  split
  · rename_i h; subst h; decide
  · exact Nat.lt_log2_self
theorem blen_le {n : Nat} (h : n < 115792089237316195423570985008687907853269984665640564039457584007913129639936) : blen n ≤ 256 := by
  unfold blen
  split
  · omega
  · rename_i h0
    have := (Nat.log2_lt h0 (k := 256)).2 (by have : (2 : Nat) ^ 256 = 115792089237316195423570985008687907853269984665640564039457584007913129639936 := by decide
                                              omega)
    omega
theorem mul_hi {a b : Nat} (ha : a < 115792089237316195423570985008687907853269984665640564039457584007913129639936) (hb : b < 115792089237316195423570985008687907853269984665640564039457584007913129639936) : a * b / 115792089237316195423570985008687907853269984665640564039457584007913129639936 < 115792089237316195423570985008687907853269984665640564039457584007913129639936 := by
  apply Nat.div_lt_of_lt_mul
  exact Nat.mul_lt_mul'' ha hb
theorem lt_bit {a m : Nat} (h : a < 2 ^ (m + 1)) (hb : a.testBit m = false) : a < 2 ^ m := by
  rw [Nat.testBit_eq_decide_div_mod_eq] at hb
  have h1 := of_decide_eq_false hb
  have h2 : a / 2 ^ m < 2 := Nat.div_lt_of_lt_mul (by rw [Nat.pow_succ] at h; exact h)
  have h3 : a / 2 ^ m = 0 := by
    generalize a / 2 ^ m = z at *
    omega
  exact (Nat.div_eq_zero_iff_lt (Nat.pow_pos (by decide))).1 h3
theorem blen_eq {a m : Nat} (h : a < 2 ^ (m + 1)) (h2 : 2 ^ m ≤ a) : blen a = m + 1 := by
  have hp : 0 < 2 ^ m := Nat.pow_pos (by decide)
  have h0 : a ≠ 0 := by omega
  unfold blen
  rw [if_neg h0]
  have h3 := (Nat.log2_lt h0).2 h
  have h4 := (Nat.le_log2 h0).2 h2
  omega
theorem blen_bit {a m : Nat} (h : a < 2 ^ (m + 1)) (hb : a.testBit m = true) : blen a = m + 1 := by
  refine blen_eq h ?_
  exact Nat.ge_two_pow_of_testBit hb
theorem ref_set {o i : Nat} (hi : i < 256) (ho : o < 2 ^ i) : (cl 4 o).set (i / 64) (ul (o / 2 ^ (64 * (i / 64)) ||| 2 ^ (i % 64))) = cl 4 (o + 2 ^ i) := by
  have hr : i % 64 < 64 := by omega
  have e1 : 2 ^ i = 2 ^ (64 * (i / 64)) * 2 ^ (i % 64) := by rw [← Nat.pow_add, Nat.div_add_mod]
  have hp : 0 < 2 ^ (64 * (i / 64)) := Nat.pow_pos (by decide)
  have hy : o / 2 ^ (64 * (i / 64)) < 2 ^ (i % 64) := Nat.div_lt_of_lt_mul (by rw [← e1]; exact ho)
  have ho2 : o / 2 ^ (64 * (i / 64)) ||| 2 ^ (i % 64) = o / 2 ^ (64 * (i / 64)) + 2 ^ (i % 64) := by
    have := (Nat.two_pow_add_eq_or_of_lt hy 1).symm
    rw [Nat.mul_one] at this
    rw [Nat.or_comm, this]; omega
  have hT : 2 ^ (i % 64) ≤ 9223372036854775808 := Nat.pow_le_pow_right (n := 2) (by decide) (show i % 64 ≤ 63 by omega)
  rw [ho2, e1]
  generalize hT2 : 2 ^ (i % 64) = T at *
  have hc : i / 64 = 0 ∨ i / 64 = 1 ∨ i / 64 = 2 ∨ i / 64 = 3 := by omega
  rcases hc with h | h | h | h
  · rw [h] at hy ⊢
    simp only [Nat.reduceMul, Nat.reducePow, Nat.div_one] at hy ⊢
    rw [cl4 o]
    exact list4 (by omega)
  · rw [h] at hy ⊢
    simp only [Nat.reduceMul, Nat.reducePow] at hy ⊢
    rw [cl4 o]
    exact list4 (by omega)
  · rw [h] at hy ⊢
    simp only [Nat.reduceMul, Nat.reducePow] at hy ⊢
    rw [cl4 o]
    exact list4 (by omega)
  · rw [h] at hy ⊢
    simp only [Nat.reduceMul, Nat.reducePow] at hy ⊢
    rw [cl4 o]
    exact list4 (by omega)
theorem shr_bits (x i : Nat) : x % 2 ^ (i + 1) = x % 2 ^ i + (x.testBit i).toNat * 2 ^ i := by
  rw [low_bits]; omega
theorem shr_end {a : Nat} (ha : a < 115792089237316195423570985008687907853269984665640564039457584007913129639936) {m i : Nat} (h : 256 ≤ i + m) : a / 2 ^ m % 2 ^ i = a / 2 ^ m := by
  apply Nat.mod_eq_of_lt
  apply Nat.div_lt_of_lt_mul
  rw [← Nat.pow_add]
  have h1 : (2 : Nat) ^ 256 ≤ 2 ^ (m + i) := Nat.pow_le_pow_right (by decide) (by omega)
  have h2 : (2 : Nat) ^ 256 = 115792089237316195423570985008687907853269984665640564039457584007913129639936 := by decide
  omega
theorem shr_test (a m i : Nat) : a.testBit (i + m) = (a / 2 ^ m).testBit i := by rw [Nat.testBit_div_two_pow]
theorem blen_sh {a k : Nat} (h : 2 ^ k ≤ a) : blen a = k + blen (a / 2 ^ k) := by
  have hp : 0 < 2 ^ k := Nat.pow_pos (by decide)
  have h1 : 1 ≤ a / 2 ^ k := (Nat.one_le_div_iff hp).2 h
  have h0 : a / 2 ^ k ≠ 0 := by omega
  have e : blen (a / 2 ^ k) = (a / 2 ^ k).log2 + 1 := by unfold blen; rw [if_neg h0]
  rw [e]
  rw [show k + ((a / 2 ^ k).log2 + 1) = k + (a / 2 ^ k).log2 + 1 by omega]
  apply blen_eq
  · have h2 := Nat.lt_log2_self (n := a / 2 ^ k)
    have h3 := Nat.mul_lt_mul_of_pos_left h2 hp
    rw [Nat.add_assoc, Nat.pow_add]
    have h4 := Nat.mod_add_div a (2 ^ k)
    have h5 := Nat.mod_lt a hp
    have h6 : 2 ^ k * (a / 2 ^ k) + 2 ^ k ≤ 2 ^ k * 2 ^ ((a / 2 ^ k).log2 + 1) := by
      rw [← Nat.mul_succ]; exact Nat.mul_le_mul_left _ h2
    omega
  · have h2 := Nat.log2_self_le h0
    rw [Nat.pow_add]
    exact Nat.le_trans (Nat.mul_le_mul_left _ h2) (Nat.mul_div_le a (2 ^ k))
theorem blen_32 {a : Nat} (h : 4294967296 ≤ a) : blen a = 32 + blen (a / 4294967296) := blen_sh (k := 32) h
theorem blen_16 {a : Nat} (h : 65536 ≤ a) : blen a = 16 + blen (a / 65536) := blen_sh (k := 16) h
theorem blen_8 {a : Nat} (h : 256 ≤ a) : blen a = 8 + blen (a / 256) := blen_sh (k := 8) h
theorem blen_w1 {a : Nat} (h : 18446744073709551616 ≤ a) : blen a = 64 + blen (a / 18446744073709551616) := blen_sh (k := 64) h
theorem blen_w2 {a : Nat} (h : 340282366920938463463374607431768211456 ≤ a) : blen a = 128 + blen (a / 340282366920938463463374607431768211456) := blen_sh (k := 128) h
theorem blen_w3 {a : Nat} (h : 6277101735386680763835789423207666416102355444464034512896 ≤ a) : blen a = 192 + blen (a / 6277101735386680763835789423207666416102355444464034512896) := blen_sh (k := 192) h
theorem blen_64 {a : Nat} (h : a < 18446744073709551616) : blen a ≤ 64 := by
  by_cases h0 : a = 0
  · subst h0; decide
  · have h1 : blen a = a.log2 + 1 := by unfold blen; rw [if_neg h0]
    have h2 := (Nat.log2_lt h0 (k := 64)).2 h
    omega
theorem val_ul (z : Int) (h0 : 0 ≤ z) (h1 : z < 18446744073709551616) : Value.int .u64 z = Value.int .u64 ((z.toNat % 18446744073709551616 : Nat) : Int) := by
  congr 1; omega
def by32 (n : Nat) : List UInt8 := (List.range 32).map fun j => UInt8.ofNat (n / 2 ^ (8 * (31 - j)))
def hl (n : Nat) : List PV := (by32 n).map bv
def h32 (n : Nat) : PV := .agg (hl n)
theorem len_by32 (n : Nat) : (by32 n).length = 32 := by simp [by32]
theorem closedL_hl (n : Nat) : closedL (hl n) = true := closedL_bv _
theorem closed_h32 (n : Nat) : closed (h32 n) = true := closedL_hl n
theorem hl_get {n i : Nat} (h : i < 32) (d : PV) : (hl n).getD i d = bv (UInt8.ofNat (n / 2 ^ (8 * (31 - i)))) := by
  simp [hl, by32, List.getD_eq_getElem?_getD, h]
def topN (n i : Nat) : Nat := n / 2 ^ (8 * (32 - i)) * 2 ^ (8 * (32 - i))
theorem topN_zero {n : Nat} (h : n < 115792089237316195423570985008687907853269984665640564039457584007913129639936) : topN n 0 = 0 := by
  unfold topN
  have e : (2 : Nat) ^ (8 * (32 - 0)) = 115792089237316195423570985008687907853269984665640564039457584007913129639936 := by decide
  rw [e, Nat.div_eq_of_lt h, Nat.zero_mul]
theorem topN_all (n : Nat) : topN n 32 = n := by unfold topN; simp
theorem topN_le (n i : Nat) : topN n i ≤ n := Nat.div_mul_le_self _ _
theorem topN_step {n i : Nat} (h : i < 32) : topN n (i + 1) = topN n i + n / 2 ^ (8 * (31 - i)) % 256 * 2 ^ (8 * (31 - i)) := by
  unfold topN
  have e1 : 8 * (32 - i) = 8 * (31 - i) + 8 := by omega
  have e2 : 8 * (32 - (i + 1)) = 8 * (31 - i) := by omega
  rw [e1, e2, Nat.pow_add, ← Nat.div_div_eq_div_mul]
  have e8 : (2 : Nat) ^ 8 = 256 := by decide
  rw [e8]
  generalize n / 2 ^ (8 * (31 - i)) = x
  generalize 2 ^ (8 * (31 - i)) = y
  rw [Nat.mul_comm y 256, ← Nat.mul_assoc, ← Nat.add_mul]
  congr 1
  omega
theorem topN_mod (n i : Nat) : topN n i % 2 ^ (8 * (32 - i)) = 0 := Nat.mul_mod_left ..
theorem or_byte {y b s : Nat} (hb : b < 256) (h : y % 2 ^ (s + 8) = 0) : y ||| b * 2 ^ s = y + b * 2 ^ s := by
  have hy : y = 2 ^ (s + 8) * (y / 2 ^ (s + 8)) := by have := Nat.mod_add_div y (2 ^ (s + 8)); omega
  have hlt : b * 2 ^ s < 2 ^ (s + 8) := by
    rw [Nat.pow_add, Nat.mul_comm (2 ^ s)]
    exact Nat.mul_lt_mul_of_pos_right (by omega) (Nat.pow_pos (by decide))
  rw [hy]
  exact (Nat.two_pow_add_eq_or_of_lt hlt _).symm
theorem byte_set {o b p : Nat} (hp : p < 32) (hb : b < 256) (ho : o < 115792089237316195423570985008687907853269984665640564039457584007913129639936) (hm : o % 2 ^ (8 * (p + 1)) = 0) : (cl 4 o).set (p / 8) (ul (o / 2 ^ (64 * (p / 8)) ||| b * 2 ^ (8 * (p % 8)))) = cl 4 (o + b * 2 ^ (8 * p)) := by
  have e1 : 2 ^ (8 * p) = 2 ^ (64 * (p / 8)) * 2 ^ (8 * (p % 8)) := by rw [← Nat.pow_add]; congr 1; omega
  have e2 : 2 ^ (8 * (p + 1)) = 2 ^ (64 * (p / 8)) * 2 ^ (8 * (p % 8) + 8) := by rw [← Nat.pow_add]; congr 1; omega
  have hp0 : 0 < 2 ^ (64 * (p / 8)) := Nat.pow_pos (by decide)
  rw [e2, Nat.mod_mul] at hm
  have hy : o / 2 ^ (64 * (p / 8)) % 2 ^ (8 * (p % 8) + 8) = 0 := by
    rcases Nat.mul_eq_zero.1 (show 2 ^ (64 * (p / 8)) * (o / 2 ^ (64 * (p / 8)) % 2 ^ (8 * (p % 8) + 8)) = 0 by omega) with h | h
    · omega
    · exact h
  have hlow : o % 2 ^ (64 * (p / 8)) = 0 := by omega
  have hfit : o / 2 ^ (64 * (p / 8)) % 18446744073709551616 + b * 2 ^ (8 * (p % 8)) < 18446744073709551616 := by
    have hd : (2 : Nat) ^ 64 = 2 ^ (8 * (p % 8) + 8) * 2 ^ (56 - 8 * (p % 8)) := by rw [← Nat.pow_add]; congr 1; omega
    have hW : (2 : Nat) ^ 64 = 18446744073709551616 := by decide
    have h3 : o / 2 ^ (64 * (p / 8)) % 18446744073709551616 % 2 ^ (8 * (p % 8) + 8) = 0 := by rw [← hW, hd, Nat.mod_mul_right_mod, hy]
    have hlt : o / 2 ^ (64 * (p / 8)) % 18446744073709551616 < 18446744073709551616 := Nat.mod_lt _ (by decide)
    generalize o / 2 ^ (64 * (p / 8)) % 18446744073709551616 = y at *
    have hbl : b * 2 ^ (8 * (p % 8)) < 2 ^ (8 * (p % 8) + 8) := by
      rw [Nat.pow_add, Nat.mul_comm (2 ^ (8 * (p % 8)))]
      exact Nat.mul_lt_mul_of_pos_right (by omega) (Nat.pow_pos (by decide))
    rw [← hW, hd] at hlt ⊢
    generalize 2 ^ (8 * (p % 8) + 8) = T at *
    generalize 2 ^ (56 - 8 * (p % 8)) = c at *
    have hyT : y = T * (y / T) := by have := Nat.mod_add_div y T; omega
    have h4 : y / T < c := Nat.div_lt_of_lt_mul hlt
    have h5 : T * (y / T + 1) ≤ T * c := Nat.mul_le_mul_left _ h4
    rw [Nat.mul_add, Nat.mul_one] at h5
    omega
  have hz : b * 2 ^ (8 * p) = b * 2 ^ (8 * (p % 8)) * 2 ^ (64 * (p / 8)) := by rw [e1, Nat.mul_comm (2 ^ (64 * (p / 8))), ← Nat.mul_assoc]
  rw [or_byte hb hy, hz]
  clear hz hy hm e1 e2
  generalize b * 2 ^ (8 * (p % 8)) = z at *
  have hc : p / 8 = 0 ∨ p / 8 = 1 ∨ p / 8 = 2 ∨ p / 8 = 3 := by omega
  rcases hc with h | h | h | h
  · rw [h] at hfit hlow ⊢
    simp only [Nat.reduceMul, Nat.reducePow, Nat.div_one] at hfit hlow ⊢
    rw [cl4 o]
    exact list4 (by omega)
  · rw [h] at hfit hlow ⊢
    simp only [Nat.reduceMul, Nat.reducePow] at hfit hlow ⊢
    rw [cl4 o]
    exact list4 (by omega)
  · rw [h] at hfit hlow ⊢
    simp only [Nat.reduceMul, Nat.reducePow] at hfit hlow ⊢
    rw [cl4 o]
    exact list4 (by omega)
  · rw [h] at hfit hlow ⊢
    simp only [Nat.reduceMul, Nat.reducePow] at hfit hlow ⊢
    rw [cl4 o]
    exact list4 (by omega)
end Go.Ab
namespace Go.Ab
open Go Go.RowKit
set_option linter.unusedVariables false
def mP (a b i : Nat) : Nat := a % 2 ^ (64 * i) * b
def mc (a b i j : Nat) : Nat := (mP a b i + a / 2 ^ (64 * i) % 2 ^ 64 * (b % 2 ^ (64 * j)) * 2 ^ (64 * i)) / 2 ^ (64 * (i + j)) - mP a b i / 2 ^ (64 * (i + j))
theorem mz (a b : Nat) : mP a b 0 = 0 := by simp [mP, Nat.mod_one]
theorem mc_zero (a b i : Nat) : mc a b i 0 = 0 := by simp [mc, Nat.mod_one]
theorem mc_lt (a b i j : Nat) : mc a b i j < 2 ^ 64 := by
  unfold mc
  have hx : a / 2 ^ (64 * i) % 2 ^ 64 ≤ 2 ^ 64 - 1 := by have := Nat.mod_lt (a / 2 ^ (64 * i)) (show 0 < 2 ^ 64 by decide); omega
  have hb : b % 2 ^ (64 * j) < 2 ^ (64 * j) := Nat.mod_lt _ (Nat.pow_pos (by decide))
  have hk : 2 ^ (64 * (i + j)) = 2 ^ (64 * j) * 2 ^ (64 * i) := by rw [← Nat.pow_add]; congr 1; omega
  have hp : 0 < 2 ^ (64 * (i + j)) := Nat.pow_pos (by decide)
  have h1 : a / 2 ^ (64 * i) % 2 ^ 64 * (b % 2 ^ (64 * j)) * 2 ^ (64 * i) ≤ (2 ^ 64 - 1) * 2 ^ (64 * (i + j)) := by
    rw [hk, ← Nat.mul_assoc]
    exact Nat.mul_le_mul_right _ (Nat.mul_le_mul hx (Nat.le_of_lt hb))
  have h2 : (mP a b i + a / 2 ^ (64 * i) % 2 ^ 64 * (b % 2 ^ (64 * j)) * 2 ^ (64 * i)) / 2 ^ (64 * (i + j)) ≤ mP a b i / 2 ^ (64 * (i + j)) + (2 ^ 64 - 1) := by
    rw [← Nat.add_mul_div_right _ _ hp]
    exact Nat.div_le_div_right (Nat.add_le_add_left h1 _)
  omega
theorem m_step (a b i j : Nat) : mP a b (i + 1) / 2 ^ (64 * (i + j)) % 2 ^ 64 = (a / 2 ^ (64 * i) % 2 ^ 64 * (b / 2 ^ (64 * j) % 2 ^ 64) + mP a b i / 2 ^ (64 * (i + j)) % 2 ^ 64 + mc a b i j) % 2 ^ 64 ∧
    mc a b i (j + 1) = (a / 2 ^ (64 * i) % 2 ^ 64 * (b / 2 ^ (64 * j) % 2 ^ 64) + mP a b i / 2 ^ (64 * (i + j)) % 2 ^ 64 + mc a b i j) / 2 ^ 64 := by
  have hI : 0 < 2 ^ (64 * i) := Nat.pow_pos (by decide)
  have hB : 0 < 2 ^ (64 * j) := Nat.pow_pos (by decide)
  have hk : 2 ^ (64 * (i + j)) = 2 ^ (64 * i) * 2 ^ (64 * j) := by rw [← Nat.pow_add]; congr 1; omega
  have hk1 : 2 ^ (64 * (i + (j + 1))) = 2 ^ (64 * i) * 2 ^ (64 * j) * 2 ^ 64 := by rw [← Nat.pow_add, ← Nat.pow_add]; congr 1; omega
  have hi1 : 2 ^ (64 * (i + 1)) = 2 ^ (64 * i) * 2 ^ 64 := by rw [← Nat.pow_add]; congr 1
  have hj1 : 2 ^ (64 * (j + 1)) = 2 ^ (64 * j) * 2 ^ 64 := by rw [← Nat.pow_add]; congr 1
  unfold mc
  rw [hk1, hk, hj1]
  have hm : mP a b (i + 1) = mP a b i + 2 ^ (64 * i) * (a / 2 ^ (64 * i) % 2 ^ 64) * b := by
    unfold mP
    rw [hi1, Nat.mod_mul, Nat.add_mul]
  rw [hm]
  generalize mP a b i = P
  generalize 2 ^ (64 * i) = I at *
  generalize a / I % 2 ^ 64 = x
  have hbm : b % (2 ^ (64 * j) * 2 ^ 64) = b % 2 ^ (64 * j) + 2 ^ (64 * j) * (b / 2 ^ (64 * j) % 2 ^ 64) := Nat.mod_mul
  have hbb : b = b % (2 ^ (64 * j) * 2 ^ 64) + 2 ^ (64 * j) * 2 ^ 64 * (b / (2 ^ (64 * j) * 2 ^ 64)) := (Nat.mod_add_div _ _).symm
  rw [hbm]
  have hbb' : b = b % 2 ^ (64 * j) + 2 ^ (64 * j) * (b / 2 ^ (64 * j) % 2 ^ 64) + 2 ^ (64 * j) * 2 ^ 64 * (b / (2 ^ (64 * j) * 2 ^ 64)) := by rw [← hbm]; exact hbb
  generalize b / 2 ^ (64 * j) % 2 ^ 64 = y at *
  generalize b / (2 ^ (64 * j) * 2 ^ 64) = bh at *
  have hxb : I * x * b = x * (b % 2 ^ (64 * j)) * I + x * y * (I * 2 ^ (64 * j)) + x * bh * (I * 2 ^ (64 * j) * 2 ^ 64) := by
    conv => lhs; rw [hbb']
    simp only [Nat.mul_add, Nat.mul_comm, Nat.mul_left_comm, Nat.mul_assoc, Nat.add_assoc]
  have hT1 : x * (b % 2 ^ (64 * j) + 2 ^ (64 * j) * y) * I = x * (b % 2 ^ (64 * j)) * I + x * y * (I * 2 ^ (64 * j)) := by
    simp only [Nat.mul_add, Nat.mul_comm, Nat.mul_left_comm, Nat.mul_assoc]
  rw [hxb, hT1]
  generalize x * (b % 2 ^ (64 * j)) * I = z
  have hK : 0 < I * 2 ^ (64 * j) := Nat.mul_pos hI hB
  generalize I * 2 ^ (64 * j) = K at *
  generalize x * y = s
  generalize x * bh = u
  have e1 : (P + (z + s * K + u * (K * 2 ^ 64))) / K = (P + z) / K + s + u * 2 ^ 64 := by
    rw [show P + (z + s * K + u * (K * 2 ^ 64)) = P + z + (s + u * 2 ^ 64) * K by simp only [Nat.mul_add, Nat.mul_comm, Nat.mul_left_comm, Nat.add_assoc], Nat.add_mul_div_right _ _ hK, Nat.add_assoc]
  have e2 : (P + (z + s * K)) / (K * 2 ^ 64) = ((P + z) / K + s) / 2 ^ 64 := by
    rw [← Nat.div_div_eq_div_mul, show P + (z + s * K) = P + z + s * K by omega, Nat.add_mul_div_right _ _ hK]
  have e3 : P / (K * 2 ^ 64) = P / K / 2 ^ 64 := (Nat.div_div_eq_div_mul _ _ _).symm
  have e4 : P / K ≤ (P + z) / K := Nat.div_le_div_right (Nat.le_add_right _ _)
  rw [e1, e2, e3]
  generalize (P + z) / K = t at *
  generalize P / K = p at *
  refine ⟨?_, ?_⟩ <;> omega
theorem m_word (a b i k : Nat) (h : k ≤ i) : mP a b (i + 1) / 2 ^ (64 * k) % 2 ^ 64 = a * b / 2 ^ (64 * k) % 2 ^ 64 := by
  unfold mP
  have e : a = a % 2 ^ (64 * (i + 1)) + 2 ^ (64 * (i + 1)) * (a / 2 ^ (64 * (i + 1))) := (Nat.mod_add_div _ _).symm
  have hk : 2 ^ (64 * (i + 1)) = 2 ^ (64 * k) * (2 ^ 64 * 2 ^ (64 * (i - k))) := by rw [← Nat.pow_add, ← Nat.pow_add]; congr 1; omega
  conv => rhs; rw [e]
  rw [Nat.add_mul]
  generalize a % 2 ^ (64 * (i + 1)) * b = q
  rw [hk, show 2 ^ (64 * k) * (2 ^ 64 * 2 ^ (64 * (i - k))) * (a / (2 ^ (64 * k) * (2 ^ 64 * 2 ^ (64 * (i - k))))) * b = 2 ^ (64 * k) * (2 ^ 64 * (2 ^ (64 * (i - k)) * (a / (2 ^ (64 * k) * (2 ^ 64 * 2 ^ (64 * (i - k)))) * b))) by simp only [Nat.mul_assoc],
    Nat.add_mul_div_left _ _ (Nat.pow_pos (by decide)), Nat.add_mul_mod_self_left]
theorem m_top (a b i : Nat) (hb : b < 2 ^ 256) : mc a b i 4 = mP a b (i + 1) / 2 ^ (64 * (i + 4)) := by
  have h := m_step a b i 3
  have hlt : mP a b i < 2 ^ (64 * (i + 4)) := by
    unfold mP
    rw [show 2 ^ (64 * (i + 4)) = 2 ^ (64 * i) * 2 ^ 256 by rw [← Nat.pow_add]; congr 1]
    exact Nat.mul_lt_mul'' (Nat.mod_lt _ (Nat.pow_pos (by decide))) hb
  unfold mc
  rw [Nat.div_eq_of_lt hlt, Nat.sub_zero]
  congr 1
  unfold mP
  rw [show 2 ^ (64 * (i + 1)) = 2 ^ (64 * i) * 2 ^ 64 by rw [← Nat.pow_add]; congr 1, Nat.mod_mul, Nat.add_mul, show b % 2 ^ (64 * 4) = b from Nat.mod_eq_of_lt hb]
  congr 1
  simp only [Nat.mul_comm, Nat.mul_left_comm]
theorem m_topw {a b : Nat} (i : Nat) (hi : 1 ≤ i) (hb : b < 2 ^ 256) : mc a b (i - 1) 4 % 2 ^ 64 = mP a b i / 2 ^ (64 * (i + 3)) % 2 ^ 64 := by
  obtain ⟨k, rfl⟩ : ∃ k, i = k + 1 := ⟨i - 1, by omega⟩
  rw [Nat.add_sub_cancel, m_top a b k hb, Nat.add_assoc k 1 3]
theorem m_all (a b : Nat) (ha : a < 2 ^ 256) : mP a b 4 = a * b := by
  unfold mP
  rw [show 2 ^ (64 * 4) = 2 ^ 256 from rfl, Nat.mod_eq_of_lt ha]
end Go.Ab
namespace Go.Ab
open Go Go.RowKit
theorem mul64_x {a b : Nat} (la : a < 2 ^ 64) (lb : b < 2 ^ 64) :
    (a / 4294967296 * (b / 4294967296) + (a / 4294967296 * (b % 4294967296) + a % 4294967296 * (b % 4294967296) % 2 ^ 64 / 4294967296) % 2 ^ 64 / 4294967296 +
      ((a / 4294967296 * (b % 4294967296) + a % 4294967296 * (b % 4294967296) % 2 ^ 64 / 4294967296) % 4294967296 + a % 4294967296 * (b / 4294967296)) % 2 ^ 64 / 4294967296) % 18446744073709551616 = a * b / 2 ^ 64 % 18446744073709551616 := by
  have h := mul64_hi (a := a) (b := b) la lb
  have h1 : a / 4294967296 * (b % 4294967296) ≤ 4294967295 * 4294967295 := Nat.mul_le_mul (by omega) (by omega)
  have h2 : a % 4294967296 * (b % 4294967296) ≤ 4294967295 * 4294967295 := Nat.mul_le_mul (by omega) (by omega)
  have h3 : a % 4294967296 * (b / 4294967296) ≤ 4294967295 * 4294967295 := Nat.mul_le_mul (by omega) (by omega)
  rw [show (2 : Nat) ^ 64 = 18446744073709551616 from rfl, ← h]
  generalize a / 4294967296 * (b % 4294967296) = x at *
  generalize a % 4294967296 * (b % 4294967296) = y at *
  generalize a % 4294967296 * (b / 4294967296) = z at *
  congr 1
  omega
end Go.Ab
namespace Go.Ab
open Go Go.RowKit
theorem blen_b {x : Nat} (h : x < 256) : blen x ≤ 8 := by
  have h0 : blen 255 = 8 := by decide +kernel
  by_cases hx : x = 0
  · subst hx; decide
  · have h1 := blen_lt x
    have h2 : 2 ^ (blen x - 1) ≤ x := by
      unfold blen
      rw [if_neg hx, Nat.add_sub_cancel]
      exact Nat.log2_self_le hx
    by_cases h3 : blen x ≤ 8
    · exact h3
    · have : 2 ^ 8 ≤ 2 ^ (blen x - 1) := Nat.pow_le_pow_right (by decide) (by omega)
      omega
theorem cv_blen {x : Nat} (h : x < 256) : cn .i64 (bv (UInt8.ofNat (blen x))) = ln (blen x) := by
  have := blen_b h
  rw [cv_bi]
  exact ln_eq (by rw [UInt8.toNat_ofNat']; omega)
theorem idx_len {tab : ByteArray} (ht : ∀ i : _root_.Fin 256, tab.data.toList.getD i.val 0 = UInt8.ofNat (blen i.val)) {x : Nat} (h : x < 256) : bv (tab.data.toList.getD (((UInt8.ofNat x).toNat : Nat) : Int).toNat 0) = bv (UInt8.ofNat (blen x)) := by
  have := ht ⟨x, h⟩
  simp only at this
  rw [Int.toNat_natCast, UInt8.toNat_ofNat', Nat.mod_eq_of_lt h, this]
theorem idx_pre {tab : ByteArray} (hs : tab.size = 256) (x : Nat) : 0 ≤ (((UInt8.ofNat x).toNat : Nat) : Int) ∧ (((UInt8.ofNat x).toNat : Nat) : Int) < (tab.size : Int) := by
  have := (UInt8.ofNat x).toNat_lt
  rw [hs]; omega
end Go.Ab
namespace Go.Ab
open Go Go.RowKit
set_option linter.unusedVariables false
def dd (lo v m : Nat) : Nat := lo / 2 ^ (64 * v) % 2 ^ 64 / 2 ^ m % 2
theorem DivInv.ltM {v U N b q r lo : Nat} (hv : v < 4) (hU : U ≤ 64) (h : DivInv (2 ^ (64 * v) * 2 ^ U) N b q r lo) : lo < 2 ^ 256 := by
  refine Nat.lt_of_lt_of_le h.ll ?_
  rw [← Nat.pow_add]
  exact Nat.pow_le_pow_right (by decide) (by omega)
theorem dstep {v U N b q r lo : Nat} (hv : v < 4) (hU : 1 ≤ U) (hU2 : U ≤ 64) (h : DivInv (2 ^ (64 * v) * 2 ^ U) N b q r lo) :
    dd lo v (U - 1) ≤ 1 ∧ (cl 4 lo).set v (ul (lo / 2 ^ (64 * v) ^^^ dd lo v (U - 1) * 2 ^ (U - 1))) = cl 4 (lo % (2 ^ (64 * v) * 2 ^ (U - 1))) ∧ (cl 4 q).set v (ul (q / 2 ^ (64 * v) ||| 1 * 2 ^ (U - 1))) = cl 4 (q + 2 ^ (64 * v) * 2 ^ (U - 1)) ∧
      (2 * r + dd lo v (U - 1) < b → DivInv (2 ^ (64 * v) * 2 ^ (U - 1)) N b q (2 * r + dd lo v (U - 1)) (lo % (2 ^ (64 * v) * 2 ^ (U - 1)))) ∧ (b ≤ 2 * r + dd lo v (U - 1) → DivInv (2 ^ (64 * v) * 2 ^ (U - 1)) N b (q + 2 ^ (64 * v) * 2 ^ (U - 1)) (2 * r + dd lo v (U - 1) - b) (lo % (2 ^ (64 * v) * 2 ^ (U - 1)))) := by
  obtain ⟨m, rfl⟩ : ∃ m, U = m + 1 := ⟨U - 1, by omega⟩
  simp only [Nat.add_sub_cancel, Nat.one_mul]
  have hm : m < 64 := by omega
  have e1 : 2 ^ (64 * v) * 2 ^ (m + 1) = 2 ^ (64 * v) * (2 * 2 ^ m) := by rw [Nat.pow_succ, Nat.mul_comm (2 ^ m)]
  have e2 : 2 ^ (64 * v) * 2 ^ (m + 1) = 2 * (2 ^ (64 * v) * 2 ^ m) := by rw [e1, Nat.mul_left_comm]
  have hl : lo < 2 ^ (64 * v) * (2 * 2 ^ m) := by rw [← e1]; exact h.ll
  have hq : q % (2 ^ (64 * v) * (2 * 2 ^ m)) = 0 := by rw [← e1]; exact h.lq
  have hlt := h.qlt
  rw [e2] at h
  have hD : 0 < 2 ^ (64 * v) := Nat.pow_pos (by decide)
  have hs : 0 < 2 ^ (64 * v) * 2 ^ m := Nat.mul_pos hD (Nat.pow_pos (by decide))
  obtain ⟨h1, h2, h3, h4, h5, h6, h7⟩ := bit_facts hD hm hl
  have hd : dd lo v m = lo / (2 ^ (64 * v) * 2 ^ m) := h1
  rw [hd]
  refine ⟨h2, ?_, ?_, h.low h7 (Nat.mod_lt _ hs) hs, h.high h7 (Nat.mod_lt _ hs) hs h2⟩
  · rw [cl4 lo]
    rcases v with _ | _ | _ | _ | v
    · simpa using div_row0 hm hl
    · exact div_row1 hm hl
    · exact div_row2 hm hl
    · exact div_row3 hm hl
    · omega
  · rw [cl4 q]
    rcases v with _ | _ | _ | _ | v
    · simpa using div_quo0 hm hq hlt
    · exact div_quo1 hm hq hlt
    · exact div_quo2 hm hq hlt
    · exact div_quo3 hm hq hlt
    · omega
theorem DivInv.next {v N b q r lo : Nat} (hv : 1 ≤ v) (h : DivInv (2 ^ (64 * v)) N b q r lo) : DivInv (2 ^ (64 * (v - 1)) * 2 ^ 64) N b q r lo := by
  rw [← Nat.pow_add, show 64 * (v - 1) + 64 = 64 * v by omega]; exact h
theorem DivInv.zero {v N b q r lo : Nat} (h : DivInv (2 ^ (64 * v) * 2 ^ 0) N b q r lo) : DivInv (2 ^ (64 * v)) N b q r lo := by
  rwa [Nat.pow_zero, Nat.mul_one] at h
theorem DivInv.early' {S N b q r lo : Nat} (h : DivInv S N b q r lo) (hr : r = 0) (hl : lo = 0) : N / b = q ∧ N % b = r := by
  subst hr hl; exact DivInv.early h
theorem DivInv.done' {V N b q r lo : Nat} (h : DivInv (2 ^ (64 * V)) N b q r lo) (hV : V = 0) : N / b = q ∧ N % b = r := by
  subst hV; exact DivInv.done h
theorem DivInv.zero' {v U N b q r lo : Nat} (h : DivInv (2 ^ (64 * v) * 2 ^ U) N b q r lo) (hU : U = 0) : DivInv (2 ^ (64 * v)) N b q r lo := by
  subst hU; exact DivInv.zero h
theorem div_res {h l b q r : Nat} (hlt : h < b) (e : (h * 2 ^ 256 + l) / b = q ∧ (h * 2 ^ 256 + l) % b = r) : PV.tup [u4 q, u4 r, lB true] = .tup [u4 (if b ≤ h then 0 else (h * 2 ^ 256 + l) / b), u4 (if b ≤ h then 0 else (h * 2 ^ 256 + l) % b), lB (decide (h < b))] := by
  rw [if_neg (by omega), if_neg (by omega), e.1, e.2, decide_eq_true hlt]
theorem div_bad {h l b : Nat} (hle : b ≤ h) : PV.tup [u4 0, u4 0, lB false] = .tup [u4 (if b ≤ h then 0 else (h * 2 ^ 256 + l) / b), u4 (if b ≤ h then 0 else (h * 2 ^ 256 + l) % b), lB (decide (h < b))] := by
  rw [if_pos hle, if_pos hle, decide_eq_false (by omega)]
theorem DivInv.start' {hi lo b : Nat} (h : hi < b) (hl : lo < 2 ^ 256) : DivInv (2 ^ (64 * 4)) (hi * 2 ^ 256 + lo) b 0 hi lo := DivInv.start h hl
end Go.Ab
namespace Go.Ab
open Go Go.RowKit
set_option linter.unusedVariables false
theorem rem0_l {m x : Nat} (hm : m < 2 ^ 256) : rem0 x m < 2 ^ 256 := rem0_lt hm x
theorem div0_eq {l b : Nat} : PV.tup [u4 (if b ≤ 0 then 0 else (0 * 2 ^ 256 + l) / b), u4 (if b ≤ 0 then 0 else (0 * 2 ^ 256 + l) % b), lB (decide (0 < b))] = .tup [u4 (l / b), u4 (rem0 l b), lB (decide (0 < b))] := by
  by_cases hb : b = 0
  · subst hb; simp [rem0]
  · rw [if_neg (by omega), if_neg (by omega), Nat.zero_mul, Nat.zero_add, rem0_pos hb]
theorem red1 {h l m : Nat} (hlt : h < m) : (if m ≤ h then 0 else (h * 2 ^ 256 + l) % m) = rem0 (h * 2 ^ 256 + l) m := by
  rw [if_neg (by omega), rem0_pos (by omega)]
theorem red2 {h l m : Nat} : (if m ≤ rem0 h m then 0 else (rem0 h m * 2 ^ 256 + l) % m) = rem0 (h * 2 ^ 256 + l) m := by
  by_cases hm : m = 0
  · subst hm; simp [rem0]
  · rw [rem0_pos hm, rem0_pos hm, if_neg (by have := Nat.mod_lt h (show 0 < m by omega); omega)]
    exact mod_hi
theorem sub_eq1 {a b m : Nat} (lm : m < 2 ^ 256) (h : rem0 (0 * 2 ^ 256 + a) m < rem0 (0 * 2 ^ 256 + b) m) : u4 (rem0 (0 * 2 ^ 256 + a) m + 2 ^ 256 - rem0 (0 * 2 ^ 256 + b) m + m) = u4 (rem0 (a + (m - b % m)) m) := by
  by_cases hm : m = 0
  · subst hm; simp [rem0] at h
  · have h1 := Nat.mod_lt a (show 0 < m by omega)
    have h2 := Nat.mod_lt b (show 0 < m by omega)
    rw [sub_red hm]
    simp only [rem0_pos hm, Nat.zero_mul, Nat.zero_add] at h ⊢
    rw [if_pos h]
    exact u4_eq (by omega)
theorem sub_eq2 {a b m : Nat} (lm : m < 2 ^ 256) (h : ¬ rem0 (0 * 2 ^ 256 + a) m < rem0 (0 * 2 ^ 256 + b) m) : u4 (rem0 (0 * 2 ^ 256 + a) m + 2 ^ 256 - rem0 (0 * 2 ^ 256 + b) m) = u4 (rem0 (a + (m - b % m)) m) := by
  by_cases hm : m = 0
  · subst hm; simp only [rem0, if_true, Nat.zero_add, Nat.sub_zero]; exact u4_eq (by omega)
  · have h1 := Nat.mod_lt a (show 0 < m by omega)
    have h2 := Nat.mod_lt b (show 0 < m by omega)
    rw [sub_red hm]
    simp only [rem0_pos hm, Nat.zero_mul, Nat.zero_add] at h ⊢
    rw [if_neg h]
    exact u4_eq (by omega)
theorem radd0 {x m : Nat} (h : m = 0) : u4 m = u4 (rem0 x m) := by subst h; simp [rem0]
theorem radd1 {a b m : Nat} (lm : m < 2 ^ 256) (hm : ¬ m = 0) (h : m ≤ rem0 a m + rem0 b m) : u4 (rem0 a m + rem0 b m + 2 ^ 256 - m) = u4 (rem0 (a + b) m) := by
  rw [add_red hm]
  rw [rem0_pos hm, rem0_pos hm] at h ⊢
  rw [if_pos h]
  exact u4_eq (by omega)
theorem radd2 {a b m : Nat} (hm : ¬ m = 0) (h : rem0 a m + rem0 b m < m) : u4 (rem0 a m + rem0 b m) = u4 (rem0 (a + b) m) := by
  rw [add_red hm]
  rw [rem0_pos hm, rem0_pos hm] at h ⊢
  rw [if_neg (by omega)]
theorem rsub1 {a b m : Nat} (lm : m < 2 ^ 256) (h : rem0 a m < rem0 b m) : u4 (rem0 a m + 2 ^ 256 - rem0 b m + m) = u4 (rem0 (a + (m - b % m)) m) := by
  have := sub_eq1 (a := a) (b := b) lm (by simpa only [Nat.zero_mul, Nat.zero_add] using h)
  simpa only [Nat.zero_mul, Nat.zero_add] using this
theorem rsub2 {a b m : Nat} (lm : m < 2 ^ 256) (h : ¬ rem0 a m < rem0 b m) : u4 (rem0 a m + 2 ^ 256 - rem0 b m) = u4 (rem0 (a + (m - b % m)) m) := by
  have := sub_eq2 (a := a) (b := b) lm (by simpa only [Nat.zero_mul, Nat.zero_add] using h)
  simpa only [Nat.zero_mul, Nat.zero_add] using this
theorem rmul {a b m : Nat} (lm : m < 2 ^ 256) (hm : ¬ m = 0) : u4 (if m ≤ rem0 a m * rem0 b m / 2 ^ 256 then 0 else (rem0 a m * rem0 b m / 2 ^ 256 * 2 ^ 256 + rem0 a m * rem0 b m % 2 ^ 256) % m) = u4 (rem0 (a * b) m) := by
  rw [Nat.div_add_mod', ← rem0_mul, rem0_pos hm (rem0 a m * rem0 b m), if_neg]
  have h1 : rem0 a m < m := by rw [rem0_pos hm]; exact Nat.mod_lt _ (by omega)
  have h2 : rem0 b m < m := by rw [rem0_pos hm]; exact Nat.mod_lt _ (by omega)
  have h3 : rem0 a m * rem0 b m < m * 2 ^ 256 := Nat.lt_of_lt_of_le (Nat.mul_lt_mul'' h1 h2) (Nat.mul_le_mul_left m (by omega))
  rw [Nat.mul_comm m] at h3
  have := Nat.div_lt_of_lt_mul h3
  omega
theorem estep0 {a e m V : Nat} (hV : 1 ≤ V) (hb : Nat.testBit e (V - 1) = false) : rem0 (rem0 (a ^ (e / 2 ^ V)) m * rem0 (a ^ (e / 2 ^ V)) m) m = rem0 (a ^ (e / 2 ^ (V - 1))) m := by
  obtain ⟨k, rfl⟩ : ∃ k, V = k + 1 := ⟨V - 1, by omega⟩
  exact exp_step0 rfl hb
theorem estep1 {a e m V : Nat} (hV : 1 ≤ V) (hb : Nat.testBit e (V - 1) = true) : rem0 (rem0 (rem0 (a ^ (e / 2 ^ V)) m * rem0 (a ^ (e / 2 ^ V)) m) m * a) m = rem0 (a ^ (e / 2 ^ (V - 1))) m := by
  obtain ⟨k, rfl⟩ : ∃ k, V = k + 1 := ⟨V - 1, by omega⟩
  exact exp_step1 rfl hb
theorem edone {a e m V : Nat} (h : V = 0) : u4 (rem0 (a ^ (e / 2 ^ V)) m) = u4 (rem0 (a ^ e) m) := by
  subst h; rw [Nat.pow_zero, Nat.div_one]
theorem estart {a e m : Nat} : rem0 1 m = rem0 (a ^ (e / 2 ^ blen e)) m := exp_start (blen_lt e)
end Go.Ab
namespace Go.Ab
open Go Go.RowKit
set_option linter.unusedVariables false
theorem bit_eq (a i : Nat) : decide (a / 2 ^ (64 * (i / 64)) % 2 ^ 64 / 2 ^ (i % 64) % 2 = 1) = a.testBit i := by
  rw [show (2 : Nat) ^ 64 = 18446744073709551616 from rfl, bit_word, Nat.testBit_eq_decide_div_mod_eq]
theorem len_bit {a V : Nat} (hV : 1 ≤ V) (h : a < 2 ^ V) (hb : Nat.testBit a (V - 1) = true) : blen a = V := by
  obtain ⟨m, rfl⟩ : ∃ m, V = m + 1 := ⟨V - 1, by omega⟩
  exact blen_bit h hb
theorem len_low {a V : Nat} (hV : 1 ≤ V) (h : a < 2 ^ V) (hb : Nat.testBit a (V - 1) = false) : a < 2 ^ (V - 1) := by
  obtain ⟨m, rfl⟩ : ∃ m, V = m + 1 := ⟨V - 1, by omega⟩
  exact lt_bit h hb
theorem len_none {a V : Nat} (h : a < 2 ^ V) (hV : V = 0) : blen a = 0 := by
  subst hV
  rw [show a = 0 by omega]; rfl
def mV (a b i j k : Nat) : Nat := if k < i + j then mP a b (i + 1) / 2 ^ (64 * k) else if k < i + 4 then mP a b i / 2 ^ (64 * k) else 0
def mR (a b i j : Nat) : List PV := (List.range 8).map fun k => ul (mV a b i j k)
theorem set_range {f g : Nat → PV} {n k : Nat} {v : PV} (hk : g k = v) (h : ∀ i, i < n → i ≠ k → f i = g i) : ((List.range n).map f).set k v = (List.range n).map g := by
  apply List.ext_getElem (by simp)
  intro i h1 h2
  simp only [List.getElem_set, List.getElem_map, List.getElem_range]
  have hi : i < n := by simpa using h2
  split
  · rename_i e; rw [← e]; exact hk.symm
  · rename_i e; exact h i hi (fun e' => e e'.symm)
theorem mR_get {a b i j : Nat} (hi : i < 4) (hj : j < 4) (d : PV) : (mR a b i j).getD (i + j) d = ul (mP a b i / 2 ^ (64 * (i + j))) := by
  simp only [mR, mV, List.getD_eq_getElem?_getD, List.getElem?_map, List.getElem?_range (show i + j < 8 by omega), Option.map_some, Option.getD_some]
  rw [if_neg (by omega), if_pos (by omega)]
theorem mR_set {a b i j : Nat} (hi : i < 4) (hj : j < 4) : (mR a b i j).set (i + j) (ul (mP a b (i + 1) / 2 ^ (64 * (i + j)))) = mR a b i (j + 1) := by
  refine set_range ?_ fun k hk hne => ?_
  · unfold mV; rw [if_pos (by omega)]
  · unfold mV
    by_cases h : k < i + j
    · rw [if_pos h, if_pos (by omega)]
    · rw [if_neg h, if_neg (show ¬ k < i + (j + 1) by omega)]
theorem mR_next {a b i : Nat} (hi : i < 4) (hb : b < 2 ^ 256) : (mR a b i 4).set (i + 4) (ul (mc a b i 4)) = mR a b (i + 1) 0 := by
  refine set_range ?_ fun k hk hne => ?_
  · unfold mV; rw [if_neg (by omega), if_pos (by omega), m_top a b i hb]
  · unfold mV
    by_cases h : k < i + 4
    · rw [if_pos h]
      by_cases h2 : k < i + 1
      · rw [if_pos (by omega)]
        exact ul_eq ((m_word a b i k (by omega)).trans (m_word a b (i + 1) k (by omega)).symm)
      · rw [if_neg (by omega), if_pos (by omega)]
    · rw [if_neg h, if_neg (by omega), if_neg (by omega), if_neg (by omega)]
theorem mR_zero (a b : Nat) : [ul 0, ul 0, ul 0, ul 0, ul 0, ul 0, ul 0, ul 0] = mR a b 0 0 := by
  simp [mR, mV, mz, List.range, List.range.loop]
theorem mR_closed (a b i j : Nat) : closedL (mR a b i j) = true := by
  rw [closedL_iff]
  intro p hp
  simp only [mR, List.mem_map] at hp
  obtain ⟨k, _, rfl⟩ := hp
  rfl
theorem mR_end {a b i : Nat} (la : a < 2 ^ 256) (hi : i = 4) : PV.tup [.agg [ul (mV a b i 0 4), ul (mV a b i 0 5), ul (mV a b i 0 6), ul (mV a b i 0 7)], .agg [ul (mV a b i 0 0), ul (mV a b i 0 1), ul (mV a b i 0 2), ul (mV a b i 0 3)]] = .tup [u4 (a * b / 2 ^ 256), u4 (a * b)] := by
  subst hi
  have w0 := m_word a b 4 0 (by decide)
  have w1 := m_word a b 4 1 (by decide)
  have w2 := m_word a b 4 2 (by decide)
  have w3 := m_word a b 4 3 (by decide)
  have e1 : [mV a b 4 0 4, mV a b 4 0 5, mV a b 4 0 6, mV a b 4 0 7, mV a b 4 0 0, mV a b 4 0 1, mV a b 4 0 2, mV a b 4 0 3] = [mP a b 4 / 2 ^ 256, mP a b 4 / (2 ^ 256 * 2 ^ 64), mP a b 4 / (2 ^ 256 * 2 ^ 128), mP a b 4 / (2 ^ 256 * 2 ^ 192), mP a b 5 / 1, mP a b 5 / 2 ^ 64, mP a b 5 / 2 ^ 128, mP a b 5 / 2 ^ 192] := by kernel_rfl
  injection e1 with e4 e1
  injection e1 with e5 e1
  injection e1 with e6 e1
  injection e1 with e7 e1
  injection e1 with e0 e1
  injection e1 with e8 e1
  injection e1 with e9 e1
  injection e1 with ea e1
  rw [e4, e5, e6, e7, e0, e8, e9, ea, m_all a b la]
  simp only [Nat.mul_zero, Nat.pow_zero, Nat.reduceAdd, Nat.reduceMul] at w0 w1 w2 w3
  generalize mP a b 5 = x at *
  generalize a * b = q at *
  exact tup2 (agg4_eq (by omega)) (agg4_eq (by omega))
theorem ref_mul {a b i j x y w q v : Nat} (hx : x = a / 2 ^ (64 * i) % 2 ^ 64) (hy : y = b / 2 ^ (64 * j) % 2 ^ 64) (hq : q = x * y) (hw : w = mP a b i / 2 ^ (64 * (i + j))) (hv : v = mc a b i j) :
    mP a b (i + 1) / 2 ^ (64 * (i + j)) % 2 ^ 64 = (w + q + v) % 2 ^ 64 ∧ bn .add (bn .add (ul (q / 2 ^ 64)) (ul ((w % 2 ^ 64 + q % 2 ^ 64) / 2 ^ 64))) (ul (((w + q) % 2 ^ 64 + v % 2 ^ 64) / 2 ^ 64)) = ul (mc a b i (j + 1)) := by
  have h := m_step a b i j
  have hl := mc_lt a b i j
  rw [add_u, add_u, h.2]
  rw [← hx, ← hy, ← hq, ← hw, ← hv] at h
  rw [← hx, ← hy, ← hq, ← hw, ← hv]
  rw [← hv] at hl
  exact ⟨by omega, ul_eq (by omega)⟩
def tb (l m : Nat) : Nat := (l.testBit m).toNat
theorem tb_le (l m : Nat) : tb l m ≤ 1 := by unfold tb; cases l.testBit m <;> simp
theorem tb_t {l m : Nat} (h : Nat.testBit l m = true) : tb l m = 1 := by unfold tb; rw [h]; rfl
theorem tb_f {l m : Nat} (h : Nat.testBit l m = false) : tb l m = 0 := by unfold tb; rw [h]; rfl
theorem ref_div {N b q r l V : Nat} (hV : 1 ≤ V) (hV2 : V ≤ 256) (h : DivInv (2 ^ V) N b q r (l % 2 ^ V)) :
    (cl 4 q).set ((V - 1) / 64) (ul (q / 2 ^ (64 * ((V - 1) / 64)) ||| 1 * 2 ^ ((V - 1) % 64))) = cl 4 (q + 2 ^ (V - 1)) ∧
    (2 * r + tb l (V - 1) < b → DivInv (2 ^ (V - 1)) N b q (2 * r + tb l (V - 1)) (l % 2 ^ (V - 1))) ∧ (b ≤ 2 * r + tb l (V - 1) → DivInv (2 ^ (V - 1)) N b (q + 2 ^ (V - 1)) (2 * r + tb l (V - 1) - b) (l % 2 ^ (V - 1))) := by
  obtain ⟨m, rfl⟩ : ∃ m, V = m + 1 := ⟨V - 1, by omega⟩
  simp only [Nat.add_sub_cancel, Nat.one_mul]
  exact ⟨ref_quo (by omega) h.lq h.qlt, ref_step h rfl⟩
theorem ref_done {V N b q r l : Nat} (h : DivInv (2 ^ V) N b q r (l % 2 ^ V)) (hV : V = 0) : N / b = q ∧ N % b = r := by
  subst hV
  rw [Nat.pow_zero, Nat.mod_one] at h
  exact DivInv.done h
theorem low_one (r : Nat) : (cl 4 (r + r)).set 0 (ul (r + r ||| 1)) = cl 4 (2 * r + 1) := ref_low r
theorem div_startr {h l b : Nat} (hlt : h < b) (ll : l < 2 ^ 256) : DivInv (2 ^ 256) (h * 2 ^ 256 + l) b 0 h (l % 2 ^ 256) := by
  rw [Nat.mod_eq_of_lt ll]; exact DivInv.start hlt ll
theorem shr1 {a n i : Nat} (hi : i < 256) (hb : Nat.testBit a (i + n) = true) : (cl 4 (a / 2 ^ n % 2 ^ i)).set (i / 64) (ul (a / 2 ^ n % 2 ^ i / 2 ^ (64 * (i / 64)) ||| 1 * 2 ^ (i % 64))) = cl 4 (a / 2 ^ n % 2 ^ (i + 1)) := by
  rw [Nat.one_mul, ref_set hi (Nat.mod_lt _ (Nat.pow_pos (by decide))), shr_bits, ← shr_test, hb]
  simp
theorem shr0 {a n i : Nat} (hb : Nat.testBit a (i + n) = false) : cl 4 (a / 2 ^ n % 2 ^ i) = cl 4 (a / 2 ^ n % 2 ^ (i + 1)) := by
  rw [shr_bits, ← shr_test, hb]
  simp
theorem topN_set {n i : Nat} (hi : i < 32) (ln : n < 2 ^ 256) : (cl 4 (topN n i)).set ((31 - i) / 8) (ul (topN n i / 2 ^ (64 * ((31 - i) / 8)) ||| n / 2 ^ (8 * (31 - i)) % 256 * 2 ^ (8 * ((31 - i) % 8)))) = cl 4 (topN n (i + 1)) := by
  have h := byte_set (o := topN n i) (b := n / 2 ^ (8 * (31 - i)) % 256) (p := 31 - i) (by omega) (Nat.mod_lt _ (by decide)) (Nat.lt_of_le_of_lt (topN_le n i) ln) (by rw [show 31 - i + 1 = 32 - i by omega]; exact topN_mod n i)
  rw [h, topN_step hi]
theorem cv_bn {x : Nat} : cn .u64 (bv (UInt8.ofNat x)) = ul (x % 256) := by
  rw [cv_bu, UInt8.toNat_ofNat']
theorem idx_h {n i : Nat} (hi : i < 32) : (hl n).getD (((i : Nat) : Int).toNat * 1) (.lit (.int .u8 0)) = bv (UInt8.ofNat (n / 2 ^ (8 * (31 - i)))) := by
  rw [Int.toNat_natCast, Nat.mul_one]; exact hl_get hi _
theorem topN_end {n i : Nat} (hi : i ≤ 32) (h : ¬ i < 32) : u4 (topN n i) = u4 n := by
  rw [show i = 32 by omega, topN_all]
end Go.Ab
