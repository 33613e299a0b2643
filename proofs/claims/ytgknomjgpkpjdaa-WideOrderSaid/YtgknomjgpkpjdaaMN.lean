import Derived.Test.YtgknomjgpkpjdaaML
namespace Go.Ab
open Go Go.RowKit
set_option linter.unusedVariables false
variable {P : Program} {L : LH}
theorem neq_bv {t : TypeId} (a b : UInt8) : binF P .neq t (bv a) (bv b) L = ⟨True, .lit (.bool (decide (a.toNat ≠ b.toNat))), L⟩ := by
  simp only [bv, binF_neq, ne_eq, Int.ofNat_inj]
theorem lss_bv {t : TypeId} (a b : UInt8) : binF P .lss t (bv a) (bv b) L = ⟨True, .lit (.bool (decide (a.toNat < b.toNat))), L⟩ := by
  simp only [bv, binF_lss, Int.ofNat_lt]
theorem cmp_lt (a b : Nat) : (cmpN a b < 0) = (a < b) := by
  unfold cmpN
  apply propext
  split
  · simp [*]
  · split <;> simp [*]
theorem cmp_eq (a b : Nat) : (cmpN a b = 0) = (a = b) := by
  unfold cmpN
  apply propext
  split
  · constructor
    · intro h; cases h
    · intro h; omega
  · split <;> simp [*]
theorem cmp_neg (a b : Nat) : IntKind.i64.wrap (0 - cmpN b a) = cmpN a b := by
  have h : 0 - cmpN b a = cmpN a b := by
    unfold cmpN
    repeat' split
    all_goals omega
  rw [h, wrap_i64]
  · unfold cmpN; repeat' split
    all_goals omega
  · unfold cmpN; repeat' split
    all_goals omega
theorem ord_step {a b i : Nat} (hi : i < 32) (h : a / 2 ^ (8 * (32 - i)) = b / 2 ^ (8 * (32 - i))) (he : a / 2 ^ (8 * (31 - i)) % 256 = b / 2 ^ (8 * (31 - i)) % 256) : a / 2 ^ (8 * (32 - (i + 1))) = b / 2 ^ (8 * (32 - (i + 1))) := by
  have e1 : 8 * (32 - i) = 8 * (31 - i) + 8 := by omega
  have e2 : 8 * (32 - (i + 1)) = 8 * (31 - i) := by omega
  have e8 : (2 : Nat) ^ 8 = 256 := by decide
  rw [e1, Nat.pow_add, ← Nat.div_div_eq_div_mul, ← Nat.div_div_eq_div_mul, e8] at h
  rw [e2]
  omega
theorem ord_differ {a b i : Nat} (hi : i < 32) (h : a / 2 ^ (8 * (32 - i)) = b / 2 ^ (8 * (32 - i))) (hne : a / 2 ^ (8 * (31 - i)) % 256 ≠ b / 2 ^ (8 * (31 - i)) % 256) : (a / 2 ^ (8 * (31 - i)) % 256 < b / 2 ^ (8 * (31 - i)) % 256) = (a < b) := by
  have e1 : 8 * (32 - i) = 8 * (31 - i) + 8 := by omega
  have e8 : (2 : Nat) ^ 8 = 256 := by decide
  rw [e1, Nat.pow_add, ← Nat.div_div_eq_div_mul, ← Nat.div_div_eq_div_mul, e8] at h
  have hp : 0 < 2 ^ (8 * (31 - i)) := Nat.pow_pos (by decide)
  generalize 2 ^ (8 * (31 - i)) = y at *
  have ha := Nat.mod_add_div a y
  have hb := Nat.mod_add_div b y
  have la := Nat.mod_lt a hp
  have lb := Nat.mod_lt b hp
  apply propext
  constructor
  · intro hlt
    have h1 : a / y + 1 ≤ b / y := by omega
    have h2 := Nat.mul_le_mul_left y h1
    rw [Nat.mul_add, Nat.mul_one] at h2
    omega
  · intro hlt
    refine Decidable.byContradiction fun hc => ?_
    have h1 : b / y + 1 ≤ a / y := by omega
    have h2 := Nat.mul_le_mul_left y h1
    rw [Nat.mul_add, Nat.mul_one] at h2
    omega
end Go.Ab
