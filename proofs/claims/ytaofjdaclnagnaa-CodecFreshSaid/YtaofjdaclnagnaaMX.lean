import Derived.Test.YtaofjdaclnagnaaMW9
namespace Go.Ab
open Go Go.RowKit
set_option linter.unusedVariables false
end Go.Ab
namespace Go.Ab
open Go Go.RowKit
set_option linter.unusedVariables false
theorem blen_eq {a m : Nat} (h : a < 2 ^ (m + 1)) (h2 : 2 ^ m ≤ a) : blen a = m + 1 := by
  have hp : 0 < 2 ^ m := Nat.pow_pos (by decide)
  have h0 : a ≠ 0 := by omega
  unfold blen
  rw [if_neg h0]
  have h3 := (Nat.log2_lt h0).2 h
  have h4 := (Nat.le_log2 h0).2 h2
  omega
end Go.Ab
namespace Go.Ab
open Go Go.RowKit
set_option linter.unusedVariables false
end Go.Ab
namespace Go.Ab
open Go Go.RowKit
set_option linter.unusedVariables false
theorem idx_tab {P : Program} {L : LH} {t s b : Nat} {z : Value} {tab : ByteArray} (h : tyOf P t = some ⟨.string, s, b, z⟩) (hs : tab.size = 256) (ht : ∀ i : _root_.Fin 256, tab.data.toList.getD i.val 0 = UInt8.ofNat (blen i.val)) (x : UInt8) : indexF P t (.lit (.string tab)) (bv x) L = ⟨True, bv (UInt8.ofNat (blen x.toNat)), L⟩ := by
  have hx : x.toNat < 256 := x.toNat_lt
  have ht := ht ⟨x.toNat, hx⟩
  simp only [bv, indexF, h]
  have e1 : (0 ≤ (x.toNat : Int) ∧ (x.toNat : Int) < (tab.size : Int)) = True := by
    apply eq_true
    rw [hs]
    exact ⟨by omega, by omega⟩
  rw [e1, Int.toNat_natCast]
  congr 1
  exact congrArg bv ht
theorem blen_sh {a k : Nat} (h : 2 ^ k ≤ a) : blen a = k + blen (a / 2 ^ k) := by
  have hp : 0 < 2 ^ k := Nat.pow_pos (by decide)
  have h1 : 1 ≤ a / 2 ^ k := (Nat.one_le_div_iff hp).2 h
  have h0 : a / 2 ^ k ≠ 0 := by omega
  have e : blen (a / 2 ^ k) = (a / 2 ^ k).log2 + 1 := by unfold blen; rw [if_neg h0]
  rw [e]
  rw [show k + ((a / 2 ^ k).log2 + 1) = k + (a / 2 ^ k).log2 + 1 by omega]
  apply blen_eq
  · have h2 := Nat.lt_log2_self (n := a / 2 ^ k)
    have h3 := Nat.mul_lt_mul_of_pos_left h2 hp
    rw [Nat.add_assoc, Nat.pow_add]
    have h4 := Nat.mod_add_div a (2 ^ k)
    have h5 := Nat.mod_lt a hp
    have h6 : 2 ^ k * (a / 2 ^ k) + 2 ^ k ≤ 2 ^ k * 2 ^ ((a / 2 ^ k).log2 + 1) := by
      rw [← Nat.mul_succ]; exact Nat.mul_le_mul_left _ h2
    omega
  · have h2 := Nat.log2_self_le h0
    rw [Nat.pow_add]
    exact Nat.le_trans (Nat.mul_le_mul_left _ h2) (Nat.mul_div_le a (2 ^ k))
theorem blen_32 {a : Nat} (h : 4294967296 ≤ a) : blen a = 32 + blen (a / 4294967296) := blen_sh (k := 32) h
theorem blen_16 {a : Nat} (h : 65536 ≤ a) : blen a = 16 + blen (a / 65536) := blen_sh (k := 16) h
theorem blen_8 {a : Nat} (h : 256 ≤ a) : blen a = 8 + blen (a / 256) := blen_sh (k := 8) h
theorem blen_0 {a : Nat} (h : a < 256) : blen (a % 256) % 256 = blen a := by
  rw [Nat.mod_eq_of_lt h]
  apply Nat.mod_eq_of_lt
  by_cases h0 : a = 0
  · subst h0; decide
  · have h1 : blen a = a.log2 + 1 := by unfold blen; rw [if_neg h0]
    have h2 := (Nat.log2_lt h0 (k := 8)).2 h
    omega
end Go.Ab
