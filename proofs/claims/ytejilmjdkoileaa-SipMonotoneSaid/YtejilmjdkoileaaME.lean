import Derived.Test.YtejilmjdkoileaaMD
import Derived.Test.YtejilmjdkoileaaMC
namespace Go.Ab
open Go Go.RowKit
set_option linter.unusedVariables false
set_option linter.unusedSimpArgs false
def sMul64 : List PV → Prop × PV
  | [x, y] => (isul x ∧ isul y, .tup [ul (ulv x * ulv y / 18446744073709551616), ul (ulv x * ulv y)])
  | _ => (False, .any)
def blen (n : Nat) : Nat := if n = 0 then 0 else n.log2 + 1
def sLen : List PV → Prop × PV
  | [x] => (isU x, .lit (.int .i64 (blen (uv x))))
  | _ => (False, .any)
end Go.Ab
namespace Go.Ab
set_option linter.unusedVariables false
structure DivInv (S N b q r lo : Nat) : Prop where
  eq : N = q * b + r * S + lo
  ll : lo < S
  lr : r < b
  lq : q % S = 0
  lN : N < b * 115792089237316195423570985008687907853269984665640564039457584007913129639936
theorem DivInv.high {S N b q r lo d l : Nat} (h : DivInv (2 * S) N b q r lo) (hd : lo = d * S + l) (hl : l < S) (hs : 0 < S) (hd1 : d ≤ 1) (hle : b ≤ 2 * r + d) : DivInv S N b (q + S) (2 * r + d - b) l := by
  refine ⟨?_, hl, ?_, ?_, h.lN⟩
  · have e1 : (q + S) * b = q * b + b * S := by rw [Nat.add_mul, Nat.mul_comm S b]
    have e2 : (2 * r + d - b) * S + b * S = (2 * r + d) * S := by rw [← Nat.add_mul]; congr 1; omega
    have e3 : (2 * r + d) * S = 2 * r * S + d * S := Nat.add_mul ..
    have e4 : r * (2 * S) = 2 * r * S := by rw [← Nat.mul_assoc, Nat.mul_comm r 2]
    have := h.eq
    omega
  · have := h.lr; omega
  · have h2 := Nat.dvd_trans (Nat.dvd_mul_left S 2) (Nat.dvd_of_mod_eq_zero h.lq)
    exact Nat.mod_eq_zero_of_dvd (Nat.dvd_add h2 (Nat.dvd_refl S))
theorem DivInv.done {N b q r lo : Nat} (h : DivInv 1 N b q r lo) : N / b = q ∧ N % b = r := by
  have h1 := h.eq
  have h2 := h.ll
  have h3 := h.lr
  have e : lo = 0 := by omega
  subst e
  have e2 : N = r + b * q := by rw [h1, Nat.mul_comm b q]; omega
  constructor
  · rw [e2, Nat.add_mul_div_left _ _ (by omega), Nat.div_eq_of_lt h3, Nat.zero_add]
  · rw [e2, Nat.add_mul_mod_self_left, Nat.mod_eq_of_lt h3]
end Go.Ab
namespace Go.Ab
open Go Go.RowKit
set_option linter.unusedVariables false
end Go.Ab
namespace Go.Ab
open Go Go.RowKit
set_option linter.unusedVariables false
variable {P : Program} {L : LH}
def decR (n : Nat) : List UInt8 := if h : n < 10 then [UInt8.ofNat (48 + n)] else UInt8.ofNat (48 + n % 10) :: decR (n / 10)
termination_by n
decreasing_by omega
theorem decR_step (n : Nat) : decR n = UInt8.ofNat (48 + n % 10) :: (if n / 10 = 0 then [] else decR (n / 10)) := by
  conv => lhs; unfold decR
  by_cases h : n < 10
  · rw [dif_pos h, if_pos (by omega), Nat.mod_eq_of_lt h]
  · rw [dif_neg h, if_neg (by omega)]
def dec (n : Nat) : List UInt8 := (decR n).reverse
structure TextInv (n a : Nat) (bs : List UInt8) : Prop where
  ne : bs ≠ []
  eq : decR n = bs ++ (if a = 0 then [] else decR a)
  le : 10 ^ bs.length * a ≤ n
  len : bs.length ≤ 78
theorem TextInv.first (n : Nat) : TextInv n (n / 10) [UInt8.ofNat (48 + n % 10)] := by
  refine ⟨by simp, by rw [decR_step n]; rfl, by simp; omega, by simp⟩
theorem TextInv.next {n a : Nat} {bs : List UInt8} (h : TextInv n a bs) (hn : n < 115792089237316195423570985008687907853269984665640564039457584007913129639936) (ha : a ≠ 0) : TextInv n (a / 10) (bs ++ [UInt8.ofNat (48 + a % 10)]) := by
  have h1 := h.le
  have h2 : 10 * (a / 10) ≤ a := by omega
  refine ⟨by simp, ?_, ?_, ?_⟩
  · rw [h.eq, if_neg ha, decR_step a, List.append_assoc]; rfl
  · rw [List.length_append, List.length_singleton, Nat.pow_succ, Nat.mul_assoc]
    exact Nat.le_trans (Nat.mul_le_mul_left _ h2) h1
  · rw [List.length_append, List.length_singleton]
    rcases Nat.lt_or_ge bs.length 78 with hl | hl
    · omega
    · exfalso
      have h3 : 10 ^ 78 ≤ 10 ^ bs.length := Nat.pow_le_pow_right (by decide) hl
      have h4 : 10 ^ bs.length * 1 ≤ 10 ^ bs.length * a := Nat.mul_le_mul_left _ (by omega)
      have h5 : 115792089237316195423570985008687907853269984665640564039457584007913129639936 < 10 ^ 78 := by decide
      omega
theorem TextInv.done {n : Nat} {bs : List UInt8} (h : TextInv n 0 bs) : bs.reverse = dec n := by
  have := h.eq
  simp only [if_true, List.append_nil] at this
  rw [dec, this]
theorem add_bv {t : TypeId} (a b : UInt8) : binF P .add t (bv a) (bv b) L = ⟨True, bv (a + b), L⟩ := by
  simp only [bv, binF_add, OR.mk.injEq, PV.lit.injEq, Value.int.injEq, true_and, and_true]
  have : IntKind.u8.wrap ((a.toNat : Int) + (b.toNat : Int)) = ((a.toNat : Int) + (b.toNat : Int)) % 256 := by simp [IntKind.wrap, IntKind.bits, IntKind.signed]
  rw [this, UInt8.toNat_add]
  omega
end Go.Ab
