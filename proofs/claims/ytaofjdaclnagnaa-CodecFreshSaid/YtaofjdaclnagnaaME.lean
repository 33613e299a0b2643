import Derived.Test.YtaofjdaclnagnaaMD
import Derived.Test.YtaofjdaclnagnaaMC
namespace Go.Ab
open Go Go.RowKit
set_option linter.unusedVariables false
set_option linter.unusedSimpArgs false
def blen (n : Nat) : Nat := if n = 0 then 0 else n.log2 + 1
def sLen64 : List PV → Prop × PV
  | [x] => (isul x, .lit (.int .i64 (blen (ulv x))))
  | _ => (False, .any)
def sLen : List PV → Prop × PV
  | [x] => (isU x, .lit (.int .i64 (blen (uv x))))
  | _ => (False, .any)
end Go.Ab
namespace Go.Ab
set_option linter.unusedVariables false
theorem splice_one (cs : List PV) (i : Nat) (v : PV) : splice cs i [v] = cs.set i v := rfl
structure DivInv (S N b q r lo : Nat) : Prop where
  eq : N = q * b + r * S + lo
  ll : lo < S
  lr : r < b
  lq : q % S = 0
  lN : N < b * 115792089237316195423570985008687907853269984665640564039457584007913129639936
theorem DivInv.done {N b q r lo : Nat} (h : DivInv 1 N b q r lo) : N / b = q ∧ N % b = r := by
  have h1 := h.eq
  have h2 := h.ll
  have h3 := h.lr
  have e : lo = 0 := by omega
  subst e
  have e2 : N = r + b * q := by rw [h1, Nat.mul_comm b q]; omega
  constructor
  · rw [e2, Nat.add_mul_div_left _ _ (by omega), Nat.div_eq_of_lt h3, Nat.zero_add]
  · rw [e2, Nat.add_mul_mod_self_left, Nat.mod_eq_of_lt h3]
end Go.Ab
namespace Go.Ab
open Go Go.RowKit
set_option linter.unusedVariables false
theorem cells_bv (b : UInt8) : (bv b).cells = [bv b] := rfl
theorem one_bv1 (b : UInt8) : (bv b).one = true := rfl
theorem set_bv (bs : List UInt8) (i : Nat) (b : UInt8) : (bs.map bv).set i (bv b) = (bs.set i b).map bv := (List.map_set ..).symm
end Go.Ab
namespace Go.Ab
open Go Go.RowKit
set_option linter.unusedVariables false
variable {P : Program} {L : LH}
def decR (n : Nat) : List UInt8 := if h : n < 10 then [UInt8.ofNat (48 + n)] else UInt8.ofNat (48 + n % 10) :: decR (n / 10)
termination_by n
decreasing_by omega
theorem decR_step (n : Nat) : decR n = UInt8.ofNat (48 + n % 10) :: (if n / 10 = 0 then [] else decR (n / 10)) := by
  conv => lhs; unfold decR
  by_cases h : n < 10
  · rw [dif_pos h, if_pos (by omega), Nat.mod_eq_of_lt h]
  · rw [dif_neg h, if_neg (by omega)]
def dec (n : Nat) : List UInt8 := (decR n).reverse
structure TextInv (n a : Nat) (bs : List UInt8) : Prop where
  ne : bs ≠ []
  eq : decR n = bs ++ (if a = 0 then [] else decR a)
  le : 10 ^ bs.length * a ≤ n
  len : bs.length ≤ 78
theorem TextInv.first (n : Nat) : TextInv n (n / 10) [UInt8.ofNat (48 + n % 10)] := by
  refine ⟨by simp, by rw [decR_step n]; rfl, by simp; omega, by simp⟩
theorem TextInv.next {n a : Nat} {bs : List UInt8} (h : TextInv n a bs) (hn : n < 115792089237316195423570985008687907853269984665640564039457584007913129639936) (ha : a ≠ 0) : TextInv n (a / 10) (bs ++ [UInt8.ofNat (48 + a % 10)]) := by
  have h1 := h.le
  have h2 : 10 * (a / 10) ≤ a := by omega
  refine ⟨by simp, ?_, ?_, ?_⟩
  · rw [h.eq, if_neg ha, decR_step a, List.append_assoc]; rfl
  · rw [List.length_append, List.length_singleton, Nat.pow_succ, Nat.mul_assoc]
    exact Nat.le_trans (Nat.mul_le_mul_left _ h2) h1
  · rw [List.length_append, List.length_singleton]
    rcases Nat.lt_or_ge bs.length 78 with hl | hl
    · omega
    · exfalso
      have h3 : 10 ^ 78 ≤ 10 ^ bs.length := Nat.pow_le_pow_right (by decide) hl
      have h4 : 10 ^ bs.length * 1 ≤ 10 ^ bs.length * a := Nat.mul_le_mul_left _ (by omega)
      have h5 : 115792089237316195423570985008687907853269984665640564039457584007913129639936 < 10 ^ 78 := by decide
      omega
theorem TextInv.done {n : Nat} {bs : List UInt8} (h : TextInv n 0 bs) : bs.reverse = dec n := by
  have := h.eq
  simp only [if_true, List.append_nil] at this
  rw [dec, this]
theorem add_bv {t : TypeId} (a b : UInt8) : binF P .add t (bv a) (bv b) L = ⟨True, bv (a + b), L⟩ := by
  simp only [bv, binF_add, OR.mk.injEq, PV.lit.injEq, Value.int.injEq, true_and, and_true]
  have : IntKind.u8.wrap ((a.toNat : Int) + (b.toNat : Int)) = ((a.toNat : Int) + (b.toNat : Int)) % 256 := by simp [IntKind.wrap, IntKind.bits, IntKind.signed]
  rw [this, UInt8.toNat_add]
  omega
end Go.Ab
