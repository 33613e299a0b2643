import Derived.Test.YtgknomjgpkpjdaaMO
namespace Go.Ab
open Go Go.RowKit
set_option linter.unusedVariables false
variable {P : Program} {L : LH}
theorem str_app (d : UInt8) (l : List UInt8) : (ByteArray.mk [d].toArray) ++ (ByteArray.mk l.toArray) = ByteArray.mk (d :: l).toArray := by
  apply ByteArray.ext
  rw [ByteArray.data_append]
  simp
theorem str_add {t : TypeId} (d : UInt8) (l : List UInt8) : binF P .add t (.lit (.string (ByteArray.mk [d].toArray))) (.lit (.string (ByteArray.mk l.toArray))) L = ⟨(1 + l.length : Nat) ≤ (9223372036854775807 : Int), .lit (.string (ByteArray.mk (d :: l).toArray)), L⟩ := by
  have e : (ByteArray.mk [d].toArray).size + (ByteArray.mk l.toArray).size = 1 + l.length := by
    rw [size_list, size_list]
    rfl
  simp only [binF, binStr, str_app, e]
  rfl
theorem ref_text {n c : Nat} {bs : List UInt8} (h : decR n = bs ++ decR c) : decR n = (bs ++ [UInt8.ofNat (48 + c % 10)]) ++ (if c / 10 = 0 then [] else decR (c / 10)) := by
  rw [h, decR_step c, List.append_assoc]; rfl
theorem ref_text_end {n c : Nat} {bs : List UInt8} (h : decR n = bs ++ decR c) (h0 : c / 10 = 0) : UInt8.ofNat (48 + c % 10) :: bs.reverse = dec n := by
  have := ref_text h
  rw [if_pos h0, List.append_nil] at this
  rw [dec, this, List.reverse_append]
  rfl
theorem ref_text_next {n c : Nat} {bs : List UInt8} (h : decR n = bs ++ decR c) (h0 : ¬ c / 10 = 0) : decR n = (bs ++ [UInt8.ofNat (48 + c % 10)]) ++ decR (c / 10) := by
  have := ref_text h
  rwa [if_neg h0] at this
theorem byte_lit (b : UInt8) : byteOf (PV.lit (.int .u8 (b.toNat : Int))) = b := byte_bv b
theorem rev_snoc (bs : List UInt8) (d : UInt8) : (bs ++ [d]).reverse = d :: bs.reverse := by simp
theorem decR_isD : ∀ (n : Nat), ∀ b ∈ decR n, isD b := by
  intro n
  induction n using Nat.strongRecOn with
  | _ n ih =>
    intro b hb
    rw [decR_step] at hb
    rcases List.mem_cons.1 hb with e | hb
    · subst e
      unfold isD
      rw [UInt8.toNat_ofNat']
      omega
    · split at hb
      · cases hb
      · exact ih (n / 10) (by omega) b hb
theorem val_rev : ∀ (n : Nat), valN (decR n).reverse = n := by
  intro n
  induction n using Nat.strongRecOn with
  | _ n ih =>
    rw [decR_step, List.reverse_cons, valN_snoc]
    have hd : (UInt8.ofNat (48 + n % 10)).toNat - 48 = n % 10 := by rw [UInt8.toNat_ofNat']; omega
    rw [hd]
    split
    · rename_i h0
      simp only [List.reverse_nil]
      show 0 * 10 + n % 10 = n
      omega
    · rename_i h0
      rw [ih (n / 10) (by omega)]
      omega
theorem val_dec (n : Nat) : valN (dec n) = n := val_rev n
theorem decR_ne (n : Nat) : decR n ≠ [] := by rw [decR_step]; simp
theorem decR_len : ∀ (k n : Nat), n < 10 ^ (k + 1) → (decR n).length ≤ k + 1
  | 0, n, h => by
    rw [decR_step, if_pos (by omega)]; simp
  | k + 1, n, h => by
    rw [decR_step, List.length_cons]
    split
    · simp
    · have := decR_len k (n / 10) (Nat.div_lt_of_lt_mul (by rw [Nat.pow_succ, Nat.mul_comm] at h; exact h))
      omega
theorem dec_len {n : Nat} (h : n < 115792089237316195423570985008687907853269984665640564039457584007913129639936) : (dec n).length ≤ 78 := by
  rw [dec, List.length_reverse]
  refine decR_len 77 n ?_
  have : 115792089237316195423570985008687907853269984665640564039457584007913129639936 < 10 ^ (77 + 1) := by decide
  omega
theorem allD_dec (n : Nat) : allD (dec n) = true := by
  unfold allD
  rw [Bool.and_eq_true, decide_eq_true_eq, List.all_eq_true]
  refine ⟨by rw [dec]; simpa using decR_ne n, fun b hb => decide_eq_true (decR_isD n b (by rw [dec] at hb; simpa using hb))⟩
theorem parseV_dec {n : Nat} (h : n < 115792089237316195423570985008687907853269984665640564039457584007913129639936) : parseV (dec n) = n := by
  have h1 := dec_len h
  unfold parseV
  rw [if_neg (by omega), allD_dec, if_pos rfl, val_dec, if_neg (by omega)]
theorem parseE_dec {n : Nat} (h : n < 115792089237316195423570985008687907853269984665640564039457584007913129639936) : parseE (dec n) = 0 := by
  have h1 := dec_len h
  unfold parseE
  rw [if_neg (by omega), allD_dec, if_pos rfl, val_dec, if_neg (by omega)]
def sLTxt : List PV → Prop × PV
  | [x, .lit (.string s)] => (isU x ∧ s.size ≤ 9223372036854775807, .lit (.bool true))
  | _ => (False, .any)
theorem size_dec {n : Nat} (h : n < 115792089237316195423570985008687907853269984665640564039457584007913129639936) : (ByteArray.mk (dec n).toArray).size ≤ 9223372036854775807 := by
  have h1 := dec_len h
  rw [size_list]
  show (dec n).length ≤ _
  omega
end Go.Ab
