import Derived.Test.YtgknomjgpkpjdaaMN
namespace Go.Ab
open Go Go.RowKit
set_option linter.unusedVariables false
variable {P : Program} {L : LH}
def isD (b : UInt8) : Prop := 48 ≤ b.toNat ∧ b.toNat ≤ 57
def valN (l : List UInt8) : Nat := l.foldl (fun v b => v * 10 + (b.toNat - 48)) 0
instance (b : UInt8) : Decidable (isD b) := by unfold isD; infer_instance
def allD (l : List UInt8) : Bool := decide (l ≠ []) && l.all fun b => decide (isD b)
def parseV (l : List UInt8) : Nat := if 100 < l.length then 0 else if allD l then (if 115792089237316195423570985008687907853269984665640564039457584007913129639936 ≤ valN l then 0 else valN l) else 0
def parseE (l : List UInt8) : Int := if 100 < l.length then 4 else if allD l then (if 115792089237316195423570985008687907853269984665640564039457584007913129639936 ≤ valN l then 5 else 0) else 7
def sDecimal : List PV → Prop × PV
  | [.lit (.string s)] => (s.size ≤ 9223372036854775807, .lit (.bool (allD s.data.toList)))
  | _ => (False, .any)
def sParse : List PV → Prop × PV
  | [.lit (.string s)] => (s.size ≤ 9223372036854775807, .tup [u4 (parseV s.data.toList), .lit (.int .i64 (parseE s.data.toList))])
  | _ => (False, .any)
theorem size_list (s : ByteArray) : s.size = s.data.toList.length := by
  rw [Array.length_toList]; rfl
theorem take_snoc {l : List UInt8} {i : Nat} (h : i < l.length) : l.take (i + 1) = l.take i ++ [l.getD i 0] := by
  rw [List.take_add_one, List.getElem?_eq_getElem h, List.getD_eq_getElem?_getD, List.getElem?_eq_getElem h]
  rfl
theorem valN_snoc (l : List UInt8) (b : UInt8) : valN (l ++ [b]) = valN l * 10 + (b.toNat - 48) := by
  simp [valN, List.foldl_append]
theorem valN_step {l : List UInt8} {i : Nat} (h : i < l.length) : valN (l.take (i + 1)) = valN (l.take i) * 10 + ((l.getD i 0).toNat - 48) := by
  rw [take_snoc h, valN_snoc]
theorem valN_mono (l : List UInt8) : ∀ d i, valN (l.take i) ≤ valN (l.take (i + d))
  | 0, i => Nat.le_refl _
  | d + 1, i => by
    refine Nat.le_trans (valN_mono l d i) ?_
    by_cases h : i + d < l.length
    · rw [show i + (d + 1) = i + d + 1 by omega, valN_step h]; omega
    · rw [List.take_of_length_le (l := l) (i := i + d) (by omega), List.take_of_length_le (l := l) (i := i + (d + 1)) (by omega)]
      exact Nat.le_refl _
theorem valN_over {l : List UInt8} {i : Nat} (h : 115792089237316195423570985008687907853269984665640564039457584007913129639936 ≤ valN (l.take i)) : 115792089237316195423570985008687907853269984665640564039457584007913129639936 ≤ valN l := by
  have := valN_mono l l.length i
  rw [List.take_of_length_le (l := l) (i := i + l.length) (by omega)] at this
  omega
def digs (l : List UInt8) (i : Nat) : Prop := ∀ j, j < i → isD (l.getD j 0)
theorem digs_zero (l : List UInt8) : digs l 0 := fun j h => absurd h (Nat.not_lt_zero j)
theorem digs_succ {l : List UInt8} {i : Nat} (h : digs l i) (hd : isD (l.getD i 0)) : digs l (i + 1) := by
  intro j hj
  by_cases e : j = i
  · rw [e]; exact hd
  · exact h j (by omega)
theorem allD_yes {l : List UInt8} (h0 : 0 < l.length) (h : digs l l.length) : allD l = true := by
  unfold allD
  rw [Bool.and_eq_true, decide_eq_true_eq, List.all_eq_true]
  refine ⟨fun e => by rw [e] at h0; simp at h0, fun b hb => ?_⟩
  obtain ⟨i, hi⟩ := List.getElem?_of_mem hb
  have hlt := (List.getElem?_eq_some_iff.1 hi).1
  have := h i hlt
  rw [List.getD_eq_getElem?_getD, hi] at this
  exact decide_eq_true this
theorem allD_no {l : List UInt8} {i : Nat} (hi : i < l.length) (h : ¬ isD (l.getD i 0)) : allD l = false := by
  unfold allD
  rw [Bool.and_eq_false_iff]
  refine .inr (List.all_eq_false.2 ⟨l[i], List.getElem_mem hi, ?_⟩)
  rw [List.getD_eq_getElem?_getD, List.getElem?_eq_getElem hi] at h
  simpa using h
theorem allD_nil {l : List UInt8} (h : l.length = 0) : allD l = false := by
  have : l = [] := List.length_eq_zero_iff.1 h
  subst this
  rfl
theorem allD_out {l : List UInt8} (h : allD l = true) : 0 < l.length ∧ digs l l.length := by
  unfold allD at h
  rw [Bool.and_eq_true, decide_eq_true_eq, List.all_eq_true] at h
  refine ⟨List.length_pos_iff.2 h.1, fun i hi => ?_⟩
  rw [List.getD_eq_getElem?_getD, List.getElem?_eq_getElem hi]
  exact of_decide_eq_true (h.2 _ (List.getElem_mem hi))
theorem lit57 : PV.lit (.int .u8 57) = bv 57 := rfl
theorem gtr_bv {t : TypeId} (a b : UInt8) : binF P .gtr t (bv a) (bv b) L = ⟨True, .lit (.bool (decide (b.toNat < a.toNat))), L⟩ := by
  simp only [bv, binF_gtr, Int.ofNat_lt]
theorem sub_bv {t : TypeId} (a b : UInt8) : binF P .sub t (bv a) (bv b) L = ⟨True, bv (a - b), L⟩ := by
  simp only [bv, binF_sub, OR.mk.injEq, PV.lit.injEq, Value.int.injEq, true_and, and_true]
  have : IntKind.u8.wrap ((a.toNat : Int) - (b.toNat : Int)) = ((a.toNat : Int) - (b.toNat : Int)) % 256 := by simp [IntKind.wrap, IntKind.bits, IntKind.signed]
  rw [this, UInt8.toNat_sub]
  have h1 := a.toNat_lt
  have h2 := b.toNat_lt
  omega
theorem dig_sub {b : UInt8} (h : isD b) : (b - 48).toNat = b.toNat - 48 := by
  obtain ⟨h1, h2⟩ := h
  rw [UInt8.toNat_sub]
  have : (48 : UInt8).toNat = 48 := rfl
  rw [this]
  omega
theorem str_empty (s : ByteArray) : (s.toList == (ByteArray.mk #[]).toList) = decide (s.data.toList.length = 0) := by
  obtain ⟨⟨l⟩⟩ := s
  have e1 : (ByteArray.mk ⟨l⟩).toList = l := ByteArray.toList_mk l
  have e2 : (ByteArray.mk #[]).toList = [] := ByteArray.toList_mk []
  rw [e1, e2]
  cases l <;> rfl
end Go.Ab
