import Derived.Test.YtmnkapmcclhiiaaMY
namespace Go.Ab
open Go Go.RowKit
set_option linter.unusedVariables false
variable {P : Program} {L : LH}
def by32 (n : Nat) : List UInt8 := (List.range 32).map fun j => UInt8.ofNat (n / 2 ^ (8 * (31 - j)))
def hl (n : Nat) : List PV := (by32 n).map bv
def h32 (n : Nat) : PV := .agg (hl n)
def isH (p : PV) : Prop := ∃ n, n < 115792089237316195423570985008687907853269984665640564039457584007913129639936 ∧ p = h32 n
def hv : PV → Nat
  | .agg cs => (cs.foldl (fun s c => s * 256 + (byteOf c).toNat) 0)
  | _ => 0
theorem len_hl (n : Nat) : (hl n).length = 32 := by simp [hl, by32]
theorem agg_hl (n : Nat) : PV.agg (hl n) = h32 n := rfl
theorem cells_h32 (n : Nat) : (h32 n).cells = hl n := rfl
theorem closedL_hl (n : Nat) : closedL (hl n) = true := closedL_bv _
theorem closed_h32 (n : Nat) : closed (h32 n) = true := closedL_hl n
theorem one_hl (n : Nat) : (hl n).all PV.one = true := one_bv _
theorem take_hl (n : Nat) : (hl n).take 32 = hl n := List.take_of_length_le (by rw [len_hl]; exact Nat.le_refl _)
theorem splice_ge {cs vs : List PV} (h1 : cs.length = 32) (h2 : vs.length = 32) : splice cs 0 vs = vs := by
  unfold splice
  split
  · simp at h2
  · rw [List.take_zero, List.nil_append, Nat.zero_add, h2, List.drop_eq_nil_of_le (by omega), List.append_nil]
theorem splice_hl (a b : Nat) : splice (hl a) 0 (hl b) = hl b := splice_ge (len_hl a) (len_hl b)
theorem zero_hl : [.lit (.int .u8 0), .lit (.int .u8 0), .lit (.int .u8 0), .lit (.int .u8 0), .lit (.int .u8 0), .lit (.int .u8 0), .lit (.int .u8 0), .lit (.int .u8 0), .lit (.int .u8 0), .lit (.int .u8 0), .lit (.int .u8 0), .lit (.int .u8 0), .lit (.int .u8 0), .lit (.int .u8 0), .lit (.int .u8 0), .lit (.int .u8 0), .lit (.int .u8 0), .lit (.int .u8 0), .lit (.int .u8 0), .lit (.int .u8 0), .lit (.int .u8 0), .lit (.int .u8 0), .lit (.int .u8 0), .lit (.int .u8 0), .lit (.int .u8 0), .lit (.int .u8 0), .lit (.int .u8 0), .lit (.int .u8 0), .lit (.int .u8 0), .lit (.int .u8 0), .lit (.int .u8 0), .lit (.int .u8 0)] = hl 0 := by
  have : by32 0 = List.replicate 32 0 := by decide +kernel
  rw [hl, this]
  rfl
theorem hl_get {n i : Nat} (h : i < 32) (d : PV) : (hl n).getD i d = bv (UInt8.ofNat (n / 2 ^ (8 * (31 - i)))) := by
  simp [hl, by32, List.getD_eq_getElem?_getD, h]
theorem isH_out {p : PV} (h : isH p) : ∃ n, n < 115792089237316195423570985008687907853269984665640564039457584007913129639936 ∧ p = h32 n := h
def byI (n i : Nat) : List PV := ((List.range 32).map fun j => if j < i then UInt8.ofNat (n / 2 ^ (8 * (31 - j))) else 0).map bv
theorem len_byI (n i : Nat) : (byI n i).length = 32 := by simp [byI]
theorem closedL_byI (n i : Nat) : closedL (byI n i) = true := closedL_bv _
def topN (n i : Nat) : Nat := n / 2 ^ (8 * (32 - i)) * 2 ^ (8 * (32 - i))
theorem topN_zero {n : Nat} (h : n < 115792089237316195423570985008687907853269984665640564039457584007913129639936) : topN n 0 = 0 := by
  unfold topN
  have e : (2 : Nat) ^ (8 * (32 - 0)) = 115792089237316195423570985008687907853269984665640564039457584007913129639936 := by decide
  rw [e, Nat.div_eq_of_lt h, Nat.zero_mul]
theorem topN_all (n : Nat) : topN n 32 = n := by unfold topN; simp
theorem topN_le (n i : Nat) : topN n i ≤ n := Nat.div_mul_le_self _ _
theorem topN_step {n i : Nat} (h : i < 32) : topN n (i + 1) = topN n i + n / 2 ^ (8 * (31 - i)) % 256 * 2 ^ (8 * (31 - i)) := by
  unfold topN
  have e1 : 8 * (32 - i) = 8 * (31 - i) + 8 := by omega
  have e2 : 8 * (32 - (i + 1)) = 8 * (31 - i) := by omega
  rw [e1, e2, Nat.pow_add, ← Nat.div_div_eq_div_mul]
  have e8 : (2 : Nat) ^ 8 = 256 := by decide
  rw [e8]
  generalize n / 2 ^ (8 * (31 - i)) = x
  generalize 2 ^ (8 * (31 - i)) = y
  rw [Nat.mul_comm y 256, ← Nat.mul_assoc, ← Nat.add_mul]
  congr 1
  omega
theorem topN_mod (n i : Nat) : topN n i % 2 ^ (8 * (32 - i)) = 0 := Nat.mul_mod_left ..
theorem or_byte {y b s : Nat} (hb : b < 256) (h : y % 2 ^ (s + 8) = 0) : y ||| b * 2 ^ s = y + b * 2 ^ s := by
  have hy : y = 2 ^ (s + 8) * (y / 2 ^ (s + 8)) := by have := Nat.mod_add_div y (2 ^ (s + 8)); omega
  have hlt : b * 2 ^ s < 2 ^ (s + 8) := by
    rw [Nat.pow_add, Nat.mul_comm (2 ^ s)]
    exact Nat.mul_lt_mul_of_pos_right (by omega) (Nat.pow_pos (by decide))
  rw [hy]
  exact (Nat.two_pow_add_eq_or_of_lt hlt _).symm
theorem byte_set {o b p : Nat} (hp : p < 32) (hb : b < 256) (ho : o < 115792089237316195423570985008687907853269984665640564039457584007913129639936) (hm : o % 2 ^ (8 * (p + 1)) = 0) : (cl 4 o).set (p / 8) (ul (o / 2 ^ (64 * (p / 8)) ||| b * 2 ^ (8 * (p % 8)))) = cl 4 (o + b * 2 ^ (8 * p)) := by
  have e1 : 2 ^ (8 * p) = 2 ^ (64 * (p / 8)) * 2 ^ (8 * (p % 8)) := by rw [← Nat.pow_add]; congr 1; omega
  have e2 : 2 ^ (8 * (p + 1)) = 2 ^ (64 * (p / 8)) * 2 ^ (8 * (p % 8) + 8) := by rw [← Nat.pow_add]; congr 1; omega
  have hp0 : 0 < 2 ^ (64 * (p / 8)) := Nat.pow_pos (by decide)
  rw [e2, Nat.mod_mul] at hm
  have hy : o / 2 ^ (64 * (p / 8)) % 2 ^ (8 * (p % 8) + 8) = 0 := by
    rcases Nat.mul_eq_zero.1 (show 2 ^ (64 * (p / 8)) * (o / 2 ^ (64 * (p / 8)) % 2 ^ (8 * (p % 8) + 8)) = 0 by omega) with h | h
    · omega
    · exact h
  have hlow : o % 2 ^ (64 * (p / 8)) = 0 := by omega
  have hfit : o / 2 ^ (64 * (p / 8)) % 18446744073709551616 + b * 2 ^ (8 * (p % 8)) < 18446744073709551616 := by
    have hd : (2 : Nat) ^ 64 = 2 ^ (8 * (p % 8) + 8) * 2 ^ (56 - 8 * (p % 8)) := by rw [← Nat.pow_add]; congr 1; omega
    have hW : (2 : Nat) ^ 64 = 18446744073709551616 := by decide
    have h3 : o / 2 ^ (64 * (p / 8)) % 18446744073709551616 % 2 ^ (8 * (p % 8) + 8) = 0 := by rw [← hW, hd, Nat.mod_mul_right_mod, hy]
    have hlt : o / 2 ^ (64 * (p / 8)) % 18446744073709551616 < 18446744073709551616 := Nat.mod_lt _ (by decide)
    generalize o / 2 ^ (64 * (p / 8)) % 18446744073709551616 = y at *
    have hbl : b * 2 ^ (8 * (p % 8)) < 2 ^ (8 * (p % 8) + 8) := by
      rw [Nat.pow_add, Nat.mul_comm (2 ^ (8 * (p % 8)))]
      exact Nat.mul_lt_mul_of_pos_right (by omega) (Nat.pow_pos (by decide))
    rw [← hW, hd] at hlt ⊢
    generalize 2 ^ (8 * (p % 8) + 8) = T at *
    generalize 2 ^ (56 - 8 * (p % 8)) = c at *
    have hyT : y = T * (y / T) := by have := Nat.mod_add_div y T; omega
    have h4 : y / T < c := Nat.div_lt_of_lt_mul hlt
    have h5 : T * (y / T + 1) ≤ T * c := Nat.mul_le_mul_left _ h4
    rw [Nat.mul_add, Nat.mul_one] at h5
    omega
  have hz : b * 2 ^ (8 * p) = b * 2 ^ (8 * (p % 8)) * 2 ^ (64 * (p / 8)) := by rw [e1, Nat.mul_comm (2 ^ (64 * (p / 8))), ← Nat.mul_assoc]
  rw [or_byte hb hy, hz]
  clear hz hy hm e1 e2
  generalize b * 2 ^ (8 * (p % 8)) = z at *
  have hc : p / 8 = 0 ∨ p / 8 = 1 ∨ p / 8 = 2 ∨ p / 8 = 3 := by omega
  rcases hc with h | h | h | h
  · rw [h] at hfit hlow ⊢
    simp only [Nat.reduceMul, Nat.reducePow, Nat.div_one] at hfit hlow ⊢
    rw [cl4 o]
    exact list4 (by omega)
  · rw [h] at hfit hlow ⊢
    simp only [Nat.reduceMul, Nat.reducePow] at hfit hlow ⊢
    rw [cl4 o]
    exact list4 (by omega)
  · rw [h] at hfit hlow ⊢
    simp only [Nat.reduceMul, Nat.reducePow] at hfit hlow ⊢
    rw [cl4 o]
    exact list4 (by omega)
  · rw [h] at hfit hlow ⊢
    simp only [Nat.reduceMul, Nat.reducePow] at hfit hlow ⊢
    rw [cl4 o]
    exact list4 (by omega)
theorem byte_bv (b : UInt8) : byteOf (bv b) = b := by
  have := map_byteOf_bv [b]
  simpa using this
theorem hv_fold (n : Nat) : ∀ k, k ≤ 32 → ((List.range k).map fun j => bv (UInt8.ofNat (n / 2 ^ (8 * (31 - j))))).foldl (fun s c => s * 256 + (byteOf c).toNat) 0 = n / 2 ^ (8 * (32 - k)) % 2 ^ (8 * k)
  | 0, _ => by simp [Nat.mod_one]
  | k + 1, h => by
    rw [List.range_succ, List.map_append, List.foldl_append, hv_fold n k (by omega)]
    simp only [List.map_cons, List.map_nil, List.foldl_cons, List.foldl_nil, byte_bv, UInt8.toNat_ofNat']
    have e1 : 8 * (32 - k) = 8 * (31 - k) + 8 := by omega
    have e2 : 8 * (32 - (k + 1)) = 8 * (31 - k) := by omega
    have e3 : 8 * (k + 1) = 8 + 8 * k := by omega
    have e8 : (2 : Nat) ^ 8 = 256 := by decide
    rw [e1, e2, e3, Nat.pow_add 2 _ 8, ← Nat.div_div_eq_div_mul, Nat.pow_add 2 8, e8]
    generalize n / 2 ^ (8 * (31 - k)) = x
    rw [Nat.mod_mul, Nat.mul_comm]; omega
theorem hv_h32 {n : Nat} (h : n < 115792089237316195423570985008687907853269984665640564039457584007913129639936) : hv (h32 n) = n := by
  have := hv_fold n 32 (Nat.le_refl _)
  simp only [Nat.sub_self, Nat.mul_zero, Nat.pow_zero, Nat.div_one] at this
  have e : (2 : Nat) ^ (8 * 32) = 115792089237316195423570985008687907853269984665640564039457584007913129639936 := by decide
  rw [e, Nat.mod_eq_of_lt h] at this
  simp only [hv, h32, hl, by32, List.map_map]
  exact this
def sFromBytes : List PV → Prop × PV
  | [x] => (isH x, u4 (hv x))
  | _ => (False, .any)
theorem isH_h32 {n : Nat} (h : n < 115792089237316195423570985008687907853269984665640564039457584007913129639936) : isH (h32 n) := ⟨n, h, rfl⟩
theorem index_h {t e b b2 s1 : Nat} {z1 z2 : Value} {k : IntKind} {n : Nat} {i : Int} (h1 : tyOf P t = some ⟨.array 32 e, s1, b, z1⟩) (h2 : tyOf P e = some ⟨.int .u8, 1, b2, z2⟩) :
    indexF P t (h32 n) (.lit (.int k i)) L = ⟨0 ≤ i ∧ i < 32 ∧ i.toNat < 32, (hl n).getD i.toNat (.lit z2), L⟩ := by
  simp only [indexF, h32, h1, h2, partF, isAggD, Bool.false_eq_true, if_false, len_hl, Nat.mul_one]
  rfl
theorem tdiv8 (m : Nat) : (m : Int).tdiv 8 = ((m / 8 : Nat) : Int) := (Int.ofNat_tdiv m 8).symm
theorem tmod8 (m : Nat) : (m : Int).tmod 8 = ((m % 8 : Nat) : Int) := (Int.ofNat_tmod m 8).symm
theorem mul8 (m : Nat) : 8 * (m : Int) = ((8 * m : Nat) : Int) := by omega
end Go.Ab
namespace Go.Ab
open Go Go.RowKit
set_option linter.unusedVariables false
variable {P : Program} {L : LH}
end Go.Ab
