import Derived.Test.YtaofjdaclnagnaaMC
import Derived.Laws.Externs
import Derived.Shelf.Spec.BitsCarry
namespace Go.Ab
open Go Go.RowKit
set_option linter.unusedVariables false
set_option linter.unusedSimpArgs false
variable {P : Program} {Γ : Con} {L L' : LH} {env : Env}
def ul (n : Nat) : PV := .lit (.int .u64 ((n % 18446744073709551616 : Nat) : Int))
def isul (p : PV) : Prop := ∃ n, p = ul n
def ulv : PV → Nat
  | .lit (.int _ z) => z.toNat
  | _ => 0
theorem isul_ul (n : Nat) : isul (ul n) ↔ True := by simp only [iff_true]; exact ⟨n, rfl⟩
theorem ulv_ul (n : Nat) : ulv (ul n) = n % 18446744073709551616 := by simp only [ulv, ul, Int.toNat_natCast]
theorem ul_mod (n : Nat) : ul (n % 18446744073709551616) = ul n := by simp [ul]
theorem isul_out {p : PV} (h : isul p) : ∃ n, n < 18446744073709551616 ∧ p = ul n := by
  obtain ⟨n, rfl⟩ := h
  exact ⟨n % 18446744073709551616, Nat.mod_lt _ (by decide), (ul_mod n).symm⟩
theorem cells_ul (n : Nat) : (ul n).cells = [ul n] := rfl
theorem one_ul (n : Nat) : (ul n).one = true := rfl
theorem closed_ul (n : Nat) : closed (ul n) = true := rfl
theorem flat_ul (n : Nat) : flat (ul n) = true := rfl
theorem lit_ul0 : PV.lit (.int .u64 0) = ul 0 := rfl
theorem lit_ul1 : PV.lit (.int .u64 1) = ul 1 := rfl
theorem nrm_ul (n : Nat) : nrm (ul n) = ul n := rfl
theorem borrow_ul (n : Nat) : borrow L (ul n) = ul n := rfl
section
variable {t : TypeId} {a b : Nat}
theorem wrapU (z : Int) : IntKind.u64.wrap z = z % 18446744073709551616 := by simp [IntKind.wrap, IntKind.bits, IntKind.signed]
theorem add_ul : binF P .add t (ul a) (ul b) L = ⟨True, ul (a + b), L⟩ := by
  simp only [ul, binF_add, wrapU, OR.mk.injEq, PV.lit.injEq, Value.int.injEq, true_and, and_true]; omega
theorem sub_ul : binF P .sub t (ul a) (ul b) L = ⟨True, ul (a + (18446744073709551616 - b % 18446744073709551616)), L⟩ := by
  simp only [ul, binF_sub, wrapU, OR.mk.injEq, PV.lit.injEq, Value.int.injEq, true_and, and_true]; omega
theorem mul_ul : binF P .mul t (ul a) (ul b) L = ⟨True, ul (a * b), L⟩ := by
  simp only [ul, binF_mul, wrapU, OR.mk.injEq, PV.lit.injEq, Value.int.injEq, true_and, and_true]
  rw [← Int.natCast_mul]
  have : a % 18446744073709551616 * (b % 18446744073709551616) % 18446744073709551616 = a * b % 18446744073709551616 := (Nat.mul_mod a b _).symm
  omega
theorem lss_ul : binF P .lss t (ul a) (ul b) L = ⟨True, .lit (.bool (decide (a % 18446744073709551616 < b % 18446744073709551616))), L⟩ := by
  simp only [ul, binF_lss, Int.ofNat_lt]
theorem leq_ul : binF P .leq t (ul a) (ul b) L = ⟨True, .lit (.bool (decide (a % 18446744073709551616 ≤ b % 18446744073709551616))), L⟩ := by
  simp only [ul, binF_leq, Int.ofNat_le]
theorem gtr_ul : binF P .gtr t (ul a) (ul b) L = ⟨True, .lit (.bool (decide (b % 18446744073709551616 < a % 18446744073709551616))), L⟩ := by
  simp only [ul, binF_gtr, Int.ofNat_lt]
theorem geq_ul : binF P .geq t (ul a) (ul b) L = ⟨True, .lit (.bool (decide (b % 18446744073709551616 ≤ a % 18446744073709551616))), L⟩ := by
  simp only [ul, binF_geq, Int.ofNat_le]
theorem eql_ul : binF P .eql t (ul a) (ul b) L = ⟨True, .lit (.bool (decide (a % 18446744073709551616 = b % 18446744073709551616))), L⟩ := by
  simp only [ul, binF_eql, Int.ofNat_inj]
theorem neq_ul : binF P .neq t (ul a) (ul b) L = ⟨True, .lit (.bool (decide (a % 18446744073709551616 ≠ b % 18446744073709551616))), L⟩ := by
  simp only [ul, binF_neq, ne_eq, Int.ofNat_inj]
theorem bits_nat (a : Nat) : BitVec.ofInt 64 ((a % 18446744073709551616 : Nat) : Int) = BitVec.ofNat 64 a := by
  rw [BitVec.ofInt_natCast]
  apply BitVec.eq_of_toNat_eq
  simp
theorem and_bits (a b : Nat) : (BitVec.ofInt IntKind.u64.bits ((a % 18446744073709551616 : Nat) : Int) &&& BitVec.ofInt IntKind.u64.bits ((b % 18446744073709551616 : Nat) : Int)).toNat = (a &&& b) % 18446744073709551616 := by
  show (BitVec.ofInt 64 ((a % 18446744073709551616 : Nat) : Int) &&& BitVec.ofInt 64 ((b % 18446744073709551616 : Nat) : Int)).toNat = _
  rw [bits_nat, bits_nat, BitVec.toNat_and, BitVec.toNat_ofNat, BitVec.toNat_ofNat]
  exact Nat.and_mod_two_pow.symm
theorem and_ul : binF P .and t (ul a) (ul b) L = ⟨True, ul (a &&& b), L⟩ := by
  simp only [ul, binF_and, and_bits, wrapU, OR.mk.injEq, PV.lit.injEq, Value.int.injEq, true_and, and_true]
  omega
theorem or_bits (a b : Nat) : (BitVec.ofInt IntKind.u64.bits ((a % 18446744073709551616 : Nat) : Int) ||| BitVec.ofInt IntKind.u64.bits ((b % 18446744073709551616 : Nat) : Int)).toNat = (a ||| b) % 18446744073709551616 := by
  show (BitVec.ofInt 64 ((a % 18446744073709551616 : Nat) : Int) ||| BitVec.ofInt 64 ((b % 18446744073709551616 : Nat) : Int)).toNat = _
  rw [bits_nat, bits_nat, BitVec.toNat_or, BitVec.toNat_ofNat, BitVec.toNat_ofNat]
  exact Nat.or_mod_two_pow.symm
theorem or_ul : binF P .or t (ul a) (ul b) L = ⟨True, ul (a ||| b), L⟩ := by
  simp only [ul, binF_or, or_bits, wrapU, OR.mk.injEq, PV.lit.injEq, Value.int.injEq, true_and, and_true]
  omega
theorem xor_bits (a b : Nat) : (BitVec.ofInt IntKind.u64.bits ((a % 18446744073709551616 : Nat) : Int) ^^^ BitVec.ofInt IntKind.u64.bits ((b % 18446744073709551616 : Nat) : Int)).toNat = (a ^^^ b) % 18446744073709551616 := by
  show (BitVec.ofInt 64 ((a % 18446744073709551616 : Nat) : Int) ^^^ BitVec.ofInt 64 ((b % 18446744073709551616 : Nat) : Int)).toNat = _
  rw [bits_nat, bits_nat, BitVec.toNat_xor, BitVec.toNat_ofNat, BitVec.toNat_ofNat]
  exact Nat.xor_mod_two_pow.symm
theorem xor_ul : binF P .xor t (ul a) (ul b) L = ⟨True, ul (a ^^^ b), L⟩ := by
  simp only [ul, binF_xor, xor_bits, wrapU, OR.mk.injEq, PV.lit.injEq, Value.int.injEq, true_and, and_true]
  omega
theorem mul_pow_min (x b : Nat) : x * 2 ^ min b 64 % 18446744073709551616 = x * 2 ^ b % 18446744073709551616 := by
  by_cases h : b ≤ 64
  · rw [Nat.min_eq_left h]
  · rw [Nat.min_eq_right (by omega)]
    have h2 : b = 64 + (b - 64) := by omega
    rw [h2, Nat.pow_add, ← Nat.mul_assoc]
    have : (2 : Nat) ^ 64 = 18446744073709551616 := by decide
    rw [this]
    rw [Nat.mul_mod_left, Nat.mul_right_comm, Nat.mul_mod_left]
theorem shl_z {k : IntKind} {z : Int} : binF P .shl t (ul a) (.lit (.int k z)) L = ⟨0 ≤ z, ul (a * 2 ^ z.toNat), L⟩ := by
  simp only [ul, binF_shl, IntKind.bits, wrapU, OR.mk.injEq, PV.lit.injEq, Value.int.injEq, true_and, and_true]
  have e : ((a % 18446744073709551616 : Nat) : Int) * 2 ^ min z.toNat 64 = ((a % 18446744073709551616 * 2 ^ min z.toNat 64 : Nat) : Int) := by simp
  rw [e]
  have h := mul_pow_min (a % 18446744073709551616) z.toNat
  have h2 : a % 18446744073709551616 * 2 ^ z.toNat % 18446744073709551616 = a * 2 ^ z.toNat % 18446744073709551616 := by rw [Nat.mod_mul_mod]
  rw [← h2, ← h]
  omega
theorem shl_ul : binF P .shl t (ul a) (ul b) L = ⟨True, ul (a * 2 ^ (b % 18446744073709551616)), L⟩ := by
  have := shl_z (P := P) (L := L) (t := t) (a := a) (k := .u64) (z := ((b % 18446744073709551616 : Nat) : Int))
  rw [show ul b = .lit (.int .u64 ((b % 18446744073709551616 : Nat) : Int)) from rfl, this]
  simp only [Int.toNat_natCast, OR.mk.injEq, and_true, eq_iff_iff, iff_true]
  omega
theorem shr_z {k : IntKind} {z : Int} : binF P .shr t (ul a) (.lit (.int k z)) L = ⟨0 ≤ z, ul (a % 18446744073709551616 / 2 ^ z.toNat), L⟩ := by
  simp only [ul, binF_shr, IntKind.bits, OR.mk.injEq, PV.lit.injEq, Value.int.injEq, true_and, and_true]
  have hlt : a % 18446744073709551616 < 18446744073709551616 := Nat.mod_lt _ (by decide)
  have e : (2 : Int) ^ min z.toNat 64 = ((2 ^ min z.toNat 64 : Nat) : Int) := by simp
  rw [e]
  have e2 : Int.fdiv ((a % 18446744073709551616 : Nat) : Int) ((2 ^ min z.toNat 64 : Nat) : Int) = ((a % 18446744073709551616 / 2 ^ min z.toNat 64 : Nat) : Int) := by
    rw [Int.fdiv_eq_ediv_of_nonneg _ (Int.natCast_nonneg _)]
    exact Int.natCast_ediv _ _ |>.symm
  rw [e2]
  congr 1
  have h3 : a % 18446744073709551616 / 2 ^ z.toNat < 18446744073709551616 := Nat.lt_of_le_of_lt (Nat.div_le_self _ _) hlt
  rw [Nat.mod_eq_of_lt h3]
  by_cases h : z.toNat ≤ 64
  · rw [Nat.min_eq_left h]
  · rw [Nat.min_eq_right (by omega)]
    rw [Nat.div_eq_of_lt (by have : (2 : Nat) ^ 64 = 18446744073709551616 := by decide
                             omega), Nat.div_eq_of_lt]
    exact Nat.lt_of_lt_of_le hlt (Nat.le_trans (show 18446744073709551616 ≤ 2 ^ 64 by decide) (Nat.pow_le_pow_right (by decide) (by omega)))
theorem shr_ul : binF P .shr t (ul a) (ul b) L = ⟨True, ul (a % 18446744073709551616 / 2 ^ (b % 18446744073709551616)), L⟩ := by
  have := shr_z (P := P) (L := L) (t := t) (a := a) (k := .u64) (z := ((b % 18446744073709551616 : Nat) : Int))
  rw [show ul b = .lit (.int .u64 ((b % 18446744073709551616 : Nat) : Int)) from rfl, this]
  simp only [Int.toNat_natCast, OR.mk.injEq, and_true, eq_iff_iff, iff_true]
  omega
theorem not_ul : unF .xor (ul a) L = ⟨True, ul (18446744073709551615 - a % 18446744073709551616), L⟩ := by
  simp only [ul, unF, OR.mk.injEq, PV.lit.injEq, Value.int.injEq, true_and, and_true, wrapU]
  have e : (BitVec.ofInt IntKind.u64.bits (if IntKind.u64.signed = true then -1 else IntKind.u64.max) ^^^ BitVec.ofInt IntKind.u64.bits ((a % 18446744073709551616 : Nat) : Int)).toNat = 18446744073709551615 - a % 18446744073709551616 := by
    show (BitVec.ofInt 64 (if IntKind.u64.signed = true then -1 else IntKind.u64.max) ^^^ BitVec.ofInt 64 ((a % 18446744073709551616 : Nat) : Int)).toNat = _
    have hm : BitVec.ofInt 64 (if IntKind.u64.signed = true then -1 else IntKind.u64.max) = BitVec.allOnes 64 := by decide
    rw [hm, BitVec.allOnes_xor, bits_nat, BitVec.toNat_not, BitVec.toNat_ofNat]
  rw [e]; omega
end
end Go.Ab
namespace Go.Ab
open Go Go.RowKit
set_option linter.unusedVariables false
set_option linter.unusedSimpArgs false
variable {P : Program} {Γ : Con} {L L' : LH} {env : Env}
def cl (k n : Nat) : List PV := (List.range k).map fun i => ul (n / 2 ^ (64 * i))
theorem cl4 (n : Nat) : cl 4 n = [ul n, ul (n / 18446744073709551616), ul (n / 340282366920938463463374607431768211456), ul (n / 6277101735386680763835789423207666416102355444464034512896)] := by
  simp [cl, List.range, List.range.loop]
theorem len_cl (k n : Nat) : (cl k n).length = k := by simp [cl]
theorem closedL_cl (k n : Nat) : closedL (cl k n) = true := by
  rw [closedL_iff]; intro p hp; simp only [cl, List.mem_map] at hp; obtain ⟨i, _, rfl⟩ := hp; rfl
theorem flatL_cl (k n : Nat) : flatL (cl k n) = true := by
  rw [flatL_iff]; intro p hp; simp only [cl, List.mem_map] at hp; obtain ⟨i, _, rfl⟩ := hp; rfl
theorem one_cl (k n : Nat) : (cl k n).all PV.one = true := by
  rw [List.all_eq_true]; intro p hp; simp only [cl, List.mem_map] at hp; obtain ⟨i, _, rfl⟩ := hp; rfl
theorem take_cl (k n : Nat) : (cl k n).take k = cl k n := List.take_of_length_le (by simp [cl])
def u4 (n : Nat) : PV := .agg (cl 4 n)
def isU (p : PV) : Prop := ∃ n, p = u4 n
def uv : PV → Nat
  | .agg [a, b, c, d] => ulv a + ulv b * 18446744073709551616 + ulv c * 340282366920938463463374607431768211456 + ulv d * 6277101735386680763835789423207666416102355444464034512896
  | _ => 0
theorem isU_u4 (n : Nat) : isU (u4 n) ↔ True := by simp only [iff_true]; exact ⟨n, rfl⟩
theorem uv_u4 (n : Nat) : uv (u4 n) = n % 115792089237316195423570985008687907853269984665640564039457584007913129639936 := by
  simp only [u4, cl4, uv, ulv_ul]; omega
theorem agg_cl (n : Nat) : PV.agg (cl 4 n) = u4 n := rfl
theorem cells_u4 (n : Nat) : (u4 n).cells = cl 4 n := rfl
theorem closed_u4 (n : Nat) : closed (u4 n) = true := closedL_cl 4 n
theorem flat_u4 (n : Nat) : flat (u4 n) = true := flatL_cl 4 n
theorem nrm_u4 (n : Nat) : nrm (u4 n) = u4 n := rfl
theorem borrow_u4 (n : Nat) : borrow L (u4 n) = u4 n := by simp only [borrow, closed_u4, cond_true]
theorem zero_cl4 : [ul 0, ul 0, ul 0, ul 0] = cl 4 0 := by rw [cl4]
theorem conv_bv_ul {s d : Nat} {S : TI} {s2 b2 : Nat} {z2 : Value} {b : UInt8} (h1 : tyOf P s = some S) (h2 : tyOf P d = some ⟨.int .u64, s2, b2, z2⟩) : convF P s d (bv b) L = ⟨True, ul b.toNat, L⟩ := by
  rw [bv, conv_int h1 h2]
  simp only [ul, wrapU, OR.mk.injEq, PV.lit.injEq, Value.int.injEq, true_and, and_true]; omega
theorem conv_ul_u8 {s d : Nat} {S : TI} {s2 b2 : Nat} {z2 : Value} {n : Nat} (h1 : tyOf P s = some S) (h2 : tyOf P d = some ⟨.int .u8, s2, b2, z2⟩) : convF P s d (ul n) L = ⟨True, bv (UInt8.ofNat n), L⟩ := by
  rw [ul, conv_int h1 h2]
  simp only [bv, OR.mk.injEq, PV.lit.injEq, Value.int.injEq, true_and, and_true]
  have : IntKind.u8.wrap ((n % 18446744073709551616 : Nat) : Int) = ((n % 18446744073709551616 : Nat) : Int) % 256 := by simp [IntKind.wrap, IntKind.bits, IntKind.signed]
  rw [this]
  simp
theorem conv_ul_int {s d : Nat} {S : TI} {k : IntKind} {s2 b2 : Nat} {z2 : Value} {n : Nat} (h1 : tyOf P s = some S) (h2 : tyOf P d = some ⟨.int k, s2, b2, z2⟩) : convF P s d (ul n) L = ⟨True, .lit (.int k (k.wrap ((n % 18446744073709551616 : Nat) : Int))), L⟩ := by
  rw [ul, conv_int h1 h2]
theorem conv_bv_int {s d : Nat} {S : TI} {k : IntKind} {s2 b2 : Nat} {z2 : Value} {b : UInt8} (h1 : tyOf P s = some S) (h2 : tyOf P d = some ⟨.int k, s2, b2, z2⟩) : convF P s d (bv b) L = ⟨True, .lit (.int k (k.wrap (b.toNat : Int))), L⟩ := by
  rw [bv, conv_int h1 h2]
end Go.Ab
namespace Go.Ab
set_option linter.unusedVariables false
end Go.Ab
namespace Go.Ab
set_option linter.unusedVariables false
end Go.Ab
namespace Go.Ab
open Go Go.RowKit
set_option linter.unusedVariables false
end Go.Ab
