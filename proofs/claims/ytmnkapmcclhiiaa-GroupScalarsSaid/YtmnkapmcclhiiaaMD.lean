import Derived.Test.YtmnkapmcclhiiaaMC
import Derived.Laws.Externs
import Derived.Shelf.Spec.BitsCarry
namespace Go.Ab
open Go Go.RowKit
set_option linter.unusedVariables false
set_option linter.unusedSimpArgs false
variable {P : Program} {Γ : Con} {L L' : LH} {env : Env}
def ul (n : Nat) : PV := .lit (.int .u64 ((n % 18446744073709551616 : Nat) : Int))
def isul (p : PV) : Prop := ∃ n, p = ul n
def ulv : PV → Nat
  | .lit (.int _ z) => z.toNat
  | _ => 0
theorem isul_ul (n : Nat) : isul (ul n) ↔ True := by simp only [iff_true]; exact ⟨n, rfl⟩
theorem ulv_ul (n : Nat) : ulv (ul n) = n % 18446744073709551616 := by simp only [ulv, ul, Int.toNat_natCast]
theorem ul_mod (n : Nat) : ul (n % 18446744073709551616) = ul n := by simp [ul]
theorem ul_congr {a b : Nat} (h : a % 18446744073709551616 = b % 18446744073709551616) : ul a = ul b := by simp only [ul, h]
theorem isul_out {p : PV} (h : isul p) : ∃ n, n < 18446744073709551616 ∧ p = ul n := by
  obtain ⟨n, rfl⟩ := h
  exact ⟨n % 18446744073709551616, Nat.mod_lt _ (by decide), (ul_mod n).symm⟩
theorem cells_ul (n : Nat) : (ul n).cells = [ul n] := rfl
theorem one_ul (n : Nat) : (ul n).one = true := rfl
theorem closed_ul (n : Nat) : closed (ul n) = true := rfl
theorem flat_ul (n : Nat) : flat (ul n) = true := rfl
theorem lit_ul0 : PV.lit (.int .u64 0) = ul 0 := rfl
theorem lit_ul1 : PV.lit (.int .u64 1) = ul 1 := rfl
theorem nrm_ul (n : Nat) : nrm (ul n) = ul n := rfl
theorem borrow_ul (n : Nat) : borrow L (ul n) = ul n := rfl
section
variable {t : TypeId} {a b : Nat}
theorem wrapU (z : Int) : IntKind.u64.wrap z = z % 18446744073709551616 := by simp [IntKind.wrap, IntKind.bits, IntKind.signed]
theorem add_ul : binF P .add t (ul a) (ul b) L = ⟨True, ul (a + b), L⟩ := by
  simp only [ul, binF_add, wrapU, OR.mk.injEq, PV.lit.injEq, Value.int.injEq, true_and, and_true]; omega
theorem sub_ul : binF P .sub t (ul a) (ul b) L = ⟨True, ul (a + (18446744073709551616 - b % 18446744073709551616)), L⟩ := by
  simp only [ul, binF_sub, wrapU, OR.mk.injEq, PV.lit.injEq, Value.int.injEq, true_and, and_true]; omega
theorem mul_ul : binF P .mul t (ul a) (ul b) L = ⟨True, ul (a * b), L⟩ := by
  simp only [ul, binF_mul, wrapU, OR.mk.injEq, PV.lit.injEq, Value.int.injEq, true_and, and_true]
  rw [← Int.natCast_mul]
  have : a % 18446744073709551616 * (b % 18446744073709551616) % 18446744073709551616 = a * b % 18446744073709551616 := (Nat.mul_mod a b _).symm
  omega
theorem lss_ul : binF P .lss t (ul a) (ul b) L = ⟨True, .lit (.bool (decide (a % 18446744073709551616 < b % 18446744073709551616))), L⟩ := by
  simp only [ul, binF_lss, Int.ofNat_lt]
theorem leq_ul : binF P .leq t (ul a) (ul b) L = ⟨True, .lit (.bool (decide (a % 18446744073709551616 ≤ b % 18446744073709551616))), L⟩ := by
  simp only [ul, binF_leq, Int.ofNat_le]
theorem gtr_ul : binF P .gtr t (ul a) (ul b) L = ⟨True, .lit (.bool (decide (b % 18446744073709551616 < a % 18446744073709551616))), L⟩ := by
  simp only [ul, binF_gtr, Int.ofNat_lt]
theorem geq_ul : binF P .geq t (ul a) (ul b) L = ⟨True, .lit (.bool (decide (b % 18446744073709551616 ≤ a % 18446744073709551616))), L⟩ := by
  simp only [ul, binF_geq, Int.ofNat_le]
theorem eql_ul : binF P .eql t (ul a) (ul b) L = ⟨True, .lit (.bool (decide (a % 18446744073709551616 = b % 18446744073709551616))), L⟩ := by
  simp only [ul, binF_eql, Int.ofNat_inj]
theorem neq_ul : binF P .neq t (ul a) (ul b) L = ⟨True, .lit (.bool (decide (a % 18446744073709551616 ≠ b % 18446744073709551616))), L⟩ := by
  simp only [ul, binF_neq, ne_eq, Int.ofNat_inj]
theorem bits_nat (a : Nat) : BitVec.ofInt 64 ((a % 18446744073709551616 : Nat) : Int) = BitVec.ofNat 64 a := by
  rw [BitVec.ofInt_natCast]
  apply BitVec.eq_of_toNat_eq
  simp
theorem and_bits (a b : Nat) : (BitVec.ofInt IntKind.u64.bits ((a % 18446744073709551616 : Nat) : Int) &&& BitVec.ofInt IntKind.u64.bits ((b % 18446744073709551616 : Nat) : Int)).toNat = (a &&& b) % 18446744073709551616 := by
  show (BitVec.ofInt 64 ((a % 18446744073709551616 : Nat) : Int) &&& BitVec.ofInt 64 ((b % 18446744073709551616 : Nat) : Int)).toNat = _
  rw [bits_nat, bits_nat, BitVec.toNat_and, BitVec.toNat_ofNat, BitVec.toNat_ofNat]
  exact Nat.and_mod_two_pow.symm
theorem and_ul : binF P .and t (ul a) (ul b) L = ⟨True, ul (a &&& b), L⟩ := by
  simp only [ul, binF_and, and_bits, wrapU, OR.mk.injEq, PV.lit.injEq, Value.int.injEq, true_and, and_true]
  omega
theorem or_bits (a b : Nat) : (BitVec.ofInt IntKind.u64.bits ((a % 18446744073709551616 : Nat) : Int) ||| BitVec.ofInt IntKind.u64.bits ((b % 18446744073709551616 : Nat) : Int)).toNat = (a ||| b) % 18446744073709551616 := by
  show (BitVec.ofInt 64 ((a % 18446744073709551616 : Nat) : Int) ||| BitVec.ofInt 64 ((b % 18446744073709551616 : Nat) : Int)).toNat = _
  rw [bits_nat, bits_nat, BitVec.toNat_or, BitVec.toNat_ofNat, BitVec.toNat_ofNat]
  exact Nat.or_mod_two_pow.symm
theorem or_ul : binF P .or t (ul a) (ul b) L = ⟨True, ul (a ||| b), L⟩ := by
  simp only [ul, binF_or, or_bits, wrapU, OR.mk.injEq, PV.lit.injEq, Value.int.injEq, true_and, and_true]
  omega
theorem xor_bits (a b : Nat) : (BitVec.ofInt IntKind.u64.bits ((a % 18446744073709551616 : Nat) : Int) ^^^ BitVec.ofInt IntKind.u64.bits ((b % 18446744073709551616 : Nat) : Int)).toNat = (a ^^^ b) % 18446744073709551616 := by
  show (BitVec.ofInt 64 ((a % 18446744073709551616 : Nat) : Int) ^^^ BitVec.ofInt 64 ((b % 18446744073709551616 : Nat) : Int)).toNat = _
  rw [bits_nat, bits_nat, BitVec.toNat_xor, BitVec.toNat_ofNat, BitVec.toNat_ofNat]
  exact Nat.xor_mod_two_pow.symm
theorem xor_ul : binF P .xor t (ul a) (ul b) L = ⟨True, ul (a ^^^ b), L⟩ := by
  simp only [ul, binF_xor, xor_bits, wrapU, OR.mk.injEq, PV.lit.injEq, Value.int.injEq, true_and, and_true]
  omega
theorem mul_pow_min (x b : Nat) : x * 2 ^ min b 64 % 18446744073709551616 = x * 2 ^ b % 18446744073709551616 := by
  by_cases h : b ≤ 64
  · rw [Nat.min_eq_left h]
  · rw [Nat.min_eq_right (by omega)]
    have h2 : b = 64 + (b - 64) := by omega
    rw [h2, Nat.pow_add, ← Nat.mul_assoc]
    have : (2 : Nat) ^ 64 = 18446744073709551616 := by decide
    rw [this]
    rw [Nat.mul_mod_left, Nat.mul_right_comm, Nat.mul_mod_left]
theorem shl_z {k : IntKind} {z : Int} : binF P .shl t (ul a) (.lit (.int k z)) L = ⟨0 ≤ z, ul (a * 2 ^ z.toNat), L⟩ := by
  simp only [ul, binF_shl, IntKind.bits, wrapU, OR.mk.injEq, PV.lit.injEq, Value.int.injEq, true_and, and_true]
  have e : ((a % 18446744073709551616 : Nat) : Int) * 2 ^ min z.toNat 64 = ((a % 18446744073709551616 * 2 ^ min z.toNat 64 : Nat) : Int) := by simp
  rw [e]
  have h := mul_pow_min (a % 18446744073709551616) z.toNat
  have h2 : a % 18446744073709551616 * 2 ^ z.toNat % 18446744073709551616 = a * 2 ^ z.toNat % 18446744073709551616 := by rw [Nat.mod_mul_mod]
  rw [← h2, ← h]
  omega
theorem shl_ul : binF P .shl t (ul a) (ul b) L = ⟨True, ul (a * 2 ^ (b % 18446744073709551616)), L⟩ := by
  have := shl_z (P := P) (L := L) (t := t) (a := a) (k := .u64) (z := ((b % 18446744073709551616 : Nat) : Int))
  rw [show ul b = .lit (.int .u64 ((b % 18446744073709551616 : Nat) : Int)) from rfl, this]
  simp only [Int.toNat_natCast, OR.mk.injEq, and_true, eq_iff_iff, iff_true]
  omega
theorem shr_z {k : IntKind} {z : Int} : binF P .shr t (ul a) (.lit (.int k z)) L = ⟨0 ≤ z, ul (a % 18446744073709551616 / 2 ^ z.toNat), L⟩ := by
  simp only [ul, binF_shr, IntKind.bits, OR.mk.injEq, PV.lit.injEq, Value.int.injEq, true_and, and_true]
  have hlt : a % 18446744073709551616 < 18446744073709551616 := Nat.mod_lt _ (by decide)
  have e : (2 : Int) ^ min z.toNat 64 = ((2 ^ min z.toNat 64 : Nat) : Int) := by simp
  rw [e]
  have e2 : Int.fdiv ((a % 18446744073709551616 : Nat) : Int) ((2 ^ min z.toNat 64 : Nat) : Int) = ((a % 18446744073709551616 / 2 ^ min z.toNat 64 : Nat) : Int) := by
    rw [Int.fdiv_eq_ediv_of_nonneg _ (Int.natCast_nonneg _)]
    exact Int.natCast_ediv _ _ |>.symm
  rw [e2]
  congr 1
  have h3 : a % 18446744073709551616 / 2 ^ z.toNat < 18446744073709551616 := Nat.lt_of_le_of_lt (Nat.div_le_self _ _) hlt
  rw [Nat.mod_eq_of_lt h3]
  by_cases h : z.toNat ≤ 64
  · rw [Nat.min_eq_left h]
  · rw [Nat.min_eq_right (by omega)]
    rw [Nat.div_eq_of_lt (by have : (2 : Nat) ^ 64 = 18446744073709551616 := by decide
                             omega), Nat.div_eq_of_lt]
    exact Nat.lt_of_lt_of_le hlt (Nat.le_trans (show 18446744073709551616 ≤ 2 ^ 64 by decide) (Nat.pow_le_pow_right (by decide) (by omega)))
theorem shr_ul : binF P .shr t (ul a) (ul b) L = ⟨True, ul (a % 18446744073709551616 / 2 ^ (b % 18446744073709551616)), L⟩ := by
  have := shr_z (P := P) (L := L) (t := t) (a := a) (k := .u64) (z := ((b % 18446744073709551616 : Nat) : Int))
  rw [show ul b = .lit (.int .u64 ((b % 18446744073709551616 : Nat) : Int)) from rfl, this]
  simp only [Int.toNat_natCast, OR.mk.injEq, and_true, eq_iff_iff, iff_true]
  omega
theorem not_ul : unF .xor (ul a) L = ⟨True, ul (18446744073709551615 - a % 18446744073709551616), L⟩ := by
  simp only [ul, unF, OR.mk.injEq, PV.lit.injEq, Value.int.injEq, true_and, and_true, wrapU]
  have e : (BitVec.ofInt IntKind.u64.bits (if IntKind.u64.signed = true then -1 else IntKind.u64.max) ^^^ BitVec.ofInt IntKind.u64.bits ((a % 18446744073709551616 : Nat) : Int)).toNat = 18446744073709551615 - a % 18446744073709551616 := by
    show (BitVec.ofInt 64 (if IntKind.u64.signed = true then -1 else IntKind.u64.max) ^^^ BitVec.ofInt 64 ((a % 18446744073709551616 : Nat) : Int)).toNat = _
    have hm : BitVec.ofInt 64 (if IntKind.u64.signed = true then -1 else IntKind.u64.max) = BitVec.allOnes 64 := by decide
    rw [hm, BitVec.allOnes_xor, bits_nat, BitVec.toNat_not, BitVec.toNat_ofNat]
  rw [e]; omega
end
end Go.Ab
namespace Go.Ab
open Go Go.RowKit
set_option linter.unusedVariables false
set_option linter.unusedSimpArgs false
variable {P : Program} {Γ : Con} {L L' : LH} {env : Env}
def cl (k n : Nat) : List PV := (List.range k).map fun i => ul (n / 2 ^ (64 * i))
theorem cl4 (n : Nat) : cl 4 n = [ul n, ul (n / 18446744073709551616), ul (n / 340282366920938463463374607431768211456), ul (n / 6277101735386680763835789423207666416102355444464034512896)] := by
  simp [cl, List.range, List.range.loop]
theorem len_cl (k n : Nat) : (cl k n).length = k := by simp [cl]
theorem closedL_cl (k n : Nat) : closedL (cl k n) = true := by
  rw [closedL_iff]; intro p hp; simp only [cl, List.mem_map] at hp; obtain ⟨i, _, rfl⟩ := hp; rfl
theorem flatL_cl (k n : Nat) : flatL (cl k n) = true := by
  rw [flatL_iff]; intro p hp; simp only [cl, List.mem_map] at hp; obtain ⟨i, _, rfl⟩ := hp; rfl
theorem one_cl (k n : Nat) : (cl k n).all PV.one = true := by
  rw [List.all_eq_true]; intro p hp; simp only [cl, List.mem_map] at hp; obtain ⟨i, _, rfl⟩ := hp; rfl
theorem take_cl (k n : Nat) : (cl k n).take k = cl k n := List.take_of_length_le (by simp [cl])
theorem getD_cl {k n i : Nat} (h : i < k) (d : PV) : (cl k n).getD i d = ul (n / 2 ^ (64 * i)) := by
  simp [cl, List.getD_eq_getElem?_getD, h]
def u4 (n : Nat) : PV := .agg (cl 4 n)
def isU (p : PV) : Prop := ∃ n, p = u4 n
def uv : PV → Nat
  | .agg [a, b, c, d] => ulv a + ulv b * 18446744073709551616 + ulv c * 340282366920938463463374607431768211456 + ulv d * 6277101735386680763835789423207666416102355444464034512896
  | _ => 0
theorem isU_u4 (n : Nat) : isU (u4 n) ↔ True := by simp only [iff_true]; exact ⟨n, rfl⟩
theorem uv_u4 (n : Nat) : uv (u4 n) = n % 115792089237316195423570985008687907853269984665640564039457584007913129639936 := by
  simp only [u4, cl4, uv, ulv_ul]; omega
theorem cl4_congr {a b : Nat} (h : a % 115792089237316195423570985008687907853269984665640564039457584007913129639936 = b % 115792089237316195423570985008687907853269984665640564039457584007913129639936) : cl 4 a = cl 4 b := by
  rw [cl4, cl4]
  congr 1
  · exact ul_congr (by omega)
  congr 1
  · exact ul_congr (by omega)
  congr 1
  · exact ul_congr (by omega)
  congr 1
  · exact ul_congr (by omega)
theorem u4_congr {a b : Nat} (h : a % 115792089237316195423570985008687907853269984665640564039457584007913129639936 = b % 115792089237316195423570985008687907853269984665640564039457584007913129639936) : u4 a = u4 b := by
  rw [u4, u4, cl4_congr h]
theorem u4_mod (a : Nat) : u4 (a % 115792089237316195423570985008687907853269984665640564039457584007913129639936) = u4 a := u4_congr (by rw [Nat.mod_mod])
theorem isU_out {p : PV} (h : isU p) : ∃ n, n < 115792089237316195423570985008687907853269984665640564039457584007913129639936 ∧ p = u4 n := by
  obtain ⟨n, rfl⟩ := h
  exact ⟨n % 115792089237316195423570985008687907853269984665640564039457584007913129639936, Nat.mod_lt _ (by decide), (u4_mod n).symm⟩
theorem list4 {a b c d n : Nat} (h : n % 115792089237316195423570985008687907853269984665640564039457584007913129639936 = a % 18446744073709551616 + (b % 18446744073709551616) * 18446744073709551616 + (c % 18446744073709551616) * 340282366920938463463374607431768211456 + (d % 18446744073709551616) * 6277101735386680763835789423207666416102355444464034512896) :
    [ul a, ul b, ul c, ul d] = cl 4 n := by
  rw [cl4]
  congr 1
  · exact ul_congr (by omega)
  congr 1
  · exact ul_congr (by omega)
  congr 1
  · exact ul_congr (by omega)
  congr 1
  · exact ul_congr (by omega)
theorem agg4 {a b c d n : Nat} (h : n % 115792089237316195423570985008687907853269984665640564039457584007913129639936 = a % 18446744073709551616 + (b % 18446744073709551616) * 18446744073709551616 + (c % 18446744073709551616) * 340282366920938463463374607431768211456 + (d % 18446744073709551616) * 6277101735386680763835789423207666416102355444464034512896) :
    PV.agg [ul a, ul b, ul c, ul d] = u4 n := by
  rw [u4, list4 h]
theorem agg_cl (n : Nat) : PV.agg (cl 4 n) = u4 n := rfl
theorem cells_u4 (n : Nat) : (u4 n).cells = cl 4 n := rfl
theorem closed_u4 (n : Nat) : closed (u4 n) = true := closedL_cl 4 n
theorem flat_u4 (n : Nat) : flat (u4 n) = true := flatL_cl 4 n
theorem nrm_u4 (n : Nat) : nrm (u4 n) = u4 n := rfl
theorem borrow_u4 (n : Nat) : borrow L (u4 n) = u4 n := by simp only [borrow, closed_u4, cond_true]
theorem zero_cl4 : [ul 0, ul 0, ul 0, ul 0] = cl 4 0 := by rw [cl4]
theorem zero_cl8 : [ul 0, ul 0, ul 0, ul 0, ul 0, ul 0, ul 0, ul 0] = cl 8 0 := by simp [cl, List.range, List.range.loop]
theorem isInts_cl (k n : Nat) : isInts .u64 (cl k n) := by
  have gen : ∀ l : List Nat, isInts .u64 (l.map fun i => ul (n / 2 ^ (64 * i))) := by
    intro l
    induction l with
    | nil => trivial
    | cons i l ih => exact ⟨rfl, ih⟩
  exact gen _
theorem intsOf_cl4 (n : Nat) : intsOf (cl 4 n) = [((n % 18446744073709551616 : Nat) : Int), ((n / 18446744073709551616 % 18446744073709551616 : Nat) : Int), ((n / 340282366920938463463374607431768211456 % 18446744073709551616 : Nat) : Int), ((n / 6277101735386680763835789423207666416102355444464034512896 % 18446744073709551616 : Nat) : Int)] := by
  rw [cl4]; rfl
theorem ints_eq (a b : Nat) : (intsOf (cl 4 a) == intsOf (cl 4 b)) = decide (a % 115792089237316195423570985008687907853269984665640564039457584007913129639936 = b % 115792089237316195423570985008687907853269984665640564039457584007913129639936) := by
  rw [intsOf_cl4, intsOf_cl4, Bool.eq_iff_iff]
  simp only [List.cons_beq_cons, List.nil_beq_eq, Bool.and_eq_true, beq_iff_eq, Int.ofNat_inj, decide_eq_true_eq, List.isEmpty_nil, and_true]
  omega
theorem eql_u4 {t e s1 b1 b2 : Nat} {z1 z2 : Value} {a b : Nat} (ht : tyOf P t = some ⟨.array 4 e, s1, b1, z1⟩) (he : tyOf P e = some ⟨.int .u64, 1, b2, z2⟩) :
    binF P .eql t (u4 a) (u4 b) L = ⟨True, .lit (.bool (decide (a % 115792089237316195423570985008687907853269984665640564039457584007913129639936 = b % 115792089237316195423570985008687907853269984665640564039457584007913129639936))), L⟩ := by
  simp only [u4, binF, ht, he, len_cl, isInts_cl, and_self, ints_eq]
theorem neq_u4 {t e s1 b1 b2 : Nat} {z1 z2 : Value} {a b : Nat} (ht : tyOf P t = some ⟨.array 4 e, s1, b1, z1⟩) (he : tyOf P e = some ⟨.int .u64, 1, b2, z2⟩) :
    binF P .neq t (u4 a) (u4 b) L = ⟨True, .lit (.bool (decide (a % 115792089237316195423570985008687907853269984665640564039457584007913129639936 ≠ b % 115792089237316195423570985008687907853269984665640564039457584007913129639936))), L⟩ := by
  simp only [u4, binF, ht, he, len_cl, isInts_cl, and_self, ints_eq, ne_eq, decide_not]
def sAdd64 : List PV → Prop × PV
  | [x, y, c] => (isul x ∧ isul y ∧ isul c ∧ ulv c ≤ 1, .tup [ul (ulv x + ulv y + ulv c), ul ((ulv x + ulv y + ulv c) / 18446744073709551616)])
  | _ => (False, .any)
def sSub64 : List PV → Prop × PV
  | [x, y, c] => (isul x ∧ isul y ∧ isul c ∧ ulv c ≤ 1, .tup [ul (ulv x + 18446744073709551616 - ulv y - ulv c), ul ((18446744073709551615 + ulv y + ulv c - ulv x) / 18446744073709551616)])
  | _ => (False, .any)
theorem add64_ext {f : FuncId} {fn : Func} (hf : P.funcs[f]? = some fn) (hname : (fn.name == "runtime.NumGoroutine") = false) (hb : fn.body.isNone = true) (hn : Extern.findNext fn = none) (he : Extern.find fn = some add64Entry) : ExtOk P f sAdd64 where
  run := by
    intro args hS X β w vs hr
    unfold sAdd64 at hS ⊢
    split at hS
    · obtain ⟨⟨x, rfl⟩, ⟨y, rfl⟩, ⟨c, rfl⟩, hc⟩ := hS
      simp only [RepL, RepV, ul] at hr
      obtain ⟨_, _, rfl, rfl, _, _, rfl, rfl, _, _, rfl, rfl, rfl⟩ := hr
      simp only [ulv_ul] at hc ⊢
      refine ⟨_, by rw [run_callFunc_extern hf hname hb hn he, run_add64 _ _ _ (by omega) (by omega) (by omega) (by omega)]; rfl, ?_⟩
      simp only [RepV, RepL, ul]
      refine ⟨_, rfl, _, _, rfl, ?_, _, _, rfl, ?_, rfl⟩
      · congr 1
      · congr 1; omega
    · exact hS.elim
theorem sub64_ext {f : FuncId} {fn : Func} (hf : P.funcs[f]? = some fn) (hname : (fn.name == "runtime.NumGoroutine") = false) (hb : fn.body.isNone = true) (hn : Extern.findNext fn = none) (he : Extern.find fn = some Go.Proofs.sub64Entry) : ExtOk P f sSub64 where
  run := by
    intro args hS X β w vs hr
    unfold sSub64 at hS ⊢
    split at hS
    · obtain ⟨⟨x, rfl⟩, ⟨y, rfl⟩, ⟨c, rfl⟩, hc⟩ := hS
      simp only [RepL, RepV, ul] at hr
      obtain ⟨_, _, rfl, rfl, _, _, rfl, rfl, _, _, rfl, rfl, rfl⟩ := hr
      simp only [ulv_ul] at hc ⊢
      refine ⟨_, by rw [run_callFunc_extern hf hname hb hn he, Go.Proofs.run_sub64 _ _ _ hc]; rfl, ?_⟩
      simp only [RepV, RepL, ul]
      refine ⟨_, rfl, _, _, rfl, ?_, _, _, rfl, ?_, rfl⟩
      · congr 1
      · congr 1; split <;> omega
    · exact hS.elim
theorem conv_bv_ul {s d : Nat} {S : TI} {s2 b2 : Nat} {z2 : Value} {b : UInt8} (h1 : tyOf P s = some S) (h2 : tyOf P d = some ⟨.int .u64, s2, b2, z2⟩) : convF P s d (bv b) L = ⟨True, ul b.toNat, L⟩ := by
  rw [bv, conv_int h1 h2]
  simp only [ul, wrapU, OR.mk.injEq, PV.lit.injEq, Value.int.injEq, true_and, and_true]; omega
theorem conv_ul_u8 {s d : Nat} {S : TI} {s2 b2 : Nat} {z2 : Value} {n : Nat} (h1 : tyOf P s = some S) (h2 : tyOf P d = some ⟨.int .u8, s2, b2, z2⟩) : convF P s d (ul n) L = ⟨True, bv (UInt8.ofNat n), L⟩ := by
  rw [ul, conv_int h1 h2]
  simp only [bv, OR.mk.injEq, PV.lit.injEq, Value.int.injEq, true_and, and_true]
  have : IntKind.u8.wrap ((n % 18446744073709551616 : Nat) : Int) = ((n % 18446744073709551616 : Nat) : Int) % 256 := by simp [IntKind.wrap, IntKind.bits, IntKind.signed]
  rw [this]
  simp
theorem conv_bv_int {s d : Nat} {S : TI} {k : IntKind} {s2 b2 : Nat} {z2 : Value} {b : UInt8} (h1 : tyOf P s = some S) (h2 : tyOf P d = some ⟨.int k, s2, b2, z2⟩) : convF P s d (bv b) L = ⟨True, .lit (.int k (k.wrap (b.toNat : Int))), L⟩ := by
  rw [bv, conv_int h1 h2]
theorem index_u4 {t e b : Nat} {b2 s1 : Nat} {z1 z2 : Value} {k : IntKind} {n : Nat} {i : Int} (h1 : tyOf P t = some ⟨.array 4 e, s1, b, z1⟩) (h2 : tyOf P e = some ⟨.int .u64, 1, b2, z2⟩) :
    indexF P t (u4 n) (.lit (.int k i)) L = ⟨0 ≤ i ∧ i < 4 ∧ i.toNat < 4, (cl 4 n).getD i.toNat (.lit z2), L⟩ := by
  simp only [indexF, u4, h1, h2, partF, isAggD, Bool.false_eq_true, if_false, len_cl, Nat.mul_one]
  rfl
end Go.Ab
namespace Go.Ab
set_option linter.unusedVariables false
theorem addd0 (a b : Nat) : ul (a % 18446744073709551616 + b % 18446744073709551616) = ul (a + b) := ul_congr (by omega)
theorem subd0 (a b : Nat) : ul (a % 18446744073709551616 + 18446744073709551616 - b % 18446744073709551616) = ul (a + 115792089237316195423570985008687907853269984665640564039457584007913129639936 - b % 115792089237316195423570985008687907853269984665640564039457584007913129639936) := ul_congr (by omega)
theorem addd1 (a b : Nat) : ul (a / 18446744073709551616 % 18446744073709551616 + b / 18446744073709551616 % 18446744073709551616 + (a % 18446744073709551616 + b % 18446744073709551616) / 18446744073709551616 % 18446744073709551616) = ul ((a + b) / 18446744073709551616) := ul_congr (by omega)
theorem addc1 (a b : Nat) : (a / 18446744073709551616 % 18446744073709551616 + b / 18446744073709551616 % 18446744073709551616 + (a % 18446744073709551616 + b % 18446744073709551616) / 18446744073709551616 % 18446744073709551616) / 18446744073709551616 = (a % 340282366920938463463374607431768211456 + b % 340282366920938463463374607431768211456) / 340282366920938463463374607431768211456 := by omega
theorem subd1 (a b : Nat) : ul (a / 18446744073709551616 % 18446744073709551616 + 18446744073709551616 - b / 18446744073709551616 % 18446744073709551616 - ((18446744073709551615 + b % 18446744073709551616 - a % 18446744073709551616) / 18446744073709551616) % 18446744073709551616) = ul ((a + 115792089237316195423570985008687907853269984665640564039457584007913129639936 - b % 115792089237316195423570985008687907853269984665640564039457584007913129639936) / 18446744073709551616) := ul_congr (by omega)
theorem subc1 (a b : Nat) : (18446744073709551615 + b / 18446744073709551616 % 18446744073709551616 + ((18446744073709551615 + b % 18446744073709551616 - a % 18446744073709551616) / 18446744073709551616) % 18446744073709551616 - a / 18446744073709551616 % 18446744073709551616) / 18446744073709551616 = (340282366920938463463374607431768211455 + b % 340282366920938463463374607431768211456 - a % 340282366920938463463374607431768211456) / 340282366920938463463374607431768211456 := by omega
theorem addd2 (a b : Nat) : ul (a / 340282366920938463463374607431768211456 % 18446744073709551616 + b / 340282366920938463463374607431768211456 % 18446744073709551616 + (a % 340282366920938463463374607431768211456 + b % 340282366920938463463374607431768211456) / 340282366920938463463374607431768211456 % 18446744073709551616) = ul ((a + b) / 340282366920938463463374607431768211456) := ul_congr (by omega)
theorem addc2 (a b : Nat) : (a / 340282366920938463463374607431768211456 % 18446744073709551616 + b / 340282366920938463463374607431768211456 % 18446744073709551616 + (a % 340282366920938463463374607431768211456 + b % 340282366920938463463374607431768211456) / 340282366920938463463374607431768211456 % 18446744073709551616) / 18446744073709551616 = (a % 6277101735386680763835789423207666416102355444464034512896 + b % 6277101735386680763835789423207666416102355444464034512896) / 6277101735386680763835789423207666416102355444464034512896 := by omega
theorem subd2 (a b : Nat) : ul (a / 340282366920938463463374607431768211456 % 18446744073709551616 + 18446744073709551616 - b / 340282366920938463463374607431768211456 % 18446744073709551616 - ((340282366920938463463374607431768211455 + b % 340282366920938463463374607431768211456 - a % 340282366920938463463374607431768211456) / 340282366920938463463374607431768211456) % 18446744073709551616) = ul ((a + 115792089237316195423570985008687907853269984665640564039457584007913129639936 - b % 115792089237316195423570985008687907853269984665640564039457584007913129639936) / 340282366920938463463374607431768211456) := ul_congr (by omega)
theorem subc2 (a b : Nat) : (18446744073709551615 + b / 340282366920938463463374607431768211456 % 18446744073709551616 + ((340282366920938463463374607431768211455 + b % 340282366920938463463374607431768211456 - a % 340282366920938463463374607431768211456) / 340282366920938463463374607431768211456) % 18446744073709551616 - a / 340282366920938463463374607431768211456 % 18446744073709551616) / 18446744073709551616 = (6277101735386680763835789423207666416102355444464034512895 + b % 6277101735386680763835789423207666416102355444464034512896 - a % 6277101735386680763835789423207666416102355444464034512896) / 6277101735386680763835789423207666416102355444464034512896 := by omega
theorem addd3 (a b : Nat) : ul (a / 6277101735386680763835789423207666416102355444464034512896 % 18446744073709551616 + b / 6277101735386680763835789423207666416102355444464034512896 % 18446744073709551616 + (a % 6277101735386680763835789423207666416102355444464034512896 + b % 6277101735386680763835789423207666416102355444464034512896) / 6277101735386680763835789423207666416102355444464034512896 % 18446744073709551616) = ul ((a + b) / 6277101735386680763835789423207666416102355444464034512896) := ul_congr (by omega)
theorem addc3 (a b : Nat) : (a / 6277101735386680763835789423207666416102355444464034512896 % 18446744073709551616 + b / 6277101735386680763835789423207666416102355444464034512896 % 18446744073709551616 + (a % 6277101735386680763835789423207666416102355444464034512896 + b % 6277101735386680763835789423207666416102355444464034512896) / 6277101735386680763835789423207666416102355444464034512896 % 18446744073709551616) / 18446744073709551616 = (a % 115792089237316195423570985008687907853269984665640564039457584007913129639936 + b % 115792089237316195423570985008687907853269984665640564039457584007913129639936) / 115792089237316195423570985008687907853269984665640564039457584007913129639936 := by omega
theorem subd3 (a b : Nat) : ul (a / 6277101735386680763835789423207666416102355444464034512896 % 18446744073709551616 + 18446744073709551616 - b / 6277101735386680763835789423207666416102355444464034512896 % 18446744073709551616 - ((6277101735386680763835789423207666416102355444464034512895 + b % 6277101735386680763835789423207666416102355444464034512896 - a % 6277101735386680763835789423207666416102355444464034512896) / 6277101735386680763835789423207666416102355444464034512896) % 18446744073709551616) = ul ((a + 115792089237316195423570985008687907853269984665640564039457584007913129639936 - b % 115792089237316195423570985008687907853269984665640564039457584007913129639936) / 6277101735386680763835789423207666416102355444464034512896) := ul_congr (by omega)
theorem subc3 (a b : Nat) : (18446744073709551615 + b / 6277101735386680763835789423207666416102355444464034512896 % 18446744073709551616 + ((6277101735386680763835789423207666416102355444464034512895 + b % 6277101735386680763835789423207666416102355444464034512896 - a % 6277101735386680763835789423207666416102355444464034512896) / 6277101735386680763835789423207666416102355444464034512896) % 18446744073709551616 - a / 6277101735386680763835789423207666416102355444464034512896 % 18446744073709551616) / 18446744073709551616 = (115792089237316195423570985008687907853269984665640564039457584007913129639935 + b % 115792089237316195423570985008687907853269984665640564039457584007913129639936 - a % 115792089237316195423570985008687907853269984665640564039457584007913129639936) / 115792089237316195423570985008687907853269984665640564039457584007913129639936 := by omega
theorem and_mask32 (a : Nat) : a &&& 4294967295 = a % 4294967296 := Nat.and_two_pow_sub_one_eq_mod a 32
theorem and_one' (a : Nat) : a &&& 1 = a % 2 := Nat.and_two_pow_sub_one_eq_mod a 1
theorem mul64_hi {a b : Nat} (ha : a < 18446744073709551616) (hb : b < 18446744073709551616) :
    (a / 4294967296 * (b / 4294967296) + (a / 4294967296 * (b % 4294967296) + a % 4294967296 * (b % 4294967296) / 4294967296) / 4294967296 +
      ((a / 4294967296 * (b % 4294967296) + a % 4294967296 * (b % 4294967296) / 4294967296) % 4294967296 + a % 4294967296 * (b / 4294967296)) / 4294967296) = a * b / 18446744073709551616 := by
  have e : a * b = (a / 4294967296) * (b / 4294967296) * 18446744073709551616 + ((a / 4294967296) * (b % 4294967296) + (a % 4294967296) * (b / 4294967296)) * 4294967296 + (a % 4294967296) * (b % 4294967296) := by
    have h1 : a = a / 4294967296 * 4294967296 + a % 4294967296 := by omega
    have h2 : b = b / 4294967296 * 4294967296 + b % 4294967296 := by omega
    generalize a / 4294967296 = x at *
    generalize b / 4294967296 = y at *
    generalize a % 4294967296 = u at *
    generalize b % 4294967296 = v at *
    subst h1 h2
    simp only [Nat.add_mul, Nat.mul_add]
    have e1 : x * 4294967296 * (y * 4294967296) = x * y * 18446744073709551616 := by
      rw [Nat.mul_mul_mul_comm]
    have e2 : x * 4294967296 * v = x * v * 4294967296 := Nat.mul_right_comm _ _ _
    have e3 : u * (y * 4294967296) = u * y * 4294967296 := (Nat.mul_assoc _ _ _).symm
    omega
  rw [e]
  generalize a / 4294967296 * (b / 4294967296) = p
  generalize a / 4294967296 * (b % 4294967296) = q
  generalize a % 4294967296 * (b % 4294967296) = r
  generalize a % 4294967296 * (b / 4294967296) = s
  omega
theorem mul64_hi2 {a b : Nat} (ha : a < 18446744073709551616) (hb : b < 18446744073709551616) :
    (a % 18446744073709551616 / 4294967296 * (b % 18446744073709551616 / 4294967296) +
          (a % 18446744073709551616 / 4294967296 * (b % 4294967296) +
                a % 4294967296 * (b % 4294967296) % 18446744073709551616 / 4294967296) %
              18446744073709551616 /
            4294967296 +
        ((a % 18446744073709551616 / 4294967296 * (b % 4294967296) +
                  a % 4294967296 * (b % 4294967296) % 18446744073709551616 / 4294967296) %
                4294967296 +
              a % 4294967296 * (b % 18446744073709551616 / 4294967296)) %
            18446744073709551616 /
          4294967296) %
      18446744073709551616 =
    a * b / 18446744073709551616 % 18446744073709551616 := by
  rw [← mul64_hi ha hb, Nat.mod_eq_of_lt ha, Nat.mod_eq_of_lt hb]
  have h1 : a / 4294967296 ≤ 4294967295 := by omega
  have h2 : b / 4294967296 ≤ 4294967295 := by omega
  have h3 : a % 4294967296 ≤ 4294967295 := by omega
  have h4 : b % 4294967296 ≤ 4294967295 := by omega
  have p1 := Nat.mul_le_mul h1 h2
  have p2 := Nat.mul_le_mul h1 h4
  have p3 := Nat.mul_le_mul h3 h2
  have p4 := Nat.mul_le_mul h3 h4
  generalize a / 4294967296 * (b / 4294967296) = p at *
  generalize a / 4294967296 * (b % 4294967296) = q at *
  generalize a % 4294967296 * (b % 4294967296) = r at *
  generalize a % 4294967296 * (b / 4294967296) = s at *
  rw [Nat.mod_eq_of_lt (a := r) (by omega), Nat.mod_eq_of_lt (a := q + r / 4294967296) (b := 18446744073709551616) (by omega), Nat.mod_eq_of_lt (a := (q + r / 4294967296) % 4294967296 + s) (b := 18446744073709551616) (by omega)]
end Go.Ab
namespace Go.Ab
set_option linter.unusedVariables false
theorem mul_split (x b J : Nat) : x * (b % (J * 18446744073709551616)) = x * (b % J) + x * (b / J % 18446744073709551616) * J := by
  have h : b % (J * 18446744073709551616) = b % J + (b / J % 18446744073709551616) * J := by
    rw [Nat.mod_mul, Nat.mul_comm J]
  rw [h, Nat.mul_add, Nat.mul_assoc]
theorem mul_split2 (x b K : Nat) : x * b = x * (b % K) + x * (b / K) * K := by
  have h : b = b % K + b / K * K := by rw [Nat.mul_comm]; exact (Nat.mod_add_div b K).symm
  conv => lhs; rw [h]
  rw [Nat.mul_add, Nat.mul_assoc]
theorem low_split (a b K : Nat) : a % (K * 18446744073709551616) * b = a % K * b + a / K % 18446744073709551616 * b * K := by
  rw [Nat.mul_comm, mul_split, Nat.mul_comm b, Nat.mul_comm b]
theorem muld00 (a b : Nat) : ul ((a % 18446744073709551616) * (b % 18446744073709551616)) = ul (a % 18446744073709551616 * b) := by
  refine ul_congr ?_
  have h1 : (a % 18446744073709551616) * (b % 18446744073709551616) = (a % 18446744073709551616) * (b % 1) + (a % 18446744073709551616) * (b % 18446744073709551616) * 1 := by rw [show b % 1 = 0 from Nat.mod_one b]; simp
  have h2 := mul_split2 (a % 18446744073709551616) b 18446744073709551616
  have h3 : a % 18446744073709551616 * b = a % 1 * b + (a % 18446744073709551616) * b * 1 := by simp [Nat.mod_one]
  have h4 : (a % 18446744073709551616) * (b % 1) = 0 := by simp [Nat.mod_one]
  have h5 : a % 1 * b = 0 := by simp [Nat.mod_one]
  rw [show (a % 18446744073709551616) * (b % 18446744073709551616) = _ from h1] at h2
  generalize (a % 18446744073709551616) * (b / 18446744073709551616) = r at *
  generalize (a % 18446744073709551616) * (b % 18446744073709551616) = s at *
  generalize (a % 18446744073709551616) * (b % 18446744073709551616) = v at *
  generalize (a % 18446744073709551616) * (b % 1) = u at *
  generalize (a % 18446744073709551616) * b = z at *
  generalize a % 18446744073709551616 * b = o' at *
  generalize a % 1 * b = o at *
  omega
theorem muld01 (a b : Nat) : ul ((a % 18446744073709551616) * (b / 18446744073709551616 % 18446744073709551616) + (a % 18446744073709551616) * (b % 18446744073709551616) / 18446744073709551616 % 18446744073709551616) = ul (a % 18446744073709551616 * b / 18446744073709551616) := by
  refine ul_congr ?_
  have h1 : (a % 18446744073709551616) * (b % 340282366920938463463374607431768211456) = (a % 18446744073709551616) * (b % 18446744073709551616) + (a % 18446744073709551616) * (b / 18446744073709551616 % 18446744073709551616) * 18446744073709551616 := mul_split (a % 18446744073709551616) b 18446744073709551616
  have h2 := mul_split2 (a % 18446744073709551616) b 340282366920938463463374607431768211456
  have h3 : a % 18446744073709551616 * b = a % 1 * b + (a % 18446744073709551616) * b * 1 := by simp [Nat.mod_one]
  have hu : (a % 18446744073709551616) * (b % 18446744073709551616) ≤ 18446744073709551615 * 18446744073709551615 := Nat.mul_le_mul (by omega) (by omega)
  have h4 : (a % 18446744073709551616) * (b % 1) = 0 := by simp [Nat.mod_one]
  have h5 : a % 1 * b = 0 := by simp [Nat.mod_one]
  rw [show (a % 18446744073709551616) * (b % 340282366920938463463374607431768211456) = _ from h1] at h2
  generalize (a % 18446744073709551616) * (b / 340282366920938463463374607431768211456) = r at *
  generalize (a % 18446744073709551616) * (b / 18446744073709551616 % 18446744073709551616) = s at *
  generalize (a % 18446744073709551616) * (b % 340282366920938463463374607431768211456) = v at *
  generalize (a % 18446744073709551616) * (b % 18446744073709551616) = u at *
  generalize (a % 18446744073709551616) * b = z at *
  generalize a % 18446744073709551616 * b = o' at *
  generalize a % 1 * b = o at *
  omega
theorem mulc01 (a b : Nat) : ((a % 18446744073709551616) * (b / 18446744073709551616 % 18446744073709551616) + (a % 18446744073709551616) * (b % 18446744073709551616) / 18446744073709551616 % 18446744073709551616) / 18446744073709551616 = (a % 18446744073709551616) * (b % 340282366920938463463374607431768211456) / 340282366920938463463374607431768211456 := by
  have h1 : (a % 18446744073709551616) * (b % 340282366920938463463374607431768211456) = (a % 18446744073709551616) * (b % 18446744073709551616) + (a % 18446744073709551616) * (b / 18446744073709551616 % 18446744073709551616) * 18446744073709551616 := mul_split (a % 18446744073709551616) b 18446744073709551616
  have h2 := mul_split2 (a % 18446744073709551616) b 340282366920938463463374607431768211456
  have h3 : a % 18446744073709551616 * b = a % 1 * b + (a % 18446744073709551616) * b * 1 := by simp [Nat.mod_one]
  have hu : (a % 18446744073709551616) * (b % 18446744073709551616) ≤ 18446744073709551615 * 18446744073709551615 := Nat.mul_le_mul (by omega) (by omega)
  have h4 : (a % 18446744073709551616) * (b % 1) = 0 := by simp [Nat.mod_one]
  have h5 : a % 1 * b = 0 := by simp [Nat.mod_one]
  rw [show (a % 18446744073709551616) * (b % 340282366920938463463374607431768211456) = _ from h1] at h2
  generalize (a % 18446744073709551616) * (b / 340282366920938463463374607431768211456) = r at *
  generalize (a % 18446744073709551616) * (b / 18446744073709551616 % 18446744073709551616) = s at *
  generalize (a % 18446744073709551616) * (b % 340282366920938463463374607431768211456) = v at *
  generalize (a % 18446744073709551616) * (b % 18446744073709551616) = u at *
  generalize (a % 18446744073709551616) * b = z at *
  generalize a % 18446744073709551616 * b = o' at *
  generalize a % 1 * b = o at *
  omega
theorem muld02 (a b : Nat) : ul ((a % 18446744073709551616) * (b / 340282366920938463463374607431768211456 % 18446744073709551616) + (a % 18446744073709551616) * (b % 340282366920938463463374607431768211456) / 340282366920938463463374607431768211456 % 18446744073709551616) = ul (a % 18446744073709551616 * b / 340282366920938463463374607431768211456) := by
  refine ul_congr ?_
  have h1 : (a % 18446744073709551616) * (b % 6277101735386680763835789423207666416102355444464034512896) = (a % 18446744073709551616) * (b % 340282366920938463463374607431768211456) + (a % 18446744073709551616) * (b / 340282366920938463463374607431768211456 % 18446744073709551616) * 340282366920938463463374607431768211456 := mul_split (a % 18446744073709551616) b 340282366920938463463374607431768211456
  have h2 := mul_split2 (a % 18446744073709551616) b 6277101735386680763835789423207666416102355444464034512896
  have h3 : a % 18446744073709551616 * b = a % 1 * b + (a % 18446744073709551616) * b * 1 := by simp [Nat.mod_one]
  have hu : (a % 18446744073709551616) * (b % 340282366920938463463374607431768211456) ≤ 18446744073709551615 * 340282366920938463463374607431768211455 := Nat.mul_le_mul (by omega) (by omega)
  have h4 : (a % 18446744073709551616) * (b % 1) = 0 := by simp [Nat.mod_one]
  have h5 : a % 1 * b = 0 := by simp [Nat.mod_one]
  rw [show (a % 18446744073709551616) * (b % 6277101735386680763835789423207666416102355444464034512896) = _ from h1] at h2
  generalize (a % 18446744073709551616) * (b / 6277101735386680763835789423207666416102355444464034512896) = r at *
  generalize (a % 18446744073709551616) * (b / 340282366920938463463374607431768211456 % 18446744073709551616) = s at *
  generalize (a % 18446744073709551616) * (b % 6277101735386680763835789423207666416102355444464034512896) = v at *
  generalize (a % 18446744073709551616) * (b % 340282366920938463463374607431768211456) = u at *
  generalize (a % 18446744073709551616) * b = z at *
  generalize a % 18446744073709551616 * b = o' at *
  generalize a % 1 * b = o at *
  omega
theorem mulc02 (a b : Nat) : ((a % 18446744073709551616) * (b / 340282366920938463463374607431768211456 % 18446744073709551616) + (a % 18446744073709551616) * (b % 340282366920938463463374607431768211456) / 340282366920938463463374607431768211456 % 18446744073709551616) / 18446744073709551616 = (a % 18446744073709551616) * (b % 6277101735386680763835789423207666416102355444464034512896) / 6277101735386680763835789423207666416102355444464034512896 := by
  have h1 : (a % 18446744073709551616) * (b % 6277101735386680763835789423207666416102355444464034512896) = (a % 18446744073709551616) * (b % 340282366920938463463374607431768211456) + (a % 18446744073709551616) * (b / 340282366920938463463374607431768211456 % 18446744073709551616) * 340282366920938463463374607431768211456 := mul_split (a % 18446744073709551616) b 340282366920938463463374607431768211456
  have h2 := mul_split2 (a % 18446744073709551616) b 6277101735386680763835789423207666416102355444464034512896
  have h3 : a % 18446744073709551616 * b = a % 1 * b + (a % 18446744073709551616) * b * 1 := by simp [Nat.mod_one]
  have hu : (a % 18446744073709551616) * (b % 340282366920938463463374607431768211456) ≤ 18446744073709551615 * 340282366920938463463374607431768211455 := Nat.mul_le_mul (by omega) (by omega)
  have h4 : (a % 18446744073709551616) * (b % 1) = 0 := by simp [Nat.mod_one]
  have h5 : a % 1 * b = 0 := by simp [Nat.mod_one]
  rw [show (a % 18446744073709551616) * (b % 6277101735386680763835789423207666416102355444464034512896) = _ from h1] at h2
  generalize (a % 18446744073709551616) * (b / 6277101735386680763835789423207666416102355444464034512896) = r at *
  generalize (a % 18446744073709551616) * (b / 340282366920938463463374607431768211456 % 18446744073709551616) = s at *
  generalize (a % 18446744073709551616) * (b % 6277101735386680763835789423207666416102355444464034512896) = v at *
  generalize (a % 18446744073709551616) * (b % 340282366920938463463374607431768211456) = u at *
  generalize (a % 18446744073709551616) * b = z at *
  generalize a % 18446744073709551616 * b = o' at *
  generalize a % 1 * b = o at *
  omega
theorem muld03 (a b : Nat) : ul ((a % 18446744073709551616) * (b / 6277101735386680763835789423207666416102355444464034512896 % 18446744073709551616) + (a % 18446744073709551616) * (b % 6277101735386680763835789423207666416102355444464034512896) / 6277101735386680763835789423207666416102355444464034512896 % 18446744073709551616) = ul (a % 18446744073709551616 * b / 6277101735386680763835789423207666416102355444464034512896) := by
  refine ul_congr ?_
  have h1 : (a % 18446744073709551616) * (b % 115792089237316195423570985008687907853269984665640564039457584007913129639936) = (a % 18446744073709551616) * (b % 6277101735386680763835789423207666416102355444464034512896) + (a % 18446744073709551616) * (b / 6277101735386680763835789423207666416102355444464034512896 % 18446744073709551616) * 6277101735386680763835789423207666416102355444464034512896 := mul_split (a % 18446744073709551616) b 6277101735386680763835789423207666416102355444464034512896
  have h2 := mul_split2 (a % 18446744073709551616) b 115792089237316195423570985008687907853269984665640564039457584007913129639936
  have h3 : a % 18446744073709551616 * b = a % 1 * b + (a % 18446744073709551616) * b * 1 := by simp [Nat.mod_one]
  have hu : (a % 18446744073709551616) * (b % 6277101735386680763835789423207666416102355444464034512896) ≤ 18446744073709551615 * 6277101735386680763835789423207666416102355444464034512895 := Nat.mul_le_mul (by omega) (by omega)
  have h4 : (a % 18446744073709551616) * (b % 1) = 0 := by simp [Nat.mod_one]
  have h5 : a % 1 * b = 0 := by simp [Nat.mod_one]
  rw [show (a % 18446744073709551616) * (b % 115792089237316195423570985008687907853269984665640564039457584007913129639936) = _ from h1] at h2
  generalize (a % 18446744073709551616) * (b / 115792089237316195423570985008687907853269984665640564039457584007913129639936) = r at *
  generalize (a % 18446744073709551616) * (b / 6277101735386680763835789423207666416102355444464034512896 % 18446744073709551616) = s at *
  generalize (a % 18446744073709551616) * (b % 115792089237316195423570985008687907853269984665640564039457584007913129639936) = v at *
  generalize (a % 18446744073709551616) * (b % 6277101735386680763835789423207666416102355444464034512896) = u at *
  generalize (a % 18446744073709551616) * b = z at *
  generalize a % 18446744073709551616 * b = o' at *
  generalize a % 1 * b = o at *
  omega
theorem mulc03 (a b : Nat) (lb : b < 115792089237316195423570985008687907853269984665640564039457584007913129639936) : ((a % 18446744073709551616) * (b / 6277101735386680763835789423207666416102355444464034512896 % 18446744073709551616) + (a % 18446744073709551616) * (b % 6277101735386680763835789423207666416102355444464034512896) / 6277101735386680763835789423207666416102355444464034512896 % 18446744073709551616) / 18446744073709551616 = a % 18446744073709551616 * b / 115792089237316195423570985008687907853269984665640564039457584007913129639936 := by
  have h0 : b / 115792089237316195423570985008687907853269984665640564039457584007913129639936 = 0 := by omega
  have h1 : (a % 18446744073709551616) * (b % 115792089237316195423570985008687907853269984665640564039457584007913129639936) = (a % 18446744073709551616) * (b % 6277101735386680763835789423207666416102355444464034512896) + (a % 18446744073709551616) * (b / 6277101735386680763835789423207666416102355444464034512896 % 18446744073709551616) * 6277101735386680763835789423207666416102355444464034512896 := mul_split (a % 18446744073709551616) b 6277101735386680763835789423207666416102355444464034512896
  have h2 := mul_split2 (a % 18446744073709551616) b 115792089237316195423570985008687907853269984665640564039457584007913129639936
  have h3 : a % 18446744073709551616 * b = a % 1 * b + (a % 18446744073709551616) * b * 1 := by simp [Nat.mod_one]
  have hu : (a % 18446744073709551616) * (b % 6277101735386680763835789423207666416102355444464034512896) ≤ 18446744073709551615 * 6277101735386680763835789423207666416102355444464034512895 := Nat.mul_le_mul (by omega) (by omega)
  have h4 : (a % 18446744073709551616) * (b % 1) = 0 := by simp [Nat.mod_one]
  have h5 : a % 1 * b = 0 := by simp [Nat.mod_one]
  rw [show (a % 18446744073709551616) * (b % 115792089237316195423570985008687907853269984665640564039457584007913129639936) = _ from h1] at h2
  rw [h0, Nat.mul_zero, Nat.zero_mul, Nat.add_zero] at h2
  generalize (a % 18446744073709551616) * (b / 6277101735386680763835789423207666416102355444464034512896 % 18446744073709551616) = s at *
  generalize (a % 18446744073709551616) * (b % 115792089237316195423570985008687907853269984665640564039457584007913129639936) = v at *
  generalize (a % 18446744073709551616) * (b % 6277101735386680763835789423207666416102355444464034512896) = u at *
  generalize (a % 18446744073709551616) * b = z at *
  generalize a % 18446744073709551616 * b = o' at *
  generalize a % 1 * b = o at *
  omega
theorem muld10 (a b : Nat) : ul ((a / 18446744073709551616 % 18446744073709551616) * (b % 18446744073709551616) + a % 18446744073709551616 * b / 18446744073709551616 % 18446744073709551616) = ul (a % 340282366920938463463374607431768211456 * b / 18446744073709551616) := by
  refine ul_congr ?_
  have h1 : (a / 18446744073709551616 % 18446744073709551616) * (b % 18446744073709551616) = (a / 18446744073709551616 % 18446744073709551616) * (b % 1) + (a / 18446744073709551616 % 18446744073709551616) * (b % 18446744073709551616) * 1 := by rw [show b % 1 = 0 from Nat.mod_one b]; simp
  have h2 := mul_split2 (a / 18446744073709551616 % 18446744073709551616) b 18446744073709551616
  have h3 : a % 340282366920938463463374607431768211456 * b = a % 18446744073709551616 * b + (a / 18446744073709551616 % 18446744073709551616) * b * 18446744073709551616 := low_split a b 18446744073709551616
  have h4 : (a / 18446744073709551616 % 18446744073709551616) * (b % 1) = 0 := by simp [Nat.mod_one]
  have h5 : a % 1 * b = 0 := by simp [Nat.mod_one]
  rw [show (a / 18446744073709551616 % 18446744073709551616) * (b % 18446744073709551616) = _ from h1] at h2
  generalize (a / 18446744073709551616 % 18446744073709551616) * (b / 18446744073709551616) = r at *
  generalize (a / 18446744073709551616 % 18446744073709551616) * (b % 18446744073709551616) = s at *
  generalize (a / 18446744073709551616 % 18446744073709551616) * (b % 18446744073709551616) = v at *
  generalize (a / 18446744073709551616 % 18446744073709551616) * (b % 1) = u at *
  generalize (a / 18446744073709551616 % 18446744073709551616) * b = z at *
  generalize a % 340282366920938463463374607431768211456 * b = o' at *
  generalize a % 18446744073709551616 * b = o at *
  omega
theorem mulc10 (a b : Nat) : ((a / 18446744073709551616 % 18446744073709551616) * (b % 18446744073709551616) + a % 18446744073709551616 * b / 18446744073709551616 % 18446744073709551616) / 18446744073709551616 = (a % 18446744073709551616 * b % 340282366920938463463374607431768211456 + (a / 18446744073709551616 % 18446744073709551616) * (b % 18446744073709551616) * 18446744073709551616) / 340282366920938463463374607431768211456 := by
  have h1 : (a / 18446744073709551616 % 18446744073709551616) * (b % 18446744073709551616) = (a / 18446744073709551616 % 18446744073709551616) * (b % 1) + (a / 18446744073709551616 % 18446744073709551616) * (b % 18446744073709551616) * 1 := by rw [show b % 1 = 0 from Nat.mod_one b]; simp
  have h2 := mul_split2 (a / 18446744073709551616 % 18446744073709551616) b 18446744073709551616
  have h3 : a % 340282366920938463463374607431768211456 * b = a % 18446744073709551616 * b + (a / 18446744073709551616 % 18446744073709551616) * b * 18446744073709551616 := low_split a b 18446744073709551616
  have h4 : (a / 18446744073709551616 % 18446744073709551616) * (b % 1) = 0 := by simp [Nat.mod_one]
  have h5 : a % 1 * b = 0 := by simp [Nat.mod_one]
  rw [show (a / 18446744073709551616 % 18446744073709551616) * (b % 18446744073709551616) = _ from h1] at h2
  generalize (a / 18446744073709551616 % 18446744073709551616) * (b / 18446744073709551616) = r at *
  generalize (a / 18446744073709551616 % 18446744073709551616) * (b % 18446744073709551616) = s at *
  generalize (a / 18446744073709551616 % 18446744073709551616) * (b % 18446744073709551616) = v at *
  generalize (a / 18446744073709551616 % 18446744073709551616) * (b % 1) = u at *
  generalize (a / 18446744073709551616 % 18446744073709551616) * b = z at *
  generalize a % 340282366920938463463374607431768211456 * b = o' at *
  generalize a % 18446744073709551616 * b = o at *
  omega
theorem muld11 (a b : Nat) : ul ((a / 18446744073709551616 % 18446744073709551616) * (b / 18446744073709551616 % 18446744073709551616) + a % 18446744073709551616 * b / 340282366920938463463374607431768211456 % 18446744073709551616 + (a % 18446744073709551616 * b % 340282366920938463463374607431768211456 + (a / 18446744073709551616 % 18446744073709551616) * (b % 18446744073709551616) * 18446744073709551616) / 340282366920938463463374607431768211456 % 18446744073709551616) = ul (a % 340282366920938463463374607431768211456 * b / 340282366920938463463374607431768211456) := by
  refine ul_congr ?_
  have h1 : (a / 18446744073709551616 % 18446744073709551616) * (b % 340282366920938463463374607431768211456) = (a / 18446744073709551616 % 18446744073709551616) * (b % 18446744073709551616) + (a / 18446744073709551616 % 18446744073709551616) * (b / 18446744073709551616 % 18446744073709551616) * 18446744073709551616 := mul_split (a / 18446744073709551616 % 18446744073709551616) b 18446744073709551616
  have h2 := mul_split2 (a / 18446744073709551616 % 18446744073709551616) b 340282366920938463463374607431768211456
  have h3 : a % 340282366920938463463374607431768211456 * b = a % 18446744073709551616 * b + (a / 18446744073709551616 % 18446744073709551616) * b * 18446744073709551616 := low_split a b 18446744073709551616
  have hu : (a / 18446744073709551616 % 18446744073709551616) * (b % 18446744073709551616) ≤ 18446744073709551615 * 18446744073709551615 := Nat.mul_le_mul (by omega) (by omega)
  have h4 : (a / 18446744073709551616 % 18446744073709551616) * (b % 1) = 0 := by simp [Nat.mod_one]
  have h5 : a % 1 * b = 0 := by simp [Nat.mod_one]
  rw [show (a / 18446744073709551616 % 18446744073709551616) * (b % 340282366920938463463374607431768211456) = _ from h1] at h2
  generalize (a / 18446744073709551616 % 18446744073709551616) * (b / 340282366920938463463374607431768211456) = r at *
  generalize (a / 18446744073709551616 % 18446744073709551616) * (b / 18446744073709551616 % 18446744073709551616) = s at *
  generalize (a / 18446744073709551616 % 18446744073709551616) * (b % 340282366920938463463374607431768211456) = v at *
  generalize (a / 18446744073709551616 % 18446744073709551616) * (b % 18446744073709551616) = u at *
  generalize (a / 18446744073709551616 % 18446744073709551616) * b = z at *
  generalize a % 340282366920938463463374607431768211456 * b = o' at *
  generalize a % 18446744073709551616 * b = o at *
  omega
theorem mulc11 (a b : Nat) : ((a / 18446744073709551616 % 18446744073709551616) * (b / 18446744073709551616 % 18446744073709551616) + a % 18446744073709551616 * b / 340282366920938463463374607431768211456 % 18446744073709551616 + (a % 18446744073709551616 * b % 340282366920938463463374607431768211456 + (a / 18446744073709551616 % 18446744073709551616) * (b % 18446744073709551616) * 18446744073709551616) / 340282366920938463463374607431768211456 % 18446744073709551616) / 18446744073709551616 = (a % 18446744073709551616 * b % 6277101735386680763835789423207666416102355444464034512896 + (a / 18446744073709551616 % 18446744073709551616) * (b % 340282366920938463463374607431768211456) * 18446744073709551616) / 6277101735386680763835789423207666416102355444464034512896 := by
  have h1 : (a / 18446744073709551616 % 18446744073709551616) * (b % 340282366920938463463374607431768211456) = (a / 18446744073709551616 % 18446744073709551616) * (b % 18446744073709551616) + (a / 18446744073709551616 % 18446744073709551616) * (b / 18446744073709551616 % 18446744073709551616) * 18446744073709551616 := mul_split (a / 18446744073709551616 % 18446744073709551616) b 18446744073709551616
  have h2 := mul_split2 (a / 18446744073709551616 % 18446744073709551616) b 340282366920938463463374607431768211456
  have h3 : a % 340282366920938463463374607431768211456 * b = a % 18446744073709551616 * b + (a / 18446744073709551616 % 18446744073709551616) * b * 18446744073709551616 := low_split a b 18446744073709551616
  have hu : (a / 18446744073709551616 % 18446744073709551616) * (b % 18446744073709551616) ≤ 18446744073709551615 * 18446744073709551615 := Nat.mul_le_mul (by omega) (by omega)
  have h4 : (a / 18446744073709551616 % 18446744073709551616) * (b % 1) = 0 := by simp [Nat.mod_one]
  have h5 : a % 1 * b = 0 := by simp [Nat.mod_one]
  rw [show (a / 18446744073709551616 % 18446744073709551616) * (b % 340282366920938463463374607431768211456) = _ from h1] at h2
  generalize (a / 18446744073709551616 % 18446744073709551616) * (b / 340282366920938463463374607431768211456) = r at *
  generalize (a / 18446744073709551616 % 18446744073709551616) * (b / 18446744073709551616 % 18446744073709551616) = s at *
  generalize (a / 18446744073709551616 % 18446744073709551616) * (b % 340282366920938463463374607431768211456) = v at *
  generalize (a / 18446744073709551616 % 18446744073709551616) * (b % 18446744073709551616) = u at *
  generalize (a / 18446744073709551616 % 18446744073709551616) * b = z at *
  generalize a % 340282366920938463463374607431768211456 * b = o' at *
  generalize a % 18446744073709551616 * b = o at *
  omega
theorem muld12 (a b : Nat) : ul ((a / 18446744073709551616 % 18446744073709551616) * (b / 340282366920938463463374607431768211456 % 18446744073709551616) + a % 18446744073709551616 * b / 6277101735386680763835789423207666416102355444464034512896 % 18446744073709551616 + (a % 18446744073709551616 * b % 6277101735386680763835789423207666416102355444464034512896 + (a / 18446744073709551616 % 18446744073709551616) * (b % 340282366920938463463374607431768211456) * 18446744073709551616) / 6277101735386680763835789423207666416102355444464034512896 % 18446744073709551616) = ul (a % 340282366920938463463374607431768211456 * b / 6277101735386680763835789423207666416102355444464034512896) := by
  refine ul_congr ?_
  have h1 : (a / 18446744073709551616 % 18446744073709551616) * (b % 6277101735386680763835789423207666416102355444464034512896) = (a / 18446744073709551616 % 18446744073709551616) * (b % 340282366920938463463374607431768211456) + (a / 18446744073709551616 % 18446744073709551616) * (b / 340282366920938463463374607431768211456 % 18446744073709551616) * 340282366920938463463374607431768211456 := mul_split (a / 18446744073709551616 % 18446744073709551616) b 340282366920938463463374607431768211456
  have h2 := mul_split2 (a / 18446744073709551616 % 18446744073709551616) b 6277101735386680763835789423207666416102355444464034512896
  have h3 : a % 340282366920938463463374607431768211456 * b = a % 18446744073709551616 * b + (a / 18446744073709551616 % 18446744073709551616) * b * 18446744073709551616 := low_split a b 18446744073709551616
  have hu : (a / 18446744073709551616 % 18446744073709551616) * (b % 340282366920938463463374607431768211456) ≤ 18446744073709551615 * 340282366920938463463374607431768211455 := Nat.mul_le_mul (by omega) (by omega)
  have h4 : (a / 18446744073709551616 % 18446744073709551616) * (b % 1) = 0 := by simp [Nat.mod_one]
  have h5 : a % 1 * b = 0 := by simp [Nat.mod_one]
  rw [show (a / 18446744073709551616 % 18446744073709551616) * (b % 6277101735386680763835789423207666416102355444464034512896) = _ from h1] at h2
  generalize (a / 18446744073709551616 % 18446744073709551616) * (b / 6277101735386680763835789423207666416102355444464034512896) = r at *
  generalize (a / 18446744073709551616 % 18446744073709551616) * (b / 340282366920938463463374607431768211456 % 18446744073709551616) = s at *
  generalize (a / 18446744073709551616 % 18446744073709551616) * (b % 6277101735386680763835789423207666416102355444464034512896) = v at *
  generalize (a / 18446744073709551616 % 18446744073709551616) * (b % 340282366920938463463374607431768211456) = u at *
  generalize (a / 18446744073709551616 % 18446744073709551616) * b = z at *
  generalize a % 340282366920938463463374607431768211456 * b = o' at *
  generalize a % 18446744073709551616 * b = o at *
  omega
theorem mulc12 (a b : Nat) : ((a / 18446744073709551616 % 18446744073709551616) * (b / 340282366920938463463374607431768211456 % 18446744073709551616) + a % 18446744073709551616 * b / 6277101735386680763835789423207666416102355444464034512896 % 18446744073709551616 + (a % 18446744073709551616 * b % 6277101735386680763835789423207666416102355444464034512896 + (a / 18446744073709551616 % 18446744073709551616) * (b % 340282366920938463463374607431768211456) * 18446744073709551616) / 6277101735386680763835789423207666416102355444464034512896 % 18446744073709551616) / 18446744073709551616 = (a % 18446744073709551616 * b % 115792089237316195423570985008687907853269984665640564039457584007913129639936 + (a / 18446744073709551616 % 18446744073709551616) * (b % 6277101735386680763835789423207666416102355444464034512896) * 18446744073709551616) / 115792089237316195423570985008687907853269984665640564039457584007913129639936 := by
  have h1 : (a / 18446744073709551616 % 18446744073709551616) * (b % 6277101735386680763835789423207666416102355444464034512896) = (a / 18446744073709551616 % 18446744073709551616) * (b % 340282366920938463463374607431768211456) + (a / 18446744073709551616 % 18446744073709551616) * (b / 340282366920938463463374607431768211456 % 18446744073709551616) * 340282366920938463463374607431768211456 := mul_split (a / 18446744073709551616 % 18446744073709551616) b 340282366920938463463374607431768211456
  have h2 := mul_split2 (a / 18446744073709551616 % 18446744073709551616) b 6277101735386680763835789423207666416102355444464034512896
  have h3 : a % 340282366920938463463374607431768211456 * b = a % 18446744073709551616 * b + (a / 18446744073709551616 % 18446744073709551616) * b * 18446744073709551616 := low_split a b 18446744073709551616
  have hu : (a / 18446744073709551616 % 18446744073709551616) * (b % 340282366920938463463374607431768211456) ≤ 18446744073709551615 * 340282366920938463463374607431768211455 := Nat.mul_le_mul (by omega) (by omega)
  have h4 : (a / 18446744073709551616 % 18446744073709551616) * (b % 1) = 0 := by simp [Nat.mod_one]
  have h5 : a % 1 * b = 0 := by simp [Nat.mod_one]
  rw [show (a / 18446744073709551616 % 18446744073709551616) * (b % 6277101735386680763835789423207666416102355444464034512896) = _ from h1] at h2
  generalize (a / 18446744073709551616 % 18446744073709551616) * (b / 6277101735386680763835789423207666416102355444464034512896) = r at *
  generalize (a / 18446744073709551616 % 18446744073709551616) * (b / 340282366920938463463374607431768211456 % 18446744073709551616) = s at *
  generalize (a / 18446744073709551616 % 18446744073709551616) * (b % 6277101735386680763835789423207666416102355444464034512896) = v at *
  generalize (a / 18446744073709551616 % 18446744073709551616) * (b % 340282366920938463463374607431768211456) = u at *
  generalize (a / 18446744073709551616 % 18446744073709551616) * b = z at *
  generalize a % 340282366920938463463374607431768211456 * b = o' at *
  generalize a % 18446744073709551616 * b = o at *
  omega
theorem muld13 (a b : Nat) : ul ((a / 18446744073709551616 % 18446744073709551616) * (b / 6277101735386680763835789423207666416102355444464034512896 % 18446744073709551616) + a % 18446744073709551616 * b / 115792089237316195423570985008687907853269984665640564039457584007913129639936 % 18446744073709551616 + (a % 18446744073709551616 * b % 115792089237316195423570985008687907853269984665640564039457584007913129639936 + (a / 18446744073709551616 % 18446744073709551616) * (b % 6277101735386680763835789423207666416102355444464034512896) * 18446744073709551616) / 115792089237316195423570985008687907853269984665640564039457584007913129639936 % 18446744073709551616) = ul (a % 340282366920938463463374607431768211456 * b / 115792089237316195423570985008687907853269984665640564039457584007913129639936) := by
  refine ul_congr ?_
  have h1 : (a / 18446744073709551616 % 18446744073709551616) * (b % 115792089237316195423570985008687907853269984665640564039457584007913129639936) = (a / 18446744073709551616 % 18446744073709551616) * (b % 6277101735386680763835789423207666416102355444464034512896) + (a / 18446744073709551616 % 18446744073709551616) * (b / 6277101735386680763835789423207666416102355444464034512896 % 18446744073709551616) * 6277101735386680763835789423207666416102355444464034512896 := mul_split (a / 18446744073709551616 % 18446744073709551616) b 6277101735386680763835789423207666416102355444464034512896
  have h2 := mul_split2 (a / 18446744073709551616 % 18446744073709551616) b 115792089237316195423570985008687907853269984665640564039457584007913129639936
  have h3 : a % 340282366920938463463374607431768211456 * b = a % 18446744073709551616 * b + (a / 18446744073709551616 % 18446744073709551616) * b * 18446744073709551616 := low_split a b 18446744073709551616
  have hu : (a / 18446744073709551616 % 18446744073709551616) * (b % 6277101735386680763835789423207666416102355444464034512896) ≤ 18446744073709551615 * 6277101735386680763835789423207666416102355444464034512895 := Nat.mul_le_mul (by omega) (by omega)
  have h4 : (a / 18446744073709551616 % 18446744073709551616) * (b % 1) = 0 := by simp [Nat.mod_one]
  have h5 : a % 1 * b = 0 := by simp [Nat.mod_one]
  rw [show (a / 18446744073709551616 % 18446744073709551616) * (b % 115792089237316195423570985008687907853269984665640564039457584007913129639936) = _ from h1] at h2
  generalize (a / 18446744073709551616 % 18446744073709551616) * (b / 115792089237316195423570985008687907853269984665640564039457584007913129639936) = r at *
  generalize (a / 18446744073709551616 % 18446744073709551616) * (b / 6277101735386680763835789423207666416102355444464034512896 % 18446744073709551616) = s at *
  generalize (a / 18446744073709551616 % 18446744073709551616) * (b % 115792089237316195423570985008687907853269984665640564039457584007913129639936) = v at *
  generalize (a / 18446744073709551616 % 18446744073709551616) * (b % 6277101735386680763835789423207666416102355444464034512896) = u at *
  generalize (a / 18446744073709551616 % 18446744073709551616) * b = z at *
  generalize a % 340282366920938463463374607431768211456 * b = o' at *
  generalize a % 18446744073709551616 * b = o at *
  omega
theorem mulc13 (a b : Nat) (lb : b < 115792089237316195423570985008687907853269984665640564039457584007913129639936) : ((a / 18446744073709551616 % 18446744073709551616) * (b / 6277101735386680763835789423207666416102355444464034512896 % 18446744073709551616) + a % 18446744073709551616 * b / 115792089237316195423570985008687907853269984665640564039457584007913129639936 % 18446744073709551616 + (a % 18446744073709551616 * b % 115792089237316195423570985008687907853269984665640564039457584007913129639936 + (a / 18446744073709551616 % 18446744073709551616) * (b % 6277101735386680763835789423207666416102355444464034512896) * 18446744073709551616) / 115792089237316195423570985008687907853269984665640564039457584007913129639936 % 18446744073709551616) / 18446744073709551616 = a % 340282366920938463463374607431768211456 * b / 2135987035920910082395021706169552114602704522356652769947041607822219725780640550022962086936576 := by
  have hO : a % 18446744073709551616 * b < 2135987035920910082395021706169552114602704522356652769947041607822219725780640550022962086936576 := by
    have := Nat.mul_le_mul (show a % 18446744073709551616 ≤ 18446744073709551615 by omega) (show b ≤ 115792089237316195423570985008687907853269984665640564039457584007913129639935 by omega)
    omega
  have h0 : b / 115792089237316195423570985008687907853269984665640564039457584007913129639936 = 0 := by omega
  have h1 : (a / 18446744073709551616 % 18446744073709551616) * (b % 115792089237316195423570985008687907853269984665640564039457584007913129639936) = (a / 18446744073709551616 % 18446744073709551616) * (b % 6277101735386680763835789423207666416102355444464034512896) + (a / 18446744073709551616 % 18446744073709551616) * (b / 6277101735386680763835789423207666416102355444464034512896 % 18446744073709551616) * 6277101735386680763835789423207666416102355444464034512896 := mul_split (a / 18446744073709551616 % 18446744073709551616) b 6277101735386680763835789423207666416102355444464034512896
  have h2 := mul_split2 (a / 18446744073709551616 % 18446744073709551616) b 115792089237316195423570985008687907853269984665640564039457584007913129639936
  have h3 : a % 340282366920938463463374607431768211456 * b = a % 18446744073709551616 * b + (a / 18446744073709551616 % 18446744073709551616) * b * 18446744073709551616 := low_split a b 18446744073709551616
  have hu : (a / 18446744073709551616 % 18446744073709551616) * (b % 6277101735386680763835789423207666416102355444464034512896) ≤ 18446744073709551615 * 6277101735386680763835789423207666416102355444464034512895 := Nat.mul_le_mul (by omega) (by omega)
  have h4 : (a / 18446744073709551616 % 18446744073709551616) * (b % 1) = 0 := by simp [Nat.mod_one]
  have h5 : a % 1 * b = 0 := by simp [Nat.mod_one]
  rw [show (a / 18446744073709551616 % 18446744073709551616) * (b % 115792089237316195423570985008687907853269984665640564039457584007913129639936) = _ from h1] at h2
  rw [h0, Nat.mul_zero, Nat.zero_mul, Nat.add_zero] at h2
  generalize (a / 18446744073709551616 % 18446744073709551616) * (b / 6277101735386680763835789423207666416102355444464034512896 % 18446744073709551616) = s at *
  generalize (a / 18446744073709551616 % 18446744073709551616) * (b % 115792089237316195423570985008687907853269984665640564039457584007913129639936) = v at *
  generalize (a / 18446744073709551616 % 18446744073709551616) * (b % 6277101735386680763835789423207666416102355444464034512896) = u at *
  generalize (a / 18446744073709551616 % 18446744073709551616) * b = z at *
  generalize a % 340282366920938463463374607431768211456 * b = o' at *
  generalize a % 18446744073709551616 * b = o at *
  omega
theorem muld20 (a b : Nat) : ul ((a / 340282366920938463463374607431768211456 % 18446744073709551616) * (b % 18446744073709551616) + a % 340282366920938463463374607431768211456 * b / 340282366920938463463374607431768211456 % 18446744073709551616) = ul (a % 6277101735386680763835789423207666416102355444464034512896 * b / 340282366920938463463374607431768211456) := by
  refine ul_congr ?_
  have h1 : (a / 340282366920938463463374607431768211456 % 18446744073709551616) * (b % 18446744073709551616) = (a / 340282366920938463463374607431768211456 % 18446744073709551616) * (b % 1) + (a / 340282366920938463463374607431768211456 % 18446744073709551616) * (b % 18446744073709551616) * 1 := by rw [show b % 1 = 0 from Nat.mod_one b]; simp
  have h2 := mul_split2 (a / 340282366920938463463374607431768211456 % 18446744073709551616) b 18446744073709551616
  have h3 : a % 6277101735386680763835789423207666416102355444464034512896 * b = a % 340282366920938463463374607431768211456 * b + (a / 340282366920938463463374607431768211456 % 18446744073709551616) * b * 340282366920938463463374607431768211456 := low_split a b 340282366920938463463374607431768211456
  have h4 : (a / 340282366920938463463374607431768211456 % 18446744073709551616) * (b % 1) = 0 := by simp [Nat.mod_one]
  have h5 : a % 1 * b = 0 := by simp [Nat.mod_one]
  rw [show (a / 340282366920938463463374607431768211456 % 18446744073709551616) * (b % 18446744073709551616) = _ from h1] at h2
  generalize (a / 340282366920938463463374607431768211456 % 18446744073709551616) * (b / 18446744073709551616) = r at *
  generalize (a / 340282366920938463463374607431768211456 % 18446744073709551616) * (b % 18446744073709551616) = s at *
  generalize (a / 340282366920938463463374607431768211456 % 18446744073709551616) * (b % 18446744073709551616) = v at *
  generalize (a / 340282366920938463463374607431768211456 % 18446744073709551616) * (b % 1) = u at *
  generalize (a / 340282366920938463463374607431768211456 % 18446744073709551616) * b = z at *
  generalize a % 6277101735386680763835789423207666416102355444464034512896 * b = o' at *
  generalize a % 340282366920938463463374607431768211456 * b = o at *
  omega
theorem mulc20 (a b : Nat) : ((a / 340282366920938463463374607431768211456 % 18446744073709551616) * (b % 18446744073709551616) + a % 340282366920938463463374607431768211456 * b / 340282366920938463463374607431768211456 % 18446744073709551616) / 18446744073709551616 = (a % 340282366920938463463374607431768211456 * b % 6277101735386680763835789423207666416102355444464034512896 + (a / 340282366920938463463374607431768211456 % 18446744073709551616) * (b % 18446744073709551616) * 340282366920938463463374607431768211456) / 6277101735386680763835789423207666416102355444464034512896 := by
  have h1 : (a / 340282366920938463463374607431768211456 % 18446744073709551616) * (b % 18446744073709551616) = (a / 340282366920938463463374607431768211456 % 18446744073709551616) * (b % 1) + (a / 340282366920938463463374607431768211456 % 18446744073709551616) * (b % 18446744073709551616) * 1 := by rw [show b % 1 = 0 from Nat.mod_one b]; simp
  have h2 := mul_split2 (a / 340282366920938463463374607431768211456 % 18446744073709551616) b 18446744073709551616
  have h3 : a % 6277101735386680763835789423207666416102355444464034512896 * b = a % 340282366920938463463374607431768211456 * b + (a / 340282366920938463463374607431768211456 % 18446744073709551616) * b * 340282366920938463463374607431768211456 := low_split a b 340282366920938463463374607431768211456
  have h4 : (a / 340282366920938463463374607431768211456 % 18446744073709551616) * (b % 1) = 0 := by simp [Nat.mod_one]
  have h5 : a % 1 * b = 0 := by simp [Nat.mod_one]
  rw [show (a / 340282366920938463463374607431768211456 % 18446744073709551616) * (b % 18446744073709551616) = _ from h1] at h2
  generalize (a / 340282366920938463463374607431768211456 % 18446744073709551616) * (b / 18446744073709551616) = r at *
  generalize (a / 340282366920938463463374607431768211456 % 18446744073709551616) * (b % 18446744073709551616) = s at *
  generalize (a / 340282366920938463463374607431768211456 % 18446744073709551616) * (b % 18446744073709551616) = v at *
  generalize (a / 340282366920938463463374607431768211456 % 18446744073709551616) * (b % 1) = u at *
  generalize (a / 340282366920938463463374607431768211456 % 18446744073709551616) * b = z at *
  generalize a % 6277101735386680763835789423207666416102355444464034512896 * b = o' at *
  generalize a % 340282366920938463463374607431768211456 * b = o at *
  omega
theorem muld21 (a b : Nat) : ul ((a / 340282366920938463463374607431768211456 % 18446744073709551616) * (b / 18446744073709551616 % 18446744073709551616) + a % 340282366920938463463374607431768211456 * b / 6277101735386680763835789423207666416102355444464034512896 % 18446744073709551616 + (a % 340282366920938463463374607431768211456 * b % 6277101735386680763835789423207666416102355444464034512896 + (a / 340282366920938463463374607431768211456 % 18446744073709551616) * (b % 18446744073709551616) * 340282366920938463463374607431768211456) / 6277101735386680763835789423207666416102355444464034512896 % 18446744073709551616) = ul (a % 6277101735386680763835789423207666416102355444464034512896 * b / 6277101735386680763835789423207666416102355444464034512896) := by
  refine ul_congr ?_
  have h1 : (a / 340282366920938463463374607431768211456 % 18446744073709551616) * (b % 340282366920938463463374607431768211456) = (a / 340282366920938463463374607431768211456 % 18446744073709551616) * (b % 18446744073709551616) + (a / 340282366920938463463374607431768211456 % 18446744073709551616) * (b / 18446744073709551616 % 18446744073709551616) * 18446744073709551616 := mul_split (a / 340282366920938463463374607431768211456 % 18446744073709551616) b 18446744073709551616
  have h2 := mul_split2 (a / 340282366920938463463374607431768211456 % 18446744073709551616) b 340282366920938463463374607431768211456
  have h3 : a % 6277101735386680763835789423207666416102355444464034512896 * b = a % 340282366920938463463374607431768211456 * b + (a / 340282366920938463463374607431768211456 % 18446744073709551616) * b * 340282366920938463463374607431768211456 := low_split a b 340282366920938463463374607431768211456
  have hu : (a / 340282366920938463463374607431768211456 % 18446744073709551616) * (b % 18446744073709551616) ≤ 18446744073709551615 * 18446744073709551615 := Nat.mul_le_mul (by omega) (by omega)
  have h4 : (a / 340282366920938463463374607431768211456 % 18446744073709551616) * (b % 1) = 0 := by simp [Nat.mod_one]
  have h5 : a % 1 * b = 0 := by simp [Nat.mod_one]
  rw [show (a / 340282366920938463463374607431768211456 % 18446744073709551616) * (b % 340282366920938463463374607431768211456) = _ from h1] at h2
  generalize (a / 340282366920938463463374607431768211456 % 18446744073709551616) * (b / 340282366920938463463374607431768211456) = r at *
  generalize (a / 340282366920938463463374607431768211456 % 18446744073709551616) * (b / 18446744073709551616 % 18446744073709551616) = s at *
  generalize (a / 340282366920938463463374607431768211456 % 18446744073709551616) * (b % 340282366920938463463374607431768211456) = v at *
  generalize (a / 340282366920938463463374607431768211456 % 18446744073709551616) * (b % 18446744073709551616) = u at *
  generalize (a / 340282366920938463463374607431768211456 % 18446744073709551616) * b = z at *
  generalize a % 6277101735386680763835789423207666416102355444464034512896 * b = o' at *
  generalize a % 340282366920938463463374607431768211456 * b = o at *
  omega
theorem mulc21 (a b : Nat) : ((a / 340282366920938463463374607431768211456 % 18446744073709551616) * (b / 18446744073709551616 % 18446744073709551616) + a % 340282366920938463463374607431768211456 * b / 6277101735386680763835789423207666416102355444464034512896 % 18446744073709551616 + (a % 340282366920938463463374607431768211456 * b % 6277101735386680763835789423207666416102355444464034512896 + (a / 340282366920938463463374607431768211456 % 18446744073709551616) * (b % 18446744073709551616) * 340282366920938463463374607431768211456) / 6277101735386680763835789423207666416102355444464034512896 % 18446744073709551616) / 18446744073709551616 = (a % 340282366920938463463374607431768211456 * b % 115792089237316195423570985008687907853269984665640564039457584007913129639936 + (a / 340282366920938463463374607431768211456 % 18446744073709551616) * (b % 340282366920938463463374607431768211456) * 340282366920938463463374607431768211456) / 115792089237316195423570985008687907853269984665640564039457584007913129639936 := by
  have h1 : (a / 340282366920938463463374607431768211456 % 18446744073709551616) * (b % 340282366920938463463374607431768211456) = (a / 340282366920938463463374607431768211456 % 18446744073709551616) * (b % 18446744073709551616) + (a / 340282366920938463463374607431768211456 % 18446744073709551616) * (b / 18446744073709551616 % 18446744073709551616) * 18446744073709551616 := mul_split (a / 340282366920938463463374607431768211456 % 18446744073709551616) b 18446744073709551616
  have h2 := mul_split2 (a / 340282366920938463463374607431768211456 % 18446744073709551616) b 340282366920938463463374607431768211456
  have h3 : a % 6277101735386680763835789423207666416102355444464034512896 * b = a % 340282366920938463463374607431768211456 * b + (a / 340282366920938463463374607431768211456 % 18446744073709551616) * b * 340282366920938463463374607431768211456 := low_split a b 340282366920938463463374607431768211456
  have hu : (a / 340282366920938463463374607431768211456 % 18446744073709551616) * (b % 18446744073709551616) ≤ 18446744073709551615 * 18446744073709551615 := Nat.mul_le_mul (by omega) (by omega)
  have h4 : (a / 340282366920938463463374607431768211456 % 18446744073709551616) * (b % 1) = 0 := by simp [Nat.mod_one]
  have h5 : a % 1 * b = 0 := by simp [Nat.mod_one]
  rw [show (a / 340282366920938463463374607431768211456 % 18446744073709551616) * (b % 340282366920938463463374607431768211456) = _ from h1] at h2
  generalize (a / 340282366920938463463374607431768211456 % 18446744073709551616) * (b / 340282366920938463463374607431768211456) = r at *
  generalize (a / 340282366920938463463374607431768211456 % 18446744073709551616) * (b / 18446744073709551616 % 18446744073709551616) = s at *
  generalize (a / 340282366920938463463374607431768211456 % 18446744073709551616) * (b % 340282366920938463463374607431768211456) = v at *
  generalize (a / 340282366920938463463374607431768211456 % 18446744073709551616) * (b % 18446744073709551616) = u at *
  generalize (a / 340282366920938463463374607431768211456 % 18446744073709551616) * b = z at *
  generalize a % 6277101735386680763835789423207666416102355444464034512896 * b = o' at *
  generalize a % 340282366920938463463374607431768211456 * b = o at *
  omega
theorem muld22 (a b : Nat) : ul ((a / 340282366920938463463374607431768211456 % 18446744073709551616) * (b / 340282366920938463463374607431768211456 % 18446744073709551616) + a % 340282366920938463463374607431768211456 * b / 115792089237316195423570985008687907853269984665640564039457584007913129639936 % 18446744073709551616 + (a % 340282366920938463463374607431768211456 * b % 115792089237316195423570985008687907853269984665640564039457584007913129639936 + (a / 340282366920938463463374607431768211456 % 18446744073709551616) * (b % 340282366920938463463374607431768211456) * 340282366920938463463374607431768211456) / 115792089237316195423570985008687907853269984665640564039457584007913129639936 % 18446744073709551616) = ul (a % 6277101735386680763835789423207666416102355444464034512896 * b / 115792089237316195423570985008687907853269984665640564039457584007913129639936) := by
  refine ul_congr ?_
  have h1 : (a / 340282366920938463463374607431768211456 % 18446744073709551616) * (b % 6277101735386680763835789423207666416102355444464034512896) = (a / 340282366920938463463374607431768211456 % 18446744073709551616) * (b % 340282366920938463463374607431768211456) + (a / 340282366920938463463374607431768211456 % 18446744073709551616) * (b / 340282366920938463463374607431768211456 % 18446744073709551616) * 340282366920938463463374607431768211456 := mul_split (a / 340282366920938463463374607431768211456 % 18446744073709551616) b 340282366920938463463374607431768211456
  have h2 := mul_split2 (a / 340282366920938463463374607431768211456 % 18446744073709551616) b 6277101735386680763835789423207666416102355444464034512896
  have h3 : a % 6277101735386680763835789423207666416102355444464034512896 * b = a % 340282366920938463463374607431768211456 * b + (a / 340282366920938463463374607431768211456 % 18446744073709551616) * b * 340282366920938463463374607431768211456 := low_split a b 340282366920938463463374607431768211456
  have hu : (a / 340282366920938463463374607431768211456 % 18446744073709551616) * (b % 340282366920938463463374607431768211456) ≤ 18446744073709551615 * 340282366920938463463374607431768211455 := Nat.mul_le_mul (by omega) (by omega)
  have h4 : (a / 340282366920938463463374607431768211456 % 18446744073709551616) * (b % 1) = 0 := by simp [Nat.mod_one]
  have h5 : a % 1 * b = 0 := by simp [Nat.mod_one]
  rw [show (a / 340282366920938463463374607431768211456 % 18446744073709551616) * (b % 6277101735386680763835789423207666416102355444464034512896) = _ from h1] at h2
  generalize (a / 340282366920938463463374607431768211456 % 18446744073709551616) * (b / 6277101735386680763835789423207666416102355444464034512896) = r at *
  generalize (a / 340282366920938463463374607431768211456 % 18446744073709551616) * (b / 340282366920938463463374607431768211456 % 18446744073709551616) = s at *
  generalize (a / 340282366920938463463374607431768211456 % 18446744073709551616) * (b % 6277101735386680763835789423207666416102355444464034512896) = v at *
  generalize (a / 340282366920938463463374607431768211456 % 18446744073709551616) * (b % 340282366920938463463374607431768211456) = u at *
  generalize (a / 340282366920938463463374607431768211456 % 18446744073709551616) * b = z at *
  generalize a % 6277101735386680763835789423207666416102355444464034512896 * b = o' at *
  generalize a % 340282366920938463463374607431768211456 * b = o at *
  omega
theorem mulc22 (a b : Nat) : ((a / 340282366920938463463374607431768211456 % 18446744073709551616) * (b / 340282366920938463463374607431768211456 % 18446744073709551616) + a % 340282366920938463463374607431768211456 * b / 115792089237316195423570985008687907853269984665640564039457584007913129639936 % 18446744073709551616 + (a % 340282366920938463463374607431768211456 * b % 115792089237316195423570985008687907853269984665640564039457584007913129639936 + (a / 340282366920938463463374607431768211456 % 18446744073709551616) * (b % 340282366920938463463374607431768211456) * 340282366920938463463374607431768211456) / 115792089237316195423570985008687907853269984665640564039457584007913129639936 % 18446744073709551616) / 18446744073709551616 = (a % 340282366920938463463374607431768211456 * b % 2135987035920910082395021706169552114602704522356652769947041607822219725780640550022962086936576 + (a / 340282366920938463463374607431768211456 % 18446744073709551616) * (b % 6277101735386680763835789423207666416102355444464034512896) * 340282366920938463463374607431768211456) / 2135987035920910082395021706169552114602704522356652769947041607822219725780640550022962086936576 := by
  have h1 : (a / 340282366920938463463374607431768211456 % 18446744073709551616) * (b % 6277101735386680763835789423207666416102355444464034512896) = (a / 340282366920938463463374607431768211456 % 18446744073709551616) * (b % 340282366920938463463374607431768211456) + (a / 340282366920938463463374607431768211456 % 18446744073709551616) * (b / 340282366920938463463374607431768211456 % 18446744073709551616) * 340282366920938463463374607431768211456 := mul_split (a / 340282366920938463463374607431768211456 % 18446744073709551616) b 340282366920938463463374607431768211456
  have h2 := mul_split2 (a / 340282366920938463463374607431768211456 % 18446744073709551616) b 6277101735386680763835789423207666416102355444464034512896
  have h3 : a % 6277101735386680763835789423207666416102355444464034512896 * b = a % 340282366920938463463374607431768211456 * b + (a / 340282366920938463463374607431768211456 % 18446744073709551616) * b * 340282366920938463463374607431768211456 := low_split a b 340282366920938463463374607431768211456
  have hu : (a / 340282366920938463463374607431768211456 % 18446744073709551616) * (b % 340282366920938463463374607431768211456) ≤ 18446744073709551615 * 340282366920938463463374607431768211455 := Nat.mul_le_mul (by omega) (by omega)
  have h4 : (a / 340282366920938463463374607431768211456 % 18446744073709551616) * (b % 1) = 0 := by simp [Nat.mod_one]
  have h5 : a % 1 * b = 0 := by simp [Nat.mod_one]
  rw [show (a / 340282366920938463463374607431768211456 % 18446744073709551616) * (b % 6277101735386680763835789423207666416102355444464034512896) = _ from h1] at h2
  generalize (a / 340282366920938463463374607431768211456 % 18446744073709551616) * (b / 6277101735386680763835789423207666416102355444464034512896) = r at *
  generalize (a / 340282366920938463463374607431768211456 % 18446744073709551616) * (b / 340282366920938463463374607431768211456 % 18446744073709551616) = s at *
  generalize (a / 340282366920938463463374607431768211456 % 18446744073709551616) * (b % 6277101735386680763835789423207666416102355444464034512896) = v at *
  generalize (a / 340282366920938463463374607431768211456 % 18446744073709551616) * (b % 340282366920938463463374607431768211456) = u at *
  generalize (a / 340282366920938463463374607431768211456 % 18446744073709551616) * b = z at *
  generalize a % 6277101735386680763835789423207666416102355444464034512896 * b = o' at *
  generalize a % 340282366920938463463374607431768211456 * b = o at *
  omega
theorem muld23 (a b : Nat) : ul ((a / 340282366920938463463374607431768211456 % 18446744073709551616) * (b / 6277101735386680763835789423207666416102355444464034512896 % 18446744073709551616) + a % 340282366920938463463374607431768211456 * b / 2135987035920910082395021706169552114602704522356652769947041607822219725780640550022962086936576 % 18446744073709551616 + (a % 340282366920938463463374607431768211456 * b % 2135987035920910082395021706169552114602704522356652769947041607822219725780640550022962086936576 + (a / 340282366920938463463374607431768211456 % 18446744073709551616) * (b % 6277101735386680763835789423207666416102355444464034512896) * 340282366920938463463374607431768211456) / 2135987035920910082395021706169552114602704522356652769947041607822219725780640550022962086936576 % 18446744073709551616) = ul (a % 6277101735386680763835789423207666416102355444464034512896 * b / 2135987035920910082395021706169552114602704522356652769947041607822219725780640550022962086936576) := by
  refine ul_congr ?_
  have h1 : (a / 340282366920938463463374607431768211456 % 18446744073709551616) * (b % 115792089237316195423570985008687907853269984665640564039457584007913129639936) = (a / 340282366920938463463374607431768211456 % 18446744073709551616) * (b % 6277101735386680763835789423207666416102355444464034512896) + (a / 340282366920938463463374607431768211456 % 18446744073709551616) * (b / 6277101735386680763835789423207666416102355444464034512896 % 18446744073709551616) * 6277101735386680763835789423207666416102355444464034512896 := mul_split (a / 340282366920938463463374607431768211456 % 18446744073709551616) b 6277101735386680763835789423207666416102355444464034512896
  have h2 := mul_split2 (a / 340282366920938463463374607431768211456 % 18446744073709551616) b 115792089237316195423570985008687907853269984665640564039457584007913129639936
  have h3 : a % 6277101735386680763835789423207666416102355444464034512896 * b = a % 340282366920938463463374607431768211456 * b + (a / 340282366920938463463374607431768211456 % 18446744073709551616) * b * 340282366920938463463374607431768211456 := low_split a b 340282366920938463463374607431768211456
  have hu : (a / 340282366920938463463374607431768211456 % 18446744073709551616) * (b % 6277101735386680763835789423207666416102355444464034512896) ≤ 18446744073709551615 * 6277101735386680763835789423207666416102355444464034512895 := Nat.mul_le_mul (by omega) (by omega)
  have h4 : (a / 340282366920938463463374607431768211456 % 18446744073709551616) * (b % 1) = 0 := by simp [Nat.mod_one]
  have h5 : a % 1 * b = 0 := by simp [Nat.mod_one]
  rw [show (a / 340282366920938463463374607431768211456 % 18446744073709551616) * (b % 115792089237316195423570985008687907853269984665640564039457584007913129639936) = _ from h1] at h2
  generalize (a / 340282366920938463463374607431768211456 % 18446744073709551616) * (b / 115792089237316195423570985008687907853269984665640564039457584007913129639936) = r at *
  generalize (a / 340282366920938463463374607431768211456 % 18446744073709551616) * (b / 6277101735386680763835789423207666416102355444464034512896 % 18446744073709551616) = s at *
  generalize (a / 340282366920938463463374607431768211456 % 18446744073709551616) * (b % 115792089237316195423570985008687907853269984665640564039457584007913129639936) = v at *
  generalize (a / 340282366920938463463374607431768211456 % 18446744073709551616) * (b % 6277101735386680763835789423207666416102355444464034512896) = u at *
  generalize (a / 340282366920938463463374607431768211456 % 18446744073709551616) * b = z at *
  generalize a % 6277101735386680763835789423207666416102355444464034512896 * b = o' at *
  generalize a % 340282366920938463463374607431768211456 * b = o at *
  omega
theorem mulc23 (a b : Nat) (lb : b < 115792089237316195423570985008687907853269984665640564039457584007913129639936) : ((a / 340282366920938463463374607431768211456 % 18446744073709551616) * (b / 6277101735386680763835789423207666416102355444464034512896 % 18446744073709551616) + a % 340282366920938463463374607431768211456 * b / 2135987035920910082395021706169552114602704522356652769947041607822219725780640550022962086936576 % 18446744073709551616 + (a % 340282366920938463463374607431768211456 * b % 2135987035920910082395021706169552114602704522356652769947041607822219725780640550022962086936576 + (a / 340282366920938463463374607431768211456 % 18446744073709551616) * (b % 6277101735386680763835789423207666416102355444464034512896) * 340282366920938463463374607431768211456) / 2135987035920910082395021706169552114602704522356652769947041607822219725780640550022962086936576 % 18446744073709551616) / 18446744073709551616 = a % 6277101735386680763835789423207666416102355444464034512896 * b / 39402006196394479212279040100143613805079739270465446667948293404245721771497210611414266254884915640806627990306816 := by
  have hO : a % 340282366920938463463374607431768211456 * b < 39402006196394479212279040100143613805079739270465446667948293404245721771497210611414266254884915640806627990306816 := by
    have := Nat.mul_le_mul (show a % 340282366920938463463374607431768211456 ≤ 340282366920938463463374607431768211455 by omega) (show b ≤ 115792089237316195423570985008687907853269984665640564039457584007913129639935 by omega)
    omega
  have h0 : b / 115792089237316195423570985008687907853269984665640564039457584007913129639936 = 0 := by omega
  have h1 : (a / 340282366920938463463374607431768211456 % 18446744073709551616) * (b % 115792089237316195423570985008687907853269984665640564039457584007913129639936) = (a / 340282366920938463463374607431768211456 % 18446744073709551616) * (b % 6277101735386680763835789423207666416102355444464034512896) + (a / 340282366920938463463374607431768211456 % 18446744073709551616) * (b / 6277101735386680763835789423207666416102355444464034512896 % 18446744073709551616) * 6277101735386680763835789423207666416102355444464034512896 := mul_split (a / 340282366920938463463374607431768211456 % 18446744073709551616) b 6277101735386680763835789423207666416102355444464034512896
  have h2 := mul_split2 (a / 340282366920938463463374607431768211456 % 18446744073709551616) b 115792089237316195423570985008687907853269984665640564039457584007913129639936
  have h3 : a % 6277101735386680763835789423207666416102355444464034512896 * b = a % 340282366920938463463374607431768211456 * b + (a / 340282366920938463463374607431768211456 % 18446744073709551616) * b * 340282366920938463463374607431768211456 := low_split a b 340282366920938463463374607431768211456
  have hu : (a / 340282366920938463463374607431768211456 % 18446744073709551616) * (b % 6277101735386680763835789423207666416102355444464034512896) ≤ 18446744073709551615 * 6277101735386680763835789423207666416102355444464034512895 := Nat.mul_le_mul (by omega) (by omega)
  have h4 : (a / 340282366920938463463374607431768211456 % 18446744073709551616) * (b % 1) = 0 := by simp [Nat.mod_one]
  have h5 : a % 1 * b = 0 := by simp [Nat.mod_one]
  rw [show (a / 340282366920938463463374607431768211456 % 18446744073709551616) * (b % 115792089237316195423570985008687907853269984665640564039457584007913129639936) = _ from h1] at h2
  rw [h0, Nat.mul_zero, Nat.zero_mul, Nat.add_zero] at h2
  generalize (a / 340282366920938463463374607431768211456 % 18446744073709551616) * (b / 6277101735386680763835789423207666416102355444464034512896 % 18446744073709551616) = s at *
  generalize (a / 340282366920938463463374607431768211456 % 18446744073709551616) * (b % 115792089237316195423570985008687907853269984665640564039457584007913129639936) = v at *
  generalize (a / 340282366920938463463374607431768211456 % 18446744073709551616) * (b % 6277101735386680763835789423207666416102355444464034512896) = u at *
  generalize (a / 340282366920938463463374607431768211456 % 18446744073709551616) * b = z at *
  generalize a % 6277101735386680763835789423207666416102355444464034512896 * b = o' at *
  generalize a % 340282366920938463463374607431768211456 * b = o at *
  omega
theorem muld30 (a b : Nat) : ul ((a / 6277101735386680763835789423207666416102355444464034512896 % 18446744073709551616) * (b % 18446744073709551616) + a % 6277101735386680763835789423207666416102355444464034512896 * b / 6277101735386680763835789423207666416102355444464034512896 % 18446744073709551616) = ul (a % 115792089237316195423570985008687907853269984665640564039457584007913129639936 * b / 6277101735386680763835789423207666416102355444464034512896) := by
  refine ul_congr ?_
  have h1 : (a / 6277101735386680763835789423207666416102355444464034512896 % 18446744073709551616) * (b % 18446744073709551616) = (a / 6277101735386680763835789423207666416102355444464034512896 % 18446744073709551616) * (b % 1) + (a / 6277101735386680763835789423207666416102355444464034512896 % 18446744073709551616) * (b % 18446744073709551616) * 1 := by rw [show b % 1 = 0 from Nat.mod_one b]; simp
  have h2 := mul_split2 (a / 6277101735386680763835789423207666416102355444464034512896 % 18446744073709551616) b 18446744073709551616
  have h3 : a % 115792089237316195423570985008687907853269984665640564039457584007913129639936 * b = a % 6277101735386680763835789423207666416102355444464034512896 * b + (a / 6277101735386680763835789423207666416102355444464034512896 % 18446744073709551616) * b * 6277101735386680763835789423207666416102355444464034512896 := low_split a b 6277101735386680763835789423207666416102355444464034512896
  have h4 : (a / 6277101735386680763835789423207666416102355444464034512896 % 18446744073709551616) * (b % 1) = 0 := by simp [Nat.mod_one]
  have h5 : a % 1 * b = 0 := by simp [Nat.mod_one]
  rw [show (a / 6277101735386680763835789423207666416102355444464034512896 % 18446744073709551616) * (b % 18446744073709551616) = _ from h1] at h2
  generalize (a / 6277101735386680763835789423207666416102355444464034512896 % 18446744073709551616) * (b / 18446744073709551616) = r at *
  generalize (a / 6277101735386680763835789423207666416102355444464034512896 % 18446744073709551616) * (b % 18446744073709551616) = s at *
  generalize (a / 6277101735386680763835789423207666416102355444464034512896 % 18446744073709551616) * (b % 18446744073709551616) = v at *
  generalize (a / 6277101735386680763835789423207666416102355444464034512896 % 18446744073709551616) * (b % 1) = u at *
  generalize (a / 6277101735386680763835789423207666416102355444464034512896 % 18446744073709551616) * b = z at *
  generalize a % 115792089237316195423570985008687907853269984665640564039457584007913129639936 * b = o' at *
  generalize a % 6277101735386680763835789423207666416102355444464034512896 * b = o at *
  omega
theorem mulc30 (a b : Nat) : ((a / 6277101735386680763835789423207666416102355444464034512896 % 18446744073709551616) * (b % 18446744073709551616) + a % 6277101735386680763835789423207666416102355444464034512896 * b / 6277101735386680763835789423207666416102355444464034512896 % 18446744073709551616) / 18446744073709551616 = (a % 6277101735386680763835789423207666416102355444464034512896 * b % 115792089237316195423570985008687907853269984665640564039457584007913129639936 + (a / 6277101735386680763835789423207666416102355444464034512896 % 18446744073709551616) * (b % 18446744073709551616) * 6277101735386680763835789423207666416102355444464034512896) / 115792089237316195423570985008687907853269984665640564039457584007913129639936 := by
  have h1 : (a / 6277101735386680763835789423207666416102355444464034512896 % 18446744073709551616) * (b % 18446744073709551616) = (a / 6277101735386680763835789423207666416102355444464034512896 % 18446744073709551616) * (b % 1) + (a / 6277101735386680763835789423207666416102355444464034512896 % 18446744073709551616) * (b % 18446744073709551616) * 1 := by rw [show b % 1 = 0 from Nat.mod_one b]; simp
  have h2 := mul_split2 (a / 6277101735386680763835789423207666416102355444464034512896 % 18446744073709551616) b 18446744073709551616
  have h3 : a % 115792089237316195423570985008687907853269984665640564039457584007913129639936 * b = a % 6277101735386680763835789423207666416102355444464034512896 * b + (a / 6277101735386680763835789423207666416102355444464034512896 % 18446744073709551616) * b * 6277101735386680763835789423207666416102355444464034512896 := low_split a b 6277101735386680763835789423207666416102355444464034512896
  have h4 : (a / 6277101735386680763835789423207666416102355444464034512896 % 18446744073709551616) * (b % 1) = 0 := by simp [Nat.mod_one]
  have h5 : a % 1 * b = 0 := by simp [Nat.mod_one]
  rw [show (a / 6277101735386680763835789423207666416102355444464034512896 % 18446744073709551616) * (b % 18446744073709551616) = _ from h1] at h2
  generalize (a / 6277101735386680763835789423207666416102355444464034512896 % 18446744073709551616) * (b / 18446744073709551616) = r at *
  generalize (a / 6277101735386680763835789423207666416102355444464034512896 % 18446744073709551616) * (b % 18446744073709551616) = s at *
  generalize (a / 6277101735386680763835789423207666416102355444464034512896 % 18446744073709551616) * (b % 18446744073709551616) = v at *
  generalize (a / 6277101735386680763835789423207666416102355444464034512896 % 18446744073709551616) * (b % 1) = u at *
  generalize (a / 6277101735386680763835789423207666416102355444464034512896 % 18446744073709551616) * b = z at *
  generalize a % 115792089237316195423570985008687907853269984665640564039457584007913129639936 * b = o' at *
  generalize a % 6277101735386680763835789423207666416102355444464034512896 * b = o at *
  omega
theorem muld31 (a b : Nat) : ul ((a / 6277101735386680763835789423207666416102355444464034512896 % 18446744073709551616) * (b / 18446744073709551616 % 18446744073709551616) + a % 6277101735386680763835789423207666416102355444464034512896 * b / 115792089237316195423570985008687907853269984665640564039457584007913129639936 % 18446744073709551616 + (a % 6277101735386680763835789423207666416102355444464034512896 * b % 115792089237316195423570985008687907853269984665640564039457584007913129639936 + (a / 6277101735386680763835789423207666416102355444464034512896 % 18446744073709551616) * (b % 18446744073709551616) * 6277101735386680763835789423207666416102355444464034512896) / 115792089237316195423570985008687907853269984665640564039457584007913129639936 % 18446744073709551616) = ul (a % 115792089237316195423570985008687907853269984665640564039457584007913129639936 * b / 115792089237316195423570985008687907853269984665640564039457584007913129639936) := by
  refine ul_congr ?_
  have h1 : (a / 6277101735386680763835789423207666416102355444464034512896 % 18446744073709551616) * (b % 340282366920938463463374607431768211456) = (a / 6277101735386680763835789423207666416102355444464034512896 % 18446744073709551616) * (b % 18446744073709551616) + (a / 6277101735386680763835789423207666416102355444464034512896 % 18446744073709551616) * (b / 18446744073709551616 % 18446744073709551616) * 18446744073709551616 := mul_split (a / 6277101735386680763835789423207666416102355444464034512896 % 18446744073709551616) b 18446744073709551616
  have h2 := mul_split2 (a / 6277101735386680763835789423207666416102355444464034512896 % 18446744073709551616) b 340282366920938463463374607431768211456
  have h3 : a % 115792089237316195423570985008687907853269984665640564039457584007913129639936 * b = a % 6277101735386680763835789423207666416102355444464034512896 * b + (a / 6277101735386680763835789423207666416102355444464034512896 % 18446744073709551616) * b * 6277101735386680763835789423207666416102355444464034512896 := low_split a b 6277101735386680763835789423207666416102355444464034512896
  have hu : (a / 6277101735386680763835789423207666416102355444464034512896 % 18446744073709551616) * (b % 18446744073709551616) ≤ 18446744073709551615 * 18446744073709551615 := Nat.mul_le_mul (by omega) (by omega)
  have h4 : (a / 6277101735386680763835789423207666416102355444464034512896 % 18446744073709551616) * (b % 1) = 0 := by simp [Nat.mod_one]
  have h5 : a % 1 * b = 0 := by simp [Nat.mod_one]
  rw [show (a / 6277101735386680763835789423207666416102355444464034512896 % 18446744073709551616) * (b % 340282366920938463463374607431768211456) = _ from h1] at h2
  generalize (a / 6277101735386680763835789423207666416102355444464034512896 % 18446744073709551616) * (b / 340282366920938463463374607431768211456) = r at *
  generalize (a / 6277101735386680763835789423207666416102355444464034512896 % 18446744073709551616) * (b / 18446744073709551616 % 18446744073709551616) = s at *
  generalize (a / 6277101735386680763835789423207666416102355444464034512896 % 18446744073709551616) * (b % 340282366920938463463374607431768211456) = v at *
  generalize (a / 6277101735386680763835789423207666416102355444464034512896 % 18446744073709551616) * (b % 18446744073709551616) = u at *
  generalize (a / 6277101735386680763835789423207666416102355444464034512896 % 18446744073709551616) * b = z at *
  generalize a % 115792089237316195423570985008687907853269984665640564039457584007913129639936 * b = o' at *
  generalize a % 6277101735386680763835789423207666416102355444464034512896 * b = o at *
  omega
theorem mulc31 (a b : Nat) : ((a / 6277101735386680763835789423207666416102355444464034512896 % 18446744073709551616) * (b / 18446744073709551616 % 18446744073709551616) + a % 6277101735386680763835789423207666416102355444464034512896 * b / 115792089237316195423570985008687907853269984665640564039457584007913129639936 % 18446744073709551616 + (a % 6277101735386680763835789423207666416102355444464034512896 * b % 115792089237316195423570985008687907853269984665640564039457584007913129639936 + (a / 6277101735386680763835789423207666416102355444464034512896 % 18446744073709551616) * (b % 18446744073709551616) * 6277101735386680763835789423207666416102355444464034512896) / 115792089237316195423570985008687907853269984665640564039457584007913129639936 % 18446744073709551616) / 18446744073709551616 = (a % 6277101735386680763835789423207666416102355444464034512896 * b % 2135987035920910082395021706169552114602704522356652769947041607822219725780640550022962086936576 + (a / 6277101735386680763835789423207666416102355444464034512896 % 18446744073709551616) * (b % 340282366920938463463374607431768211456) * 6277101735386680763835789423207666416102355444464034512896) / 2135987035920910082395021706169552114602704522356652769947041607822219725780640550022962086936576 := by
  have h1 : (a / 6277101735386680763835789423207666416102355444464034512896 % 18446744073709551616) * (b % 340282366920938463463374607431768211456) = (a / 6277101735386680763835789423207666416102355444464034512896 % 18446744073709551616) * (b % 18446744073709551616) + (a / 6277101735386680763835789423207666416102355444464034512896 % 18446744073709551616) * (b / 18446744073709551616 % 18446744073709551616) * 18446744073709551616 := mul_split (a / 6277101735386680763835789423207666416102355444464034512896 % 18446744073709551616) b 18446744073709551616
  have h2 := mul_split2 (a / 6277101735386680763835789423207666416102355444464034512896 % 18446744073709551616) b 340282366920938463463374607431768211456
  have h3 : a % 115792089237316195423570985008687907853269984665640564039457584007913129639936 * b = a % 6277101735386680763835789423207666416102355444464034512896 * b + (a / 6277101735386680763835789423207666416102355444464034512896 % 18446744073709551616) * b * 6277101735386680763835789423207666416102355444464034512896 := low_split a b 6277101735386680763835789423207666416102355444464034512896
  have hu : (a / 6277101735386680763835789423207666416102355444464034512896 % 18446744073709551616) * (b % 18446744073709551616) ≤ 18446744073709551615 * 18446744073709551615 := Nat.mul_le_mul (by omega) (by omega)
  have h4 : (a / 6277101735386680763835789423207666416102355444464034512896 % 18446744073709551616) * (b % 1) = 0 := by simp [Nat.mod_one]
  have h5 : a % 1 * b = 0 := by simp [Nat.mod_one]
  rw [show (a / 6277101735386680763835789423207666416102355444464034512896 % 18446744073709551616) * (b % 340282366920938463463374607431768211456) = _ from h1] at h2
  generalize (a / 6277101735386680763835789423207666416102355444464034512896 % 18446744073709551616) * (b / 340282366920938463463374607431768211456) = r at *
  generalize (a / 6277101735386680763835789423207666416102355444464034512896 % 18446744073709551616) * (b / 18446744073709551616 % 18446744073709551616) = s at *
  generalize (a / 6277101735386680763835789423207666416102355444464034512896 % 18446744073709551616) * (b % 340282366920938463463374607431768211456) = v at *
  generalize (a / 6277101735386680763835789423207666416102355444464034512896 % 18446744073709551616) * (b % 18446744073709551616) = u at *
  generalize (a / 6277101735386680763835789423207666416102355444464034512896 % 18446744073709551616) * b = z at *
  generalize a % 115792089237316195423570985008687907853269984665640564039457584007913129639936 * b = o' at *
  generalize a % 6277101735386680763835789423207666416102355444464034512896 * b = o at *
  omega
theorem muld32 (a b : Nat) : ul ((a / 6277101735386680763835789423207666416102355444464034512896 % 18446744073709551616) * (b / 340282366920938463463374607431768211456 % 18446744073709551616) + a % 6277101735386680763835789423207666416102355444464034512896 * b / 2135987035920910082395021706169552114602704522356652769947041607822219725780640550022962086936576 % 18446744073709551616 + (a % 6277101735386680763835789423207666416102355444464034512896 * b % 2135987035920910082395021706169552114602704522356652769947041607822219725780640550022962086936576 + (a / 6277101735386680763835789423207666416102355444464034512896 % 18446744073709551616) * (b % 340282366920938463463374607431768211456) * 6277101735386680763835789423207666416102355444464034512896) / 2135987035920910082395021706169552114602704522356652769947041607822219725780640550022962086936576 % 18446744073709551616) = ul (a % 115792089237316195423570985008687907853269984665640564039457584007913129639936 * b / 2135987035920910082395021706169552114602704522356652769947041607822219725780640550022962086936576) := by
  refine ul_congr ?_
  have h1 : (a / 6277101735386680763835789423207666416102355444464034512896 % 18446744073709551616) * (b % 6277101735386680763835789423207666416102355444464034512896) = (a / 6277101735386680763835789423207666416102355444464034512896 % 18446744073709551616) * (b % 340282366920938463463374607431768211456) + (a / 6277101735386680763835789423207666416102355444464034512896 % 18446744073709551616) * (b / 340282366920938463463374607431768211456 % 18446744073709551616) * 340282366920938463463374607431768211456 := mul_split (a / 6277101735386680763835789423207666416102355444464034512896 % 18446744073709551616) b 340282366920938463463374607431768211456
  have h2 := mul_split2 (a / 6277101735386680763835789423207666416102355444464034512896 % 18446744073709551616) b 6277101735386680763835789423207666416102355444464034512896
  have h3 : a % 115792089237316195423570985008687907853269984665640564039457584007913129639936 * b = a % 6277101735386680763835789423207666416102355444464034512896 * b + (a / 6277101735386680763835789423207666416102355444464034512896 % 18446744073709551616) * b * 6277101735386680763835789423207666416102355444464034512896 := low_split a b 6277101735386680763835789423207666416102355444464034512896
  have hu : (a / 6277101735386680763835789423207666416102355444464034512896 % 18446744073709551616) * (b % 340282366920938463463374607431768211456) ≤ 18446744073709551615 * 340282366920938463463374607431768211455 := Nat.mul_le_mul (by omega) (by omega)
  have h4 : (a / 6277101735386680763835789423207666416102355444464034512896 % 18446744073709551616) * (b % 1) = 0 := by simp [Nat.mod_one]
  have h5 : a % 1 * b = 0 := by simp [Nat.mod_one]
  rw [show (a / 6277101735386680763835789423207666416102355444464034512896 % 18446744073709551616) * (b % 6277101735386680763835789423207666416102355444464034512896) = _ from h1] at h2
  generalize (a / 6277101735386680763835789423207666416102355444464034512896 % 18446744073709551616) * (b / 6277101735386680763835789423207666416102355444464034512896) = r at *
  generalize (a / 6277101735386680763835789423207666416102355444464034512896 % 18446744073709551616) * (b / 340282366920938463463374607431768211456 % 18446744073709551616) = s at *
  generalize (a / 6277101735386680763835789423207666416102355444464034512896 % 18446744073709551616) * (b % 6277101735386680763835789423207666416102355444464034512896) = v at *
  generalize (a / 6277101735386680763835789423207666416102355444464034512896 % 18446744073709551616) * (b % 340282366920938463463374607431768211456) = u at *
  generalize (a / 6277101735386680763835789423207666416102355444464034512896 % 18446744073709551616) * b = z at *
  generalize a % 115792089237316195423570985008687907853269984665640564039457584007913129639936 * b = o' at *
  generalize a % 6277101735386680763835789423207666416102355444464034512896 * b = o at *
  omega
theorem mulc32 (a b : Nat) : ((a / 6277101735386680763835789423207666416102355444464034512896 % 18446744073709551616) * (b / 340282366920938463463374607431768211456 % 18446744073709551616) + a % 6277101735386680763835789423207666416102355444464034512896 * b / 2135987035920910082395021706169552114602704522356652769947041607822219725780640550022962086936576 % 18446744073709551616 + (a % 6277101735386680763835789423207666416102355444464034512896 * b % 2135987035920910082395021706169552114602704522356652769947041607822219725780640550022962086936576 + (a / 6277101735386680763835789423207666416102355444464034512896 % 18446744073709551616) * (b % 340282366920938463463374607431768211456) * 6277101735386680763835789423207666416102355444464034512896) / 2135987035920910082395021706169552114602704522356652769947041607822219725780640550022962086936576 % 18446744073709551616) / 18446744073709551616 = (a % 6277101735386680763835789423207666416102355444464034512896 * b % 39402006196394479212279040100143613805079739270465446667948293404245721771497210611414266254884915640806627990306816 + (a / 6277101735386680763835789423207666416102355444464034512896 % 18446744073709551616) * (b % 6277101735386680763835789423207666416102355444464034512896) * 6277101735386680763835789423207666416102355444464034512896) / 39402006196394479212279040100143613805079739270465446667948293404245721771497210611414266254884915640806627990306816 := by
  have h1 : (a / 6277101735386680763835789423207666416102355444464034512896 % 18446744073709551616) * (b % 6277101735386680763835789423207666416102355444464034512896) = (a / 6277101735386680763835789423207666416102355444464034512896 % 18446744073709551616) * (b % 340282366920938463463374607431768211456) + (a / 6277101735386680763835789423207666416102355444464034512896 % 18446744073709551616) * (b / 340282366920938463463374607431768211456 % 18446744073709551616) * 340282366920938463463374607431768211456 := mul_split (a / 6277101735386680763835789423207666416102355444464034512896 % 18446744073709551616) b 340282366920938463463374607431768211456
  have h2 := mul_split2 (a / 6277101735386680763835789423207666416102355444464034512896 % 18446744073709551616) b 6277101735386680763835789423207666416102355444464034512896
  have h3 : a % 115792089237316195423570985008687907853269984665640564039457584007913129639936 * b = a % 6277101735386680763835789423207666416102355444464034512896 * b + (a / 6277101735386680763835789423207666416102355444464034512896 % 18446744073709551616) * b * 6277101735386680763835789423207666416102355444464034512896 := low_split a b 6277101735386680763835789423207666416102355444464034512896
  have hu : (a / 6277101735386680763835789423207666416102355444464034512896 % 18446744073709551616) * (b % 340282366920938463463374607431768211456) ≤ 18446744073709551615 * 340282366920938463463374607431768211455 := Nat.mul_le_mul (by omega) (by omega)
  have h4 : (a / 6277101735386680763835789423207666416102355444464034512896 % 18446744073709551616) * (b % 1) = 0 := by simp [Nat.mod_one]
  have h5 : a % 1 * b = 0 := by simp [Nat.mod_one]
  rw [show (a / 6277101735386680763835789423207666416102355444464034512896 % 18446744073709551616) * (b % 6277101735386680763835789423207666416102355444464034512896) = _ from h1] at h2
  generalize (a / 6277101735386680763835789423207666416102355444464034512896 % 18446744073709551616) * (b / 6277101735386680763835789423207666416102355444464034512896) = r at *
  generalize (a / 6277101735386680763835789423207666416102355444464034512896 % 18446744073709551616) * (b / 340282366920938463463374607431768211456 % 18446744073709551616) = s at *
  generalize (a / 6277101735386680763835789423207666416102355444464034512896 % 18446744073709551616) * (b % 6277101735386680763835789423207666416102355444464034512896) = v at *
  generalize (a / 6277101735386680763835789423207666416102355444464034512896 % 18446744073709551616) * (b % 340282366920938463463374607431768211456) = u at *
  generalize (a / 6277101735386680763835789423207666416102355444464034512896 % 18446744073709551616) * b = z at *
  generalize a % 115792089237316195423570985008687907853269984665640564039457584007913129639936 * b = o' at *
  generalize a % 6277101735386680763835789423207666416102355444464034512896 * b = o at *
  omega
theorem muld33 (a b : Nat) : ul ((a / 6277101735386680763835789423207666416102355444464034512896 % 18446744073709551616) * (b / 6277101735386680763835789423207666416102355444464034512896 % 18446744073709551616) + a % 6277101735386680763835789423207666416102355444464034512896 * b / 39402006196394479212279040100143613805079739270465446667948293404245721771497210611414266254884915640806627990306816 % 18446744073709551616 + (a % 6277101735386680763835789423207666416102355444464034512896 * b % 39402006196394479212279040100143613805079739270465446667948293404245721771497210611414266254884915640806627990306816 + (a / 6277101735386680763835789423207666416102355444464034512896 % 18446744073709551616) * (b % 6277101735386680763835789423207666416102355444464034512896) * 6277101735386680763835789423207666416102355444464034512896) / 39402006196394479212279040100143613805079739270465446667948293404245721771497210611414266254884915640806627990306816 % 18446744073709551616) = ul (a % 115792089237316195423570985008687907853269984665640564039457584007913129639936 * b / 39402006196394479212279040100143613805079739270465446667948293404245721771497210611414266254884915640806627990306816) := by
  refine ul_congr ?_
  have h1 : (a / 6277101735386680763835789423207666416102355444464034512896 % 18446744073709551616) * (b % 115792089237316195423570985008687907853269984665640564039457584007913129639936) = (a / 6277101735386680763835789423207666416102355444464034512896 % 18446744073709551616) * (b % 6277101735386680763835789423207666416102355444464034512896) + (a / 6277101735386680763835789423207666416102355444464034512896 % 18446744073709551616) * (b / 6277101735386680763835789423207666416102355444464034512896 % 18446744073709551616) * 6277101735386680763835789423207666416102355444464034512896 := mul_split (a / 6277101735386680763835789423207666416102355444464034512896 % 18446744073709551616) b 6277101735386680763835789423207666416102355444464034512896
  have h2 := mul_split2 (a / 6277101735386680763835789423207666416102355444464034512896 % 18446744073709551616) b 115792089237316195423570985008687907853269984665640564039457584007913129639936
  have h3 : a % 115792089237316195423570985008687907853269984665640564039457584007913129639936 * b = a % 6277101735386680763835789423207666416102355444464034512896 * b + (a / 6277101735386680763835789423207666416102355444464034512896 % 18446744073709551616) * b * 6277101735386680763835789423207666416102355444464034512896 := low_split a b 6277101735386680763835789423207666416102355444464034512896
  have hu : (a / 6277101735386680763835789423207666416102355444464034512896 % 18446744073709551616) * (b % 6277101735386680763835789423207666416102355444464034512896) ≤ 18446744073709551615 * 6277101735386680763835789423207666416102355444464034512895 := Nat.mul_le_mul (by omega) (by omega)
  have h4 : (a / 6277101735386680763835789423207666416102355444464034512896 % 18446744073709551616) * (b % 1) = 0 := by simp [Nat.mod_one]
  have h5 : a % 1 * b = 0 := by simp [Nat.mod_one]
  rw [show (a / 6277101735386680763835789423207666416102355444464034512896 % 18446744073709551616) * (b % 115792089237316195423570985008687907853269984665640564039457584007913129639936) = _ from h1] at h2
  generalize (a / 6277101735386680763835789423207666416102355444464034512896 % 18446744073709551616) * (b / 115792089237316195423570985008687907853269984665640564039457584007913129639936) = r at *
  generalize (a / 6277101735386680763835789423207666416102355444464034512896 % 18446744073709551616) * (b / 6277101735386680763835789423207666416102355444464034512896 % 18446744073709551616) = s at *
  generalize (a / 6277101735386680763835789423207666416102355444464034512896 % 18446744073709551616) * (b % 115792089237316195423570985008687907853269984665640564039457584007913129639936) = v at *
  generalize (a / 6277101735386680763835789423207666416102355444464034512896 % 18446744073709551616) * (b % 6277101735386680763835789423207666416102355444464034512896) = u at *
  generalize (a / 6277101735386680763835789423207666416102355444464034512896 % 18446744073709551616) * b = z at *
  generalize a % 115792089237316195423570985008687907853269984665640564039457584007913129639936 * b = o' at *
  generalize a % 6277101735386680763835789423207666416102355444464034512896 * b = o at *
  omega
theorem mulc33 (a b : Nat) (lb : b < 115792089237316195423570985008687907853269984665640564039457584007913129639936) : ((a / 6277101735386680763835789423207666416102355444464034512896 % 18446744073709551616) * (b / 6277101735386680763835789423207666416102355444464034512896 % 18446744073709551616) + a % 6277101735386680763835789423207666416102355444464034512896 * b / 39402006196394479212279040100143613805079739270465446667948293404245721771497210611414266254884915640806627990306816 % 18446744073709551616 + (a % 6277101735386680763835789423207666416102355444464034512896 * b % 39402006196394479212279040100143613805079739270465446667948293404245721771497210611414266254884915640806627990306816 + (a / 6277101735386680763835789423207666416102355444464034512896 % 18446744073709551616) * (b % 6277101735386680763835789423207666416102355444464034512896) * 6277101735386680763835789423207666416102355444464034512896) / 39402006196394479212279040100143613805079739270465446667948293404245721771497210611414266254884915640806627990306816 % 18446744073709551616) / 18446744073709551616 = a % 115792089237316195423570985008687907853269984665640564039457584007913129639936 * b / 726838724295606890549323807888004534353641360687318060281490199180639288113397923326191050713763565560762521606266177933534601628614656 := by
  have hO : a % 6277101735386680763835789423207666416102355444464034512896 * b < 726838724295606890549323807888004534353641360687318060281490199180639288113397923326191050713763565560762521606266177933534601628614656 := by
    have := Nat.mul_le_mul (show a % 6277101735386680763835789423207666416102355444464034512896 ≤ 6277101735386680763835789423207666416102355444464034512895 by omega) (show b ≤ 115792089237316195423570985008687907853269984665640564039457584007913129639935 by omega)
    omega
  have h0 : b / 115792089237316195423570985008687907853269984665640564039457584007913129639936 = 0 := by omega
  have h1 : (a / 6277101735386680763835789423207666416102355444464034512896 % 18446744073709551616) * (b % 115792089237316195423570985008687907853269984665640564039457584007913129639936) = (a / 6277101735386680763835789423207666416102355444464034512896 % 18446744073709551616) * (b % 6277101735386680763835789423207666416102355444464034512896) + (a / 6277101735386680763835789423207666416102355444464034512896 % 18446744073709551616) * (b / 6277101735386680763835789423207666416102355444464034512896 % 18446744073709551616) * 6277101735386680763835789423207666416102355444464034512896 := mul_split (a / 6277101735386680763835789423207666416102355444464034512896 % 18446744073709551616) b 6277101735386680763835789423207666416102355444464034512896
  have h2 := mul_split2 (a / 6277101735386680763835789423207666416102355444464034512896 % 18446744073709551616) b 115792089237316195423570985008687907853269984665640564039457584007913129639936
  have h3 : a % 115792089237316195423570985008687907853269984665640564039457584007913129639936 * b = a % 6277101735386680763835789423207666416102355444464034512896 * b + (a / 6277101735386680763835789423207666416102355444464034512896 % 18446744073709551616) * b * 6277101735386680763835789423207666416102355444464034512896 := low_split a b 6277101735386680763835789423207666416102355444464034512896
  have hu : (a / 6277101735386680763835789423207666416102355444464034512896 % 18446744073709551616) * (b % 6277101735386680763835789423207666416102355444464034512896) ≤ 18446744073709551615 * 6277101735386680763835789423207666416102355444464034512895 := Nat.mul_le_mul (by omega) (by omega)
  have h4 : (a / 6277101735386680763835789423207666416102355444464034512896 % 18446744073709551616) * (b % 1) = 0 := by simp [Nat.mod_one]
  have h5 : a % 1 * b = 0 := by simp [Nat.mod_one]
  rw [show (a / 6277101735386680763835789423207666416102355444464034512896 % 18446744073709551616) * (b % 115792089237316195423570985008687907853269984665640564039457584007913129639936) = _ from h1] at h2
  rw [h0, Nat.mul_zero, Nat.zero_mul, Nat.add_zero] at h2
  generalize (a / 6277101735386680763835789423207666416102355444464034512896 % 18446744073709551616) * (b / 6277101735386680763835789423207666416102355444464034512896 % 18446744073709551616) = s at *
  generalize (a / 6277101735386680763835789423207666416102355444464034512896 % 18446744073709551616) * (b % 115792089237316195423570985008687907853269984665640564039457584007913129639936) = v at *
  generalize (a / 6277101735386680763835789423207666416102355444464034512896 % 18446744073709551616) * (b % 6277101735386680763835789423207666416102355444464034512896) = u at *
  generalize (a / 6277101735386680763835789423207666416102355444464034512896 % 18446744073709551616) * b = z at *
  generalize a % 115792089237316195423570985008687907853269984665640564039457584007913129639936 * b = o' at *
  generalize a % 6277101735386680763835789423207666416102355444464034512896 * b = o at *
  omega
theorem mullo0 (a b : Nat) : a % 18446744073709551616 * b  % 18446744073709551616 = a * b  % 18446744073709551616 := by
  have h := mul_split2 b a 18446744073709551616
  rw [Nat.mul_comm b a, Nat.mul_comm b (a % 18446744073709551616)] at h
  generalize b * (a / 18446744073709551616) = r at *
  generalize a * b = z at *
  generalize a % 18446744073709551616 * b = o at *
  omega
theorem mullo1 (a b : Nat) : a % 340282366920938463463374607431768211456 * b / 18446744073709551616 % 18446744073709551616 = a * b / 18446744073709551616 % 18446744073709551616 := by
  have h := mul_split2 b a 340282366920938463463374607431768211456
  rw [Nat.mul_comm b a, Nat.mul_comm b (a % 340282366920938463463374607431768211456)] at h
  generalize b * (a / 340282366920938463463374607431768211456) = r at *
  generalize a * b = z at *
  generalize a % 340282366920938463463374607431768211456 * b = o at *
  omega
theorem mullo2 (a b : Nat) : a % 6277101735386680763835789423207666416102355444464034512896 * b / 340282366920938463463374607431768211456 % 18446744073709551616 = a * b / 340282366920938463463374607431768211456 % 18446744073709551616 := by
  have h := mul_split2 b a 6277101735386680763835789423207666416102355444464034512896
  rw [Nat.mul_comm b a, Nat.mul_comm b (a % 6277101735386680763835789423207666416102355444464034512896)] at h
  generalize b * (a / 6277101735386680763835789423207666416102355444464034512896) = r at *
  generalize a * b = z at *
  generalize a % 6277101735386680763835789423207666416102355444464034512896 * b = o at *
  omega
theorem mod_div_self (q : Nat) : q % 18446744073709551616 / 18446744073709551616 = 0 := by omega
theorem refc0 (q c : Nat) : q / 18446744073709551616 + (q % 18446744073709551616 + c % 18446744073709551616) / 18446744073709551616 = (q + c % 18446744073709551616) / 18446744073709551616 := by omega
theorem refc1 (p q : Nat) : q / 18446744073709551616 + (p % 18446744073709551616 + q % 18446744073709551616) / 18446744073709551616 = (q + p % 18446744073709551616) / 18446744073709551616 := by omega
theorem mule01 (a b : Nat) : ul ((a % 18446744073709551616) * (b / 18446744073709551616 % 18446744073709551616) + (a % 18446744073709551616) * (b % 18446744073709551616) / 18446744073709551616) = ul (a % 18446744073709551616 * b / 18446744073709551616) := by
  rw [← muld01]
  exact ul_congr (by omega)
theorem mule02 (a b : Nat) : ul ((a % 18446744073709551616) * (b / 340282366920938463463374607431768211456 % 18446744073709551616) + (a % 18446744073709551616) * (b % 340282366920938463463374607431768211456) / 340282366920938463463374607431768211456) = ul (a % 18446744073709551616 * b / 340282366920938463463374607431768211456) := by
  rw [← muld02]
  exact ul_congr (by omega)
theorem mule03 (a b : Nat) : ul ((a % 18446744073709551616) * (b / 6277101735386680763835789423207666416102355444464034512896 % 18446744073709551616) + (a % 18446744073709551616) * (b % 6277101735386680763835789423207666416102355444464034512896) / 6277101735386680763835789423207666416102355444464034512896) = ul (a % 18446744073709551616 * b / 6277101735386680763835789423207666416102355444464034512896) := by
  rw [← muld03]
  exact ul_congr (by omega)
theorem mule10 (a b : Nat) : ul (a % 18446744073709551616 * b / 18446744073709551616 + (a / 18446744073709551616 % 18446744073709551616) * (b % 18446744073709551616)) = ul (a % 340282366920938463463374607431768211456 * b / 18446744073709551616) := by
  rw [← muld10]
  exact ul_congr (by omega)
theorem mule11 (a b : Nat) : ul (a % 18446744073709551616 * b / 340282366920938463463374607431768211456 + (a / 18446744073709551616 % 18446744073709551616) * (b / 18446744073709551616 % 18446744073709551616) + (a % 18446744073709551616 * b % 340282366920938463463374607431768211456 + (a / 18446744073709551616 % 18446744073709551616) * (b % 18446744073709551616) * 18446744073709551616) / 340282366920938463463374607431768211456) = ul (a % 340282366920938463463374607431768211456 * b / 340282366920938463463374607431768211456) := by
  rw [← muld11]
  exact ul_congr (by omega)
theorem mule12 (a b : Nat) : ul (a % 18446744073709551616 * b / 6277101735386680763835789423207666416102355444464034512896 + (a / 18446744073709551616 % 18446744073709551616) * (b / 340282366920938463463374607431768211456 % 18446744073709551616) + (a % 18446744073709551616 * b % 6277101735386680763835789423207666416102355444464034512896 + (a / 18446744073709551616 % 18446744073709551616) * (b % 340282366920938463463374607431768211456) * 18446744073709551616) / 6277101735386680763835789423207666416102355444464034512896) = ul (a % 340282366920938463463374607431768211456 * b / 6277101735386680763835789423207666416102355444464034512896) := by
  rw [← muld12]
  exact ul_congr (by omega)
theorem mule13 (a b : Nat) : ul (a % 18446744073709551616 * b / 115792089237316195423570985008687907853269984665640564039457584007913129639936 + (a / 18446744073709551616 % 18446744073709551616) * (b / 6277101735386680763835789423207666416102355444464034512896 % 18446744073709551616) + (a % 18446744073709551616 * b % 115792089237316195423570985008687907853269984665640564039457584007913129639936 + (a / 18446744073709551616 % 18446744073709551616) * (b % 6277101735386680763835789423207666416102355444464034512896) * 18446744073709551616) / 115792089237316195423570985008687907853269984665640564039457584007913129639936) = ul (a % 340282366920938463463374607431768211456 * b / 115792089237316195423570985008687907853269984665640564039457584007913129639936) := by
  rw [← muld13]
  exact ul_congr (by omega)
theorem mule20 (a b : Nat) : ul (a % 340282366920938463463374607431768211456 * b / 340282366920938463463374607431768211456 + (a / 340282366920938463463374607431768211456 % 18446744073709551616) * (b % 18446744073709551616)) = ul (a % 6277101735386680763835789423207666416102355444464034512896 * b / 340282366920938463463374607431768211456) := by
  rw [← muld20]
  exact ul_congr (by omega)
theorem mule21 (a b : Nat) : ul (a % 340282366920938463463374607431768211456 * b / 6277101735386680763835789423207666416102355444464034512896 + (a / 340282366920938463463374607431768211456 % 18446744073709551616) * (b / 18446744073709551616 % 18446744073709551616) + (a % 340282366920938463463374607431768211456 * b % 6277101735386680763835789423207666416102355444464034512896 + (a / 340282366920938463463374607431768211456 % 18446744073709551616) * (b % 18446744073709551616) * 340282366920938463463374607431768211456) / 6277101735386680763835789423207666416102355444464034512896) = ul (a % 6277101735386680763835789423207666416102355444464034512896 * b / 6277101735386680763835789423207666416102355444464034512896) := by
  rw [← muld21]
  exact ul_congr (by omega)
theorem mule22 (a b : Nat) : ul (a % 340282366920938463463374607431768211456 * b / 115792089237316195423570985008687907853269984665640564039457584007913129639936 + (a / 340282366920938463463374607431768211456 % 18446744073709551616) * (b / 340282366920938463463374607431768211456 % 18446744073709551616) + (a % 340282366920938463463374607431768211456 * b % 115792089237316195423570985008687907853269984665640564039457584007913129639936 + (a / 340282366920938463463374607431768211456 % 18446744073709551616) * (b % 340282366920938463463374607431768211456) * 340282366920938463463374607431768211456) / 115792089237316195423570985008687907853269984665640564039457584007913129639936) = ul (a % 6277101735386680763835789423207666416102355444464034512896 * b / 115792089237316195423570985008687907853269984665640564039457584007913129639936) := by
  rw [← muld22]
  exact ul_congr (by omega)
theorem mule23 (a b : Nat) : ul (a % 340282366920938463463374607431768211456 * b / 2135987035920910082395021706169552114602704522356652769947041607822219725780640550022962086936576 + (a / 340282366920938463463374607431768211456 % 18446744073709551616) * (b / 6277101735386680763835789423207666416102355444464034512896 % 18446744073709551616) + (a % 340282366920938463463374607431768211456 * b % 2135987035920910082395021706169552114602704522356652769947041607822219725780640550022962086936576 + (a / 340282366920938463463374607431768211456 % 18446744073709551616) * (b % 6277101735386680763835789423207666416102355444464034512896) * 340282366920938463463374607431768211456) / 2135987035920910082395021706169552114602704522356652769947041607822219725780640550022962086936576) = ul (a % 6277101735386680763835789423207666416102355444464034512896 * b / 2135987035920910082395021706169552114602704522356652769947041607822219725780640550022962086936576) := by
  rw [← muld23]
  exact ul_congr (by omega)
theorem mule30 (a b : Nat) : ul (a % 6277101735386680763835789423207666416102355444464034512896 * b / 6277101735386680763835789423207666416102355444464034512896 + (a / 6277101735386680763835789423207666416102355444464034512896 % 18446744073709551616) * (b % 18446744073709551616)) = ul (a % 115792089237316195423570985008687907853269984665640564039457584007913129639936 * b / 6277101735386680763835789423207666416102355444464034512896) := by
  rw [← muld30]
  exact ul_congr (by omega)
theorem mule31 (a b : Nat) : ul (a % 6277101735386680763835789423207666416102355444464034512896 * b / 115792089237316195423570985008687907853269984665640564039457584007913129639936 + (a / 6277101735386680763835789423207666416102355444464034512896 % 18446744073709551616) * (b / 18446744073709551616 % 18446744073709551616) + (a % 6277101735386680763835789423207666416102355444464034512896 * b % 115792089237316195423570985008687907853269984665640564039457584007913129639936 + (a / 6277101735386680763835789423207666416102355444464034512896 % 18446744073709551616) * (b % 18446744073709551616) * 6277101735386680763835789423207666416102355444464034512896) / 115792089237316195423570985008687907853269984665640564039457584007913129639936) = ul (a % 115792089237316195423570985008687907853269984665640564039457584007913129639936 * b / 115792089237316195423570985008687907853269984665640564039457584007913129639936) := by
  rw [← muld31]
  exact ul_congr (by omega)
theorem mule32 (a b : Nat) : ul (a % 6277101735386680763835789423207666416102355444464034512896 * b / 2135987035920910082395021706169552114602704522356652769947041607822219725780640550022962086936576 + (a / 6277101735386680763835789423207666416102355444464034512896 % 18446744073709551616) * (b / 340282366920938463463374607431768211456 % 18446744073709551616) + (a % 6277101735386680763835789423207666416102355444464034512896 * b % 2135987035920910082395021706169552114602704522356652769947041607822219725780640550022962086936576 + (a / 6277101735386680763835789423207666416102355444464034512896 % 18446744073709551616) * (b % 340282366920938463463374607431768211456) * 6277101735386680763835789423207666416102355444464034512896) / 2135987035920910082395021706169552114602704522356652769947041607822219725780640550022962086936576) = ul (a % 115792089237316195423570985008687907853269984665640564039457584007913129639936 * b / 2135987035920910082395021706169552114602704522356652769947041607822219725780640550022962086936576) := by
  rw [← muld32]
  exact ul_congr (by omega)
theorem mule33 (a b : Nat) : ul (a % 6277101735386680763835789423207666416102355444464034512896 * b / 39402006196394479212279040100143613805079739270465446667948293404245721771497210611414266254884915640806627990306816 + (a / 6277101735386680763835789423207666416102355444464034512896 % 18446744073709551616) * (b / 6277101735386680763835789423207666416102355444464034512896 % 18446744073709551616) + (a % 6277101735386680763835789423207666416102355444464034512896 * b % 39402006196394479212279040100143613805079739270465446667948293404245721771497210611414266254884915640806627990306816 + (a / 6277101735386680763835789423207666416102355444464034512896 % 18446744073709551616) * (b % 6277101735386680763835789423207666416102355444464034512896) * 6277101735386680763835789423207666416102355444464034512896) / 39402006196394479212279040100143613805079739270465446667948293404245721771497210611414266254884915640806627990306816) = ul (a % 115792089237316195423570985008687907853269984665640564039457584007913129639936 * b / 39402006196394479212279040100143613805079739270465446667948293404245721771497210611414266254884915640806627990306816) := by
  rw [← muld33]
  exact ul_congr (by omega)
theorem ul_add2 (a b : Nat) : ul (a % 18446744073709551616 + b % 18446744073709551616) = ul (a + b) := ul_congr (by omega)
theorem refq (p q c : Nat) : q / 18446744073709551616 + (p % 18446744073709551616 + q % 18446744073709551616) / 18446744073709551616 + ((p + q) % 18446744073709551616 + c % 18446744073709551616) / 18446744073709551616 = (q + p % 18446744073709551616 + c % 18446744073709551616) / 18446744073709551616 := by omega
theorem refq2 (p q c : Nat) : (q + p % 18446744073709551616) / 18446744073709551616 + ((p + q) % 18446744073709551616 + c % 18446744073709551616) / 18446744073709551616 = (q + p % 18446744073709551616 + c % 18446744073709551616) / 18446744073709551616 := by omega
end Go.Ab
namespace Go.Ab
open Go Go.RowKit
set_option linter.unusedVariables false
theorem or_add {x b k : Nat} (h : b < 2 ^ k) : x * 2 ^ k ||| b = x * 2 ^ k + b := by
  rw [Nat.mul_comm]; exact (Nat.two_pow_add_eq_or_of_lt h x).symm
theorem or_dbl (x y : Nat) : x * 2 ||| y % 18446744073709551616 / 9223372036854775808 = x * 2 + y % 18446744073709551616 / 9223372036854775808 := by
  have := or_add (x := x) (k := 1) (b := y % 18446744073709551616 / 9223372036854775808) (by omega)
  simpa using this
theorem or_one {x b : Nat} (h : b ≤ 1) : x * 2 ||| b = x * 2 + b := by
  have := or_add (x := x) (k := 1) (b := b) (by omega)
  simpa using this
end Go.Ab
