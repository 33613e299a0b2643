import Derived.Test.YtaofjdaclnagnaaMG
import Derived.Test.YtaofjdaclnagnaaChecked
import Derived.Eval
namespace Go.Ab
open Go Go.Proofs
set_option linter.unusedVariables false
set_option linter.unusedSimpArgs false
def z25 : Value := .agg (Array.replicate 32 (.int .u8 0))
theorem zr25 : z25.cells.toList.map PV.lit = (List.replicate 32 (0 : UInt8)).map bv := by rfl
theorem zo25 : ∀ v ∈ z25.cells.toList, v.oneCell' = true := by decide +kernel
theorem ty3 : tyOf Try.prog 3 = some ⟨.int .i64, 1, 8, .int .i64 0⟩ := by kernel_rfl
theorem ty4 : tyOf Try.prog 4 = some ⟨.bool, 1, 1, .bool false⟩ := by kernel_rfl
theorem ty5 : tyOf Try.prog 5 = some ⟨.int .u8, 1, 1, .int .u8 0⟩ := by kernel_rfl
theorem ty9 : tyOf Try.prog 9 = some ⟨.string, 1, 16, .string ByteArray.empty⟩ := by kernel_rfl
theorem ty22 : tyOf Try.prog 22 = some ⟨.slice 5, 1, 24, .slice none 0 0⟩ := by kernel_rfl
theorem ty23 : tyOf Try.prog 23 = some ⟨.int .u64, 1, 8, .int .u64 0⟩ := by kernel_rfl
theorem ty25 : tyOf Try.prog 25 = some ⟨.array 32 5, 32, 32, z25⟩ := by kernel_rfl
theorem ty29 : tyOf Try.prog 29 = some ⟨.int .u16, 1, 2, .int .u16 0⟩ := by kernel_rfl
theorem ty31 : tyOf Try.prog 31 = some ⟨.int .u32, 1, 4, .int .u32 0⟩ := by kernel_rfl
theorem ty36 : tyOf Try.prog 36 = some ⟨.int .i64, 1, 8, .int .i64 0⟩ := by kernel_rfl
theorem ty69 : tyOf Try.prog 69 = some ⟨.slice 22, 1, 24, .slice none 0 0⟩ := by kernel_rfl
theorem cv_23_29 {L : LH} {k : IntKind} {n : Int} : convF Try.prog 23 29 (.lit (.int k n)) L = ⟨True, .lit (.int .u16 (IntKind.wrap .u16 n)), L⟩ := conv_int ty23 ty29
theorem cw_23_29 {L : LH} {n : Nat} : convF Try.prog 23 29 (ul n) L = ⟨True, .lit (.int .u16 (IntKind.wrap .u16 ((n % 18446744073709551616 : Nat) : Int))), L⟩ := conv_ul_int ty23 ty29
theorem cv_23_31 {L : LH} {k : IntKind} {n : Int} : convF Try.prog 23 31 (.lit (.int k n)) L = ⟨True, .lit (.int .u32 (IntKind.wrap .u32 n)), L⟩ := conv_int ty23 ty31
theorem cw_23_31 {L : LH} {n : Nat} : convF Try.prog 23 31 (ul n) L = ⟨True, .lit (.int .u32 (IntKind.wrap .u32 ((n % 18446744073709551616 : Nat) : Int))), L⟩ := conv_ul_int ty23 ty31
theorem cv_23_5 {L : LH} {k : IntKind} {n : Int} : convF Try.prog 23 5 (.lit (.int k n)) L = ⟨True, .lit (.int .u8 (IntKind.wrap .u8 n)), L⟩ := conv_int ty23 ty5
theorem cw_23_5 {L : LH} {n : Nat} : convF Try.prog 23 5 (ul n) L = ⟨True, bv (UInt8.ofNat n), L⟩ := conv_ul_u8 ty23 ty5
theorem cv_5_3 {L : LH} {k : IntKind} {n : Int} : convF Try.prog 5 3 (.lit (.int k n)) L = ⟨True, .lit (.int .i64 (IntKind.wrap .i64 n)), L⟩ := conv_int ty5 ty3
theorem cw_5_3 {L : LH} {x : UInt8} : convF Try.prog 5 3 (bv x) L = ⟨True, .lit (.int .i64 (IntKind.wrap .i64 (x.toNat : Int))), L⟩ := conv_bv_int ty5 ty3
theorem cv_29_23 {L : LH} {k : IntKind} {n : Int} : convF Try.prog 29 23 (.lit (.int k n)) L = ⟨True, .lit (.int .u64 (IntKind.wrap .u64 n)), L⟩ := conv_int ty29 ty23
theorem cv_31_23 {L : LH} {k : IntKind} {n : Int} : convF Try.prog 31 23 (.lit (.int k n)) L = ⟨True, .lit (.int .u64 (IntKind.wrap .u64 n)), L⟩ := conv_int ty31 ty23
theorem cv_3_23 {L : LH} {k : IntKind} {n : Int} : convF Try.prog 3 23 (.lit (.int k n)) L = ⟨True, .lit (.int .u64 (IntKind.wrap .u64 n)), L⟩ := conv_int ty3 ty23
theorem cw_3_23 {L : LH} {n : Nat} : convF Try.prog 3 23 (.lit (.int .i64 (n : Int))) L = ⟨True, ul n, L⟩ := conv_nat ty3 ty23
theorem cv_23_3 {L : LH} {k : IntKind} {n : Int} : convF Try.prog 23 3 (.lit (.int k n)) L = ⟨True, .lit (.int .i64 (IntKind.wrap .i64 n)), L⟩ := conv_int ty23 ty3
theorem cw_23_3 {L : LH} {n : Nat} : convF Try.prog 23 3 (ul n) L = ⟨True, .lit (.int .i64 (IntKind.wrap .i64 ((n % 18446744073709551616 : Nat) : Int))), L⟩ := conv_ul_int ty23 ty3
theorem cv_3_5 {L : LH} {k : IntKind} {n : Int} : convF Try.prog 3 5 (.lit (.int k n)) L = ⟨True, .lit (.int .u8 (IntKind.wrap .u8 n)), L⟩ := conv_int ty3 ty5
theorem cv_5_23 {L : LH} {k : IntKind} {n : Int} : convF Try.prog 5 23 (.lit (.int k n)) L = ⟨True, .lit (.int .u64 (IntKind.wrap .u64 n)), L⟩ := conv_int ty5 ty23
theorem cw_5_23 {L : LH} {x : UInt8} : convF Try.prog 5 23 (bv x) L = ⟨True, ul x.toNat, L⟩ := conv_bv_ul ty5 ty23
theorem cv_3_29 {L : LH} {k : IntKind} {n : Int} : convF Try.prog 3 29 (.lit (.int k n)) L = ⟨True, .lit (.int .u16 (IntKind.wrap .u16 n)), L⟩ := conv_int ty3 ty29
theorem cv_5_29 {L : LH} {k : IntKind} {n : Int} : convF Try.prog 5 29 (.lit (.int k n)) L = ⟨True, .lit (.int .u16 (IntKind.wrap .u16 n)), L⟩ := conv_int ty5 ty29
theorem cw_5_29 {L : LH} {x : UInt8} : convF Try.prog 5 29 (bv x) L = ⟨True, .lit (.int .u16 (IntKind.wrap .u16 (x.toNat : Int))), L⟩ := conv_bv_int ty5 ty29
theorem cv_3_31 {L : LH} {k : IntKind} {n : Int} : convF Try.prog 3 31 (.lit (.int k n)) L = ⟨True, .lit (.int .u32 (IntKind.wrap .u32 n)), L⟩ := conv_int ty3 ty31
theorem cv_5_31 {L : LH} {k : IntKind} {n : Int} : convF Try.prog 5 31 (.lit (.int k n)) L = ⟨True, .lit (.int .u32 (IntKind.wrap .u32 n)), L⟩ := conv_int ty5 ty31
theorem cw_5_31 {L : LH} {x : UInt8} : convF Try.prog 5 31 (bv x) L = ⟨True, uw (bw x), L⟩ := conv_bw ty5 ty31
theorem lc_4 : PV.lit (.int .u64 4) = ul 4 := rfl
theorem lc_8 : PV.lit (.int .u64 8) = ul 8 := rfl
theorem lc_16 : PV.lit (.int .u64 16) = ul 16 := rfl
theorem lc_32 : PV.lit (.int .u64 32) = ul 32 := rfl
theorem lc_253 : PV.lit (.int .u64 253) = ul 253 := rfl
theorem lc_254 : PV.lit (.int .u64 254) = ul 254 := rfl
theorem lc_255 : PV.lit (.int .u64 255) = ul 255 := rfl
theorem lc_256 : PV.lit (.int .u64 256) = ul 256 := rfl
theorem lc_1000 : PV.lit (.int .u64 1000) = ul 1000 := rfl
theorem lc_65536 : PV.lit (.int .u64 65536) = ul 65536 := rfl
theorem lc_4294967296 : PV.lit (.int .u64 4294967296) = ul 4294967296 := rfl
theorem lc_18446744073709551615 : PV.lit (.int .u64 18446744073709551615) = ul 18446744073709551615 := rfl
theorem mixed : Try.prog.follows .mixedOrders = true := Checked.mixed Try.checked
end Go.Ab
