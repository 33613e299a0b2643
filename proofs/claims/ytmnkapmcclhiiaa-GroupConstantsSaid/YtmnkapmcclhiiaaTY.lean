import Derived.Test.YtmnkapmcclhiiaaMD
import Derived.Test.YtmnkapmcclhiiaaMC
import Derived.Test.YtmnkapmcclhiiaaChecked
import Derived.Eval
namespace Go.Ab
open Go Go.Proofs
set_option linter.unusedVariables false
set_option linter.unusedSimpArgs false
theorem ty3 : tyOf Try.prog 3 = some ⟨.int .i64, 1, 8, .int .i64 0⟩ := by kernel_rfl
theorem ty4 : tyOf Try.prog 4 = some ⟨.bool, 1, 1, .bool false⟩ := by kernel_rfl
theorem ty5 : tyOf Try.prog 5 = some ⟨.int .u8, 1, 1, .int .u8 0⟩ := by kernel_rfl
theorem ty9 : tyOf Try.prog 9 = some ⟨.string, 1, 16, .string ByteArray.empty⟩ := by kernel_rfl
theorem ty22 : tyOf Try.prog 22 = some ⟨.int .u64, 1, 8, .int .u64 0⟩ := by kernel_rfl
theorem ty24 : tyOf Try.prog 24 = some ⟨.array 4 22, 4, 32, .agg #[.int .u64 0, .int .u64 0, .int .u64 0, .int .u64 0]⟩ := by kernel_rfl
theorem ty32 : tyOf Try.prog 32 = some ⟨.array 32 5, 32, 32, .agg #[.int .u8 0, .int .u8 0, .int .u8 0, .int .u8 0, .int .u8 0, .int .u8 0, .int .u8 0, .int .u8 0, .int .u8 0, .int .u8 0, .int .u8 0, .int .u8 0, .int .u8 0, .int .u8 0, .int .u8 0, .int .u8 0, .int .u8 0, .int .u8 0, .int .u8 0, .int .u8 0, .int .u8 0, .int .u8 0, .int .u8 0, .int .u8 0, .int .u8 0, .int .u8 0, .int .u8 0, .int .u8 0, .int .u8 0, .int .u8 0, .int .u8 0, .int .u8 0]⟩ := by kernel_rfl
theorem ty48 : tyOf Try.prog 48 = some ⟨.array 8 22, 8, 64, .agg #[.int .u64 0, .int .u64 0, .int .u64 0, .int .u64 0, .int .u64 0, .int .u64 0, .int .u64 0, .int .u64 0]⟩ := by kernel_rfl
theorem ty50 : tyOf Try.prog 50 = some ⟨.slice 22, 1, 24, .slice none 0 0⟩ := by kernel_rfl
theorem ty57 : tyOf Try.prog 57 = some ⟨.pointer 24, 1, 8, .pointer none⟩ := by kernel_rfl
theorem cv_5_22 {L : LH} {k : IntKind} {n : Int} : convF Try.prog 5 22 (.lit (.int k n)) L = ⟨True, .lit (.int .u64 (IntKind.wrap .u64 n)), L⟩ := conv_int ty5 ty22
theorem cw_5_22 {L : LH} {x : UInt8} : convF Try.prog 5 22 (bv x) L = ⟨True, ul x.toNat, L⟩ := conv_bv_ul ty5 ty22
theorem cv_5_3 {L : LH} {k : IntKind} {n : Int} : convF Try.prog 5 3 (.lit (.int k n)) L = ⟨True, .lit (.int .i64 (IntKind.wrap .i64 n)), L⟩ := conv_int ty5 ty3
theorem cw_5_3 {L : LH} {x : UInt8} : convF Try.prog 5 3 (bv x) L = ⟨True, .lit (.int .i64 (IntKind.wrap .i64 (x.toNat : Int))), L⟩ := conv_bv_int ty5 ty3
theorem cv_22_5 {L : LH} {k : IntKind} {n : Int} : convF Try.prog 22 5 (.lit (.int k n)) L = ⟨True, .lit (.int .u8 (IntKind.wrap .u8 n)), L⟩ := conv_int ty22 ty5
theorem cw_22_5 {L : LH} {n : Nat} : convF Try.prog 22 5 (ul n) L = ⟨True, bv (UInt8.ofNat n), L⟩ := conv_ul_u8 ty22 ty5
theorem lc_2 : PV.lit (.int .u64 2) = ul 2 := rfl
theorem lc_4 : PV.lit (.int .u64 4) = ul 4 := rfl
theorem lc_8 : PV.lit (.int .u64 8) = ul 8 := rfl
theorem lc_16 : PV.lit (.int .u64 16) = ul 16 := rfl
theorem lc_32 : PV.lit (.int .u64 32) = ul 32 := rfl
theorem lc_63 : PV.lit (.int .u64 63) = ul 63 := rfl
theorem lc_256 : PV.lit (.int .u64 256) = ul 256 := rfl
theorem lc_36113 : PV.lit (.int .u64 36113) = ul 36113 := rfl
theorem lc_65536 : PV.lit (.int .u64 65536) = ul 65536 := rfl
theorem lc_4294967295 : PV.lit (.int .u64 4294967295) = ul 4294967295 := rfl
theorem lc_4294967296 : PV.lit (.int .u64 4294967296) = ul 4294967296 := rfl
theorem lc_9223372036854775807 : PV.lit (.int .u64 9223372036854775807) = ul 9223372036854775807 := rfl
theorem lc_18446744073709515503 : PV.lit (.int .u64 18446744073709515503) = ul 18446744073709515503 := rfl
theorem lc_18446744073709533559 : PV.lit (.int .u64 18446744073709533559) = ul 18446744073709533559 := rfl
theorem lc_18446744073709551615 : PV.lit (.int .u64 18446744073709551615) = ul 18446744073709551615 := rfl
theorem mixed : Try.prog.follows .mixedOrders = true := Checked.mixed Try.checked
theorem sda : type_of% (And.intro @one_cl <| And.intro @one_ul <| And.intro @cells_u4 <| And.intro @cells_ul <| And.intro @len_cl <| And.intro @List.all_cons.{0} <| And.intro @List.all_nil.{0} <| And.intro Bool.and_self <| And.intro @List.length_cons.{0} @List.length_nil.{0}) := (And.intro @one_cl <| And.intro @one_ul <| And.intro @cells_u4 <| And.intro @cells_ul <| And.intro @len_cl <| And.intro @List.all_cons.{0} <| And.intro @List.all_nil.{0} <| And.intro Bool.and_self <| And.intro @List.length_cons.{0} @List.length_nil.{0})
theorem sdb : type_of% (And.intro @closed_ul <| And.intro @closed_u4 <| And.intro @List.forall_mem_cons.{0} @List.forall_mem_nil.{0}) := (And.intro @closed_ul <| And.intro @closed_u4 <| And.intro @List.forall_mem_cons.{0} @List.forall_mem_nil.{0})
theorem rsx : type_of% (And.intro @resAll_cons <| And.intro @resAll_nil <| And.intro @resPVl_0 <| And.intro @resPVl_1 <| And.intro @resPVl_2 <| And.intro @resOne_tmp @resOne_cell) := (And.intro @resAll_cons <| And.intro @resAll_nil <| And.intro @resPVl_0 <| And.intro @resPVl_1 <| And.intro @resPVl_2 <| And.intro @resOne_tmp @resOne_cell)
theorem dxe : type_of% (And.intro @decide_eq_true_eq <| And.intro @decide_eq_false_iff_not <| And.intro Bool.not_eq_true' Bool.not_eq_false') := (And.intro @decide_eq_true_eq <| And.intro @decide_eq_false_iff_not <| And.intro Bool.not_eq_true' Bool.not_eq_false')
end Go.Ab
