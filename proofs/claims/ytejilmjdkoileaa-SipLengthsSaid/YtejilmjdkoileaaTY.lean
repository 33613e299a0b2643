import Derived.Test.YtejilmjdkoileaaMP
import Derived.Test.YtejilmjdkoileaaChecked
import Derived.Eval
namespace Go.Ab
open Go Go.Proofs
set_option linter.unusedVariables false
set_option linter.unusedSimpArgs false
theorem ty3 : tyOf Try.prog 3 = some ⟨.int .i64, 1, 8, .int .i64 0⟩ := by kernel_rfl
theorem ty4 : tyOf Try.prog 4 = some ⟨.bool, 1, 1, .bool false⟩ := by kernel_rfl
theorem ty5 : tyOf Try.prog 5 = some ⟨.int .u8, 1, 1, .int .u8 0⟩ := by kernel_rfl
theorem ty22 : tyOf Try.prog 22 = some ⟨.int .u64, 1, 8, .int .u64 0⟩ := by kernel_rfl
theorem ty24 : tyOf Try.prog 24 = some ⟨.array 2 22, 2, 16, .agg #[.int .u64 0, .int .u64 0]⟩ := by kernel_rfl
theorem ty25 : tyOf Try.prog 25 = some ⟨.slice 5, 1, 24, .slice none 0 0⟩ := by kernel_rfl
theorem ty30 : tyOf Try.prog 30 = some ⟨.array 32 5, 32, 32, .agg #[.int .u8 0, .int .u8 0, .int .u8 0, .int .u8 0, .int .u8 0, .int .u8 0, .int .u8 0, .int .u8 0, .int .u8 0, .int .u8 0, .int .u8 0, .int .u8 0, .int .u8 0, .int .u8 0, .int .u8 0, .int .u8 0, .int .u8 0, .int .u8 0, .int .u8 0, .int .u8 0, .int .u8 0, .int .u8 0, .int .u8 0, .int .u8 0, .int .u8 0, .int .u8 0, .int .u8 0, .int .u8 0, .int .u8 0, .int .u8 0, .int .u8 0, .int .u8 0]⟩ := by kernel_rfl
noncomputable def fs37 : Array Field := match Try.prog.underlying 37 with | some (.struct fs) => fs | _ => #[]
theorem ty37 : tyOf Try.prog 37 = some ⟨.struct fs37, 4, 32, .agg #[.int .u64 0, .int .u64 0, .int .u64 0, .int .u64 0]⟩ := by kernel_rfl
theorem ty39 : tyOf Try.prog 39 = some ⟨.int .u64, 1, 8, .int .u64 0⟩ := by kernel_rfl
theorem ty43 : tyOf Try.prog 43 = some ⟨.array 4 22, 4, 32, .agg #[.int .u64 0, .int .u64 0, .int .u64 0, .int .u64 0]⟩ := by kernel_rfl
theorem fd37_0 : fieldOf Try.prog 37 0 = some (22, 0) := by kernel_rfl
theorem fd37_1 : fieldOf Try.prog 37 1 = some (22, 1) := by kernel_rfl
theorem fd37_2 : fieldOf Try.prog 37 2 = some (22, 2) := by kernel_rfl
theorem fd37_3 : fieldOf Try.prog 37 3 = some (22, 3) := by kernel_rfl
theorem pl37 : placesF Try.prog fs37.toList = [some (0, 1), some (1, 1), some (2, 1), some (3, 1)] := by kernel_rfl
theorem cv_5_3 {L : LH} {k : IntKind} {n : Int} : convF Try.prog 5 3 (.lit (.int k n)) L = ⟨True, .lit (.int .i64 (IntKind.wrap .i64 n)), L⟩ := conv_int ty5 ty3
theorem cw_5_3 {L : LH} {x : UInt8} : convF Try.prog 5 3 (bv x) L = ⟨True, .lit (.int .i64 (IntKind.wrap .i64 (x.toNat : Int))), L⟩ := conv_bv_int ty5 ty3
theorem cv_3_22 {L : LH} {k : IntKind} {n : Int} : convF Try.prog 3 22 (.lit (.int k n)) L = ⟨True, .lit (.int .u64 (IntKind.wrap .u64 n)), L⟩ := conv_int ty3 ty22
theorem cw_3_22 {L : LH} {n : Nat} : convF Try.prog 3 22 (.lit (.int .i64 (n : Int))) L = ⟨True, ul n, L⟩ := conv_nat ty3 ty22
theorem cv_5_22 {L : LH} {k : IntKind} {n : Int} : convF Try.prog 5 22 (.lit (.int k n)) L = ⟨True, .lit (.int .u64 (IntKind.wrap .u64 n)), L⟩ := conv_int ty5 ty22
theorem cw_5_22 {L : LH} {x : UInt8} : convF Try.prog 5 22 (bv x) L = ⟨True, ul x.toNat, L⟩ := conv_bv_ul ty5 ty22
theorem cv_3_39 {L : LH} {k : IntKind} {n : Int} : convF Try.prog 3 39 (.lit (.int k n)) L = ⟨True, .lit (.int .u64 (IntKind.wrap .u64 n)), L⟩ := conv_int ty3 ty39
theorem cw_3_39 {L : LH} {n : Nat} : convF Try.prog 3 39 (.lit (.int .i64 (n : Int))) L = ⟨True, ul n, L⟩ := conv_nat ty3 ty39
theorem lc_32 : PV.lit (.int .u64 32) = ul 32 := rfl
theorem lc_56 : PV.lit (.int .u64 56) = ul 56 := rfl
theorem lc_63 : PV.lit (.int .u64 63) = ul 63 := rfl
theorem lc_64 : PV.lit (.int .u64 64) = ul 64 := rfl
theorem lc_255 : PV.lit (.int .u64 255) = ul 255 := rfl
theorem lc_4294967295 : PV.lit (.int .u64 4294967295) = ul 4294967295 := rfl
theorem lc_506097522914230528 : PV.lit (.int .u64 506097522914230528) = ul 506097522914230528 := rfl
theorem lc_1084818905618843912 : PV.lit (.int .u64 1084818905618843912) = ul 1084818905618843912 := rfl
theorem lc_7237128888997146477 : PV.lit (.int .u64 7237128888997146477) = ul 7237128888997146477 := rfl
theorem lc_7816392313619706465 : PV.lit (.int .u64 7816392313619706465) = ul 7816392313619706465 := rfl
theorem lc_8317987319222330741 : PV.lit (.int .u64 8317987319222330741) = ul 8317987319222330741 := rfl
theorem lc_8387220255154660723 : PV.lit (.int .u64 8387220255154660723) = ul 8387220255154660723 := rfl
theorem lc_11613035633349379557 : PV.lit (.int .u64 11613035633349379557) = ul 11613035633349379557 := rfl
theorem mixed : Try.prog.follows .mixedOrders = true := Checked.mixed Try.checked
end Go.Ab
