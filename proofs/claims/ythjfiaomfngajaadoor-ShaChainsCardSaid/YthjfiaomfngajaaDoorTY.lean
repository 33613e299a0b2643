import Derived.Test.YthjfiaomfngajaaDoorMG
import Derived.Test.YthjfiaomfngajaaDoorChecked
import Derived.Eval
namespace Go.Ab
open Go Go.Proofs
set_option linter.unusedVariables false
set_option linter.unusedSimpArgs false
def z24 : Value := .agg (Array.replicate 64 (.int .u8 0))
theorem zr24 : z24.cells.toList.map PV.lit = (List.replicate 64 (0 : UInt8)).map bv := by rfl
theorem zo24 : ∀ v ∈ z24.cells.toList, v.oneCell' = true := by decide +kernel
def z33 : Value := .agg (Array.replicate 32 (.int .u8 0))
theorem zr33 : z33.cells.toList.map PV.lit = (List.replicate 32 (0 : UInt8)).map bv := by rfl
theorem zo33 : ∀ v ∈ z33.cells.toList, v.oneCell' = true := by decide +kernel
def z44 : Value := .agg (Array.replicate 64 (.int .u32 0))
theorem zr44 : z44.cells.toList.map PV.lit = wr (List.replicate 64 0) := by rfl
theorem zo44 : ∀ v ∈ z44.cells.toList, v.oneCell' = true := by decide +kernel
def z23 : Value := .agg (Array.replicate 8 (.int .u32 0))
theorem zr23 : z23.cells.toList.map PV.lit = wr (List.replicate 8 0) := by rfl
theorem zo23 : ∀ v ∈ z23.cells.toList, v.oneCell' = true := by decide +kernel
theorem ty3 : tyOf Tryd.prog 3 = some ⟨.int .i64, 1, 8, .int .i64 0⟩ := by kernel_rfl
theorem ty4 : tyOf Tryd.prog 4 = some ⟨.bool, 1, 1, .bool false⟩ := by kernel_rfl
theorem ty5 : tyOf Tryd.prog 5 = some ⟨.int .u8, 1, 1, .int .u8 0⟩ := by kernel_rfl
theorem ty9 : tyOf Tryd.prog 9 = some ⟨.string, 1, 16, .string ByteArray.empty⟩ := by kernel_rfl
theorem ty22 : tyOf Tryd.prog 22 = some ⟨.int .u32, 1, 4, .int .u32 0⟩ := by kernel_rfl
theorem ty23 : tyOf Tryd.prog 23 = some ⟨.array 8 22, 8, 32, z23⟩ := by kernel_rfl
theorem ty24 : tyOf Tryd.prog 24 = some ⟨.array 64 5, 64, 64, z24⟩ := by kernel_rfl
theorem ty28 : tyOf Tryd.prog 28 = some ⟨.int .u64, 1, 8, .int .u64 0⟩ := by kernel_rfl
theorem ty29 : tyOf Tryd.prog 29 = some ⟨.slice 5, 1, 24, .slice none 0 0⟩ := by kernel_rfl
theorem ty33 : tyOf Tryd.prog 33 = some ⟨.array 32 5, 32, 32, z33⟩ := by kernel_rfl
theorem ty40 : tyOf Tryd.prog 40 = some ⟨.int .u64, 1, 8, .int .u64 0⟩ := by kernel_rfl
theorem ty44 : tyOf Tryd.prog 44 = some ⟨.array 64 22, 64, 256, z44⟩ := by kernel_rfl
theorem ty53 : tyOf Tryd.prog 53 = some ⟨.slice 29, 1, 24, .slice none 0 0⟩ := by kernel_rfl
theorem cv_3_28 {L : LH} {k : IntKind} {n : Int} : convF Tryd.prog 3 28 (.lit (.int k n)) L = ⟨True, .lit (.int .u64 (IntKind.wrap .u64 n)), L⟩ := conv_int ty3 ty28
theorem cw_3_28 {L : LH} {n : Nat} : convF Tryd.prog 3 28 (.lit (.int .i64 (n : Int))) L = ⟨True, ul n, L⟩ := conv_nat ty3 ty28
theorem cv_5_3 {L : LH} {k : IntKind} {n : Int} : convF Tryd.prog 5 3 (.lit (.int k n)) L = ⟨True, .lit (.int .i64 (IntKind.wrap .i64 n)), L⟩ := conv_int ty5 ty3
theorem cw_5_3 {L : LH} {x : UInt8} : convF Tryd.prog 5 3 (bv x) L = ⟨True, .lit (.int .i64 (IntKind.wrap .i64 (x.toNat : Int))), L⟩ := conv_bv_int ty5 ty3
theorem cv_5_22 {L : LH} {k : IntKind} {n : Int} : convF Tryd.prog 5 22 (.lit (.int k n)) L = ⟨True, .lit (.int .u32 (IntKind.wrap .u32 n)), L⟩ := conv_int ty5 ty22
theorem cw_5_22 {L : LH} {x : UInt8} : convF Tryd.prog 5 22 (bv x) L = ⟨True, uw (bw x), L⟩ := conv_bw ty5 ty22
theorem cv_28_5 {L : LH} {k : IntKind} {n : Int} : convF Tryd.prog 28 5 (.lit (.int k n)) L = ⟨True, .lit (.int .u8 (IntKind.wrap .u8 n)), L⟩ := conv_int ty28 ty5
theorem cw_28_5 {L : LH} {n : Nat} : convF Tryd.prog 28 5 (ul n) L = ⟨True, bv (UInt8.ofNat n), L⟩ := conv_ul_u8 ty28 ty5
theorem cv_22_5 {L : LH} {k : IntKind} {n : Int} : convF Tryd.prog 22 5 (.lit (.int k n)) L = ⟨True, .lit (.int .u8 (IntKind.wrap .u8 n)), L⟩ := conv_int ty22 ty5
theorem cw_22_5 {L : LH} {x : W} : convF Tryd.prog 22 5 (uw x) L = ⟨True, bv (wb x), L⟩ := conv_wb ty22 ty5
theorem cv_3_40 {L : LH} {k : IntKind} {n : Int} : convF Tryd.prog 3 40 (.lit (.int k n)) L = ⟨True, .lit (.int .u64 (IntKind.wrap .u64 n)), L⟩ := conv_int ty3 ty40
theorem cw_3_40 {L : LH} {n : Nat} : convF Tryd.prog 3 40 (.lit (.int .i64 (n : Int))) L = ⟨True, ul n, L⟩ := conv_nat ty3 ty40
theorem lc_3 : PV.lit (.int .u64 3) = ul 3 := rfl
theorem lc_8 : PV.lit (.int .u64 8) = ul 8 := rfl
theorem lc_10 : PV.lit (.int .u64 10) = ul 10 := rfl
theorem lc_16 : PV.lit (.int .u64 16) = ul 16 := rfl
theorem lc_24 : PV.lit (.int .u64 24) = ul 24 := rfl
theorem lc_31 : PV.lit (.int .u64 31) = ul 31 := rfl
theorem lc_32 : PV.lit (.int .u64 32) = ul 32 := rfl
theorem lc_55 : PV.lit (.int .u64 55) = ul 55 := rfl
theorem lc_64 : PV.lit (.int .u64 64) = ul 64 := rfl
theorem mixed : Tryd.prog.follows .mixedOrders = true := Checked.mixed Tryd.checked
theorem gl0 : (glv 0).map PV.lit = wr kk := by rfl
theorem len_g0 : ((glv 0).map PV.lit).length = 64 := by rfl
theorem gl1 : (glv 1).map PV.lit = wr init8.l := by rfl
theorem lna : type_of% (And.intro @len_wr <| And.intro @List.length_map.{0,0} <| And.intro @List.length_set.{0} <| And.intro @List.length_replicate.{0} <| And.intro @len_ext <| And.intro @len_fill <| And.intro @len_sched <| And.intro @len_kk <| And.intro @len_l <| And.intro @len_byB <| And.intro @len_dig <| And.intro @len_sum <| And.intro @len_addI <| And.intro @List.length_cons.{0} <| And.intro @List.length_nil.{0} <| And.intro @len_key64 <| And.intro @len_mask <| And.intro @len_hmac @len_tagged) := (And.intro @len_wr <| And.intro @List.length_map.{0,0} <| And.intro @List.length_set.{0} <| And.intro @List.length_replicate.{0} <| And.intro @len_ext <| And.intro @len_fill <| And.intro @len_sched <| And.intro @len_kk <| And.intro @len_l <| And.intro @len_byB <| And.intro @len_dig <| And.intro @len_sum <| And.intro @len_addI <| And.intro @List.length_cons.{0} <| And.intro @List.length_nil.{0} <| And.intro @len_key64 <| And.intro @len_mask <| And.intro @len_hmac @len_tagged)
theorem lnb : type_of% (And.intro @len_wr <| And.intro @List.length_map.{0,0} <| And.intro @List.length_set.{0} <| And.intro @List.length_replicate.{0} <| And.intro @len_ext <| And.intro @len_fill <| And.intro @len_sched <| And.intro @len_kk <| And.intro @len_l <| And.intro @len_byB <| And.intro @len_dig <| And.intro @len_sum <| And.intro @len_addI <| And.intro @List.length_cons.{0} <| And.intro @List.length_nil.{0} <| And.intro @len_key64 <| And.intro @len_mask <| And.intro @len_hmac <| And.intro @len_tagged <| And.intro @List.length_append.{0} <| And.intro @List.length_take.{0} <| And.intro @List.length_drop.{0} <| And.intro @len_pad @len_padI) := (And.intro @len_wr <| And.intro @List.length_map.{0,0} <| And.intro @List.length_set.{0} <| And.intro @List.length_replicate.{0} <| And.intro @len_ext <| And.intro @len_fill <| And.intro @len_sched <| And.intro @len_kk <| And.intro @len_l <| And.intro @len_byB <| And.intro @len_dig <| And.intro @len_sum <| And.intro @len_addI <| And.intro @List.length_cons.{0} <| And.intro @List.length_nil.{0} <| And.intro @len_key64 <| And.intro @len_mask <| And.intro @len_hmac <| And.intro @len_tagged <| And.intro @List.length_append.{0} <| And.intro @List.length_take.{0} <| And.intro @List.length_drop.{0} <| And.intro @len_pad @len_padI)
theorem q1 : type_of% (And.intro @lit128 <| And.intro @one_wr <| And.intro @one_bv <| And.intro @one_uw <| And.intro @cells_uw <| And.intro @cells_bv <| And.intro @List.length_cons.{0} <| And.intro @List.length_nil.{0} <| And.intro @List.all_cons.{0} <| And.intro @List.all_nil.{0} <| And.intro @one_bv1 @Bool.and_self) := (And.intro @lit128 <| And.intro @one_wr <| And.intro @one_bv <| And.intro @one_uw <| And.intro @cells_uw <| And.intro @cells_bv <| And.intro @List.length_cons.{0} <| And.intro @List.length_nil.{0} <| And.intro @List.all_cons.{0} <| And.intro @List.all_nil.{0} <| And.intro @one_bv1 @Bool.and_self)
theorem q2 : type_of% (And.intro @one_cl <| And.intro @one_ul <| And.intro @cells_u4 <| And.intro @cells_ul <| And.intro @len_cl <| And.intro @List.all_cons.{0} <| And.intro @List.all_nil.{0} <| And.intro @Bool.and_self <| And.intro @List.length_cons.{0} @List.length_nil.{0}) := (And.intro @one_cl <| And.intro @one_ul <| And.intro @cells_u4 <| And.intro @cells_ul <| And.intro @len_cl <| And.intro @List.all_cons.{0} <| And.intro @List.all_nil.{0} <| And.intro @Bool.and_self <| And.intro @List.length_cons.{0} @List.length_nil.{0})
theorem q3 : type_of% (And.intro @closedL_bv <| And.intro @closedL_wr <| And.intro @closed_sv <| And.intro @closed_uw <| And.intro @closedL_rows <| And.intro @closed_ul <| And.intro @Bool.and_self @Bool.and_true) := (And.intro @closedL_bv <| And.intro @closedL_wr <| And.intro @closed_sv <| And.intro @closed_uw <| And.intro @closedL_rows <| And.intro @closed_ul <| And.intro @Bool.and_self @Bool.and_true)
theorem q4 : type_of% (And.intro @cells_agg <| And.intro @cells_sv <| And.intro @one_wr @one_bv) := (And.intro @cells_agg <| And.intro @cells_sv <| And.intro @one_wr @one_bv)
theorem q5 : type_of% (And.intro @cells_uw <| And.intro @one_uw <| And.intro @splice_one <| And.intro @cells_bv <| And.intro @len_wr <| And.intro @getD_wr <| And.intro @getD_bv <| And.intro @set_wr <| And.intro @set_bv @cells_agg) := (And.intro @cells_uw <| And.intro @one_uw <| And.intro @splice_one <| And.intro @cells_bv <| And.intro @len_wr <| And.intro @getD_wr <| And.intro @getD_bv <| And.intro @set_wr <| And.intro @set_bv @cells_agg)
theorem q6 : type_of% (And.intro @cells_sv <| And.intro @take_wr <| And.intro @take_bs <| And.intro @splice_w <| And.intro @splice_b <| And.intro @len_l @List.length_replicate.{0}) := (And.intro @cells_sv <| And.intro @take_wr <| And.intro @take_bs <| And.intro @splice_w <| And.intro @splice_b <| And.intro @len_l @List.length_replicate.{0})
theorem q7 : type_of% (And.intro @resAll_cons <| And.intro @resAll_nil <| And.intro @resPVl_0 <| And.intro @resPVl_1 <| And.intro @resPVl_2 <| And.intro @resOne_tmp @resOne_cell) := (And.intro @resAll_cons <| And.intro @resAll_nil <| And.intro @resPVl_0 <| And.intro @resPVl_1 <| And.intro @resPVl_2 <| And.intro @resOne_tmp @resOne_cell)
theorem q8 : type_of% (And.intro @nrm_ul <| And.intro @nrm_u4 <| And.intro @nrm_nil <| And.intro @nrm_int <| And.intro @nrm_bool <| And.intro @nrm_string <| And.intro @nrm_ro <| And.intro @nrm_agg @nrm_rptr) := (And.intro @nrm_ul <| And.intro @nrm_u4 <| And.intro @nrm_nil <| And.intro @nrm_int <| And.intro @nrm_bool <| And.intro @nrm_string <| And.intro @nrm_ro <| And.intro @nrm_agg @nrm_rptr)
end Go.Ab
