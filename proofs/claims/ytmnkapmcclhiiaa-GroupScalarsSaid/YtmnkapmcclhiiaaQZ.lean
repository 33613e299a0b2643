import Derived.Test.YtmnkapmcclhiiaaTY
import Derived.Test.YtmnkapmcclhiiaaMC
import Derived.Test.YtmnkapmcclhiiaaMX
import Derived.Test.YtmnkapmcclhiiaaMY
import Derived.Test.YtmnkapmcclhiiaaMP
import Derived.Test.YtmnkapmcclhiiaaMD
import Derived.Test.YtmnkapmcclhiiaaME
import Derived.Test.YtmnkapmcclhiiaaMV
namespace Go.Ab
open Go Go.Proofs
theorem qz0 : type_of% (And.intro @Bool.false_eq_true <| And.intro @List.getD_cons_zero.{0} <| And.intro @List.drop_zero.{0} @take_cl) := (And.intro @Bool.false_eq_true <| And.intro @List.getD_cons_zero.{0} <| And.intro @List.drop_zero.{0} @take_cl)
theorem qz1 : type_of% (And.intro @clg0 <| And.intro @clg1 <| And.intro @clg2 @clg3) := (And.intro @clg0 <| And.intro @clg1 <| And.intro @clg2 @clg3)
theorem qz2 : type_of% (And.intro @pPm <| And.intro @qPm <| And.intro @r0p <| And.intro @r0q <| And.intro @mpm <| And.intro @mqm <| And.intro @gxm @pP2m) := (And.intro @pPm <| And.intro @qPm <| And.intro @r0p <| And.intro @r0q <| And.intro @mpm <| And.intro @mqm <| And.intro @gxm @pP2m)
theorem qz3 : type_of% (And.intro @List.getElem?_cons_zero.{0} @List.getElem?_cons_succ.{0}) := (And.intro @List.getElem?_cons_zero.{0} @List.getElem?_cons_succ.{0})
theorem qz4 : type_of% (And.intro @Nat.mul_one @Int.toNat_zero) := (And.intro @Nat.mul_one @Int.toNat_zero)
theorem qz5 : type_of% (And.intro @decide_true @decide_false) := (And.intro @decide_true @decide_false)
theorem qz6 : type_of% (And.intro @List.set_cons_zero.{0} @List.set_cons_succ.{0}) := (And.intro @List.set_cons_zero.{0} @List.set_cons_succ.{0})
theorem qz7 : type_of% (And.intro @lookup_cons <| And.intro @cond_true.{1} @cond_false.{1}) := (And.intro @lookup_cons <| And.intro @cond_true.{1} @cond_false.{1})
theorem qz8 : type_of% (And.intro @nrm_ul <| And.intro @nrm_u4 <| And.intro @nrm_nil <| And.intro @nrm_int <| And.intro @nrm_bool <| And.intro @nrm_string <| And.intro @nrm_ro <| And.intro @nrm_agg <| And.intro @nrm_rptr <| And.intro @bytesOf_bv @isB_bv) := (And.intro @nrm_ul <| And.intro @nrm_u4 <| And.intro @nrm_nil <| And.intro @nrm_int <| And.intro @nrm_bool <| And.intro @nrm_string <| And.intro @nrm_ro <| And.intro @nrm_agg <| And.intro @nrm_rptr <| And.intro @bytesOf_bv @isB_bv)
theorem qz9 : type_of% (And.intro @List.map_cons.{0,0} @List.map_nil.{0,0}) := (And.intro @List.map_cons.{0,0} @List.map_nil.{0,0})
theorem qz10 : type_of% (And.intro @List.getD_cons_succ.{0} <| And.intro @List.drop_succ_cons.{0} <| And.intro @List.take_succ_cons.{0} @List.take_zero.{0}) := (And.intro @List.getD_cons_succ.{0} <| And.intro @List.drop_succ_cons.{0} <| And.intro @List.take_succ_cons.{0} @List.take_zero.{0})
theorem qz11 : type_of% (And.intro @Bool.not_true @Bool.not_false) := (And.intro @Bool.not_true @Bool.not_false)
theorem qz12 : type_of% (And.intro @true_and @and_true) := (And.intro @true_and @and_true)
theorem qz13 : type_of% (And.intro @mb4 <| And.intro @mb0 <| And.intro @gx4q <| And.intro @mb_pow <| And.intro @mb_mul <| And.intro @mb_inv <| And.intro @inv_one <| And.intro @pow_add4 <| And.intro @pow_neg4 <| And.intro @binF_beql @beq_self_eq_true.{0}) := (And.intro @mb4 <| And.intro @mb0 <| And.intro @gx4q <| And.intro @mb_pow <| And.intro @mb_mul <| And.intro @mb_inv <| And.intro @inv_one <| And.intro @pow_add4 <| And.intro @pow_neg4 <| And.intro @binF_beql @beq_self_eq_true.{0})
theorem qz14 : type_of% (And.intro @cells_ul @cells_u4) := (And.intro @cells_ul @cells_u4)
theorem qz15 : type_of% (And.intro @getD_bv @take_bytes) := (And.intro @getD_bv @take_bytes)
theorem qz16 : type_of% (And.intro @List.cons_append.{0} @List.nil_append.{0}) := (And.intro @List.cons_append.{0} @List.nil_append.{0})
theorem qz17 : type_of% (And.intro @cells_agg <| And.intro @cells_int <| And.intro @cells_bool <| And.intro @cells_string <| And.intro @cells_slice <| And.intro @cells_ro @cells_rptr) := (And.intro @cells_agg <| And.intro @cells_int <| And.intro @cells_bool <| And.intro @cells_string <| And.intro @cells_slice <| And.intro @cells_ro @cells_rptr)
theorem qz18 : type_of% (And.intro @closed_u4 @closed_ul) := (And.intro @closed_u4 @closed_ul)
theorem qz19 : type_of% (And.intro @one_cl @one_ul) := (And.intro @one_cl @one_ul)
theorem qz20 : type_of% (And.intro @splice_hl <| And.intro @take_hl <| And.intro @agg_hl @zero_hl) := (And.intro @splice_hl <| And.intro @take_hl <| And.intro @agg_hl @zero_hl)
theorem qz21 : type_of% (And.intro @muld00 <| And.intro @muld01 <| And.intro @mulc01 <| And.intro @muld02 <| And.intro @mulc02 <| And.intro @muld10 <| And.intro @mulc10 <| And.intro @muld11 <| And.intro @mulc11 <| And.intro @muld12 <| And.intro @mulc12 <| And.intro @muld20 <| And.intro @mulc20 <| And.intro @muld21 <| And.intro @mulc21 <| And.intro @muld22 <| And.intro @mulc22 <| And.intro @muld30 <| And.intro @mulc30 <| And.intro @muld31 <| And.intro @mulc31 <| And.intro @muld32 <| And.intro @mulc32 <| And.intro @muld03 <| And.intro @muld13 <| And.intro @muld23 @muld33) := (And.intro @muld00 <| And.intro @muld01 <| And.intro @mulc01 <| And.intro @muld02 <| And.intro @mulc02 <| And.intro @muld10 <| And.intro @mulc10 <| And.intro @muld11 <| And.intro @mulc11 <| And.intro @muld12 <| And.intro @mulc12 <| And.intro @muld20 <| And.intro @mulc20 <| And.intro @muld21 <| And.intro @mulc21 <| And.intro @muld22 <| And.intro @mulc22 <| And.intro @muld30 <| And.intro @mulc30 <| And.intro @muld31 <| And.intro @mulc31 <| And.intro @muld32 <| And.intro @mulc32 <| And.intro @muld03 <| And.intro @muld13 <| And.intro @muld23 @muld33)
theorem qz22 : type_of% (And.intro @Nat.min_self <| And.intro @List.getD_nil.{0} @List.take_nil.{0}) := (And.intro @Nat.min_self <| And.intro @List.getD_nil.{0} @List.take_nil.{0})
theorem qz23 : type_of% (And.intro @List.forall_mem_cons.{0} @List.forall_mem_nil.{0}) := (And.intro @List.forall_mem_cons.{0} @List.forall_mem_nil.{0})
theorem qz24 : type_of% (And.intro @n_zero_mul @n_zero_add) := (And.intro @n_zero_mul @n_zero_add)
theorem qz25 : type_of% (And.intro @isul_ul @isU_u4) := (And.intro @isul_ul @isU_u4)
theorem qz26 : type_of% (And.intro @entry_cons @entry_nil) := (And.intro @entry_cons @entry_nil)
theorem qz27 : type_of% (And.intro @decide_eq_true_eq @decide_eq_false_iff_not) := (And.intro @decide_eq_true_eq @decide_eq_false_iff_not)
theorem qz28 : type_of% (And.intro @Option.some.injEq.{0} @LE.cells.injEq) := (And.intro @Option.some.injEq.{0} @LE.cells.injEq)
theorem qz29 : type_of% (And.intro @tdiv64 @tmod64) := (And.intro @tdiv64 @tmod64)
theorem qz30 : type_of% (And.intro @tdiv8 <| And.intro @tmod8 @mul8) := (And.intro @tdiv8 <| And.intro @tmod8 @mul8)
theorem qz31 : type_of% (And.intro @eql_ul <| And.intro @binF_eql @binF_seql) := (And.intro @eql_ul <| And.intro @binF_eql @binF_seql)
theorem qz32 : type_of% (And.intro @pP_sub @Nat.add_mod_right) := (And.intro @pP_sub @Nat.add_mod_right)
theorem qz33 : type_of% (And.intro @binF_geq @geq_ul) := (And.intro @binF_geq @geq_ul)
theorem qz34 : type_of% (And.intro @add_ul @binF_add) := (And.intro @add_ul @binF_add)
theorem qz35 : type_of% (And.intro @lss_ul @binF_lss) := (And.intro @lss_ul @binF_lss)
theorem qz36 : type_of% (And.intro @binF_sub @sub_ul) := (And.intro @binF_sub @sub_ul)
theorem qz37 : type_of% (And.intro @neq_ul <| And.intro @binF_neq @binF_sneq) := (And.intro @neq_ul <| And.intro @binF_neq @binF_sneq)
theorem qz38 : type_of% (And.intro @unF_not <| And.intro @unF_neg @not_ul) := (And.intro @unF_not <| And.intro @unF_neg @not_ul)
theorem qz39 : type_of% (And.intro @lc_8 <| And.intro @lc_16 <| And.intro @lc_256 <| And.intro @lc_65536 @lc_4294967296) := (And.intro @lc_8 <| And.intro @lc_16 <| And.intro @lc_256 <| And.intro @lc_65536 @lc_4294967296)
theorem qz40 : type_of% (And.intro @binF_shl <| And.intro @shl_z @shl_ul) := (And.intro @binF_shl <| And.intro @shl_z @shl_ul)
theorem qz41 : type_of% (And.intro @shr_z <| And.intro @shr_ul @binF_shr) := (And.intro @shr_z <| And.intro @shr_ul @binF_shr)
theorem qz42 : type_of% (And.intro @and_mask32 @lc_4294967295) := (And.intro @and_mask32 @lc_4294967295)
theorem qz43 : type_of% (And.intro @binF_or @or_ul) := (And.intro @binF_or @or_ul)
end Go.Ab
