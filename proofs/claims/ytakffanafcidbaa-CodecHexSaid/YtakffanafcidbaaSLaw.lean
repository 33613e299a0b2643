import Derived.Test.YtakffanafcidbaaSM2
namespace Go.Ab
open Go Go.Proofs Go.RowKit
set_option linter.unusedVariables false
set_option linter.unusedSimpArgs false
/-- No block is forbidden. -/
def no : Nat → Prop := fun _ => False

theorem row_rep {w : World} {a : Option Addr} {len cap : Nat} {zs : List Int} (h : (a = none ∧ len = 0 ∧ cap = 0 ∧ zs = []) ∨
    ∃ x, a = some x ∧ len ≤ cap ∧ cap ≤ maxLen ∧ zs.length = cap ∧ (∀ i, i < zs.length → w.cell? (x.add i) = some (.int .u8 (zs.getD i 0))) ∧ ∀ n ∈ zs, (Lit.int .u8 n).wf = true) :
    ∃ bs : List UInt8, bs.length = len ∧ len ≤ 9223372036854775807 ∧ RepV no [] w (.ro bs.length (bs.map bv)) (.slice a len cap) := by
  rcases h with ⟨rfl, rfl, rfl, rfl⟩ | ⟨x, rfl, hl, hm, hz, hc, hw⟩
  · exact ⟨[], rfl, by omega, by simp [RepV]⟩
  · have hmax : cap ≤ 9223372036854775807 := hm
    refine ⟨(zs.take len).map fun z => UInt8.ofNat z.toNat, by simp; omega, by omega, ?_⟩
    have hlen : ((zs.take len).map fun z => UInt8.ofNat z.toNat).length = len := by simp; omega
    rw [hlen]
    refine ⟨some x, cap, rfl, hl, ?_⟩
    by_cases h0 : len = 0
    · left; subst h0; simp
    · right
      obtain ⟨b, off, sp⟩ := x
      have hsp : sp = none := by
        have := hc 0 (by omega)
        cases sp with
        | none => rfl
        | some s =>
          simp only [Addr.add, if_true, World.cell?] at this
          split at this <;> simp at this
      subst hsp
      refine ⟨b, off, rfl, id, fun ⟨i, y, hb⟩ => by simp at hb, ?_⟩
      rw [RepRow.iff]
      intro i p hp
      rw [List.getElem?_map, Option.map_eq_some_iff] at hp
      obtain ⟨u, hu, rfl⟩ := hp
      rw [List.getElem?_map, Option.map_eq_some_iff] at hu
      obtain ⟨z, hz', rfl⟩ := hu
      rw [List.getElem?_take] at hz'
      split at hz'
      · have hi : i < zs.length := by omega
        have hcell := hc i hi
        have hg : zs.getD i 0 = z := by simp [List.getD_eq_getElem?_getD, hz']
        rw [hg] at hcell
        have ha : (Addr.mk b off none).add i = ⟨b, off + i, none⟩ := by
          unfold Addr.add
          split
          · rename_i h; subst h; rfl
          · rfl
        rw [ha] at hcell
        have hwf := hw z (List.mem_of_getElem? hz')
        simp only [Lit.wf, Bool.and_eq_true, decide_eq_true_eq] at hwf
        have h1 : 0 ≤ z := hwf.1
        have h2 : z ≤ 255 := hwf.2
        refine ⟨_, hcell, by rfl, ?_⟩
        simp only [bv, RepV]
        have : ((UInt8.ofNat z.toNat).toNat : Int) = z := by
          simp; omega
        rw [this]
      · cases hz'

theorem wf_i64 {n : Int} (h : (Lit.int .i64 n).wf = true) : -9223372036854775808 ≤ n ∧ n ≤ 9223372036854775807 := by
  simp only [Lit.wf, Bool.and_eq_true, decide_eq_true_eq] at h; exact h
theorem wf_u64 {n : Int} (h : (Lit.int .u64 n).wf = true) : 0 ≤ n ∧ n < 18446744073709551616 := by
  simp only [Lit.wf, Bool.and_eq_true, decide_eq_true_eq] at h
  have h1 : 0 ≤ n := h.1
  have h2 : n ≤ 18446744073709551615 := h.2
  omega
theorem wf_u8 {n : Int} (h : (Lit.int .u8 n).wf = true) : 0 ≤ n ∧ n < 256 := by
  simp only [Lit.wf, Bool.and_eq_true, decide_eq_true_eq] at h
  have h1 : 0 ≤ n := h.1
  have h2 : n ≤ 255 := h.2
  omega

/-- A law's run, told by its contract. -/
theorem law_run {P : Program} {f : FuncId} {S : List PV → Prop × PV} (h : PureOk P f S) {args : List PV} {vs : List Value} {w : World} (hp : (S args).1) (hv : (S args).2 = .lit (.bool true)) (hc : closedL args = true) (hr : RepL no [] w args vs) :
    Calls P f vs.toArray w fun e w' => e = .returned (.bool true) ∧ Below w.heap.size w w' := by
  refine (h.run args hp hc no w vs (fun b hb => hb.elim) hr).mono fun e w' ⟨v, he, hg, hrr⟩ => ?_
  rw [hv] at hrr
  have hv' : v = .bool true := by
    have := hrr.2
    simpa [RepV] using this
  subst hv'
  exact ⟨he, ⟨hg.os, hg.tape, hg.output, hg.size, fun k hk => hg.block k hk (fun ⟨i, y, hb⟩ => by simp at hb)⟩⟩
end Go.Ab
