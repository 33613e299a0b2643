import Derived.Test.YtaofjdaclnagnaaMW9
import Derived.OpenShut
import Derived.ChangeShapes
namespace Go.Ab
open Go Go.Proofs Go.RowKit
set_option linter.unusedVariables false
set_option linter.unusedSimpArgs false
def no : Nat → Prop := fun _ => False
theorem row_rep {w : World} {a : Option Addr} {len cap : Nat} {zs : List Int} (h : (a = none ∧ len = 0 ∧ cap = 0 ∧ zs = []) ∨
    ∃ x, a = some x ∧ len ≤ cap ∧ cap ≤ maxLen ∧ zs.length = cap ∧ (∀ i, i < zs.length → w.cell? (x.add i) = some (.int .u8 (zs.getD i 0))) ∧ ∀ n ∈ zs, (Lit.int .u8 n).wf = true) :
    ∃ bs : List UInt8, bs.length = len ∧ len ≤ 9223372036854775807 ∧ RepV no [] w (.ro bs.length (bs.map bv)) (.slice a len cap) := by
  rcases h with ⟨rfl, rfl, rfl, rfl⟩ | ⟨x, rfl, hl, hm, hz, hc, hw⟩
  · exact ⟨[], rfl, by omega, by simp [RepV]⟩
  · have hmax : cap ≤ 9223372036854775807 := hm
    refine ⟨(zs.take len).map fun z => UInt8.ofNat z.toNat, by simp; omega, by omega, ?_⟩
    have hlen : ((zs.take len).map fun z => UInt8.ofNat z.toNat).length = len := by simp; omega
    rw [hlen]
    refine ⟨some x, cap, rfl, hl, ?_⟩
    by_cases h0 : len = 0
    · left; subst h0; simp
    · right
      obtain ⟨b, off, sp⟩ := x
      have hsp : sp = none := by
        have := hc 0 (by omega)
        cases sp with
        | none => rfl
        | some s =>
          simp only [Addr.add, if_true, World.cell?] at this
          split at this <;> simp at this
      subst hsp
      refine ⟨b, off, rfl, id, fun ⟨i, y, hb⟩ => by simp at hb, ?_⟩
      rw [RepRow.iff]
      intro i p hp
      rw [List.getElem?_map, Option.map_eq_some_iff] at hp
      obtain ⟨u, hu, rfl⟩ := hp
      rw [List.getElem?_map, Option.map_eq_some_iff] at hu
      obtain ⟨z, hz', rfl⟩ := hu
      rw [List.getElem?_take] at hz'
      split at hz'
      · have hi : i < zs.length := by omega
        have hcell := hc i hi
        have hg : zs.getD i 0 = z := by simp [List.getD_eq_getElem?_getD, hz']
        rw [hg] at hcell
        have ha : (Addr.mk b off none).add i = ⟨b, off + i, none⟩ := by
          unfold Addr.add
          split
          · rename_i h; subst h; rfl
          · rfl
        rw [ha] at hcell
        have hwf := hw z (List.mem_of_getElem? hz')
        simp only [Lit.wf, Bool.and_eq_true, decide_eq_true_eq] at hwf
        have h1 : 0 ≤ z := hwf.1
        have h2 : z ≤ 255 := hwf.2
        refine ⟨_, hcell, by rfl, ?_⟩
        simp only [bv, RepV]
        have : ((UInt8.ofNat z.toNat).toNat : Int) = z := by
          simp; omega
        rw [this]
      · cases hz'
theorem wf_i64 {n : Int} (h : (Lit.int .i64 n).wf = true) : -9223372036854775808 ≤ n ∧ n ≤ 9223372036854775807 := by
  simp only [Lit.wf, Bool.and_eq_true, decide_eq_true_eq] at h; exact h
theorem wf_u64 {n : Int} (h : (Lit.int .u64 n).wf = true) : 0 ≤ n ∧ n < 18446744073709551616 := by
  simp only [Lit.wf, Bool.and_eq_true, decide_eq_true_eq] at h
  have h1 : 0 ≤ n := h.1
  have h2 : n ≤ 18446744073709551615 := h.2
  omega
theorem wf_u8 {n : Int} (h : (Lit.int .u8 n).wf = true) : 0 ≤ n ∧ n < 256 := by
  simp only [Lit.wf, Bool.and_eq_true, decide_eq_true_eq] at h
  have h1 : 0 ≤ n := h.1
  have h2 : n ≤ 255 := h.2
  omega
theorem law_run {P : Program} {f : FuncId} {S : List PV → Prop × PV} (h : PureOk P f S) {args : List PV} {vs : List Value} {w : World} (hp : (S args).1) (hv : (S args).2 = .lit (.bool true)) (hc : closedL args = true) (hr : RepL no [] w args vs) (hG : Globs no [] w) :
    Calls P f vs.toArray w fun e w' => e = .returned (.bool true) ∧ Below w.heap.size w w' := by
  refine (h.run args hp hc no w vs (fun b hb => hb.elim) hr hG).mono fun e w' ⟨v, he, hg, hrr⟩ => ?_
  rw [hv] at hrr
  have hv' : v = .bool true := by
    have := hrr.2
    simpa [RepV] using this
  subst hv'
  exact ⟨he, ⟨hg.os, hg.tape, hg.output, hg.size, fun k hk => hg.block k hk (fun ⟨i, y, hb⟩ => by simp at hb)⟩⟩
section
variable {H : Type} {enc : TypeId × Value → H} {P : Program} {t e : TypeId} {n : Nat} {q : IntKind} {W : World} {base : Nat} {sp : Nat → Bool} {held : Bool}
theorem open_nums (ht : P.underlying t = some (.array n e)) (hc : P.cellsOf e = 1) (hct : P.cellsOf t = n) (he : P.underlying e = some (.int q)) {r : Reach} {b0 : Nat} {v : Value} {d : DataW H} {ps : List MemPlace}
    (hval : Value.okWide P W r b0 t v) (hd : DataW.Trod enc P W base sp held t v d ps) :
    ∃ zs : List Int, zs.length = n ∧ v = .agg (zs.map (Value.int q)).toArray ∧ ∀ z ∈ zs, (Lit.int q z).wf = true := by
  simp only [Value.okWide, ht] at hval
  obtain ⟨cs, rfl, h2, _⟩ := hval
  rw [hct] at h2
  obtain ⟨fuel, hf⟩ := hd
  obtain ⟨xs, m, _, _, hlen, hxs, hi⟩ := DataW.trod_array ht hf
  have hex : ∀ i, i < n → ∃ z, cs[i]? = some (.int q z) ∧ (Lit.int q z).wf = true := by
    intro i hin
    have := hi i hin
    rw [hc, Nat.mul_one] at this
    have hx : xs[i]? = some xs[i] := by simp [hxs, hin]
    rw [hx] at this
    obtain ⟨z, e1, _, wz⟩ := DataW.trod_int he this
    refine ⟨z, ?_, wz⟩
    have e2 := congrArg List.head? e1
    simp only [Value.cells, List.head?_take, List.head?_drop, List.head?_cons] at e2
    simpa using e2
  have hall : ∃ zs : List Int, cs.toList = zs.map (Value.int q) ∧ ∀ z ∈ zs, (Lit.int q z).wf = true := by
    have : ∀ x ∈ cs.toList, ∃ z, x = .int q z ∧ (Lit.int q z).wf = true := by
      intro x hx
      obtain ⟨i, hi2⟩ := List.getElem?_of_mem hx
      have hlt : i < n := by
        have := (List.getElem?_eq_some_iff.1 hi2).1
        simpa [h2] using this
      obtain ⟨z, hz, wz⟩ := hex i hlt
      refine ⟨z, ?_, wz⟩
      rw [Array.getElem?_toList, hz] at hi2
      exact (Option.some.inj hi2).symm
    revert this
    generalize cs.toList = l
    intro h
    induction l with
    | nil => exact ⟨[], rfl, by simp⟩
    | cons a l ih =>
      obtain ⟨zs, e1, e2⟩ := ih (fun x hx => h x (by simp [hx]))
      obtain ⟨z, rfl, wz⟩ := h a (by simp)
      exact ⟨z :: zs, by rw [e1]; rfl, by simpa using ⟨wz, e2⟩⟩
  obtain ⟨zs, e1, e2⟩ := hall
  refine ⟨zs, ?_, ?_, e2⟩
  · have := congrArg List.length e1
    simpa [h2] using this.symm
  · rw [← e1]
end
end Go.Ab
