import Derived.Test.YtmnkapmcclhiiaaMW9
import Derived.OpenShut
import Derived.ChangeShapes
namespace Go.Ab
open Go Go.Proofs Go.RowKit
set_option linter.unusedVariables false
set_option linter.unusedSimpArgs false
def no : Nat → Prop := fun _ => False
theorem wf_u64 {n : Int} (h : (Lit.int .u64 n).wf = true) : 0 ≤ n ∧ n < 18446744073709551616 := by
  simp only [Lit.wf, Bool.and_eq_true, decide_eq_true_eq] at h
  have h1 : 0 ≤ n := h.1
  have h2 : n ≤ 18446744073709551615 := h.2
  omega
theorem wf_u8 {n : Int} (h : (Lit.int .u8 n).wf = true) : 0 ≤ n ∧ n < 256 := by
  simp only [Lit.wf, Bool.and_eq_true, decide_eq_true_eq] at h
  have h1 : 0 ≤ n := h.1
  have h2 : n ≤ 255 := h.2
  omega
theorem law_run {P : Program} {f : FuncId} {S : List PV → Prop × PV} (h : PureOk P f S) {args : List PV} {vs : List Value} {w : World} (hp : (S args).1) (hv : (S args).2 = .lit (.bool true)) (hc : closedL args = true) (hr : RepL no [] w args vs) (hG : Globs no [] w) :
    Calls P f vs.toArray w fun e w' => e = .returned (.bool true) ∧ Below w.heap.size w w' := by
  refine (h.run args hp hc no w vs (fun b hb => hb.elim) hr hG).mono fun e w' ⟨v, he, hg, hrr⟩ => ?_
  rw [hv] at hrr
  have hv' : v = .bool true := by
    have := hrr.2
    simpa [RepV] using this
  subst hv'
  exact ⟨he, ⟨hg.os, hg.tape, hg.output, hg.size, fun k hk => hg.block k hk (fun ⟨i, y, hb⟩ => by simp at hb)⟩⟩
section
variable {H : Type} {enc : TypeId × Value → H} {P : Program} {t e : TypeId} {n : Nat} {q : IntKind} {W : World} {base : Nat} {sp : Nat → Bool} {held : Bool}
theorem open_nums (ht : P.underlying t = some (.array n e)) (hc : P.cellsOf e = 1) (hct : P.cellsOf t = n) (he : P.underlying e = some (.int q)) {r : Reach} {b0 : Nat} {v : Value} {d : DataW H} {ps : List MemPlace}
    (hval : Value.okWide P W r b0 t v) (hd : DataW.Trod enc P W base sp held t v d ps) :
    ∃ zs : List Int, zs.length = n ∧ v = .agg (zs.map (Value.int q)).toArray ∧ ∀ z ∈ zs, (Lit.int q z).wf = true := by
  simp only [Value.okWide, ht] at hval
  obtain ⟨cs, rfl, h2, _⟩ := hval
  rw [hct] at h2
  obtain ⟨fuel, hf⟩ := hd
  obtain ⟨xs, m, _, _, hlen, hxs, hi⟩ := DataW.trod_array ht hf
  have hex : ∀ i, i < n → ∃ z, cs[i]? = some (.int q z) ∧ (Lit.int q z).wf = true := by
    intro i hin
    have := hi i hin
    rw [hc, Nat.mul_one] at this
    have hx : xs[i]? = some xs[i] := by simp [hxs, hin]
    rw [hx] at this
    obtain ⟨z, e1, _, wz⟩ := DataW.trod_int he this
    refine ⟨z, ?_, wz⟩
    have e2 := congrArg List.head? e1
    simp only [Value.cells, List.head?_take, List.head?_drop, List.head?_cons] at e2
    simpa using e2
  have hall : ∃ zs : List Int, cs.toList = zs.map (Value.int q) ∧ ∀ z ∈ zs, (Lit.int q z).wf = true := by
    have : ∀ x ∈ cs.toList, ∃ z, x = .int q z ∧ (Lit.int q z).wf = true := by
      intro x hx
      obtain ⟨i, hi2⟩ := List.getElem?_of_mem hx
      have hlt : i < n := by
        have := (List.getElem?_eq_some_iff.1 hi2).1
        simpa [h2] using this
      obtain ⟨z, hz, wz⟩ := hex i hlt
      refine ⟨z, ?_, wz⟩
      rw [Array.getElem?_toList, hz] at hi2
      exact (Option.some.inj hi2).symm
    revert this
    generalize cs.toList = l
    intro h
    induction l with
    | nil => exact ⟨[], rfl, by simp⟩
    | cons a l ih =>
      obtain ⟨zs, e1, e2⟩ := ih (fun x hx => h x (by simp [hx]))
      obtain ⟨z, rfl, wz⟩ := h a (by simp)
      exact ⟨z :: zs, by rw [e1]; rfl, by simpa using ⟨wz, e2⟩⟩
  obtain ⟨zs, e1, e2⟩ := hall
  refine ⟨zs, ?_, ?_, e2⟩
  · have := congrArg List.length e1
    simpa [h2] using this.symm
  · rw [← e1]
end
theorem u4_rep {w : World} {zs : List Int} (hl : zs.length = 4) (hw : ∀ z ∈ zs, (Lit.int .u64 z).wf = true) :
    ∃ n : Nat, RepV no [] w (u4 n) (.agg (zs.map (Value.int .u64)).toArray) := by
  match zs, hl with
  | [a, b, c, d], _ =>
    have ha := wf_u64 (hw a (by simp))
    have hb := wf_u64 (hw b (by simp))
    have hc := wf_u64 (hw c (by simp))
    have hd := wf_u64 (hw d (by simp))
    refine ⟨a.toNat + b.toNat * 18446744073709551616 + c.toNat * 340282366920938463463374607431768211456 + d.toNat * 6277101735386680763835789423207666416102355444464034512896, ?_⟩
    simp only [u4, RepV]
    refine ⟨_, rfl, ?_⟩
    rw [cl4]
    simp only [RepL, ul, RepV, List.map_cons, List.map_nil]
    refine ⟨_, _, rfl, ?_, _, _, rfl, ?_, _, _, rfl, ?_, _, _, rfl, ?_, rfl⟩ <;> congr 1 <;> omega
end Go.Ab
