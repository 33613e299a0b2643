import Derived.Test.YtaofjdaclnagnaaMK
import Derived.Test.YtaofjdaclnagnaaMY
namespace Go.Ab
open Go Go.Proofs Go.RowKit
set_option linter.unusedVariables false
set_option linter.unusedSimpArgs false
theorem globs0 {W : World} : Globs no [] W := by
  intro g
  show RepV no [] W (.rptr []) _
  simp only [RepV]
  exact ⟨_, _, rfl, .inl trivial⟩
theorem bs_rep {w : World} {zs : List Int} (hw : ∀ z ∈ zs, (Lit.int .u8 z).wf = true) : ∃ bs : List UInt8, bs.length = zs.length ∧ RepV no [] w (.agg (bs.map bv)) (.agg (zs.map (Value.int .u8)).toArray) := by
  refine ⟨zs.map fun z => UInt8.ofNat z.toNat, by simp, ?_⟩
  simp only [RepV]
  refine ⟨_, rfl, ?_⟩
  induction zs with
  | nil => simp only [List.map_nil, RepL]
  | cons z zs ih =>
    have hz := wf_u8 (hw z (by simp))
    simp only [List.map_cons, RepL]
    refine ⟨_, _, rfl, ?_, ih fun z hz => hw z (by simp [hz])⟩
    simp only [bv, RepV]
    congr 1
    rw [UInt8.toNat_ofNat']
    omega
def IsRow (k : IntKind) (w : World) (a : Option Addr) (len cap : Nat) (zs : List Int) : Prop :=
  (a = none ∧ len = 0 ∧ cap = 0 ∧ zs = []) ∨
  ∃ x, a = some x ∧ len ≤ cap ∧ cap ≤ maxLen ∧ zs.length = cap ∧ (∀ i, i < zs.length → w.cell? (x.add i) = some (.int k (zs.getD i 0))) ∧ ∀ n ∈ zs, (Lit.int k n).wf = true
end Go.Ab
