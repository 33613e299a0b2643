import Derived.Test.YtejilmjdkoileaaMN
import Derived.Test.YtejilmjdkoileaaMP
namespace Go.Ab
open Go Go.Proofs Go.RowKit
theorem k2_rep {w : World} {zs : List Int} (hl : zs.length = 2) (hw : ∀ z ∈ zs, (Lit.int .u64 z).wf = true) : ∃ a b : D, RepV no [] w (k2 a b) (.agg (zs.map (Value.int .u64)).toArray) := by
  match zs, hl with
  | [a, b], _ =>
    have ha := wf_u64 (hw a (by simp))
    have hb := wf_u64 (hw b (by simp))
    refine ⟨BitVec.ofNat 64 a.toNat, BitVec.ofNat 64 b.toNat, ?_⟩
    simp only [k2, RepV]
    refine ⟨_, rfl, ?_⟩
    simp only [RepL, ul, RepV, List.map_cons, List.map_nil, BitVec.toNat_ofNat]
    refine ⟨_, _, rfl, ?_, _, _, rfl, ?_, rfl⟩ <;> congr 1 <;> omega
end Go.Ab
