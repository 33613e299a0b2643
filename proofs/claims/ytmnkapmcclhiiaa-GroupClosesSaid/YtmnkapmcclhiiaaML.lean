import Derived.Test.YtmnkapmcclhiiaaMK
import Derived.Test.YtmnkapmcclhiiaaMP
namespace Go.Ab
open Go Go.Proofs Go.RowKit
set_option linter.unusedVariables false
def byK (k n : Nat) : List UInt8 := (List.range k).map fun j => UInt8.ofNat (n / 2 ^ (8 * (k - 1 - j)))
theorem byK_snoc (k v : Nat) (b : UInt8) : byK (k + 1) (v * 256 + b.toNat) = byK k v ++ [b] := by
  have hb : b.toNat < 256 := b.toNat_lt
  have e8 : (2 : Nat) ^ 8 = 256 := by decide
  unfold byK
  rw [List.range_succ, List.map_append]
  congr 1
  · apply List.map_congr_left
    intro j hj
    have hj' : j < k := by simpa using hj
    have e : 8 * (k + 1 - 1 - j) = 8 + 8 * (k - 1 - j) := by omega
    rw [e, Nat.pow_add, ← Nat.div_div_eq_div_mul, e8]
    congr 2
    omega
  · simp only [List.map_cons, List.map_nil, Nat.add_sub_cancel, Nat.sub_self, Nat.mul_zero, Nat.pow_zero, Nat.div_one]
    congr 1
    apply UInt8.toNat_inj.1
    rw [UInt8.toNat_ofNat']
    omega
theorem byK_all0 : ∀ (n : Nat) (bs : List UInt8), bs.length = n → ∃ v, v < 2 ^ (8 * bs.length) ∧ byK bs.length v = bs
  | 0, bs, h => by
    have : bs = [] := List.length_eq_zero_iff.1 h
    subst this
    exact ⟨0, by simp, rfl⟩
  | n + 1, bs, h => by
    have hne : bs ≠ [] := by intro e; subst e; simp at h
    have e0 : bs.dropLast ++ [bs.getLast hne] = bs := List.dropLast_concat_getLast hne
    generalize bs.getLast hne = b at e0
    generalize hd : bs.dropLast = ds at e0
    subst e0
    have hl : ds.length = n := by simpa using h
    obtain ⟨v, hv, e⟩ := byK_all0 n ds hl
    have hb : b.toNat < 256 := b.toNat_lt
    refine ⟨v * 256 + b.toNat, ?_, ?_⟩
    · rw [List.length_append, List.length_singleton, Nat.mul_add, Nat.mul_one, Nat.pow_add, show (2 : Nat) ^ 8 = 256 by decide]
      omega
    · rw [List.length_append, List.length_singleton, byK_snoc, e]
theorem byK_all (bs : List UInt8) : ∃ v, v < 2 ^ (8 * bs.length) ∧ byK bs.length v = bs := byK_all0 _ bs rfl
theorem h32_rep {w : World} {zs : List Int} (hlen : zs.length = 32) (hw : ∀ z ∈ zs, (Lit.int .u8 z).wf = true) :
    ∃ n : Nat, n < 115792089237316195423570985008687907853269984665640564039457584007913129639936 ∧ RepV no [] w (h32 n) (.agg (zs.map (Value.int .u8)).toArray) := by
  obtain ⟨v, hv, e⟩ := byK_all (zs.map fun z => UInt8.ofNat z.toNat)
  rw [List.length_map, hlen] at hv e
  have e32 : (2 : Nat) ^ (8 * 32) = 115792089237316195423570985008687907853269984665640564039457584007913129639936 := by decide
  refine ⟨v, by rw [← e32]; exact hv, ?_⟩
  have hb : by32 v = zs.map fun z => UInt8.ofNat z.toNat := e
  simp only [h32, hl, hb, RepV]
  refine ⟨_, rfl, ?_⟩
  clear e hb hv hlen
  induction zs with
  | nil => simp only [List.map_nil, RepL]
  | cons z zs ih =>
    have hz := wf_u8 (hw z (by simp))
    simp only [List.map_cons, RepL]
    refine ⟨_, _, rfl, ?_, ih fun z hz => hw z (by simp [hz])⟩
    simp only [bv, RepV]
    congr 1
    rw [UInt8.toNat_ofNat']
    omega
end Go.Ab
