import Derived.Test.YtakffanafcidbaaSM7
namespace Go.Ab
open Go Go.Proofs
set_option linter.unusedVariables false
set_option linter.unusedSimpArgs false
set_option maxRecDepth 4000
set_option maxHeartbeats 2000000
theorem hx_val {n : Nat} (h : n < 16) : digV ((hx n).toNat : Int) = n ∧ digO ((hx n).toNat : Int) = true := by
  have : ∀ n < 16, digV ((hx n).toNat : Int) = (n : Int) ∧ digO ((hx n).toNat : Int) = true := by decide
  exact this n h
theorem unP_hex : ∀ xs : List UInt8, unP (hexM xs) = some xs
  | [] => rfl
  | b :: r => by
    have hb := b.toNat_lt
    have h1 := hx_val (n := b.toNat / 16) (by omega)
    have h2 := hx_val (n := b.toNat % 16) (by omega)
    rw [hexM, unP, h1.2, h2.2, unP_hex r]
    have : dByte (hx (b.toNat / 16)) (hx (b.toNat % 16)) = b := by
      unfold dByte
      rw [h1.1, h2.1]
      apply UInt8.toNat_inj.1
      simp; omega
    rw [this]; rfl
theorem unM_hex {xs : List UInt8} (h : xs.length ≤ 2000) : unM (hexM xs) = (xs, 0) := by
  unfold unM
  rw [hexM_length, if_neg (by omega), if_pos (by omega), unP_hex]
def S9 : List PV → Prop × PV
  | [.ro n cs, .lit (.string s)] => (isB n cs ∧ n ≤ 9223372036854775807 ∧ s.size ≤ 9223372036854775807, .lit (.bool true))
  | _ => (False, .any)

end Go.Ab
