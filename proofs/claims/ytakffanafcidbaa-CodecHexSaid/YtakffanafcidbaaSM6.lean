import Derived.Test.YtakffanafcidbaaSM5
namespace Go.Ab
open Go Go.Proofs
set_option linter.unusedVariables false
set_option linter.unusedSimpArgs false
set_option maxRecDepth 4000
set_option maxHeartbeats 2000000
theorem unP_f : ∀ k : Nat, unP (List.replicate (2 * k) 102) = some (List.replicate k 255)
  | 0 => rfl
  | k + 1 => by
    rw [show 2 * (k + 1) = 2 * k + 1 + 1 by omega, List.replicate_succ, List.replicate_succ, unP, unP_f k]
    rfl
theorem unM_big {N : Nat} (h : 400000 < (N : Int)) : unM (List.replicate N 102) = ([], 4) := by unfold unM; rw [List.length_replicate, if_pos h]
theorem unM_odd {N : Nat} (h : ¬ 400000 < (N : Int)) (h2 : N % 2 = 1) : unM (List.replicate N 102) = ([], 7) := by unfold unM; rw [List.length_replicate, if_neg h, if_neg (by omega)]
theorem unM_even {N : Nat} (h : ¬ 400000 < (N : Int)) (h2 : N % 2 = 0) : unM (List.replicate N 102) = (List.replicate (N / 2) 255, 0) := by
  unfold unM
  have := unP_f (N / 2)
  rw [show 2 * (N / 2) = N by omega] at this
  rw [List.length_replicate, if_neg h, if_pos h2, this]
def S11 : List PV → Prop × PV
  | [.lit (.int .u8 n)] => (0 ≤ n ∧ n < 256, .lit (.bool true))
  | _ => (False, .any)

end Go.Ab
