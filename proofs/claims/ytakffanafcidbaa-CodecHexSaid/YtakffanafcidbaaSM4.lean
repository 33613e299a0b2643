import Derived.Test.YtakffanafcidbaaSM3
namespace Go.Ab
open Go Go.Proofs
set_option linter.unusedVariables false
set_option linter.unusedSimpArgs false
set_option maxRecDepth 4000
set_option maxHeartbeats 2000000
def endM (n : Nat) (a : Int) : Int := if needM n a 0 = 0 then (if a < n then 2 else 0) else needM n a 0
def endS : List PV → Prop × PV
  | [.ro n cs, .lit (.int .i64 a)] => (isB n cs ∧ n ≤ 9223372036854775807 ∧ -9223372036854775808 ≤ a ∧ a ≤ 9223372036854775807, .lit (.int .i64 (endM n a)))
  | _ => (False, .any)
def S36 := endS
def S37 := endS
def digV (c : Int) : Int := if 48 ≤ c ∧ c ≤ 57 then c - 48 else if 97 ≤ c ∧ c ≤ 102 then c - 97 + 10 else if 65 ≤ c ∧ c ≤ 70 then c - 65 + 10 else 0
def digO (c : Int) : Bool := decide (48 ≤ c ∧ c ≤ 57 ∨ 97 ≤ c ∧ c ≤ 102 ∨ 65 ≤ c ∧ c ≤ 70)
def digS : List PV → Prop × PV
  | [.lit (.int .u8 c)] => (0 ≤ c ∧ c < 256, .tup [.lit (.int .u8 (digV c)), .lit (.bool (digO c))])
  | _ => (False, .any)
def S58 := digS
def S59 := digS
theorem dig_a {c : Int} (h1 : 48 ≤ c) (h2 : c ≤ 57) : digV c = c - 48 ∧ digO c = true := ⟨by unfold digV; rw [if_pos ⟨h1, h2⟩], by unfold digO; simp; omega⟩
theorem dig_b {c : Int} (h1 : 97 ≤ c) (h2 : c ≤ 102) : digV c = c - 97 + 10 ∧ digO c = true := ⟨by unfold digV; rw [if_neg (by omega), if_pos ⟨h1, h2⟩], by unfold digO; simp; omega⟩
theorem dig_c {c : Int} (h1 : 65 ≤ c) (h2 : c ≤ 70) : digV c = c - 65 + 10 ∧ digO c = true := ⟨by unfold digV; rw [if_neg (by omega), if_neg (by omega), if_pos ⟨h1, h2⟩], by unfold digO; simp; omega⟩
theorem dig_d {c : Int} (h1 : ¬ (48 ≤ c ∧ c ≤ 57)) (h2 : ¬ (97 ≤ c ∧ c ≤ 102)) (h3 : ¬ (65 ≤ c ∧ c ≤ 70)) : digV c = 0 ∧ digO c = false := ⟨by unfold digV; rw [if_neg h1, if_neg h2, if_neg h3], by unfold digO; simp; omega⟩
def S60 : List PV → Prop × PV
  | [.lit (.int .u8 n)] => (0 ≤ n ∧ n < 16, .lit (.int .u8 (if n < 10 then 48 + n else 97 + n - 10)))
  | _ => (False, .any)

end Go.Ab
