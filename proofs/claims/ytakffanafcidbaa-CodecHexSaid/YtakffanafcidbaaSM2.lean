import Derived.Test.YtakffanafcidbaaSM
namespace Go.Ab
open Go Go.Proofs
set_option linter.unusedVariables false
set_option linter.unusedSimpArgs false
set_option maxRecDepth 4000
set_option maxHeartbeats 2000000

def S12 : List PV → Prop × PV
  | [] => (True, .lit (.bool true))
  | _ => (False, .any)
theorem sane1 : szB 253 = [253, 253, 0] := by decide
theorem sane2 : sizeM [253, 252, 0] 0 1000 = (0, 0, 3) := by decide
theorem sane3 : hexM [0, 171] = [48, 48, 97, 98] := by decide
theorem sane4 : bytesOf [.lit (.int .u8 253), .lit (.int .u8 252), .lit (.int .u8 0)] = [253, 252, 0] := rfl
theorem sane5 : bytesOf [.lit (.int .u8 0), .lit (.int .u8 171)] = [0, 171] := rfl
theorem sane6 : isB 3 [.lit (.int .u8 253), .lit (.int .u8 252), .lit (.int .u8 0)] ↔ True := ⟨fun _ => trivial, fun _ => ⟨rfl, [253, 252, 0], rfl⟩⟩
theorem sane7 : isB 2 [.lit (.int .u8 0), .lit (.int .u8 171)] ↔ True := ⟨fun _ => trivial, fun _ => ⟨rfl, [0, 171], rfl⟩⟩
theorem bytesOf_nil : bytesOf [] = [] := rfl
theorem isB_nil : isB 0 [] ↔ True := ⟨fun _ => trivial, fun _ => ⟨rfl, [], rfl⟩⟩

def lawS : List PV → Prop × PV
  | [.ro n cs, .lit (.int .i64 a), .lit (.int .u64 m)] => (isB n cs ∧ n ≤ 9223372036854775807 ∧ -9223372036854775808 ≤ a ∧ a ≤ 9223372036854775807 ∧ 0 ≤ m ∧ m < 18446744073709551616, .lit (.bool true))
  | _ => (False, .any)
def S5 := lawS

end Go.Ab
