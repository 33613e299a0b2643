import Derived.Test.YtakffanafcidbaaSM6
namespace Go.Ab
open Go Go.Proofs
set_option linter.unusedVariables false
set_option linter.unusedSimpArgs false
set_option maxRecDepth 4000
set_option maxHeartbeats 2000000
theorem hx_bv {k : Nat} (h : k < 16) : bv (hx k) = .lit (.int .u8 (if (k : Int) < 10 then 48 + (k : Int) else 97 + (k : Int) - 10)) := by
  unfold hx bv
  split
  · rw [if_pos (by omega)]
    have : (UInt8.ofNat (48 + k)).toNat = 48 + k := by simp; omega
    rw [this]; congr 2
  · rw [if_neg (by omega)]
    have : (UInt8.ofNat (87 + k)).toNat = 87 + k := by simp; omega
    rw [this]; congr 2; omega
def hexI (xs : List UInt8) (i : Nat) : List (Nat × PV) × List LE :=
  match i with
  | 0 => ([(8, .lit (.int .i64 (0 : Nat))), (7, .lit (.int .i64 xs.length)), (6, .ro xs.length (xs.map bv)), (3, .lit (.slice none 0 0))], [])
  | i + 1 => ([(8, .lit (.int .i64 ((i + 1 : Nat) : Int))), (7, .lit (.int .i64 xs.length)), (6, .ro xs.length (xs.map bv)), (3, .own 0 0 (hexM (xs.take (i + 1))).length 1)], [.cells ((hexM (xs.take (i + 1))).map bv)])
def unJ (xs : List UInt8) (p : Nat × List UInt8) : List (Nat × PV) × List LE :=
  match p.1 with
  | 0 => ([(5, .lit (.int .i64 (0 : Nat))), (0, .lit (.string ⟨xs.toArray⟩)), (2, .lit (.slice none 0 0)), (4, .lit (.slice none 0 0))], [])
  | i + 1 => ([(5, .lit (.int .i64 (2 * ((i + 1 : Nat) : Int)))), (0, .lit (.string ⟨xs.toArray⟩)), (2, .lit (.slice none 0 0)), (4, .own 0 0 p.2.length 1)], [.cells (p.2.map bv)])

end Go.Ab
