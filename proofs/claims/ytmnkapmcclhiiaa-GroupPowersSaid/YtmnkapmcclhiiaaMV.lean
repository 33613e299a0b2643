import Derived.Test.YtmnkapmcclhiiaaME
import Derived.Test.YtmnkapmcclhiiaaMX
import Derived.Test.YtmnkapmcclhiiaaMP
import Derived.Test.YtmnkapmcclhiiaaMU
namespace Go.Ab
set_option maxRecDepth 8000
theorem pPl : pP < 115792089237316195423570985008687907853269984665640564039457584007913129639936 := by rw [pPv]; decide
theorem qPl : qP < 115792089237316195423570985008687907853269984665640564039457584007913129639936 := by rw [qPv]; decide
theorem pP0 : 0 < pP := by rw [pPv]; decide
theorem qP0 : 0 < qP := by rw [qPv]; decide
theorem pPm : pP % 115792089237316195423570985008687907853269984665640564039457584007913129639936 = pP := Nat.mod_eq_of_lt pPl
theorem qPm : qP % 115792089237316195423570985008687907853269984665640564039457584007913129639936 = qP := Nat.mod_eq_of_lt qPl
theorem r0p (x : Nat) : rem0 x pP = x % pP := rem0_pos (Nat.pos_iff_ne_zero.1 pP0) x
theorem r0q (x : Nat) : rem0 x qP = x % qP := rem0_pos (Nat.pos_iff_ne_zero.1 qP0) x
theorem mpm (x : Nat) : x % pP % 115792089237316195423570985008687907853269984665640564039457584007913129639936 = x % pP := Nat.mod_eq_of_lt (Nat.lt_trans (Nat.mod_lt _ pP0) pPl)
theorem mqm (x : Nat) : x % qP % 115792089237316195423570985008687907853269984665640564039457584007913129639936 = x % qP := Nat.mod_eq_of_lt (Nat.lt_trans (Nat.mod_lt _ qP0) qPl)
theorem pP_sub : pP + 115792089237316195423570985008687907853269984665640564039457584007913129639936 - 2 = pP - 2 + 115792089237316195423570985008687907853269984665640564039457584007913129639936 := Nat.sub_add_comm p2
theorem pP2l : pP - 2 < 115792089237316195423570985008687907853269984665640564039457584007913129639936 := Nat.lt_of_le_of_lt (Nat.sub_le _ _) pPl
theorem pP2m : (pP - 2) % 115792089237316195423570985008687907853269984665640564039457584007913129639936 = pP - 2 := Nat.mod_eq_of_lt pP2l
def gx (a e : Nat) : Nat := a ^ e % pP
theorem gx_eq (a e : Nat) : gx a e = a ^ e % pP := rfl
theorem gxm (a e : Nat) : gx a e % 115792089237316195423570985008687907853269984665640564039457584007913129639936 = gx a e := mpm _
theorem gx_lt (a e : Nat) : gx a e < pP := Nat.mod_lt _ pP0
attribute [irreducible] gx
def mb (a : Nat) : Bool := decide (a ≠ 0) && decide (a < pP) && decide (gx a qP = 1)
theorem mb_iff (a : Nat) : mb a = true ↔ mem a := by
  unfold mb mem
  rw [gx_eq]
  simp only [Bool.and_eq_true, decide_eq_true_eq, Nat.pos_iff_ne_zero, and_assoc]
theorem mb_zero {a : Nat} (h : a = 0) : mb a = false := by unfold mb; rw [h]; rfl
theorem mb_big {a : Nat} (h : pP ≤ a) : mb a = false := by
  unfold mb
  rw [decide_eq_false (Nat.not_lt.2 h), Bool.and_false, Bool.false_and]
theorem mb_in {a : Nat} (h0 : a ≠ 0) (h : a < pP) : mb a = decide (gx a qP = 1) := by
  unfold mb
  rw [decide_eq_true h0, decide_eq_true h, Bool.true_and, Bool.true_and]
attribute [irreducible] mb
theorem cmpd_lt {a b : Nat} : decide (cmpN a b < 0) = decide (a < b) := by
  unfold cmpN
  refine decide_eq_decide.2 ?_
  (repeat' split) <;> omega
def sGMod : List PV → Prop × PV
  | [] => (True, u4 pP)
  | _ => (False, .any)
def sGOrd : List PV → Prop × PV
  | [] => (True, u4 qP)
  | _ => (False, .any)
def sGOne : List PV → Prop × PV
  | [] => (True, u4 1)
  | _ => (False, .any)
def sGMem : List PV → Prop × PV
  | [x] => (isU x, .lit (.bool (mb (uv x))))
  | _ => (False, .any)
def sGMul : List PV → Prop × PV
  | [x, y] => (isU x ∧ isU y, u4 (uv x * uv y % pP))
  | _ => (False, .any)
def sGExp : List PV → Prop × PV
  | [x, y] => (isU x ∧ isU y, u4 (gx (uv x) (uv y)))
  | _ => (False, .any)
def sGInv : List PV → Prop × PV
  | [x] => (isU x, u4 (gx (uv x) (pP - 2)))
  | _ => (False, .any)
def sGPow : List PV → Prop × PV
  | [x] => (isU x, u4 (gx 4 (uv x)))
  | _ => (False, .any)
def sGSca : List PV → Prop × PV
  | [x] => (isH x, u4 (hv x % qP))
  | _ => (False, .any)
def sGAdS : List PV → Prop × PV
  | [x, y] => (isU x ∧ isU y, u4 ((uv x + uv y) % qP))
  | _ => (False, .any)
def sGMuS : List PV → Prop × PV
  | [x, y] => (isU x ∧ isU y, u4 (uv x * uv y % qP))
  | _ => (False, .any)
def sGNeS : List PV → Prop × PV
  | [x] => (isU x, u4 ((qP - uv x % qP) % qP))
  | _ => (False, .any)
def sLU1 : List PV → Prop × PV
  | [x] => (isU x, .lit (.bool true))
  | _ => (False, .any)
def sLU2 : List PV → Prop × PV
  | [x, y] => (isU x ∧ isU y, .lit (.bool true))
  | _ => (False, .any)
def sLHUU : List PV → Prop × PV
  | [x, y, z] => (isH x ∧ isU y ∧ isU z, .lit (.bool true))
  | _ => (False, .any)
def sLHH : List PV → Prop × PV
  | [x, y] => (isH x ∧ isH y, .lit (.bool true))
  | _ => (False, .any)
def sLnone : List PV → Prop × PV
  | [] => (True, .lit (.bool true))
  | _ => (False, .any)
theorem gx4q : gx 4 qP = 1 := by rw [gx_eq]; exact four_q
theorem gx4p (e : Nat) : gx (gx 4 e) qP = 1 := by rw [gx_eq, gx_eq]; exact pow_mem four_q e
theorem gx_pos {a : Nat} (h : gx a qP = 1) : ¬ pP ∣ a := ndvd_of_mem (gx_eq a qP ▸ h)
theorem mb_lt {a : Nat} (h : a < pP) (hq : gx a qP = 1) : mb a = true := (mb_iff a).2 ((mem_iff h).2 (gx_eq a qP ▸ hq))
theorem mb_lo {a : Nat} (h : a < pP) : mb a = decide (gx a qP = 1) := by
  have e : mb a = true ↔ gx a qP = 1 := by rw [mb_iff, gx_eq]; exact mem_iff h
  by_cases hg : gx a qP = 1
  · rw [e.2 hg, decide_eq_true hg]
  · rw [decide_eq_false hg]
    exact Bool.eq_false_iff.2 fun hh => hg (e.1 hh)
theorem mb4 : mb 4 = true := mb_lt (by rw [pPv]; decide) gx4q
theorem mb0 : mb 0 = false := mb_zero rfl
theorem mb_pow (e : Nat) : mb (gx 4 e) = true := mb_lt (gx_lt _ _) (gx4p e)
theorem mb_mul (e f : Nat) : mb (gx 4 e * gx 4 f % pP) = true := mb_lt (Nat.mod_lt _ pP0) (by
  rw [gx_eq]
  exact mul_mem (gx_eq _ _ ▸ gx4p e) (gx_eq _ _ ▸ gx4p f))
theorem mb_inv (e : Nat) : mb (gx (gx 4 e) (pP - 2)) = true := mb_lt (gx_lt _ _) (by
  rw [gx_eq (gx (gx 4 e) (pP - 2)), gx_eq (gx 4 e)]
  exact pow_mem (gx_eq _ _ ▸ gx4p e) _)
theorem inv_one (e : Nat) : gx 4 e * gx (gx 4 e) (pP - 2) % pP = 1 := by
  rw [gx_eq (gx 4 e)]
  exact inv_mul (gx_pos (gx4p e))
theorem pow_add4 (a b : Nat) : gx 4 ((a + b) % qP) = gx 4 a * gx 4 b % pP := by
  rw [gx_eq, gx_eq, gx_eq]
  exact pow_add_q four_q a b
theorem one_mod_p : 1 % pP = 1 := Nat.mod_eq_of_lt (by rw [pPv]; decide)
theorem pow_neg4 (a : Nat) : gx 4 a * gx 4 ((qP - a % qP) % qP) % pP = 1 := by
  rw [← pow_add4, Nat.add_mod_mod, gx_eq]
  have h : (a + (qP - a % qP)) % qP = 0 := by
    have h1 := Nat.mod_lt a qP0
    rw [← Nat.mod_add_mod, show a % qP + (qP - a % qP) = qP by omega, Nat.mod_self]
  rw [h, Nat.pow_zero, one_mod_p]
theorem sq_zero {a : Nat} (h : a % pP = 0) : mb ((pP - a % pP) % pP) = false := by
  rw [h, Nat.sub_zero, Nat.mod_self]; exact mb0
theorem sq_one {a : Nat} (h : a % pP ≠ 0) : mb ((pP - a % pP) % pP) ≠ mb (a % pP) := by
  have h1 := Nat.mod_lt a pP0
  have h2 : (pP - a % pP) % pP = pP - a % pP := Nat.mod_eq_of_lt (by omega)
  rw [h2]
  intro he
  refine one_mem (Nat.pos_of_ne_zero h) h1 ?_
  rw [← mb_iff, ← mb_iff, he]
theorem sq_two {a : Nat} (h : a % pP ≠ 0) : mb (a * a % pP) = true := mb_lt (Nat.mod_lt _ pP0) (by
  rw [gx_eq]
  exact sq_mem (fun hd => h (Nat.mod_eq_zero_of_dvd hd)))
def sGFold : List PV → Prop × PV
  | [x, y] => (isU x ∧ isU y, .tup [u4 ((uv x * 36113 + uv y) / 115792089237316195423570985008687907853269984665640564039457584007913129639936), u4 (uv x * 36113 + uv y)])
  | _ => (False, .any)
def sGBel : List PV → Prop × PV
  | [x] => (isU x, u4 (uv x % pP))
  | _ => (False, .any)
theorem fold_hi {h l : Nat} (lh : h < 115792089237316195423570985008687907853269984665640564039457584007913129639936) (ll : l < 115792089237316195423570985008687907853269984665640564039457584007913129639936) : (h * 36113 + l) / 115792089237316195423570985008687907853269984665640564039457584007913129639936 < 115792089237316195423570985008687907853269984665640564039457584007913129639936 := by omega
theorem fold_le {h l : Nat} (h0 : ¬ h = 0) : (h * 36113 + l) / 115792089237316195423570985008687907853269984665640564039457584007913129639936 * 115792089237316195423570985008687907853269984665640564039457584007913129639936 + (h * 36113 + l) % 115792089237316195423570985008687907853269984665640564039457584007913129639936 < h * 115792089237316195423570985008687907853269984665640564039457584007913129639936 + l := by omega
theorem fold_mod (h l : Nat) : ((h * 36113 + l) / 115792089237316195423570985008687907853269984665640564039457584007913129639936 * 115792089237316195423570985008687907853269984665640564039457584007913129639936 + (h * 36113 + l) % 115792089237316195423570985008687907853269984665640564039457584007913129639936) % pP = (h * 115792089237316195423570985008687907853269984665640564039457584007913129639936 + l) % pP := by
  have e : h * 115792089237316195423570985008687907853269984665640564039457584007913129639936 + l = (h * 36113 + l) + pP * h := by rw [pPv]; omega
  rw [Nat.div_add_mod', e, Nat.add_mul_mod_self_left]
theorem fold_start {a b : Nat} : (a * b / 115792089237316195423570985008687907853269984665640564039457584007913129639936 * 115792089237316195423570985008687907853269984665640564039457584007913129639936 + a * b % 115792089237316195423570985008687907853269984665640564039457584007913129639936) % pP = a * b % pP := by rw [Nat.div_add_mod']
theorem fold_done {l z : Nat} (h : (0 * 115792089237316195423570985008687907853269984665640564039457584007913129639936 + l) % pP = z) : l % pP = z := by rwa [Nat.zero_mul, Nat.zero_add] at h
theorem below_lt {a : Nat} (h : a < pP) : a = a % pP := (Nat.mod_eq_of_lt h).symm
theorem below_ge {a : Nat} (l : a < 115792089237316195423570985008687907853269984665640564039457584007913129639936) (h : pP ≤ a) : a - pP = a % pP := by
  have h2 : a - pP < pP := by have := pPv; omega
  rw [Nat.mod_eq_sub_mod h, Nat.mod_eq_of_lt h2]
def PInv (a e i r b : Nat) : Prop := r < pP ∧ b < 115792089237316195423570985008687907853269984665640564039457584007913129639936 ∧ r * b ^ (e / 2 ^ i) % pP = gx a e
theorem pin_start {a e : Nat} (la : a < 115792089237316195423570985008687907853269984665640564039457584007913129639936) : PInv a e 0 1 a := ⟨by rw [pPv]; decide, la, by rw [Nat.pow_zero, Nat.div_one, Nat.one_mul, gx_eq]⟩
theorem pin_done {a e i r b : Nat} (h : PInv a e i r b) (hi : e < 2 ^ i) : r = gx a e := by
  have := h.2.2
  rwa [Nat.div_eq_of_lt hi, Nat.pow_zero, Nat.mul_one, Nat.mod_eq_of_lt h.1] at this
theorem pin_bit {e i : Nat} (d : Nat) (h : e / 2 ^ i % 2 = d) : e / 2 ^ i = 2 * (e / 2 ^ (i + 1)) + d := by
  rw [Nat.pow_succ, ← Nat.div_div_eq_div_mul]; omega
theorem pin_sq (b n : Nat) : (b * b % pP) ^ n % pP = b ^ (2 * n) % pP := by
  rw [← Nat.pow_mod, Nat.pow_mul, Nat.pow_two]
theorem pin0 {a e i r b : Nat} (h : PInv a e i r b) (hb : e.testBit i = false) : PInv a e (i + 1) r (b * b % pP) := by
  have h0 : e / 2 ^ i % 2 = 0 := by
    rw [Nat.testBit_eq_decide_div_mod_eq] at hb
    have := of_decide_eq_false hb
    omega
  refine ⟨h.1, Nat.lt_trans (Nat.mod_lt _ pP0) pPl, ?_⟩
  rw [← h.2.2, Nat.mul_mod, pin_sq, ← Nat.mul_mod, ← show e / 2 ^ i = 2 * (e / 2 ^ (i + 1)) from pin_bit 0 h0]
theorem pin1 {a e i r b : Nat} (h : PInv a e i r b) (hb : e.testBit i = true) : PInv a e (i + 1) (r * b % pP) (b * b % pP) := by
  have h0 : e / 2 ^ i % 2 = 1 := by
    rw [Nat.testBit_eq_decide_div_mod_eq] at hb
    exact of_decide_eq_true hb
  refine ⟨Nat.mod_lt _ pP0, Nat.lt_trans (Nat.mod_lt _ pP0) pPl, ?_⟩
  rw [← h.2.2, Nat.mul_mod, pin_sq, Nat.mod_mod, ← Nat.mul_mod, Nat.mul_assoc, Nat.mul_comm b, ← show b ^ (2 * (e / 2 ^ (i + 1)) + 1) = b ^ (2 * (e / 2 ^ (i + 1))) * b from Nat.pow_succ .., ← show e / 2 ^ i = 2 * (e / 2 ^ (i + 1)) + 1 from pin_bit 1 h0]
end Go.Ab
