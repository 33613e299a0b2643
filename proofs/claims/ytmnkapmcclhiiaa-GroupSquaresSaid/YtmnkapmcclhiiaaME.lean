import Derived.Test.YtmnkapmcclhiiaaMD
import Derived.Test.YtmnkapmcclhiiaaMC
namespace Go.Ab
open Go Go.RowKit
set_option linter.unusedVariables false
set_option linter.unusedSimpArgs false
def sFromUint : List PV → Prop × PV
  | [x] => (isul x, u4 (ulv x))
  | _ => (False, .any)
def sAdd : List PV → Prop × PV
  | [x, y] => (isU x ∧ isU y, .tup [u4 (uv x + uv y), .lit (.bool (decide (115792089237316195423570985008687907853269984665640564039457584007913129639936 ≤ uv x + uv y)))])
  | _ => (False, .any)
def sSub : List PV → Prop × PV
  | [x, y] => (isU x ∧ isU y, .tup [u4 (uv x + 115792089237316195423570985008687907853269984665640564039457584007913129639936 - uv y), .lit (.bool (decide (uv x < uv y)))])
  | _ => (False, .any)
def sMul64 : List PV → Prop × PV
  | [x, y] => (isul x ∧ isul y, .tup [ul (ulv x * ulv y / 18446744073709551616), ul (ulv x * ulv y)])
  | _ => (False, .any)
def sMulAdd : List PV → Prop × PV
  | [x, y, c, d] => (isul x ∧ isul y ∧ isul c ∧ isul d, .tup [ul (ulv x * ulv y + ulv c + ulv d), ul ((ulv x * ulv y + ulv c + ulv d) / 18446744073709551616)])
  | _ => (False, .any)
def sMul : List PV → Prop × PV
  | [x, y] => (isU x ∧ isU y, .tup [u4 (uv x * uv y / 115792089237316195423570985008687907853269984665640564039457584007913129639936), u4 (uv x * uv y)])
  | _ => (False, .any)
def cmpN (a b : Nat) : Int := if a < b then -1 else if a = b then 0 else 1
def sCmp : List PV → Prop × PV
  | [x, y] => (isU x ∧ isU y, .lit (.int .i64 (cmpN (uv x) (uv y))))
  | _ => (False, .any)
def blen (n : Nat) : Nat := if n = 0 then 0 else n.log2 + 1
def sLen64 : List PV → Prop × PV
  | [x] => (isul x, .lit (.int .i64 (blen (ulv x))))
  | _ => (False, .any)
def sLen : List PV → Prop × PV
  | [x] => (isU x, .lit (.int .i64 (blen (uv x))))
  | _ => (False, .any)
def sBit : List PV → Prop × PV
  | [x, .lit (.int .i64 i)] => (isU x ∧ 0 ≤ i ∧ i < 256, .lit (.bool ((uv x).testBit i.toNat)))
  | _ => (False, .any)
def sZero : List PV → Prop × PV
  | [x] => (isU x, .lit (.bool (decide (uv x = 0))))
  | _ => (False, .any)
def sDiv : List PV → Prop × PV
  | [h, l, b] => (isU h ∧ isU l ∧ isU b, if uv b ≤ uv h then .tup [u4 0, u4 0, .lit (.bool false)] else
      .tup [u4 ((uv h * 115792089237316195423570985008687907853269984665640564039457584007913129639936 + uv l) / uv b), u4 ((uv h * 115792089237316195423570985008687907853269984665640564039457584007913129639936 + uv l) % uv b), .lit (.bool true)])
  | _ => (False, .any)
def sShr : List PV → Prop × PV
  | [x, .lit (.int .i64 n)] => (isU x ∧ -9223372036854775808 ≤ n ∧ n ≤ 9223372036854775807, u4 (uv x / 2 ^ n.toNat))
  | _ => (False, .any)
def rem0 (n m : Nat) : Nat := if m = 0 then 0 else n % m
def sReduce : List PV → Prop × PV
  | [h, l, m] => (isU h ∧ isU l ∧ isU m, u4 (rem0 (uv h * 115792089237316195423570985008687907853269984665640564039457584007913129639936 + uv l) (uv m)))
  | _ => (False, .any)
def sReduce2 : List PV → Prop × PV
  | [a, m] => (isU a ∧ isU m ∧ uv m ≠ 0, u4 (uv a % uv m))
  | _ => (False, .any)
def sAddMod : List PV → Prop × PV
  | [a, b, m] => (isU a ∧ isU b ∧ isU m, u4 (rem0 (uv a + uv b) (uv m)))
  | _ => (False, .any)
def sSubMod : List PV → Prop × PV
  | [a, b, m] => (isU a ∧ isU b ∧ isU m, u4 (rem0 (uv a + (uv m - uv b % uv m)) (uv m)))
  | _ => (False, .any)
def sMulMod : List PV → Prop × PV
  | [a, b, m] => (isU a ∧ isU b ∧ isU m, u4 (rem0 (uv a * uv b) (uv m)))
  | _ => (False, .any)
def sExpMod : List PV → Prop × PV
  | [a, b, m] => (isU a ∧ isU b ∧ isU m, u4 (rem0 (uv a ^ uv b) (uv m)))
  | _ => (False, .any)
def LC (L : LH) : Prop := ∀ cs, LE.cells cs ∈ L → closedL cs = true
theorem LC_nil : LC [] := by intro cs h; cases h
theorem LC_cons {cs : List PV} {L : LH} (h : closedL cs = true) (hr : LC L) : LC (.cells cs :: L) := by
  intro c hc
  rcases List.mem_cons.1 hc with e | hc
  · cases e; exact h
  · exact hr c hc
theorem LC_set {cs : List PV} {L : LH} {i : Nat} (h : closedL cs = true) (hr : LC L) : LC (L.set i (.cells cs)) := by
  intro c hc
  rcases List.mem_or_eq_of_mem_set hc with hc | e
  · exact hr c hc
  · cases e; exact h
def rowU (L : LH) (i : Nat) : Prop × Nat := match L[i]? with
  | some (.cells cs) => (isU (.agg cs), uv (.agg cs))
  | _ => (False, 0)
theorem rowU_out {L : LH} {i : Nat} (h : (rowU L i).1) : ∃ n, n < 115792089237316195423570985008687907853269984665640564039457584007913129639936 ∧ L[i]? = some (.cells (cl 4 n)) ∧ (rowU L i).2 = n := by
  unfold rowU at h ⊢
  split at h
  · rename_i cs hcs
    obtain ⟨n, hn, e⟩ := isU_out h
    have e' : cs = cl 4 n := by cases e; rfl
    subst e'
    refine ⟨n, hn, hcs, ?_⟩
    simp only [agg_cl, uv_u4]
    exact Nat.mod_eq_of_lt hn
  · exact h.elim
def tDouble : List PV → LH → OR
  | [.ptr i 0, x], L => ⟨LC L ∧ (rowU L i).1 ∧ isul x ∧ ulv x ≤ 1, ul ((rowU L i).2 / 57896044618658097711785492504343953926634992332820282019728792003956564819968), L.set i (.cells (cl 4 (2 * (rowU L i).2 + ulv x)))⟩
  | _, _ => .bad
def tTakeOff : List PV → LH → OR
  | [.ptr i 0, .ptr j 0, o], L => ⟨LC L ∧ (rowU L i).1 ∧ (rowU L j).1 ∧ i ≠ j ∧ isul o ∧ ulv o ≤ 1, .lit (.bool (decide ((rowU L j).2 ≤ ulv o * 115792089237316195423570985008687907853269984665640564039457584007913129639936 + (rowU L i).2))),
      L.set i (.cells (cl 4 (if (rowU L j).2 ≤ ulv o * 115792089237316195423570985008687907853269984665640564039457584007913129639936 + (rowU L i).2 then (rowU L i).2 + 115792089237316195423570985008687907853269984665640564039457584007913129639936 - (rowU L j).2 else (rowU L i).2)))⟩
  | _, _ => .bad
theorem take_same {L : LH} : L.take L.length = L := List.take_length
theorem set_same {L : LH} {i : Nat} {x : LE} (h : L[i]? = some x) : L.set i x = L := by
  have hi := (List.getElem?_eq_some_iff.1 h)
  obtain ⟨hi, e⟩ := hi
  rw [← e]; exact List.set_getElem_self hi
end Go.Ab
namespace Go.Ab
set_option linter.unusedVariables false
theorem clg0 (n : Nat) (d : PV) : (cl 4 n).getD 0 d = ul n := by rw [cl4]; rfl
theorem clg1 (n : Nat) (d : PV) : (cl 4 n).getD 1 d = ul (n / 18446744073709551616) := by rw [cl4]; rfl
theorem clg2 (n : Nat) (d : PV) : (cl 4 n).getD 2 d = ul (n / 340282366920938463463374607431768211456) := by rw [cl4]; rfl
theorem clg3 (n : Nat) (d : PV) : (cl 4 n).getD 3 d = ul (n / 6277101735386680763835789423207666416102355444464034512896) := by rw [cl4]; rfl
theorem splice_one (cs : List PV) (i : Nat) (v : PV) : splice cs i [v] = cs.set i v := rfl
theorem splice_cl (a b : Nat) : splice (cl 4 a) 0 (cl 4 b) = cl 4 b := by rw [cl4 a, cl4 b]; rfl
theorem cmp_le {a b : Nat} (h : cmpN a b ≤ 0) : a ≤ b := by
  unfold cmpN at h
  split at h
  · omega
  · split at h
    · omega
    · omega
theorem cmp_gt {a b : Nat} (h : ¬ cmpN a b ≤ 0) : b < a := by
  unfold cmpN at h
  split at h
  · omega
  · split at h
    · omega
    · omega
structure DivInv (S N b q r lo : Nat) : Prop where
  eq : N = q * b + r * S + lo
  ll : lo < S
  lr : r < b
  lq : q % S = 0
  lN : N < b * 115792089237316195423570985008687907853269984665640564039457584007913129639936
theorem DivInv.qlt {S N b q r lo : Nat} (h : DivInv S N b q r lo) : q < 115792089237316195423570985008687907853269984665640564039457584007913129639936 := by
  have h1 : q * b < b * 115792089237316195423570985008687907853269984665640564039457584007913129639936 := by have := h.eq; have := h.lN; omega
  rw [Nat.mul_comm b] at h1
  exact Nat.lt_of_mul_lt_mul_right h1
theorem DivInv.low {S N b q r lo d l : Nat} (h : DivInv (2 * S) N b q r lo) (hd : lo = d * S + l) (hl : l < S) (hs : 0 < S) (hlt : 2 * r + d < b) : DivInv S N b q (2 * r + d) l := by
  refine ⟨?_, hl, hlt, ?_, h.lN⟩
  · rw [h.eq, hd, Nat.add_mul, show r * (2 * S) = 2 * r * S by rw [← Nat.mul_assoc, Nat.mul_comm r 2]]
    omega
  · have := h.lq
    exact Nat.mod_eq_zero_of_dvd (Nat.dvd_trans (Nat.dvd_mul_left S 2) (Nat.dvd_of_mod_eq_zero this))
theorem DivInv.high {S N b q r lo d l : Nat} (h : DivInv (2 * S) N b q r lo) (hd : lo = d * S + l) (hl : l < S) (hs : 0 < S) (hd1 : d ≤ 1) (hle : b ≤ 2 * r + d) : DivInv S N b (q + S) (2 * r + d - b) l := by
  refine ⟨?_, hl, ?_, ?_, h.lN⟩
  · have e1 : (q + S) * b = q * b + b * S := by rw [Nat.add_mul, Nat.mul_comm S b]
    have e2 : (2 * r + d - b) * S + b * S = (2 * r + d) * S := by rw [← Nat.add_mul]; congr 1; omega
    have e3 : (2 * r + d) * S = 2 * r * S + d * S := Nat.add_mul ..
    have e4 : r * (2 * S) = 2 * r * S := by rw [← Nat.mul_assoc, Nat.mul_comm r 2]
    have := h.eq
    omega
  · have := h.lr; omega
  · have h2 := Nat.dvd_trans (Nat.dvd_mul_left S 2) (Nat.dvd_of_mod_eq_zero h.lq)
    exact Nat.mod_eq_zero_of_dvd (Nat.dvd_add h2 (Nat.dvd_refl S))
theorem DivInv.done {N b q r lo : Nat} (h : DivInv 1 N b q r lo) : N / b = q ∧ N % b = r := by
  have h1 := h.eq
  have h2 := h.ll
  have h3 := h.lr
  have e : lo = 0 := by omega
  subst e
  have e2 : N = r + b * q := by rw [h1, Nat.mul_comm b q]; omega
  constructor
  · rw [e2, Nat.add_mul_div_left _ _ (by omega), Nat.div_eq_of_lt h3, Nat.zero_add]
  · rw [e2, Nat.add_mul_mod_self_left, Nat.mod_eq_of_lt h3]
theorem DivInv.early {S N b q : Nat} (h : DivInv S N b q 0 0) : N / b = q ∧ N % b = 0 := by
  have h1 := h.eq
  have h3 := h.lr
  have e2 : N = b * q := by rw [h1, Nat.mul_comm b q]; omega
  constructor
  · rw [e2, Nat.mul_div_cancel_left _ h3]
  · rw [e2, Nat.mul_mod_right]
theorem DivInv.start {hi lo b : Nat} (h : hi < b) (hl : lo < 115792089237316195423570985008687907853269984665640564039457584007913129639936) : DivInv 115792089237316195423570985008687907853269984665640564039457584007913129639936 (hi * 115792089237316195423570985008687907853269984665640564039457584007913129639936 + lo) b 0 hi lo := by
  refine ⟨by omega, hl, h, by omega, ?_⟩
  have : (hi + 1) * 115792089237316195423570985008687907853269984665640564039457584007913129639936 ≤ b * 115792089237316195423570985008687907853269984665640564039457584007913129639936 := Nat.mul_le_mul_right _ h
  have e : (hi + 1) * 115792089237316195423570985008687907853269984665640564039457584007913129639936 = hi * 115792089237316195423570985008687907853269984665640564039457584007913129639936 + 115792089237316195423570985008687907853269984665640564039457584007913129639936 := Nat.succ_mul ..
  omega
theorem xor_top (x m : Nat) : x ^^^ (x / 2 ^ m * 2 ^ m) = x % 2 ^ m := by
  apply Nat.eq_of_testBit_eq
  intro i
  rw [Nat.testBit_xor, Nat.mul_comm, Nat.testBit_two_pow_mul, Nat.testBit_div_two_pow, Nat.testBit_mod_two_pow]
  by_cases h : i < m
  · have : ¬ (i ≥ m) := by omega
    simp [h, this]
  · have h2 : i ≥ m := by omega
    simp [h, h2, Nat.sub_add_cancel h2]
theorem or_top {y m : Nat} (h : y % (2 * 2 ^ m) = 0) : y ||| 2 ^ m = y + 2 ^ m := by
  have e : 2 * 2 ^ m = 2 ^ (m + 1) := by rw [Nat.pow_succ, Nat.mul_comm]
  rw [e] at h
  have hy : y = 2 ^ (m + 1) * (y / 2 ^ (m + 1)) := by have := Nat.mod_add_div y (2 ^ (m + 1)); omega
  have hlt : 2 ^ m < 2 ^ (m + 1) := Nat.pow_lt_pow_right (by decide) (by omega)
  rw [hy]
  exact (Nat.two_pow_add_eq_or_of_lt hlt _).symm
theorem two_dvd {m : Nat} (hm : m < 64) : ∃ c, 18446744073709551616 = 2 * 2 ^ m * c ∧ 0 < c := by
  refine ⟨2 ^ (63 - m), ?_, Nat.pow_pos (by decide)⟩
  rw [show 2 * 2 ^ m = 2 ^ (m + 1) by rw [Nat.pow_succ, Nat.mul_comm], ← Nat.pow_add, show m + 1 + (63 - m) = 64 by omega]
theorem bit_facts {lo D m : Nat} (hD : 0 < D) (hm : m < 64) (hl : lo < D * (2 * 2 ^ m)) :
    lo / D % 18446744073709551616 / 2 ^ m % 2 = lo / (D * 2 ^ m) ∧ lo / (D * 2 ^ m) ≤ 1 ∧ lo / D < 2 * 2 ^ m ∧ 2 * 2 ^ m ≤ 18446744073709551616 ∧ lo / D ^^^ lo / (D * 2 ^ m) * 2 ^ m = lo / D % 2 ^ m ∧ lo % (D * 2 ^ m) = lo % D + D * (lo / D % 2 ^ m) ∧ lo = lo / (D * 2 ^ m) * (D * 2 ^ m) + lo % (D * 2 ^ m) := by
  obtain ⟨c, hc, hc0⟩ := two_dvd hm
  have hx : lo / D < 2 * 2 ^ m := Nat.div_lt_of_lt_mul hl
  have hW : 2 * 2 ^ m ≤ 18446744073709551616 := by rw [hc]; exact Nat.le_mul_of_pos_right _ hc0
  have hp : 0 < 2 ^ m := Nat.pow_pos (by decide)
  have hd : lo / (D * 2 ^ m) = lo / D / 2 ^ m := (Nat.div_div_eq_div_mul ..).symm
  have h1 : lo / D / 2 ^ m < 2 := Nat.div_lt_of_lt_mul (by rw [Nat.mul_comm]; exact hx)
  refine ⟨?_, ?_, hx, hW, ?_, Nat.mod_mul, ?_⟩
  · rw [Nat.mod_eq_of_lt (a := lo / D) (by omega), hd]; exact Nat.mod_eq_of_lt h1
  · rw [hd]; omega
  · rw [hd]; exact xor_top _ _
  · exact (Nat.div_add_mod' ..).symm
theorem quo_facts {q D m : Nat} (hD : 0 < D) (hm : m < 64) (hq : q % (D * (2 * 2 ^ m)) = 0) :
    (q / D ||| 2 ^ m) = q / D + 2 ^ m ∧ q / D % 18446744073709551616 + 2 ^ m < 18446744073709551616 ∧ q % D = 0 := by
  obtain ⟨c, hc, hc0⟩ := two_dvd hm
  have h1 : q % D + D * (q / D % (2 * 2 ^ m)) = 0 := by rw [← Nat.mod_mul]; exact hq
  have h2 : q / D % (2 * 2 ^ m) = 0 := by
    rcases Nat.mul_eq_zero.1 (show D * (q / D % (2 * 2 ^ m)) = 0 by omega) with h | h
    · omega
    · exact h
  refine ⟨or_top h2, ?_, by omega⟩
  have hp : 0 < 2 ^ m := Nat.pow_pos (by decide)
  have h3 : q / D % 18446744073709551616 % (2 * 2 ^ m) = 0 := by rw [hc, Nat.mod_mul_right_mod, h2]
  have hlt : q / D % 18446744073709551616 < 18446744073709551616 := Nat.mod_lt _ (by decide)
  generalize q / D % 18446744073709551616 = y at *
  have hy : y = 2 * 2 ^ m * (y / (2 * 2 ^ m)) := by have := Nat.mod_add_div y (2 * 2 ^ m); omega
  have hlt2 : y / (2 * 2 ^ m) < c := by
    rw [hc] at hlt
    exact Nat.div_lt_of_lt_mul hlt
  have : 2 * 2 ^ m * (y / (2 * 2 ^ m) + 1) ≤ 2 * 2 ^ m * c := Nat.mul_le_mul_left _ hlt2
  rw [Nat.mul_add] at this
  omega
theorem div_row0 {lo m : Nat} (hm : m < 64) (hl : lo < 1 * (2 * 2 ^ m)) :
    [ul (lo ^^^ lo / (1 * 2 ^ m) * 2 ^ m), ul (lo / 18446744073709551616), ul (lo / 340282366920938463463374607431768211456), ul (lo / 6277101735386680763835789423207666416102355444464034512896)] = cl 4 (lo % (1 * 2 ^ m)) := by
  obtain ⟨h1, h2, h3, h4, h5, h6, h7⟩ := bit_facts (D := 1) (by decide) hm hl
  rw [h6]
  rw [Nat.div_one] at *
  try simp only [Nat.mod_one, Nat.zero_add, Nat.one_mul] at *
  rw [h5]
  have h8 : lo % 2 ^ m ≤ lo := Nat.mod_le _ _
  refine list4 ?_
  generalize lo % 2 ^ m = e at *
  generalize 2 * 2 ^ m = T at *
  omega
theorem div_quo0 {q m : Nat} (hm : m < 64) (hq : q % (1 * (2 * 2 ^ m)) = 0) (hlt : q < 115792089237316195423570985008687907853269984665640564039457584007913129639936) :
    [ul (q ||| 2 ^ m), ul (q / 18446744073709551616), ul (q / 340282366920938463463374607431768211456), ul (q / 6277101735386680763835789423207666416102355444464034512896)] = cl 4 (q + 1 * 2 ^ m) := by
  obtain ⟨h1, h2, h3⟩ := quo_facts (D := 1) (by decide) hm hq
  simp only [Nat.div_one, Nat.mod_one, Nat.one_mul] at *
  rw [h1]
  refine list4 ?_
  generalize 2 ^ m = T at *
  omega
theorem div_row1 {lo m : Nat} (hm : m < 64) (hl : lo < 18446744073709551616 * (2 * 2 ^ m)) :
    [ul lo, ul (lo / 18446744073709551616 ^^^ lo / (18446744073709551616 * 2 ^ m) * 2 ^ m), ul (lo / 340282366920938463463374607431768211456), ul (lo / 6277101735386680763835789423207666416102355444464034512896)] = cl 4 (lo % (18446744073709551616 * 2 ^ m)) := by
  obtain ⟨h1, h2, h3, h4, h5, h6, h7⟩ := bit_facts (D := 18446744073709551616) (by decide) hm hl
  rw [h6]
  skip
  skip
  rw [h5]
  have h8 : lo / 18446744073709551616 % 2 ^ m ≤ lo / 18446744073709551616 := Nat.mod_le _ _
  refine list4 ?_
  generalize lo / 18446744073709551616 % 2 ^ m = e at *
  generalize 2 * 2 ^ m = T at *
  omega
theorem div_quo1 {q m : Nat} (hm : m < 64) (hq : q % (18446744073709551616 * (2 * 2 ^ m)) = 0) (hlt : q < 115792089237316195423570985008687907853269984665640564039457584007913129639936) :
    [ul q, ul (q / 18446744073709551616 ||| 2 ^ m), ul (q / 340282366920938463463374607431768211456), ul (q / 6277101735386680763835789423207666416102355444464034512896)] = cl 4 (q + 18446744073709551616 * 2 ^ m) := by
  obtain ⟨h1, h2, h3⟩ := quo_facts (D := 18446744073709551616) (by decide) hm hq
  skip
  rw [h1]
  refine list4 ?_
  generalize 2 ^ m = T at *
  omega
theorem div_row2 {lo m : Nat} (hm : m < 64) (hl : lo < 340282366920938463463374607431768211456 * (2 * 2 ^ m)) :
    [ul lo, ul (lo / 18446744073709551616), ul (lo / 340282366920938463463374607431768211456 ^^^ lo / (340282366920938463463374607431768211456 * 2 ^ m) * 2 ^ m), ul (lo / 6277101735386680763835789423207666416102355444464034512896)] = cl 4 (lo % (340282366920938463463374607431768211456 * 2 ^ m)) := by
  obtain ⟨h1, h2, h3, h4, h5, h6, h7⟩ := bit_facts (D := 340282366920938463463374607431768211456) (by decide) hm hl
  rw [h6]
  skip
  skip
  rw [h5]
  have h8 : lo / 340282366920938463463374607431768211456 % 2 ^ m ≤ lo / 340282366920938463463374607431768211456 := Nat.mod_le _ _
  refine list4 ?_
  generalize lo / 340282366920938463463374607431768211456 % 2 ^ m = e at *
  generalize 2 * 2 ^ m = T at *
  omega
theorem div_quo2 {q m : Nat} (hm : m < 64) (hq : q % (340282366920938463463374607431768211456 * (2 * 2 ^ m)) = 0) (hlt : q < 115792089237316195423570985008687907853269984665640564039457584007913129639936) :
    [ul q, ul (q / 18446744073709551616), ul (q / 340282366920938463463374607431768211456 ||| 2 ^ m), ul (q / 6277101735386680763835789423207666416102355444464034512896)] = cl 4 (q + 340282366920938463463374607431768211456 * 2 ^ m) := by
  obtain ⟨h1, h2, h3⟩ := quo_facts (D := 340282366920938463463374607431768211456) (by decide) hm hq
  skip
  rw [h1]
  refine list4 ?_
  generalize 2 ^ m = T at *
  omega
theorem div_row3 {lo m : Nat} (hm : m < 64) (hl : lo < 6277101735386680763835789423207666416102355444464034512896 * (2 * 2 ^ m)) :
    [ul lo, ul (lo / 18446744073709551616), ul (lo / 340282366920938463463374607431768211456), ul (lo / 6277101735386680763835789423207666416102355444464034512896 ^^^ lo / (6277101735386680763835789423207666416102355444464034512896 * 2 ^ m) * 2 ^ m)] = cl 4 (lo % (6277101735386680763835789423207666416102355444464034512896 * 2 ^ m)) := by
  obtain ⟨h1, h2, h3, h4, h5, h6, h7⟩ := bit_facts (D := 6277101735386680763835789423207666416102355444464034512896) (by decide) hm hl
  rw [h6]
  skip
  skip
  rw [h5]
  have h8 : lo / 6277101735386680763835789423207666416102355444464034512896 % 2 ^ m ≤ lo / 6277101735386680763835789423207666416102355444464034512896 := Nat.mod_le _ _
  refine list4 ?_
  generalize lo / 6277101735386680763835789423207666416102355444464034512896 % 2 ^ m = e at *
  generalize 2 * 2 ^ m = T at *
  omega
theorem div_quo3 {q m : Nat} (hm : m < 64) (hq : q % (6277101735386680763835789423207666416102355444464034512896 * (2 * 2 ^ m)) = 0) (hlt : q < 115792089237316195423570985008687907853269984665640564039457584007913129639936) :
    [ul q, ul (q / 18446744073709551616), ul (q / 340282366920938463463374607431768211456), ul (q / 6277101735386680763835789423207666416102355444464034512896 ||| 2 ^ m)] = cl 4 (q + 6277101735386680763835789423207666416102355444464034512896 * 2 ^ m) := by
  obtain ⟨h1, h2, h3⟩ := quo_facts (D := 6277101735386680763835789423207666416102355444464034512896) (by decide) hm hq
  skip
  rw [h1]
  refine list4 ?_
  generalize 2 ^ m = T at *
  omega
theorem div_step0 {N b q r lo m : Nat} (hm : m < 64) (h : DivInv (1 * 2 ^ (m + 1)) N b q r lo) :
    lo < 115792089237316195423570985008687907853269984665640564039457584007913129639936 ∧ ∃ d l, lo % 18446744073709551616 / 2 ^ m % 2 = d ∧ d ≤ 1 ∧ (cl 4 lo).set 0 (ul (lo ^^^ d * 2 ^ m)) = cl 4 l ∧ (cl 4 q).set 0 (ul (q ||| 2 ^ m)) = cl 4 (q + 1 * 2 ^ m) ∧
      (2 * r + d < b → DivInv (1 * 2 ^ m) N b q (2 * r + d) l) ∧ (b ≤ 2 * r + d → DivInv (1 * 2 ^ m) N b (q + 1 * 2 ^ m) (2 * r + d - b) l) := by
  have e1 : 1 * 2 ^ (m + 1) = 1 * (2 * 2 ^ m) := by rw [Nat.pow_succ, Nat.mul_comm (2 ^ m)]
  have e2 : 1 * 2 ^ (m + 1) = 2 * (1 * 2 ^ m) := by rw [e1, Nat.mul_left_comm]
  have hl : lo < 1 * (2 * 2 ^ m) := by rw [← e1]; exact h.ll
  have hq : q % (1 * (2 * 2 ^ m)) = 0 := by rw [← e1]; exact h.lq
  have hlt := h.qlt
  rw [e2] at h
  have hs : 0 < 1 * 2 ^ m := Nat.mul_pos (by decide) (Nat.pow_pos (by decide))
  obtain ⟨h1, h2, h3, h4, h5, h6, h7⟩ := bit_facts (D := 1) (by decide) hm hl
  have h8 := Nat.mul_le_mul_left 1 h4
  refine ⟨by omega, lo / (1 * 2 ^ m), lo % (1 * 2 ^ m), by rw [Nat.div_one] at h1; exact h1, h2, by rw [cl4 lo]; exact div_row0 hm hl, by rw [cl4 q]; exact div_quo0 hm hq hlt, h.low h7 (Nat.mod_lt _ hs) hs, h.high h7 (Nat.mod_lt _ hs) hs h2⟩
theorem div_step1 {N b q r lo m : Nat} (hm : m < 64) (h : DivInv (18446744073709551616 * 2 ^ (m + 1)) N b q r lo) :
    lo < 115792089237316195423570985008687907853269984665640564039457584007913129639936 ∧ ∃ d l, lo / 18446744073709551616 % 18446744073709551616 / 2 ^ m % 2 = d ∧ d ≤ 1 ∧ (cl 4 lo).set 1 (ul (lo / 18446744073709551616 ^^^ d * 2 ^ m)) = cl 4 l ∧ (cl 4 q).set 1 (ul (q / 18446744073709551616 ||| 2 ^ m)) = cl 4 (q + 18446744073709551616 * 2 ^ m) ∧
      (2 * r + d < b → DivInv (18446744073709551616 * 2 ^ m) N b q (2 * r + d) l) ∧ (b ≤ 2 * r + d → DivInv (18446744073709551616 * 2 ^ m) N b (q + 18446744073709551616 * 2 ^ m) (2 * r + d - b) l) := by
  have e1 : 18446744073709551616 * 2 ^ (m + 1) = 18446744073709551616 * (2 * 2 ^ m) := by rw [Nat.pow_succ, Nat.mul_comm (2 ^ m)]
  have e2 : 18446744073709551616 * 2 ^ (m + 1) = 2 * (18446744073709551616 * 2 ^ m) := by rw [e1, Nat.mul_left_comm]
  have hl : lo < 18446744073709551616 * (2 * 2 ^ m) := by rw [← e1]; exact h.ll
  have hq : q % (18446744073709551616 * (2 * 2 ^ m)) = 0 := by rw [← e1]; exact h.lq
  have hlt := h.qlt
  rw [e2] at h
  have hs : 0 < 18446744073709551616 * 2 ^ m := Nat.mul_pos (by decide) (Nat.pow_pos (by decide))
  obtain ⟨h1, h2, h3, h4, h5, h6, h7⟩ := bit_facts (D := 18446744073709551616) (by decide) hm hl
  have h8 := Nat.mul_le_mul_left 18446744073709551616 h4
  refine ⟨by omega, lo / (18446744073709551616 * 2 ^ m), lo % (18446744073709551616 * 2 ^ m), h1, h2, by rw [cl4 lo]; exact div_row1 hm hl, by rw [cl4 q]; exact div_quo1 hm hq hlt, h.low h7 (Nat.mod_lt _ hs) hs, h.high h7 (Nat.mod_lt _ hs) hs h2⟩
theorem div_step2 {N b q r lo m : Nat} (hm : m < 64) (h : DivInv (340282366920938463463374607431768211456 * 2 ^ (m + 1)) N b q r lo) :
    lo < 115792089237316195423570985008687907853269984665640564039457584007913129639936 ∧ ∃ d l, lo / 340282366920938463463374607431768211456 % 18446744073709551616 / 2 ^ m % 2 = d ∧ d ≤ 1 ∧ (cl 4 lo).set 2 (ul (lo / 340282366920938463463374607431768211456 ^^^ d * 2 ^ m)) = cl 4 l ∧ (cl 4 q).set 2 (ul (q / 340282366920938463463374607431768211456 ||| 2 ^ m)) = cl 4 (q + 340282366920938463463374607431768211456 * 2 ^ m) ∧
      (2 * r + d < b → DivInv (340282366920938463463374607431768211456 * 2 ^ m) N b q (2 * r + d) l) ∧ (b ≤ 2 * r + d → DivInv (340282366920938463463374607431768211456 * 2 ^ m) N b (q + 340282366920938463463374607431768211456 * 2 ^ m) (2 * r + d - b) l) := by
  have e1 : 340282366920938463463374607431768211456 * 2 ^ (m + 1) = 340282366920938463463374607431768211456 * (2 * 2 ^ m) := by rw [Nat.pow_succ, Nat.mul_comm (2 ^ m)]
  have e2 : 340282366920938463463374607431768211456 * 2 ^ (m + 1) = 2 * (340282366920938463463374607431768211456 * 2 ^ m) := by rw [e1, Nat.mul_left_comm]
  have hl : lo < 340282366920938463463374607431768211456 * (2 * 2 ^ m) := by rw [← e1]; exact h.ll
  have hq : q % (340282366920938463463374607431768211456 * (2 * 2 ^ m)) = 0 := by rw [← e1]; exact h.lq
  have hlt := h.qlt
  rw [e2] at h
  have hs : 0 < 340282366920938463463374607431768211456 * 2 ^ m := Nat.mul_pos (by decide) (Nat.pow_pos (by decide))
  obtain ⟨h1, h2, h3, h4, h5, h6, h7⟩ := bit_facts (D := 340282366920938463463374607431768211456) (by decide) hm hl
  have h8 := Nat.mul_le_mul_left 340282366920938463463374607431768211456 h4
  refine ⟨by omega, lo / (340282366920938463463374607431768211456 * 2 ^ m), lo % (340282366920938463463374607431768211456 * 2 ^ m), h1, h2, by rw [cl4 lo]; exact div_row2 hm hl, by rw [cl4 q]; exact div_quo2 hm hq hlt, h.low h7 (Nat.mod_lt _ hs) hs, h.high h7 (Nat.mod_lt _ hs) hs h2⟩
theorem div_step3 {N b q r lo m : Nat} (hm : m < 64) (h : DivInv (6277101735386680763835789423207666416102355444464034512896 * 2 ^ (m + 1)) N b q r lo) :
    lo < 115792089237316195423570985008687907853269984665640564039457584007913129639936 ∧ ∃ d l, lo / 6277101735386680763835789423207666416102355444464034512896 % 18446744073709551616 / 2 ^ m % 2 = d ∧ d ≤ 1 ∧ (cl 4 lo).set 3 (ul (lo / 6277101735386680763835789423207666416102355444464034512896 ^^^ d * 2 ^ m)) = cl 4 l ∧ (cl 4 q).set 3 (ul (q / 6277101735386680763835789423207666416102355444464034512896 ||| 2 ^ m)) = cl 4 (q + 6277101735386680763835789423207666416102355444464034512896 * 2 ^ m) ∧
      (2 * r + d < b → DivInv (6277101735386680763835789423207666416102355444464034512896 * 2 ^ m) N b q (2 * r + d) l) ∧ (b ≤ 2 * r + d → DivInv (6277101735386680763835789423207666416102355444464034512896 * 2 ^ m) N b (q + 6277101735386680763835789423207666416102355444464034512896 * 2 ^ m) (2 * r + d - b) l) := by
  have e1 : 6277101735386680763835789423207666416102355444464034512896 * 2 ^ (m + 1) = 6277101735386680763835789423207666416102355444464034512896 * (2 * 2 ^ m) := by rw [Nat.pow_succ, Nat.mul_comm (2 ^ m)]
  have e2 : 6277101735386680763835789423207666416102355444464034512896 * 2 ^ (m + 1) = 2 * (6277101735386680763835789423207666416102355444464034512896 * 2 ^ m) := by rw [e1, Nat.mul_left_comm]
  have hl : lo < 6277101735386680763835789423207666416102355444464034512896 * (2 * 2 ^ m) := by rw [← e1]; exact h.ll
  have hq : q % (6277101735386680763835789423207666416102355444464034512896 * (2 * 2 ^ m)) = 0 := by rw [← e1]; exact h.lq
  have hlt := h.qlt
  rw [e2] at h
  have hs : 0 < 6277101735386680763835789423207666416102355444464034512896 * 2 ^ m := Nat.mul_pos (by decide) (Nat.pow_pos (by decide))
  obtain ⟨h1, h2, h3, h4, h5, h6, h7⟩ := bit_facts (D := 6277101735386680763835789423207666416102355444464034512896) (by decide) hm hl
  have h8 := Nat.mul_le_mul_left 6277101735386680763835789423207666416102355444464034512896 h4
  refine ⟨by omega, lo / (6277101735386680763835789423207666416102355444464034512896 * 2 ^ m), lo % (6277101735386680763835789423207666416102355444464034512896 * 2 ^ m), h1, h2, by rw [cl4 lo]; exact div_row3 hm hl, by rw [cl4 q]; exact div_quo3 hm hq hlt, h.low h7 (Nat.mod_lt _ hs) hs, h.high h7 (Nat.mod_lt _ hs) hs h2⟩
end Go.Ab
namespace Go.Ab
open Go Go.RowKit
set_option linter.unusedVariables false
theorem cells_bv (b : UInt8) : (bv b).cells = [bv b] := rfl
theorem one_bv1 (b : UInt8) : (bv b).one = true := rfl
end Go.Ab
namespace Go.Ab
open Go Go.RowKit
set_option linter.unusedVariables false
variable {P : Program} {L : LH}
def decR (n : Nat) : List UInt8 := if h : n < 10 then [UInt8.ofNat (48 + n)] else UInt8.ofNat (48 + n % 10) :: decR (n / 10)
termination_by n
decreasing_by omega
theorem decR_step (n : Nat) : decR n = UInt8.ofNat (48 + n % 10) :: (if n / 10 = 0 then [] else decR (n / 10)) := by
  conv => lhs; unfold decR
  by_cases h : n < 10
  · rw [dif_pos h, if_pos (by omega), Nat.mod_eq_of_lt h]
  · rw [dif_neg h, if_neg (by omega)]
def dec (n : Nat) : List UInt8 := (decR n).reverse
theorem n_zero_mul (n : Nat) : 0 * n = 0 := by simp
theorem n_zero_add (n : Nat) : 0 + n = n := by omega
structure TextInv (n a : Nat) (bs : List UInt8) : Prop where
  ne : bs ≠ []
  eq : decR n = bs ++ (if a = 0 then [] else decR a)
  le : 10 ^ bs.length * a ≤ n
  len : bs.length ≤ 78
theorem TextInv.first (n : Nat) : TextInv n (n / 10) [UInt8.ofNat (48 + n % 10)] := by
  refine ⟨by simp, by rw [decR_step n]; rfl, by simp; omega, by simp⟩
theorem TextInv.next {n a : Nat} {bs : List UInt8} (h : TextInv n a bs) (hn : n < 115792089237316195423570985008687907853269984665640564039457584007913129639936) (ha : a ≠ 0) : TextInv n (a / 10) (bs ++ [UInt8.ofNat (48 + a % 10)]) := by
  have h1 := h.le
  have h2 : 10 * (a / 10) ≤ a := by omega
  refine ⟨by simp, ?_, ?_, ?_⟩
  · rw [h.eq, if_neg ha, decR_step a, List.append_assoc]; rfl
  · rw [List.length_append, List.length_singleton, Nat.pow_succ, Nat.mul_assoc]
    exact Nat.le_trans (Nat.mul_le_mul_left _ h2) h1
  · rw [List.length_append, List.length_singleton]
    rcases Nat.lt_or_ge bs.length 78 with hl | hl
    · omega
    · exfalso
      have h3 : 10 ^ 78 ≤ 10 ^ bs.length := Nat.pow_le_pow_right (by decide) hl
      have h4 : 10 ^ bs.length * 1 ≤ 10 ^ bs.length * a := Nat.mul_le_mul_left _ (by omega)
      have h5 : 115792089237316195423570985008687907853269984665640564039457584007913129639936 < 10 ^ 78 := by decide
      omega
theorem TextInv.done {n : Nat} {bs : List UInt8} (h : TextInv n 0 bs) : bs.reverse = dec n := by
  have := h.eq
  simp only [if_true, List.append_nil] at this
  rw [dec, this]
end Go.Ab
