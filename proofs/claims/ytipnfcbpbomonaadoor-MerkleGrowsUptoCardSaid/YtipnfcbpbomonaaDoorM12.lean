import Derived.Test.YtipnfcbpbomonaaDoorM11
import Derived.Test.YtipnfcbpbomonaaDoorM10
import Derived.Laws.Externs
import Derived.Shelf.Spec.BitsCarry
namespace Go.Ab
open Go Go.RowKit
set_option linter.unusedVariables false
set_option linter.unusedSimpArgs false
set_option linter.unusedVariables false
def s_non : ByteArray := ⟨#[108, 105, 103, 104, 116, 99, 108, 105, 101, 110, 116, 47, 110, 111, 110, 99, 101]⟩
def s_cha : ByteArray := ⟨#[108, 105, 103, 104, 116, 99, 108, 105, 101, 110, 116, 47, 99, 104, 97, 108, 108, 101, 110, 103, 101]⟩
def sec (x : Nat) : Prop := x ≠ 0 ∧ x < qP
instance (x : Nat) : Decidable (sec x) := inferInstanceAs (Decidable (_ ∧ _))
def pubV (x : Nat) : Nat := if sec x then gx 4 x else 0
def pubE (x : Nat) : Nat := if sec x then 0 else 60
attribute [irreducible] pubV pubE
def vld (p : Nat) : Bool := bif decide (p = 1) then false else mb p
attribute [irreducible] vld
def nonV (x m : Nat) : Nat := if tN (sb s_non) (by32 x ++ by32 m) % qP = 0 then 1 else tN (sb s_non) (by32 x ++ by32 m) % qP
attribute [irreducible] nonV
def chV (r p m : Nat) : Nat := tN (sb s_cha) (by32 r ++ by32 p ++ by32 m) % qP
attribute [irreducible] chV
def sgE (x m : Nat) : Nat := chV (gx 4 (nonV x m)) (gx 4 x) m
def sgS (x m : Nat) : Nat := (nonV x m + sgE x m * x % qP) % qP
def sigE (x m : Nat) : Nat := if sec x then sgE x m else 0
def sigS (x m : Nat) : Nat := if sec x then sgS x m else 0
attribute [irreducible] sigE sigS
def verP (p m e s : Nat) : Prop := vld p = true ∧ e < qP ∧ s < qP ∧ e = chV (gx 4 s * gx p (qP - e) % pP) p m
instance (p m e s : Nat) : Decidable (verP p m e s) := inferInstanceAs (Decidable (_ ∧ _))
theorem gx_mod (a : Nat) : gx 4 (a % qP) = gx 4 a := by rw [gx_eq, gx_eq]; exact pow_q four_q a
theorem gx_add (a b : Nat) : gx 4 a * gx 4 b % pP = gx 4 (a + b) := by rw [← pow_add4, gx_mod]
theorem gx_mul (a b : Nat) : gx (gx 4 a) b = gx 4 (a * b) := by rw [gx_eq, gx_eq, gx_eq, ← Nat.pow_mod, ← Nat.pow_mul]
theorem back {k e x : Nat} (he : e ≤ qP) : gx 4 ((k + e * x % qP) % qP) * gx (gx 4 x) (qP - e) % pP = gx 4 k := by
  rw [gx_mod, gx_mul, gx_add]
  have h1 : gx 4 (k + e * x % qP + x * (qP - e)) = gx 4 (k + e * x + x * (qP - e)) := by
    rw [← gx_mod, ← gx_mod (k + e * x + x * (qP - e))]
    congr 1
    rw [Nat.add_mod, Nat.add_mod k (e * x % qP), Nat.mod_mod, ← Nat.add_mod k, ← Nat.add_mod]
  rw [h1]
  have h2 : k + e * x + x * (qP - e) = k + qP * x := by
    rw [Nat.mul_comm x, Nat.add_assoc, ← Nat.add_mul, Nat.add_sub_cancel' he]
  rw [h2, ← gx_mod, Nat.add_mul_mod_self_left, gx_mod]
theorem h32_inj {a b : Nat} (ha : a < 2 ^ 256) (hb : b < 2 ^ 256) (h : by32 a = by32 b) : a = b := by
  have e : ∀ n, n < 2 ^ 256 → nb (by32 n) = n := by
    intro n hn
    have hk : ∀ k, nb (byK k n) = n % 2 ^ (8 * k) := by
      intro k
      induction k generalizing n with
      | zero => simp [byK, nb, Nat.mod_one]
      | succ k ih =>
        have h1 := byK_snoc k (n / 256) (UInt8.ofNat n)
        have h2 : n / 256 * 256 + (UInt8.ofNat n).toNat = n := by rw [UInt8.toNat_ofNat']; omega
        rw [h2] at h1
        rw [h1, nb_snoc, ih (n / 256) (by omega), UInt8.toNat_ofNat', show 8 * (k + 1) = 8 + 8 * k from by rw [Nat.mul_succ, Nat.add_comm], Nat.pow_add, Nat.mod_mul, show (2 : Nat) ^ 8 = 256 from rfl]
        rw [Nat.mul_comm, Nat.add_comm]
    have := hk 32
    rw [Nat.mod_eq_of_lt (show n < 2 ^ (8 * 32) from hn)] at this
    exact this
  rw [← e a ha, ← e b hb, h]
theorem intsOf_bs (l : List UInt8) : intsOf (l.map bv) = l.map fun x => (x.toNat : Int) := by
  induction l with
  | nil => rfl
  | cons a l ih => simp only [List.map_cons, bv, intsOf]; rw [← ih]
theorem ints_inj {a b : List UInt8} (h : (a.map fun x => (x.toNat : Int)) = b.map fun x => (x.toNat : Int)) : a = b := by
  induction a generalizing b with
  | nil => cases b with
    | nil => rfl
    | cons _ _ => cases h
  | cons x a ih => cases b with
    | nil => cases h
    | cons y b =>
      simp only [List.map_cons, List.cons.injEq] at h
      rw [ih h.2]
      have : x.toNat = y.toNat := by omega
      rw [UInt8.toNat_inj.1 this]
theorem hl_beq {a b : Nat} (ha : a < 2 ^ 256) (hb : b < 2 ^ 256) : (intsOf (hl a) == intsOf (hl b)) = decide (a = b) := by
  rw [Bool.eq_iff_iff, beq_iff_eq, decide_eq_true_eq]
  constructor
  · intro h
    rw [hl, hl, intsOf_bs, intsOf_bs] at h
    exact h32_inj ha hb (ints_inj h)
  · intro h; rw [h]
theorem neq_h {a b : Nat} (ha : a < 2 ^ 256) (hb : b < 2 ^ 256) : lB (!(intsOf (hl a) == intsOf (hl b))) = lB (decide (a ≠ b)) := by rw [hl_beq ha hb, decide_not]
def tkV (p t : Nat) : Nat := if vld p = true then (if p * gx 4 (t % qP) % pP = 1 then 0 else p * gx 4 (t % qP) % pP) else 0
def tkE (p t : Nat) : Nat := if vld p = true then (if p * gx 4 (t % qP) % pP = 1 then 5 else 0) else 60
def tsV (x t : Nat) : Nat := if sec x then (if (x + t % qP) % qP = 0 then 0 else (x + t % qP) % qP) else 0
def tsE (x t : Nat) : Nat := if sec x then (if (x + t % qP) % qP = 0 then 5 else 0) else 60
attribute [irreducible] tkV tkE tsV tsE
def dE0 (b : List UInt8) : Nat := nb ((b.take 32).take 32)
def dS0 (b : List UInt8) : Nat := nb ((b.drop 32).take 32)
def dOk (b : List UInt8) : Prop := dE0 b < qP ∧ dS0 b < qP
instance (b : List UInt8) : Decidable (dOk b) := inferInstanceAs (Decidable (_ ∧ _))
def dE (b : List UInt8) : Nat := if b.length = 64 ∧ dOk b then dE0 b else 0
def dS (b : List UInt8) : Nat := if b.length = 64 ∧ dOk b then dS0 b else 0
def dF (b : List UInt8) : Nat := if b.length = 64 then (if dOk b then 0 else 5) else 8
attribute [irreducible] dE dS dF
end Go.Ab
namespace Go.Ab
open Go Go.RowKit
set_option linter.unusedVariables false
set_option linter.unusedSimpArgs false
instance : Kd hl 32 := ⟨fun a => by simp [hl, len_by32], closedL_hl⟩
def bo1 (b : Bool) : List PV := [lB b]
instance : Kd bo1 1 := ⟨fun _ => rfl, fun _ => rfl⟩
def i1 (n : Nat) : List PV := [ln n]
instance : Kd i1 1 := ⟨fun _ => rfl, fun _ => rfl⟩
def lf (x : Nat × Nat) : List PV := ln x.1 :: hl x.2
instance : Kd lf 33 := ⟨fun a => by simp [lf, hl, len_by32], fun a => by simp [lf, closedL, closed, ln, closedL_hl]⟩
def pp2 (x : Nat × Nat) : List PV := hl x.1 ++ hl x.2
instance : Kd pp2 64 := ⟨fun a => by simp [pp2, hl, len_by32], fun a => closedL_app (closedL_hl _) (closedL_hl _)⟩
def lv (l : List Nat) : List PV := [roK hl l]
instance : Kd lv 1 := ⟨fun _ => rfl, fun a => by simp [lv, closedL, closed_roK]⟩
theorem rk_one {α : Type} {f : α → List PV} (e : α) : f e = rk f [e] := by simp [rk]
theorem ro_one {α : Type} {f : α → List PV} (e : α) : PV.ro 1 (f e) = roK f [e] := by simp [roK, rk]
theorem lnm : (∀ (α : Type) (a b : List α), (a ++ b).length = a.length + b.length) ∧ (∀ (α : Type) (a : List α) n, (a.take n).length = min n a.length) ∧ (∀ (α : Type) (a : List α) n, (a.drop n).length = a.length - n) ∧
    (∀ (α : Type) n (x : α), (List.replicate n x).length = n) ∧ (∀ (α : Type) (a : List α) i x, (a.set i x).length = a.length) ∧ (∀ (α : Type) (a : List α) x, (x :: a).length = a.length + 1) ∧ (∀ (α : Type), ([] : List α).length = 0) ∧
    (∀ n, (by32 n).length = 32) :=
  ⟨fun _ _ _ => List.length_append, fun _ _ _ => List.length_take, fun _ _ _ => List.length_drop, fun _ _ _ => List.length_replicate, fun _ _ _ _ => List.length_set, fun _ _ _ => List.length_cons, fun _ => rfl, len_by32⟩
theorem nd_t {p : Prop} [Decidable p] (h : (!decide p) = true) : ¬ p := fun e => by rw [decide_eq_true e] at h; cases h
theorem nd_f {p : Prop} [Decidable p] (h : (!decide p) = false) : p := by by_cases e : p; exact e; rw [decide_eq_false e] at h; cases h
theorem flatL_hl (n : Nat) : flatL (hl n) = true := flatL_bv _
def nd (a b : Nat) : Nat := sN ([1] ++ by32 a ++ by32 b)
theorem nd_lt (a b : Nat) : nd a b < 2 ^ 256 := sN_lt _
theorem nd_eq (a b : Nat) : h32 (sN ([1] ++ by32 a ++ by32 b)) = h32 (nd a b) := rfl
attribute [irreducible] nd
def up : List Nat → List Nat
  | a :: b :: r => nd a b :: up r
  | l => l
theorem len_up : ∀ l : List Nat, (up l).length = (l.length + 1) / 2
  | [] => rfl
  | [_] => by simp [up]
  | a :: b :: r => by simp only [up, List.length_cons, len_up r]; omega
theorem up_drop : ∀ (m : Nat) (l : List Nat), up (l.drop (2 * m)) = (up l).drop m
  | 0, l => by simp
  | m + 1, [] => by simp [up]
  | m + 1, [x] => by simp [up, show 2 * (m + 1) = 2 * m + 1 + 1 by omega]
  | m + 1, a :: b :: r => by
    rw [show 2 * (m + 1) = 2 * m + 1 + 1 by omega]
    simp only [List.drop_succ_cons, up]
    exact up_drop m r
theorem up_take : ∀ (m : Nat) (l : List Nat), up (l.take (2 * m)) = (up l).take m
  | 0, l => by simp [up]
  | m + 1, [] => by simp [up]
  | m + 1, [x] => by simp [up, show 2 * (m + 1) = 2 * m + 1 + 1 by omega]
  | m + 1, a :: b :: r => by
    rw [show 2 * (m + 1) = 2 * m + 1 + 1 by omega]
    simp only [List.take_succ_cons, up]
    rw [up_take m r]
def lev (l : List Nat) : Nat → List Nat
  | 0 => l
  | k + 1 => up (lev l k)
theorem lev_drop (l : List Nat) : ∀ (k i : Nat), lev (l.drop (i * 2 ^ k)) k = (lev l k).drop i
  | 0, i => by simp [lev]
  | k + 1, i => by
    have e : i * 2 ^ (k + 1) = 2 * i * 2 ^ k := by rw [Nat.pow_succ, Nat.mul_comm 2 i, Nat.mul_assoc, Nat.mul_comm 2]
    rw [e]
    simp only [lev]
    rw [lev_drop l k (2 * i), up_drop]
theorem lev_take (l : List Nat) : ∀ (k i : Nat), lev (l.take (i * 2 ^ k)) k = (lev l k).take i
  | 0, i => by simp [lev]
  | k + 1, i => by
    have e : i * 2 ^ (k + 1) = 2 * i * 2 ^ k := by rw [Nat.pow_succ, Nat.mul_comm 2 i, Nat.mul_assoc, Nat.mul_comm 2]
    rw [e]
    simp only [lev]
    rw [lev_take l k (2 * i), up_take]
def wdt (n k : Nat) : Nat := (n + 2 ^ k - 1) / 2 ^ k
theorem wdt_0 (n : Nat) : wdt n 0 = n := by simp [wdt]
theorem wdt_succ (n k : Nat) : wdt n (k + 1) = (wdt n k + 1) / 2 := by
  unfold wdt
  have hp : 0 < 2 ^ k := Nat.two_pow_pos k
  rw [← Nat.add_div_right _ hp, Nat.div_div_eq_div_mul, Nat.pow_succ]
  congr 1
  omega
theorem len_lev (l : List Nat) : ∀ k, (lev l k).length = wdt l.length k
  | 0 => by rw [wdt_0]; rfl
  | k + 1 => by rw [wdt_succ, ← len_lev l k]; exact len_up _
theorem wdt_le {n k : Nat} (h : 1 ≤ n) : wdt n k ≤ 1 ↔ n ≤ 2 ^ k := by
  unfold wdt
  have hp : 0 < 2 ^ k := Nat.two_pow_pos k
  rw [← Nat.lt_succ_iff, Nat.div_lt_iff_lt_mul hp]
  omega
theorem wdt_pos {n k : Nat} (h : 1 ≤ n) : 1 ≤ wdt n k := by
  unfold wdt
  have hp : 0 < 2 ^ k := Nat.two_pow_pos k
  rw [Nat.le_div_iff_mul_le hp]
  omega
theorem blen_le2 {m k : Nat} : blen m ≤ k ↔ m < 2 ^ k := by
  unfold blen
  split
  · rename_i h; subst h; simp [Nat.two_pow_pos]
  · rename_i h
    rw [← Nat.log2_lt h]
    omega
def ht (n : Nat) : Nat := blen (n - 1)
theorem ht_le {n k : Nat} (h : 1 ≤ n) : ht n ≤ k ↔ wdt n k ≤ 1 := by
  rw [wdt_le h, ht, blen_le2]; omega
theorem wdt_ht {n : Nat} (h : 1 ≤ n) : wdt n (ht n) = 1 := by
  have h1 := (ht_le h (k := ht n)).1 (Nat.le_refl _)
  have h2 := wdt_pos (k := ht n) h
  omega
theorem ht_1 : ht 1 = 0 := by decide +kernel
def rt (l : List Nat) : Nat := (lev l (ht l.length)).getD 0 0
theorem up_one {l : List Nat} (h : l.length ≤ 1) : up l = l := by
  match l, h with
  | [], _ => rfl
  | [_], _ => rfl
theorem lev_stay {l : List Nat} {k : Nat} (h : (lev l k).length ≤ 1) : ∀ d, lev l (k + d) = lev l k
  | 0 => rfl
  | d + 1 => by
    have := lev_stay h d
    show up (lev l (k + d)) = _
    rw [this, up_one h]
theorem rt_at {l : List Nat} {k : Nat} (h0 : 1 ≤ l.length) (h : (lev l k).length ≤ 1) : (lev l k).getD 0 0 = rt l := by
  have h1 : ht l.length ≤ k := (ht_le h0).2 (by rw [← len_lev]; exact h)
  have h2 : (lev l (ht l.length)).length ≤ 1 := by rw [len_lev, wdt_ht h0]; exact Nat.le_refl 1
  have := lev_stay h2 (k - ht l.length)
  rw [Nat.add_sub_cancel' h1] at this
  rw [this]; rfl
def rootV (l : List Nat) : Nat := if 1 ≤ l.length ∧ l.length ≤ 1024 then rt l else 0
theorem root_no {l : List Nat} (h : ¬ (1 ≤ l.length ∧ l.length ≤ 1024)) : h32 0 = h32 (rootV l) := by rw [rootV, if_neg h]
theorem root_yes {l : List Nat} {k : Nat} (h : 1 ≤ l.length ∧ l.length ≤ 1024) (hk : (lev l k).length ≤ 1) : h32 ((lev l k).getD 0 0) = h32 (rootV l) := by rw [rootV, if_pos h, rt_at h.1 hk]
theorem root_rt {l : List Nat} (h : 1 ≤ l.length ∧ l.length ≤ 1024) : rootV l = rt l := if_pos h
def prs : List Nat → List (List Nat)
  | a :: b :: r => [a, b] :: prs r
  | [a] => [[a]]
  | [] => []
theorem prs_at : ∀ (l : List Nat) (k : Nat), (prs l)[k]? = if 2 * k < l.length then some ((l.drop (2 * k)).take 2) else none
  | [], k => by simp [prs]
  | [a], 0 => by simp [prs]
  | [a], k + 1 => by simp [prs]
  | a :: b :: r, 0 => by simp [prs]
  | a :: b :: r, k + 1 => by
    have := prs_at r k
    simp only [prs, List.getElem?_cons_succ, this, show 2 * (k + 1) = 2 * k + 1 + 1 by omega, List.drop_succ_cons, List.length_cons]
    split <;> split <;> first | rfl | omega
theorem prs_len : ∀ l : List Nat, (prs l).length = (l.length + 1) / 2
  | [] => rfl
  | [a] => by simp [prs]
  | a :: b :: r => by simp only [prs, List.length_cons, prs_len r]; omega
def upc (l : List (List Nat)) : List Nat := l.map fun x => if x.length = 2 then nd (x.getD 0 0) (x.getD 1 0) else x.getD 0 0
theorem upc_prs : ∀ l : List Nat, upc (prs l) = up l
  | [] => by simp [prs, upc, up]
  | [a] => by simp [prs, upc, up]
  | a :: b :: r => by
    have := upc_prs r
    simp only [upc] at this
    simp only [prs, upc, up, List.map_cons, this]
    rfl
theorem len_upc (l : List (List Nat)) : (upc l).length = l.length := List.length_map _
theorem upc_2 {p : List (List Nat)} {x : List Nat} (h : x.length = 2) : upc p ++ [nd (x.getD 0 0) (x.getD 1 0)] = upc (p ++ [x]) := by
  simp only [upc, List.map_append, List.map_cons, List.map_nil, if_pos h]
theorem upc_1 {p : List (List Nat)} {x : List Nat} (h : x.length ≠ 2) : upc p ++ [x.getD 0 0] = upc (p ++ [x]) := by
  simp only [upc, List.map_append, List.map_cons, List.map_nil, if_neg h]
theorem prs_ok {l : List Nat} : ∀ x ∈ prs l, x.length = 1 ∨ x.length = 2 := by
  intro x hx
  obtain ⟨k, hk⟩ := List.mem_iff_getElem?.1 hx
  rw [prs_at] at hk
  split at hk
  · cases hk; rw [List.length_take, List.length_drop]; omega
  · cases hk
theorem len_lev1 (l : List Nat) (k : Nat) : (lev l (k + 1)).length = ((lev l k).length + 1) / 2 := len_up _
def lvk (l : List Nat) (k : Nat) : List (List Nat) := (List.range (k + 1)).map (lev l)
theorem len_lvk (l : List Nat) (k : Nat) : (lvk l k).length = k + 1 := by simp [lvk]
theorem lev_le {l : List Nat} : ∀ k, (lev l k).length ≤ l.length
  | 0 => Nat.le_refl _
  | k + 1 => by have := lev_le (l := l) k; rw [len_lev1]; omega
section
variable {w i h g k : Nat} {hs r : List Nat}
end
def inP (w i : Int) : Prop := 1 ≤ w ∧ w ≤ 1024 ∧ 0 ≤ i ∧ i < w
instance (w i : Int) : Decidable (inP w i) := inferInstanceAs (Decidable (_ ∧ _))
section
variable {W I h g k u : Nat} {hs r : List Nat} {w i : Int}
end
def okP (l : List Nat) (i : Int) : Prop := l.length ≤ 1024 ∧ 0 ≤ i ∧ i < l.length
instance (l : List Nat) (i : Int) : Decidable (okP l i) := inferInstanceAs (Decidable (_ ∧ _))
section
variable {l : List Nat} {i : Int} {k m : Nat}
end
theorem getD_some {l : List Nat} {i x : Nat} (h : l[i]? = some x) : l.getD i 0 = x := by rw [List.getD_eq_getElem?_getD, h]; rfl
theorem lev_one (x : Nat) : ∀ k, lev [x] k = [x]
  | 0 => rfl
  | k + 1 => by rw [lev, lev_one x k, up_one (by simp)]
theorem grow_eq {l : List Nat} {x : Nat} (k : Nat) (h : 2 ^ k ≤ l.length) (hk : 2 ^ k < 1024) : rootV (l.take (2 ^ k) ++ [x]) = nd (rootV (l.take (2 ^ k))) x := by
  have hp : 0 < 2 ^ k := Nat.two_pow_pos k
  have hm : (l.take (2 ^ k)).length = 2 ^ k := by rw [List.length_take]; omega
  obtain ⟨m, hmm⟩ : ∃ m, m = l.take (2 ^ k) := ⟨_, rfl⟩
  rw [← hmm] at hm ⊢
  have h1 := lev_take (m ++ [x]) k 1
  have h2 := lev_drop (m ++ [x]) k 1
  rw [Nat.one_mul, ← hm, List.take_left] at h1
  rw [Nat.one_mul, ← hm, List.drop_left] at h2
  rw [lev_one] at h2
  have hw : wdt m.length k ≤ 1 := (wdt_le (by omega)).2 (by omega)
  have hr := rt_at (l := m) (k := k) (by omega) (by rw [len_lev]; exact hw)
  have e1 : (lev m k).length = 1 := by
    have := len_lev m k
    have := wdt_pos (n := m.length) (k := k) (by omega)
    omega
  have e2 : lev m k = [rt m] := by
    match hl : lev m k, e1 with
    | [y], _ => rw [hl] at hr; rw [← hr]; rfl
  have e3 : lev (m ++ [x]) k = [rt m, x] := by
    rw [← List.take_append_drop 1 (lev (m ++ [x]) k), ← h1, ← h2, e2]; rfl
  have e4 : lev (m ++ [x]) (k + 1) = [nd (rt m) x] := by rw [lev, e3]; simp only [up]
  have e5 := rt_at (l := m ++ [x]) (k := k + 1) (by simp) (by rw [e4]; simp)
  rw [e4] at e5
  rw [root_rt (by simp; omega), root_rt (by omega), ← e5, List.getD_cons_zero]
def mkH (b : UInt8) (i : Nat) : Nat := nb (b :: UInt8.ofNat (i % 3) :: 7 :: List.replicate 29 0)
theorem mkH_hl (b : UInt8) (i : Nat) : hl (mkH b i) = (b :: UInt8.ofNat (i % 3) :: 7 :: List.replicate 29 0).map bv := by rw [hl, mkH, nb_32 (by simp)]
def mkL (s : List UInt8) (n : Nat) : List Nat := (List.range n).map fun i => mkH (s.getD i 0) i
theorem len_mkL (s : List UInt8) (n : Nat) : (mkL s n).length = n := by simp [mkL]
theorem mkL_s (s : List UInt8) (n : Nat) : mkL s n ++ [mkH (s.getD n 0) n] = mkL s (n + 1) := by simp [mkL, List.range_succ]
theorem cv_nb {a : Nat} : cn .u8 (ln a) = bv (UInt8.ofNat a) := by
  show PV.lit (.int .u8 (IntKind.u8.wrap _)) = PV.lit (.int .u8 ((UInt8.ofNat a).toNat : Int))
  rw [UInt8.toNat_ofNat']
  rfl
section
variable {l hs : List Nat} {w f : List Bool} {k i : Nat}
end
def okW2 (l : List Nat) (w : List Bool) : Prop := l.length ≤ 1024 ∧ 1 ≤ l.length ∧ w.length = l.length
instance (l : List Nat) (w : List Bool) : Decidable (okW2 l w) := inferInstanceAs (Decidable (_ ∧ _))
section
variable {l : List Nat} {w : List Bool} {m m2 : Nat}
end
theorem ht_3 : ht 3 = 2 := by decide +kernel
theorem sane_1 (a : Nat) : rootV [a] = a := by rw [root_rt (by simp), rt, show ht [a].length = 0 from ht_1]; rfl
theorem sane_3 (a b c : Nat) : rootV [a, b, c] = nd (nd a b) c := by
  rw [root_rt (by simp), rt, show ht [a, b, c].length = 2 from ht_3]
  simp only [lev, up, List.getD_cons_zero]
theorem sane_n : nd (2 ^ 248) (2 ^ 249) ≠ nd (2 ^ 249) (2 ^ 248) := by decide +kernel
end Go.Ab
namespace Go.Ab
open Go Go.RowKit
set_option linter.unusedVariables false
set_option linter.unusedSimpArgs false
variable {P : Program} {t e : TypeId}
section
variable {α β γ : Type} {fa : α → List PV} {fb : β → List PV} {fc : γ → List PV} {oka : α → Prop} {okb : β → Prop} {okc : γ → Prop}
end
end Go.Ab
namespace Go.Ab
open Go Go.RowKit
set_option linter.unusedVariables false
set_option linter.unusedSimpArgs false
theorem roK_small {α : Type} {f : α → List PV} {x : List α} {w : World} {v : Value} {B : Nat} (r : RepV no [] w (roK f x) v) (h : ∀ a len cap, v = .slice a len cap → len ≤ B) : x.length ≤ B := by
  simp only [roK, RepV] at r
  obtain ⟨a, cap, hv, _⟩ := r
  exact h _ _ _ hv
end Go.Ab
namespace Go.Ab
open Go Go.RowKit
set_option linter.unusedVariables false
set_option linter.unusedSimpArgs false
variable {P : Program}
end Go.Ab
