import Derived.Test.YtipnfcbpbomonaaDoorM11
namespace Go.Ab
open Go Go.RowKit
set_option linter.unusedVariables false
set_option linter.unusedSimpArgs false
instance : Kd hl 32 := ⟨fun a => by simp [hl, len_by32], closedL_hl⟩
def bo1 (b : Bool) : List PV := [lB b]
instance : Kd bo1 1 := ⟨fun _ => rfl, fun _ => rfl⟩
def i1 (n : Nat) : List PV := [ln n]
instance : Kd i1 1 := ⟨fun _ => rfl, fun _ => rfl⟩
def lf (x : Nat × Nat) : List PV := ln x.1 :: hl x.2
instance : Kd lf 33 := ⟨fun a => by simp [lf, hl, len_by32], fun a => by simp [lf, closedL, closed, ln, closedL_hl]⟩
def pp2 (x : Nat × Nat) : List PV := hl x.1 ++ hl x.2
instance : Kd pp2 64 := ⟨fun a => by simp [pp2, hl, len_by32], fun a => closedL_app (closedL_hl _) (closedL_hl _)⟩
def lv (l : List Nat) : List PV := [roK hl l]
instance : Kd lv 1 := ⟨fun _ => rfl, fun a => by simp [lv, closedL, closed_roK]⟩
theorem ro_one {α : Type} {f : α → List PV} (e : α) : PV.ro 1 (f e) = roK f [e] := by simp [roK, rk]
theorem lnm : (∀ (α : Type) (a b : List α), (a ++ b).length = a.length + b.length) ∧ (∀ (α : Type) (a : List α) n, (a.take n).length = min n a.length) ∧ (∀ (α : Type) (a : List α) n, (a.drop n).length = a.length - n) ∧
    (∀ (α : Type) n (x : α), (List.replicate n x).length = n) ∧ (∀ (α : Type) (a : List α) i x, (a.set i x).length = a.length) ∧ (∀ (α : Type) (a : List α) x, (x :: a).length = a.length + 1) ∧ (∀ (α : Type), ([] : List α).length = 0) ∧
    (∀ n, (by32 n).length = 32) :=
  ⟨fun _ _ _ => List.length_append, fun _ _ _ => List.length_take, fun _ _ _ => List.length_drop, fun _ _ _ => List.length_replicate, fun _ _ _ _ => List.length_set, fun _ _ _ => List.length_cons, fun _ => rfl, len_by32⟩
def oth (a : Nat) : Nat := if a % 2 = 0 then a + 1 else a - 1
theorem oth_x (a : Nat) : a ^^^ 1 = oth a := by
  unfold oth
  have h1 : (a ^^^ 1) / 2 = a / 2 := by rw [Nat.xor_div_two]; simp
  have h2 : (a ^^^ 1) % 2 = (a + 1) % 2 := by
    have h3 : (a ^^^ 1) % 2 ^ 1 = (a % 2 ^ 1) ^^^ (1 % 2 ^ 1) := Nat.xor_mod_two_pow
    rw [Nat.pow_one] at h3
    rcases Nat.mod_two_eq_zero_or_one a with h | h
    · rw [h, show (0 ^^^ 1 % 2 : Nat) = 1 from rfl] at h3; omega
    · rw [h, show (1 ^^^ 1 % 2 : Nat) = 0 from rfl] at h3; omega
  split <;> omega
theorem xor_n {a : Nat} (h : a < 9223372036854775807) : bn .xor (ln a) (ln 1) = ln (oth a) := by
  show PV.lit (.int .i64 (IntKind.i64.wrap ((BitVec.ofInt 64 (a : Int) ^^^ BitVec.ofInt 64 ((1 : Nat) : Int)).toNat : Int))) = PV.lit (.int .i64 (oth a : Int))
  have e1 : (BitVec.ofInt 64 (a : Int) ^^^ BitVec.ofInt 64 ((1 : Nat) : Int)).toNat = oth a := by
    rw [BitVec.ofInt_natCast, BitVec.ofInt_natCast, BitVec.toNat_xor, BitVec.toNat_ofNat, BitVec.toNat_ofNat, Nat.mod_eq_of_lt (by omega), Nat.mod_eq_of_lt (by omega), oth_x]
  have e2 : oth a ≤ 9223372036854775807 := by unfold oth; split <;> omega
  rw [e1, wrap_i (by omega) (by omega)]
theorem nd_t {p : Prop} [Decidable p] (h : (!decide p) = true) : ¬ p := fun e => by rw [decide_eq_true e] at h; cases h
theorem nd_f {p : Prop} [Decidable p] (h : (!decide p) = false) : p := by by_cases e : p; exact e; rw [decide_eq_false e] at h; cases h
theorem flatL_app : ∀ {a b : List PV}, flatL a = true → flatL b = true → flatL (a ++ b) = true
  | [], _, _, h => h
  | x :: r, b, h, hb => by
    simp only [List.cons_append, flatL, Bool.and_eq_true] at h ⊢
    exact ⟨h.1, flatL_app h.2 hb⟩
theorem flatL_hl (n : Nat) : flatL (hl n) = true := flatL_bv _
theorem flat_h32 (n : Nat) : flat (h32 n) = true := flatL_bv _
theorem flatL_pp2 (x : Nat × Nat) : flatL (pp2 x) = true := flatL_app (flatL_hl x.1) (flatL_hl x.2)
def nd (a b : Nat) : Nat := sN ([1] ++ by32 a ++ by32 b)
theorem nd_lt (a b : Nat) : nd a b < 2 ^ 256 := sN_lt _
theorem nd_eq (a b : Nat) : h32 (sN ([1] ++ by32 a ++ by32 b)) = h32 (nd a b) := rfl
attribute [irreducible] nd
def up : List Nat → List Nat
  | a :: b :: r => nd a b :: up r
  | l => l
theorem len_up : ∀ l : List Nat, (up l).length = (l.length + 1) / 2
  | [] => rfl
  | [_] => by simp [up]
  | a :: b :: r => by simp only [up, List.length_cons, len_up r]; omega
def lev (l : List Nat) : Nat → List Nat
  | 0 => l
  | k + 1 => up (lev l k)
def wdt (n k : Nat) : Nat := (n + 2 ^ k - 1) / 2 ^ k
theorem wdt_0 (n : Nat) : wdt n 0 = n := by simp [wdt]
theorem wdt_succ (n k : Nat) : wdt n (k + 1) = (wdt n k + 1) / 2 := by
  unfold wdt
  have hp : 0 < 2 ^ k := Nat.two_pow_pos k
  rw [← Nat.add_div_right _ hp, Nat.div_div_eq_div_mul, Nat.pow_succ]
  congr 1
  omega
theorem len_lev (l : List Nat) : ∀ k, (lev l k).length = wdt l.length k
  | 0 => by rw [wdt_0]; rfl
  | k + 1 => by rw [wdt_succ, ← len_lev l k]; exact len_up _
theorem wdt_le {n k : Nat} (h : 1 ≤ n) : wdt n k ≤ 1 ↔ n ≤ 2 ^ k := by
  unfold wdt
  have hp : 0 < 2 ^ k := Nat.two_pow_pos k
  rw [← Nat.lt_succ_iff, Nat.div_lt_iff_lt_mul hp]
  omega
theorem wdt_pos {n k : Nat} (h : 1 ≤ n) : 1 ≤ wdt n k := by
  unfold wdt
  have hp : 0 < 2 ^ k := Nat.two_pow_pos k
  rw [Nat.le_div_iff_mul_le hp]
  omega
theorem lt_wdt {n k i : Nat} (h : i * 2 ^ k < n) : i < wdt n k := by
  unfold wdt
  have hp : 0 < 2 ^ k := Nat.two_pow_pos k
  show i + 1 ≤ _
  rw [Nat.le_div_iff_mul_le hp, Nat.succ_mul]
  omega
theorem div_lt_wdt {n i k : Nat} (h : i < n) : i / 2 ^ k < wdt n k := lt_wdt (Nat.lt_of_le_of_lt (Nat.div_mul_le_self i (2 ^ k)) h)
theorem div_succ (i k : Nat) : i / 2 ^ (k + 1) = i / 2 ^ k / 2 := by rw [Nat.pow_succ, Nat.div_div_eq_div_mul]
theorem blen_le2 {m k : Nat} : blen m ≤ k ↔ m < 2 ^ k := by
  unfold blen
  split
  · rename_i h; subst h; simp [Nat.two_pow_pos]
  · rename_i h
    rw [← Nat.log2_lt h]
    omega
def ht (n : Nat) : Nat := blen (n - 1)
theorem ht_le {n k : Nat} (h : 1 ≤ n) : ht n ≤ k ↔ wdt n k ≤ 1 := by
  rw [wdt_le h, ht, blen_le2]; omega
theorem ht_gt {n k : Nat} (h : 1 ≤ n) : k < ht n ↔ 1 < wdt n k := by
  have := @ht_le n k h
  omega
theorem wdt_ht {n : Nat} (h : 1 ≤ n) : wdt n (ht n) = 1 := by
  have h1 := (ht_le h (k := ht n)).1 (Nat.le_refl _)
  have h2 := wdt_pos (k := ht n) h
  omega
theorem ht_40 {n : Nat} (h : 1 ≤ n) (h2 : n ≤ 1099511627776) : ht n ≤ 40 := (ht_le h).2 ((wdt_le h).2 (by simpa using h2))
theorem ht_1 : ht 1 = 0 := by decide +kernel
def rt (l : List Nat) : Nat := (lev l (ht l.length)).getD 0 0
theorem up_one {l : List Nat} (h : l.length ≤ 1) : up l = l := by
  match l, h with
  | [], _ => rfl
  | [_], _ => rfl
theorem lev_stay {l : List Nat} {k : Nat} (h : (lev l k).length ≤ 1) : ∀ d, lev l (k + d) = lev l k
  | 0 => rfl
  | d + 1 => by
    have := lev_stay h d
    show up (lev l (k + d)) = _
    rw [this, up_one h]
theorem rt_at {l : List Nat} {k : Nat} (h0 : 1 ≤ l.length) (h : (lev l k).length ≤ 1) : (lev l k).getD 0 0 = rt l := by
  have h1 : ht l.length ≤ k := (ht_le h0).2 (by rw [← len_lev]; exact h)
  have h2 : (lev l (ht l.length)).length ≤ 1 := by rw [len_lev, wdt_ht h0]; exact Nat.le_refl 1
  have := lev_stay h2 (k - ht l.length)
  rw [Nat.add_sub_cancel' h1] at this
  rw [this]; rfl
def rootV (l : List Nat) : Nat := if 1 ≤ l.length ∧ l.length ≤ 1024 then rt l else 0
theorem root_no {l : List Nat} (h : ¬ (1 ≤ l.length ∧ l.length ≤ 1024)) : h32 0 = h32 (rootV l) := by rw [rootV, if_neg h]
theorem root_yes {l : List Nat} {k : Nat} (h : 1 ≤ l.length ∧ l.length ≤ 1024) (hk : (lev l k).length ≤ 1) : h32 ((lev l k).getD 0 0) = h32 (rootV l) := by rw [rootV, if_pos h, rt_at h.1 hk]
theorem root_rt {l : List Nat} (h : 1 ≤ l.length ∧ l.length ≤ 1024) : rootV l = rt l := if_pos h
def prs : List Nat → List (List Nat)
  | a :: b :: r => [a, b] :: prs r
  | [a] => [[a]]
  | [] => []
theorem prs_at : ∀ (l : List Nat) (k : Nat), (prs l)[k]? = if 2 * k < l.length then some ((l.drop (2 * k)).take 2) else none
  | [], k => by simp [prs]
  | [a], 0 => by simp [prs]
  | [a], k + 1 => by simp [prs]
  | a :: b :: r, 0 => by simp [prs]
  | a :: b :: r, k + 1 => by
    have := prs_at r k
    simp only [prs, List.getElem?_cons_succ, this, show 2 * (k + 1) = 2 * k + 1 + 1 by omega, List.drop_succ_cons, List.length_cons]
    split <;> split <;> first | rfl | omega
theorem prs_len : ∀ l : List Nat, (prs l).length = (l.length + 1) / 2
  | [] => rfl
  | [a] => by simp [prs]
  | a :: b :: r => by simp only [prs, List.length_cons, prs_len r]; omega
def upc (l : List (List Nat)) : List Nat := l.map fun x => if x.length = 2 then nd (x.getD 0 0) (x.getD 1 0) else x.getD 0 0
theorem upc_prs : ∀ l : List Nat, upc (prs l) = up l
  | [] => by simp [prs, upc, up]
  | [a] => by simp [prs, upc, up]
  | a :: b :: r => by
    have := upc_prs r
    simp only [upc] at this
    simp only [prs, upc, up, List.map_cons, this]
    rfl
theorem len_upc (l : List (List Nat)) : (upc l).length = l.length := List.length_map _
theorem upc_2 {p : List (List Nat)} {x : List Nat} (h : x.length = 2) : upc p ++ [nd (x.getD 0 0) (x.getD 1 0)] = upc (p ++ [x]) := by
  simp only [upc, List.map_append, List.map_cons, List.map_nil, if_pos h]
theorem upc_1 {p : List (List Nat)} {x : List Nat} (h : x.length ≠ 2) : upc p ++ [x.getD 0 0] = upc (p ++ [x]) := by
  simp only [upc, List.map_append, List.map_cons, List.map_nil, if_neg h]
theorem prs_ok {l : List Nat} : ∀ x ∈ prs l, x.length = 1 ∨ x.length = 2 := by
  intro x hx
  obtain ⟨k, hk⟩ := List.mem_iff_getElem?.1 hx
  rw [prs_at] at hk
  split at hk
  · cases hk; rw [List.length_take, List.length_drop]; omega
  · cases hk
theorem len_lev1 (l : List Nat) (k : Nat) : (lev l (k + 1)).length = ((lev l k).length + 1) / 2 := len_up _
def lvk (l : List Nat) (k : Nat) : List (List Nat) := (List.range (k + 1)).map (lev l)
theorem len_lvk (l : List Nat) (k : Nat) : (lvk l k).length = k + 1 := by simp [lvk]
theorem lev_le {l : List Nat} : ∀ k, (lev l k).length ≤ l.length
  | 0 => Nat.le_refl _
  | k + 1 => by have := lev_le (l := l) k; rw [len_lev1]; omega
def folS (w i h : Nat) (hs : List Nat) : Nat → Option (Nat × List Nat)
  | 0 => some (h, hs)
  | k + 1 => match folS w i h hs k with
    | none => none
    | some (g, r) => if 1 < wdt w k ∧ oth (i / 2 ^ k) < wdt w k then (match r with
      | [] => none
      | x :: r' => some (if i / 2 ^ k % 2 = 0 then nd g x else nd x g, r')) else some (g, r)
section
variable {w i h g k : Nat} {hs r : List Nat}
theorem folS_stay (h1 : 1 ≤ w) (hk : wdt w k ≤ 1) : ∀ d, folS w i h hs (k + d) = folS w i h hs k
  | 0 => rfl
  | d + 1 => by
    have hd : wdt w (k + d) ≤ 1 := (ht_le h1).1 (Nat.le_trans ((ht_le h1).2 hk) (by omega))
    show folS w i h hs (k + d + 1) = _
    rw [folS, folS_stay h1 hk d]
    cases folS w i h hs k with
    | none => rfl
    | some s => simp only; rw [if_neg (by omega)]
theorem folS_none (hk : folS w i h hs k = none) : ∀ d, folS w i h hs (k + d) = none
  | 0 => hk
  | d + 1 => by show folS w i h hs (k + d + 1) = _; rw [folS, folS_none hk d]
theorem folS_skip (hk : folS w i h hs k = some (g, r)) (h2 : ¬ oth (i / 2 ^ k) < wdt w k) : folS w i h hs (k + 1) = some (g, r) := by
  rw [folS, hk]; simp only; rw [if_neg (fun e => h2 e.2)]
theorem folS_end (hk : folS w i h hs k = some (g, [])) (h1 : 1 < wdt w k) (h2 : oth (i / 2 ^ k) < wdt w k) : folS w i h hs (k + 1) = none := by
  rw [folS, hk]; simp only; rw [if_pos ⟨h1, h2⟩]
theorem folS_step (hk : folS w i h hs k = some (g, r)) (h1 : 1 < wdt w k) (h2 : oth (i / 2 ^ k) < wdt w k) (hr : 0 < r.length) :
    folS w i h hs (k + 1) = some (if i / 2 ^ k % 2 = 0 then nd g (r.getD 0 0) else nd (r.getD 0 0) g, r.drop 1) := by
  rw [folS, hk]; simp only; rw [if_pos ⟨h1, h2⟩]
  cases r with
  | nil => simp at hr
  | cons x r => rfl
def folR (w i h : Nat) (hs : List Nat) : Option (Nat × List Nat) := folS w i h hs (ht w)
theorem folR_at (h1 : 1 ≤ w) (hk : wdt w k ≤ 1) : folS w i h hs k = folR w i h hs := by
  have h2 : wdt w (ht w) ≤ 1 := by rw [wdt_ht h1]; exact Nat.le_refl 1
  have := folS_stay (i := i) (h := h) (hs := hs) h1 h2 (k - ht w)
  rw [Nat.add_sub_cancel' ((ht_le h1).2 hk)] at this
  exact this
theorem folR_none (h1 : 1 ≤ w) (hk : folS w i h hs k = none) (hw : k ≤ ht w) : folR w i h hs = none := by
  have := folS_none hk (ht w - k)
  rw [Nat.add_sub_cancel' hw] at this
  exact this
end
def inP (w i : Int) : Prop := 1 ≤ w ∧ w ≤ 1024 ∧ 0 ≤ i ∧ i < w
instance (w i : Int) : Decidable (inP w i) := inferInstanceAs (Decidable (_ ∧ _))
def folE (w i : Int) (h : Nat) (hs : List Nat) : Nat := if inP w i then (match folR w.toNat i.toNat h hs with
  | some (_, []) => 0
  | _ => 8) else 5
def folV (w i : Int) (h : Nat) (hs : List Nat) : Nat := if inP w i then (match folR w.toNat i.toNat h hs with
  | some (g, []) => g
  | _ => 0) else 0
theorem fol_5 {w i : Int} {h : Nat} {hs : List Nat} (hn : ¬ inP w i) : PV.tup [h32 0, ln 5] = .tup [h32 (folV w i h hs), ln (folE w i h hs)] := by rw [folV, folE, if_neg hn, if_neg hn]
theorem fol_8 {w i : Int} {h : Nat} {hs : List Nat} (hn : inP w i) (hr : folR w.toNat i.toNat h hs = none) : PV.tup [h32 0, ln 8] = .tup [h32 (folV w i h hs), ln (folE w i h hs)] := by rw [folV, folE, if_pos hn, if_pos hn, hr]
theorem fol_8b {w i : Int} {h g : Nat} {hs r : List Nat} (hn : inP w i) (hr : folR w.toNat i.toNat h hs = some (g, r)) (h0 : 0 < r.length) : PV.tup [h32 0, ln 8] = .tup [h32 (folV w i h hs), ln (folE w i h hs)] := by
  cases r with
  | nil => simp at h0
  | cons x r => rw [folV, folE, if_pos hn, if_pos hn, hr]
theorem fol_0 {w i : Int} {h g : Nat} {hs r : List Nat} (hn : inP w i) (hr : folR w.toNat i.toNat h hs = some (g, r)) (h0 : r.length = 0) : PV.tup [h32 g, ln 0] = .tup [h32 (folV w i h hs), ln (folE w i h hs)] := by
  cases r with
  | nil => rw [folV, folE, if_pos hn, if_pos hn, hr]
  | cons x r => simp at h0
theorem ht_40u {n : Nat} (h2 : n ≤ 1099511627776) : ht n ≤ 40 := by
  rcases Nat.eq_zero_or_pos n with h | h
  · subst h; decide +kernel
  · exact ht_40 h h2
theorem wdt_n (n : Nat) : ∀ k, wdt n k ≤ n
  | 0 => by rw [wdt_0]; exact Nat.le_refl _
  | k + 1 => by have := wdt_n n k; rw [wdt_succ]; omega
theorem oth_ev (a : Nat) : oth a < a ↔ a % 2 = 1 := by unfold oth; split <;> omega
theorem oth_le (a : Nat) : oth a ≤ a + 1 := by unfold oth; split <;> omega
theorem getD_drop {l : List Nat} {u : Nat} : (l.drop u).getD 0 0 = l.getD u 0 := by simp [List.getD_eq_getElem?_getD]
section
variable {W I h g k u : Nat} {hs r : List Nat} {w i : Int}
theorem folS_s0 (hk : folS W I h hs k = some (g, r)) (h1 : 1 < wdt W k) (h2 : oth (I / 2 ^ k) < wdt W k) (hr : 0 < r.length) (he : I / 2 ^ k % 2 = 0) : folS W I h hs (k + 1) = some (nd g (r.getD 0 0), r.drop 1) := by
  rw [folS_step hk h1 h2 hr, if_pos he]
theorem folS_s1 (hk : folS W I h hs k = some (g, r)) (h1 : 1 < wdt W k) (h2 : oth (I / 2 ^ k) < wdt W k) (hr : 0 < r.length) (he : I / 2 ^ k % 2 ≠ 0) : folS W I h hs (k + 1) = some (nd (r.getD 0 0) g, r.drop 1) := by
  rw [folS_step hk h1 h2 hr, if_neg he]
theorem folT_s0 (hk : folS W I h hs k = some (g, hs.drop u)) (h1 : 1 < wdt W k) (h2 : oth (I / 2 ^ k) < wdt W k) (hr : u < hs.length) (he : I / 2 ^ k % 2 = 0) : folS W I h hs (k + 1) = some (nd g (hs.getD u 0), hs.drop (u + 1)) := by
  rw [folS_s0 hk h1 h2 (by rw [List.length_drop]; omega) he, getD_drop, List.drop_drop]
theorem folT_s1 (hk : folS W I h hs k = some (g, hs.drop u)) (h1 : 1 < wdt W k) (h2 : oth (I / 2 ^ k) < wdt W k) (hr : u < hs.length) (he : I / 2 ^ k % 2 ≠ 0) : folS W I h hs (k + 1) = some (nd (hs.getD u 0) g, hs.drop (u + 1)) := by
  rw [folS_s1 hk h1 h2 (by rw [List.length_drop]; omega) he, getD_drop, List.drop_drop]
theorem inP_w (hn : inP w i) : 1 ≤ w.toNat := by obtain ⟨h1, _⟩ := hn; omega
theorem fol_e8 (hn : inP w i) (hk : folS w.toNat i.toNat h hs k = some (g, r)) (h1 : 1 < wdt w.toNat k) (h2 : oth (i.toNat / 2 ^ k) < wdt w.toNat k) (hr : r.length = 0) : PV.tup [h32 0, ln 8] = .tup [h32 (folV w i h hs), ln (folE w i h hs)] := by
  obtain rfl : r = [] := List.length_eq_zero_iff.1 hr
  exact fol_8 hn (folR_none (inP_w hn) (folS_end hk h1 h2) ((ht_gt (inP_w hn)).2 h1))
theorem fol_e8b (hn : inP w i) (hk : folS w.toNat i.toNat h hs k = some (g, r)) (h1 : wdt w.toNat k ≤ 1) (hr : 0 < r.length) : PV.tup [h32 0, ln 8] = .tup [h32 (folV w i h hs), ln (folE w i h hs)] :=
  fol_8b hn ((folR_at (inP_w hn) h1).symm.trans hk) hr
theorem fol_e0 (hn : inP w i) (hk : folS w.toNat i.toNat h hs k = some (g, r)) (h1 : wdt w.toNat k ≤ 1) (hr : r.length = 0) : PV.tup [h32 g, ln 0] = .tup [h32 (folV w i h hs), ln (folE w i h hs)] :=
  fol_0 hn ((folR_at (inP_w hn) h1).symm.trans hk) hr
end
def okP (l : List Nat) (i : Int) : Prop := l.length ≤ 1024 ∧ 0 ≤ i ∧ i < l.length
instance (l : List Nat) (i : Int) : Decidable (okP l i) := inferInstanceAs (Decidable (_ ∧ _))
section
variable {l : List Nat} {i : Int} {k m : Nat}
end
theorem getD_some {l : List Nat} {i x : Nat} (h : l[i]? = some x) : l.getD i 0 = x := by rw [List.getD_eq_getElem?_getD, h]; rfl
section
variable {l hs : List Nat} {w f : List Bool} {k i : Nat}
end
def okW2 (l : List Nat) (w : List Bool) : Prop := l.length ≤ 1024 ∧ 1 ≤ l.length ∧ w.length = l.length
instance (l : List Nat) (w : List Bool) : Decidable (okW2 l w) := inferInstanceAs (Decidable (_ ∧ _))
section
variable {l : List Nat} {w : List Bool} {m m2 : Nat}
end
theorem ht_3 : ht 3 = 2 := by decide +kernel
theorem sane_1 (a : Nat) : rootV [a] = a := by rw [root_rt (by simp), rt, show ht [a].length = 0 from ht_1]; rfl
theorem sane_3 (a b c : Nat) : rootV [a, b, c] = nd (nd a b) c := by
  rw [root_rt (by simp), rt, show ht [a, b, c].length = 2 from ht_3]
  simp only [lev, up, List.getD_cons_zero]
theorem sane_n : nd (2 ^ 248) (2 ^ 249) ≠ nd (2 ^ 249) (2 ^ 248) := by decide +kernel
end Go.Ab
namespace Go.Ab
open Go Go.RowKit
set_option linter.unusedVariables false
set_option linter.unusedSimpArgs false
set_option linter.unusedVariables false
def Rd (P : Program) (t : TypeId) {α : Type} (f : α → List PV) (ok : α → Prop) : Prop :=
  ∀ {H : Type} {enc : TypeId × Value → H} {W : World} {base : Nat} {sp : Nat → Bool} {held : Bool} {fuel : Nat} {cs : List Value} {x : DataW H × List MemPlace},
    DataW.trod enc P W base sp held fuel t cs = some x → ∃ a, ok a ∧ (∀ v ∈ cs, v.oneCell' = true) ∧ RepL no [] W (f a) cs
section
variable {P : Program} {t e : TypeId} {α β : Type} {f : α → List PV} {ok : α → Prop} {g : β → List PV} {ok' : β → Prop} {k n : Nat}
theorem rd_map (h : Rd P t f ok) (hm : ∀ a, ok a → ∃ b, ok' b ∧ g b = f a) : Rd P t g ok' := fun hd => by
  obtain ⟨a, h1, h2, h3⟩ := h hd
  obtain ⟨b, h4, h5⟩ := hm a h1
  exact ⟨b, h4, h2, by rw [h5]; exact h3⟩
theorem rd_int {q : IntKind} (ht : P.underlying t = some (.int q)) : Rd P t (fun z : Int => [.lit (.int q z)]) (fun z => (Lit.int q z).wf = true) := fun hd => by
  obtain ⟨z, rfl, _, wz⟩ := DataW.trod_int ht hd
  exact ⟨z, wz, by simp [Value.oneCell'], by simp [RepL, RepV]⟩
theorem rd_u8 (ht : P.underlying t = some (.int .u8)) : Rd P t b1 (fun _ => True) :=
  rd_map (rd_int ht) fun z wz => by
    have hw := wf_u8 wz
    refine ⟨UInt8.ofNat z.toNat, trivial, ?_⟩
    simp only [b1, bv]
    congr 3
    rw [UInt8.toNat_ofNat']
    omega
theorem list_choice {Q : Nat → α → Prop} : ∀ {n : Nat}, (∀ i, i < n → ∃ a, Q i a) → ∃ l : List α, l.length = n ∧ ∀ i a, l[i]? = some a → Q i a
  | 0, _ => ⟨[], rfl, fun i a h => by simp at h⟩
  | n + 1, h => by
    obtain ⟨l, hl, hq⟩ := list_choice (n := n) fun i hi => h i (by omega)
    obtain ⟨a, ha⟩ := h n (by omega)
    refine ⟨l ++ [a], by simp [hl], fun i b hb => ?_⟩
    rw [List.getElem?_append] at hb
    split at hb
    · exact hq i b hb
    · have : i = n := by
        have := (List.getElem?_eq_some_iff.1 hb).1
        simp at this; omega
      subst this
      rw [hl, Nat.sub_self] at hb
      cases hb
      exact ha
theorem repRow_app {X : Nat → Prop} {β : List Base} {w : World} {b : Nat} : ∀ {ps qs : List PV} {off : Nat}, RepRow X β w b off ps → RepRow X β w b (off + ps.length) qs → RepRow X β w b off (ps ++ qs)
  | [], qs, off, _, h => by simpa using h
  | p :: ps, qs, off, h, h2 => by
    simp only [List.cons_append, RepRow] at h ⊢
    exact ⟨h.1, repRow_app h.2 (by rw [List.length_cons] at h2; rw [show off + 1 + ps.length = off + (ps.length + 1) by omega]; exact h2)⟩
theorem cells_at {W : World} {base b off : Nat} {k : Nat} {cs : List Value} (h : W.cells? base ⟨b, off, none⟩ k = some cs) : cs.length = k ∧ ∀ i v, cs[i]? = some v → W.cell? ⟨b, off + i, none⟩ = some v := by
  unfold World.cells? at h
  split at h
  · have hl := mapM_some_length h
    rw [List.length_range] at hl
    refine ⟨hl, fun i v hv => ?_⟩
    have hi : i < k := by have := (List.getElem?_eq_some_iff.1 hv).1; omega
    have := mapM_some_get h i i (by simp [hi])
    rw [hv] at this
    have ha : (Addr.mk b off none).add i = ⟨b, off + i, none⟩ := by
      unfold Addr.add
      split
      · rename_i h; subst h; rfl
      · rfl
    rw [ha] at this
    exact this
  · cases h
theorem rep_rows {X : Nat → Prop} {β : List Base} {w : World} {b : Nat} [h : Kd f k] : ∀ {l : List α} {off : Nat},
    (∀ i a, l[i]? = some a → ∃ cs : List Value, (∀ v ∈ cs, v.oneCell' = true) ∧ (∀ r v, cs[r]? = some v → w.cell? ⟨b, off + i * k + r, none⟩ = some v) ∧ RepL X β w (f a) cs) → RepRow X β w b off (rk f l)
  | [], off, _ => by simp [rk, RepRow]
  | a :: l, off, hq => by
    have e : rk f (a :: l) = f a ++ rk f l := rfl
    rw [e]
    obtain ⟨cs, h1, h2, h3⟩ := hq 0 a rfl
    refine repRow_app ?_ ?_
    · rw [RepRow.iff]
      intro i p hp
      have hl := RepL.length h3
      have hi : i < cs.length := by rw [hl]; exact (List.getElem?_eq_some_iff.1 hp).1
      have hv : cs[i]? = some cs[i] := by simp [hi]
      refine ⟨cs[i], ?_, h1 _ (List.getElem_mem hi), (RepL.iff.1 h3).2 i p _ hp hv⟩
      have := h2 i _ hv
      rwa [Nat.zero_mul, Nat.add_zero] at this
    · rw [h.len a]
      refine rep_rows fun i a' ha' => ?_
      obtain ⟨cs', g1, g2, g3⟩ := hq (i + 1) a' (by simpa using ha')
      refine ⟨cs', g1, fun r v hv => ?_, g3⟩
      have := g2 r v hv
      rw [Nat.succ_mul] at this
      rw [show off + k + i * k + r = off + (i * k + k) + r by omega]; exact this
theorem rd_slice [hK : Kd f k] (ht : P.underlying t = some (.slice e)) (hk : P.cellsOf e = k) (k0 : 0 < k) (h : Rd P e f ok) : Rd P t (fun l : List α => [roK f l]) (fun l => l.length ≤ maxLen ∧ ∀ a ∈ l, ok a) := by
  intro H enc W base sp held fuel cs x hd
  rcases DataW.trod_slice ht hd with ⟨rfl, _⟩ | ⟨a, len, cap, elems, rest, m, _, rfl, _, hb, hlc, hcm, hel, hi, _, _⟩
  · refine ⟨[], ⟨by simp, by simp⟩, by simp [Value.oneCell'], ?_⟩
    simp [RepL, RepV, roK, rk]
  · have hall : ∀ i, i < len → ∃ b, ok b ∧ ∃ cs : List Value, W.cells? base (a.add (i * k)) k = some cs ∧ (∀ v ∈ cs, v.oneCell' = true) ∧ RepL no [] W (f b) cs := by
      intro i hi2
      have h1 := hi i hi2
      have h2 : elems[i]? = some elems[i] := by simp [hel, hi2]
      rw [h2, Option.bind_eq_some_iff] at h1
      obtain ⟨cs, h3, h4⟩ := h1
      obtain ⟨b, h5, h6, h7⟩ := h h4
      rw [hk] at h3
      exact ⟨b, h5, cs, h3, h6, h7⟩
    obtain ⟨l, hl, hq⟩ := list_choice hall
    refine ⟨l, ⟨by omega, fun b hb => by obtain ⟨i, hi⟩ := List.getElem?_of_mem hb; exact (hq i b hi).1⟩, by simp [Value.oneCell'], ?_⟩
    simp only [RepL, RepV, roK]
    refine ⟨_, _, rfl, ⟨some a, cap, by rw [hl], by omega, ?_⟩, rfl⟩
    by_cases h0 : len = 0
    · left
      have : l = [] := List.length_eq_zero_iff.1 (by omega)
      subst this; rfl
    · right
      obtain ⟨b, off, sp2⟩ := a
      have hsp : sp2 = none := by
        have hl0 : l[0]? = some (l[0]'(by omega)) := List.getElem?_eq_getElem (by omega)
        obtain ⟨_, cs, h1, _, h3⟩ := hq 0 _ hl0
        rw [Nat.zero_mul] at h1
        have ha : (Addr.mk b off sp2).add 0 = ⟨b, off, sp2⟩ := by unfold Addr.add; rw [if_pos rfl]
        rw [ha] at h1
        unfold World.cells? at h1
        by_cases hbb : base ≤ b
        · rw [if_pos hbb] at h1
          have hlen := mapM_some_length h1
          rw [List.length_range] at hlen
          have := mapM_some_get h1 0 0 (by simp [k0])
          have hc0 : cs[0]? = some cs[0] := by simp [hlen, k0]
          rw [ha, hc0] at this
          cases sp2 with
          | none => rfl
          | some s =>
            simp only [World.cell?] at this
            split at this <;> simp at this
        · rw [if_neg hbb] at h1; cases h1
      subst hsp
      refine ⟨b, off, rfl, id, fun ⟨i, y, hb⟩ => by simp at hb, rep_rows fun i a' ha' => ?_⟩
      obtain ⟨_, cs, h1, h2, h3⟩ := hq i a' ha'
      have ha : (Addr.mk b off none).add (i * k) = ⟨b, off + i * k, none⟩ := by
        unfold Addr.add
        split
        · rename_i h; rw [h]; rfl
        · rfl
      rw [ha] at h1
      exact ⟨cs, h2, (cells_at h1).2, h3⟩
theorem repL_app {X : Nat → Prop} {β : List Base} {w : World} : ∀ {ps qs : List PV} {n : Nat} {cs : List Value}, ps.length = n → RepL X β w ps (cs.take n) → RepL X β w qs (cs.drop n) → RepL X β w (ps ++ qs) cs := by
  intro ps qs n cs hn h1 h2
  have := repL_append h1 h2
  rwa [List.take_append_drop] at this
theorem repL_flat {X : Nat → Prop} {β : List Base} {w : World} [h : Kd f k] : ∀ {l : List α} {cs : List Value}, cs.length = l.length * k → (∀ i a, l[i]? = some a → RepL X β w (f a) ((cs.drop (i * k)).take k)) → RepL X β w (rk f l) cs
  | [], cs, hc, _ => by
    have : cs = [] := List.length_eq_zero_iff.1 (by simpa using hc)
    subst this; simp [rk, RepL]
  | a :: l, cs, hc, hq => by
    have e : rk f (a :: l) = f a ++ rk f l := rfl
    rw [e]
    rw [List.length_cons, Nat.succ_mul] at hc
    refine repL_app (h.len a) (by simpa using hq 0 a rfl) (repL_flat (by rw [List.length_drop]; omega) fun i a' ha' => ?_)
    have := hq (i + 1) a' (by simpa using ha')
    rw [List.drop_drop, show k + i * k = (i + 1) * k by rw [Nat.succ_mul, Nat.add_comm]]
    exact this
theorem ones_of {cs : List Value} {n k : Nat} (hc : cs.length = n * k) (h : ∀ i, i < n → ∀ v ∈ (cs.drop (i * k)).take k, v.oneCell' = true) : ∀ v ∈ cs, v.oneCell' = true := by
  intro v hv
  obtain ⟨j, hj, rfl⟩ := List.getElem_of_mem hv
  have k0 : 0 < k := by
    rcases Nat.eq_zero_or_pos k with rfl | h
    · omega
    · exact h
  have hjn : j / k < n := (Nat.div_lt_iff_lt_mul k0).2 (by omega)
  refine h (j / k) hjn _ ?_
  have e : j / k * k + j % k = j := Nat.div_add_mod' j k
  have : ((cs.drop (j / k * k)).take k)[j % k]? = some cs[j] := by
    rw [List.getElem?_take, if_pos (Nat.mod_lt _ k0), List.getElem?_drop, e]
    simp [hj]
  exact List.mem_of_getElem? this
theorem rd_arr [hK : Kd f k] (ht : P.underlying t = some (.array n e)) (hk : P.cellsOf e = k) (hct : P.cellsOf t = n * k) (h : Rd P e f ok) : Rd P t (fun l : List α => rk f l) (fun l => l.length = n ∧ ∀ a ∈ l, ok a) := by
  intro H enc W base sp held fuel cs x hd
  obtain ⟨xs, m, _, _, hlen, hxs, hi⟩ := DataW.trod_array ht hd
  rw [hct] at hlen
  have hall : ∀ i, i < n → ∃ b, ok b ∧ (∀ v ∈ (cs.drop (i * k)).take k, v.oneCell' = true) ∧ RepL no [] W (f b) ((cs.drop (i * k)).take k) := by
    intro i hin
    have h1 := hi i hin
    have hx : xs[i]? = some xs[i] := by simp [hxs, hin]
    rw [hx, hk] at h1
    exact h h1
  obtain ⟨l, hl, hq⟩ := list_choice hall
  refine ⟨l, ⟨hl, fun b hb => by obtain ⟨i, hi⟩ := List.getElem?_of_mem hb; exact (hq i b hi).1⟩, ones_of hlen fun i hi => ?_, repL_flat (by rw [hlen, hl]) fun i a ha => (hq i a ha).2.2⟩
  exact (hq i _ (by simp [hl, hi] : l[i]? = some l[i])).2.1
theorem rd_one {w : World} {g : α → PV} (h : Rd P t (fun a => [g a]) ok) {H : Type} {enc : TypeId × Value → H} {sp : Nat → Bool} {held : Bool} {base : Nat} {v : Value} {d : DataW H} {ps : List MemPlace} (hv : v.cells.toList = [v])
    (hd : DataW.Trod enc P w base sp held t v d ps) : ∃ a, ok a ∧ RepV no [] w (g a) v := by
  obtain ⟨fuel, hf⟩ := hd
  rw [hv] at hf
  obtain ⟨a, h1, _, h3⟩ := h hf
  simp only [RepL] at h3
  obtain ⟨u, r, hu, h4, _⟩ := h3
  cases hu
  exact ⟨a, h1, h4⟩
end
end Go.Ab
namespace Go.Ab
open Go Go.RowKit
set_option linter.unusedVariables false
set_option linter.unusedSimpArgs false
set_option linter.unusedVariables false
variable {P : Program} {t e : TypeId}
def w1 (n : Nat) : List PV := [ul n]
instance : Kd w1 1 := ⟨fun _ => rfl, fun _ => rfl⟩
theorem rd_h32 (ht : P.underlying t = some (.array 32 e)) (he : P.underlying e = some (.int .u8)) (hc : P.cellsOf e = 1) (hct : P.cellsOf t = 32) : Rd P t hl (fun n => n < 2 ^ 256) :=
  rd_map (rd_arr (n := 32) ht hc hct (rd_u8 he)) fun l h => ⟨nb l, nb_lt h.1, by rw [← bl_hl h.1, bl_eq h.1, rk_b1]⟩
end Go.Ab
namespace Go.Ab
open Go Go.RowKit
set_option linter.unusedVariables false
set_option linter.unusedSimpArgs false
variable {P : Program} {t e : TypeId}
section
variable {α β γ : Type} {fa : α → List PV} {fb : β → List PV} {fc : γ → List PV} {oka : α → Prop} {okb : β → Prop} {okc : γ → Prop}
end
end Go.Ab
namespace Go.Ab
open Go Go.RowKit
set_option linter.unusedVariables false
set_option linter.unusedSimpArgs false
structure Tk where
  F : List Bool
  H : List Nat
  L : List (Nat × Nat)
structure Tr where
  s : Tk
  h : Nat
  e : Nat
structure Rc where
  a : Nat
  b : Nat
  L : List (Nat × Nat)
  e : Nat
structure Rr where
  s : Rc
  h : Nat
  m : Bool
section
variable {n k i : Nat} {F : List Bool} {H : List Nat} {L : List (Nat × Nat)}
section
variable {r1 : Tr}
end
end
def Tk.w (s : Tk) : Nat := s.L.length + s.H.length
section
variable {c : Int} {F : List Bool} {H : List Nat} {m a e : Nat} {l : List (Nat × Nat)}
end
section
variable {n k i a b e : Nat} {F : List Bool} {H : List Nat} {L : List (Nat × Nat)}
section
variable {r1 r2 : Rr}
end
end
end Go.Ab
namespace Go.Ab
open Go Go.RowKit
set_option linter.unusedVariables false
set_option linter.unusedSimpArgs false
section
variable {l : List Nat} {w : List Bool} {a m m2 k i n : Nat}
end
end Go.Ab
namespace Go.Ab
open Go Go.RowKit
set_option linter.unusedVariables false
set_option linter.unusedSimpArgs false
def prP (even : Bool) (g x : Nat) : Nat × Nat := if even then (g, x) else (x, g)
def prS (W I h : Nat) (hs : List Nat) : Nat → List (Nat × Nat) × Nat × Nat
  | 0 => ([], h, 0)
  | k + 1 => let s := prS W I h hs k
    if oth (I / 2 ^ k) < wdt W k ∧ s.2.2 < hs.length then
      (s.1 ++ [prP (decide (I / 2 ^ k % 2 = 0)) s.2.1 (hs.getD s.2.2 0)], nd (prP (decide (I / 2 ^ k % 2 = 0)) s.2.1 (hs.getD s.2.2 0)).1 (prP (decide (I / 2 ^ k % 2 = 0)) s.2.1 (hs.getD s.2.2 0)).2, s.2.2 + 1)
    else s
section
variable {W I h k : Nat} {hs : List Nat}
theorem prS_a (h1 : oth (I / 2 ^ k) < wdt W k) (h2 : (prS W I h hs k).2.2 < hs.length) (h3 : I / 2 ^ k % 2 = 0) : prS W I h hs (k + 1) = ((prS W I h hs k).1 ++ [((prS W I h hs k).2.1, hs.getD (prS W I h hs k).2.2 0)], nd (prS W I h hs k).2.1 (hs.getD (prS W I h hs k).2.2 0), (prS W I h hs k).2.2 + 1) := by
  rw [prS]; rw [if_pos ⟨h1, h2⟩, decide_eq_true h3]; rfl
theorem prS_b (h1 : oth (I / 2 ^ k) < wdt W k) (h2 : (prS W I h hs k).2.2 < hs.length) (h3 : I / 2 ^ k % 2 ≠ 0) : prS W I h hs (k + 1) = ((prS W I h hs k).1 ++ [(hs.getD (prS W I h hs k).2.2 0, (prS W I h hs k).2.1)], nd (hs.getD (prS W I h hs k).2.2 0) (prS W I h hs k).2.1, (prS W I h hs k).2.2 + 1) := by
  rw [prS]; rw [if_pos ⟨h1, h2⟩, decide_eq_false h3]; rfl
theorem prS_n (h1 : ¬ (oth (I / 2 ^ k) < wdt W k ∧ (prS W I h hs k).2.2 < hs.length)) : prS W I h hs (k + 1) = prS W I h hs k := by
  rw [prS]; rw [if_neg h1]
theorem prS_len (W I h : Nat) (hs : List Nat) : ∀ k, (prS W I h hs k).1.length ≤ k ∧ (prS W I h hs k).2.2 ≤ k
  | 0 => ⟨Nat.le_refl _, Nat.le_refl _⟩
  | k + 1 => by
    obtain ⟨h1, h2⟩ := prS_len W I h hs k
    rw [prS]
    split
    · refine ⟨by rw [List.length_append]; show _ + 1 ≤ _; omega, by show _ + 1 ≤ _; omega⟩
    · exact ⟨by omega, by omega⟩
theorem prS_lt (hh : h < 2 ^ 256) (hb : ∀ x ∈ hs, x < 2 ^ 256) : ∀ k, (prS W I h hs k).2.1 < 2 ^ 256 ∧ ∀ p ∈ (prS W I h hs k).1, p.1 < 2 ^ 256 ∧ p.2 < 2 ^ 256
  | 0 => ⟨hh, fun p hp => by cases hp⟩
  | k + 1 => by
    obtain ⟨h1, h2⟩ := prS_lt hh hb k
    rw [prS]
    split
    · rename_i hc
      have hx : hs.getD (prS W I h hs k).2.2 0 < 2 ^ 256 := by
        rw [List.getD_eq_getElem?_getD, List.getElem?_eq_getElem hc.2]
        exact hb _ (List.getElem_mem _)
      refine ⟨nd_lt _ _, fun p hp => ?_⟩
      rcases List.mem_append.1 hp with hp | hp
      · exact h2 p hp
      · rw [List.mem_singleton] at hp
        subst hp
        unfold prP
        split
        · exact ⟨h1, hx⟩
        · exact ⟨hx, h1⟩
    · exact ⟨h1, h2⟩
theorem getD_mem {α : Type} {l : List α} {i : Nat} {d : α} {Q : α → Prop} (h : ∀ x ∈ l, Q x) (hi : i < l.length) : Q (l.getD i d) := by
  rw [List.getD_eq_getElem?_getD, List.getElem?_eq_getElem hi]
  exact h _ (List.getElem_mem _)
theorem fol_pr : ∀ k g r, folS W I h hs k = some (g, r) → k ≤ ht W → 1 ≤ W → (prS W I h hs k).2.1 = g ∧ r = hs.drop (prS W I h hs k).2.2 ∧ (prS W I h hs k).2.2 ≤ hs.length
  | 0, g, r, he, _, _ => by cases he; exact ⟨rfl, rfl, Nat.zero_le _⟩
  | k + 1, g, r, he, hk, hW => by
    have h1 : 1 < wdt W k := (ht_gt hW).1 (by omega)
    cases hs' : folS W I h hs k with
    | none => rw [folS, hs'] at he; cases he
    | some s =>
      obtain ⟨g', r'⟩ := s
      obtain ⟨e1, e2, e3⟩ := fol_pr k g' r' hs' (by omega) hW
      by_cases h2 : oth (I / 2 ^ k) < wdt W k
      · by_cases h3 : r'.length = 0
        · rw [folS_end (List.length_eq_zero_iff.1 h3 ▸ hs') h1 h2] at he; cases he
        · have h4 : (prS W I h hs k).2.2 < hs.length := by rw [e2, List.length_drop] at h3; omega
          rw [e2] at hs'
          by_cases h5 : I / 2 ^ k % 2 = 0
          · rw [folT_s0 hs' h1 h2 h4 h5] at he
            rw [prS_a h2 h4 h5]
            cases he
            exact ⟨by rw [e1], rfl, h4⟩
          · rw [folT_s1 hs' h1 h2 h4 h5] at he
            rw [prS_b h2 h4 h5]
            cases he
            exact ⟨by rw [e1], rfl, h4⟩
      · rw [folS_skip hs' h2] at he
        cases he
        rw [prS_n (fun h => h2 h.1)]
        exact ⟨e1, e2, e3⟩
end
theorem binds {W I a b : Nat} {l m : List Nat} (hW : 1 ≤ W) : ∀ k, k ≤ ht W → ∀ g r g' r', folS W I a l k = some (g, r) → folS W I b m k = some (g', r') →
    (prS W I a l k).1.length = (prS W I b m k).1.length ∧ ((∀ j, j < (prS W I a l k).1.length → ¬ ((prS W I a l k).1.getD j (0, 0) ≠ (prS W I b m k).1.getD j (0, 0) ∧ nd ((prS W I a l k).1.getD j (0, 0)).1 ((prS W I a l k).1.getD j (0, 0)).2 = nd ((prS W I b m k).1.getD j (0, 0)).1 ((prS W I b m k).1.getD j (0, 0)).2)) → g = g' → a = b) := by
  intro k
  induction k with
  | zero =>
    intro _ g r g' r' h1 h2
    cases h1; cases h2
    exact ⟨rfl, fun _ h => h⟩
  | succ k ih =>
    intro hk g r g' r' h1 h2
    have hw : 1 < wdt W k := (ht_gt hW).1 (by omega)
    cases hs1 : folS W I a l k with
    | none => rw [folS, hs1] at h1; cases h1
    | some s1 =>
    cases hs2 : folS W I b m k with
    | none => rw [folS, hs2] at h2; cases h2
    | some s2 =>
      obtain ⟨u, x⟩ := s1
      obtain ⟨u', x'⟩ := s2
      obtain ⟨i1, i2⟩ := ih (by omega) u x u' x' hs1 hs2
      obtain ⟨p1, p2, p3⟩ := fol_pr k u x hs1 (by omega) hW
      obtain ⟨q1, q2, q3⟩ := fol_pr k u' x' hs2 (by omega) hW
      obtain ⟨t1, _, _⟩ := fol_pr (k + 1) g r h1 hk hW
      obtain ⟨t2, _, _⟩ := fol_pr (k + 1) g' r' h2 hk hW
      by_cases ho : oth (I / 2 ^ k) < wdt W k
      · have n1 : (prS W I a l k).2.2 < l.length := by
          by_cases h3 : x.length = 0
          · rw [folS_end (List.length_eq_zero_iff.1 h3 ▸ hs1) hw ho] at h1; cases h1
          · rw [p2, List.length_drop] at h3; omega
        have n2 : (prS W I b m k).2.2 < m.length := by
          by_cases h3 : x'.length = 0
          · rw [folS_end (List.length_eq_zero_iff.1 h3 ▸ hs2) hw ho] at h2; cases h2
          · rw [q2, List.length_drop] at h3; omega
        have key : ∀ (y y' : Nat × Nat), prS W I a l (k + 1) = ((prS W I a l k).1 ++ [y], nd y.1 y.2, (prS W I a l k).2.2 + 1) → prS W I b m (k + 1) = ((prS W I b m k).1 ++ [y'], nd y'.1 y'.2, (prS W I b m k).2.2 + 1) → (y = y' → u = u') →
            (prS W I a l (k + 1)).1.length = (prS W I b m (k + 1)).1.length ∧ ((∀ j, j < (prS W I a l (k + 1)).1.length → ¬ ((prS W I a l (k + 1)).1.getD j (0, 0) ≠ (prS W I b m (k + 1)).1.getD j (0, 0) ∧ nd ((prS W I a l (k + 1)).1.getD j (0, 0)).1 ((prS W I a l (k + 1)).1.getD j (0, 0)).2 = nd ((prS W I b m (k + 1)).1.getD j (0, 0)).1 ((prS W I b m (k + 1)).1.getD j (0, 0)).2)) → g = g' → a = b) := by
          intro y y' e1 e2 e3
          rw [e1] at t1
          rw [e2] at t2
          rw [e1, e2]
          refine ⟨by simp [i1], fun hn hg => ?_⟩
          have hlast := hn (prS W I a l k).1.length (by simp)
          have hl1 : ((prS W I a l k).1 ++ [y]).getD (prS W I a l k).1.length (0, 0) = y := by simp [List.getD_eq_getElem?_getD]
          have hl2 : ((prS W I b m k).1 ++ [y']).getD (prS W I a l k).1.length (0, 0) = y' := by rw [i1]; simp [List.getD_eq_getElem?_getD]
          simp only at hlast
          rw [hl1, hl2] at hlast
          have hy : y = y' := by
            refine Classical.byContradiction fun hne => hlast ⟨hne, ?_⟩
            simp only at t1 t2
            rw [t1, t2, hg]
          refine i2 (fun j hj => ?_) (e3 hy)
          have := hn j (by simp; omega)
          simp only at this
          rw [List.getD_eq_getElem?_getD, List.getElem?_append_left hj, ← List.getD_eq_getElem?_getD, List.getD_eq_getElem?_getD (l := (prS W I b m k).1 ++ [y']), List.getElem?_append_left (by rw [← i1]; exact hj), ← List.getD_eq_getElem?_getD] at this
          exact this
        by_cases h5 : I / 2 ^ k % 2 = 0
        · exact key _ _ (prS_a ho n1 h5) (prS_a ho n2 h5) (fun h => by rw [← p1, ← q1]; exact (Prod.mk.inj h).1)
        · exact key _ _ (prS_b ho n1 h5) (prS_b ho n2 h5) (fun h => by rw [← p1, ← q1]; exact (Prod.mk.inj h).2)
      · rw [folS_skip hs1 ho] at h1
        rw [folS_skip hs2 ho] at h2
        cases h1; cases h2
        rw [prS_n (fun h => ho h.1), prS_n (fun h => ho h.1)]
        exact ⟨i1, i2⟩
theorem folE_in {w i : Int} {h : Nat} {hs : List Nat} (he : folE w i h hs = 0) : inP w i := by
  refine Classical.byContradiction fun hn => ?_
  rw [folE, if_neg hn] at he; cases he
theorem folE_0 {w i : Int} {h : Nat} {hs : List Nat} (he : folE w i h hs = 0) : ∃ g, folS w.toNat i.toNat h hs (ht w.toNat) = some (g, []) ∧ folV w i h hs = g := by
  have hn := folE_in he
  rw [folE, if_pos hn] at he
  rw [folV, if_pos hn]
  cases hf : folR w.toNat i.toNat h hs with
  | none => rw [hf] at he; cases he
  | some s =>
    obtain ⟨g, r⟩ := s
    rw [hf] at he
    cases r with
    | nil => exact ⟨g, hf, rfl⟩
    | cons x r => cases he
theorem folV_b {w i : Int} {h : Nat} {hs : List Nat} (hh : h < 2 ^ 256) (hb : ∀ x ∈ hs, x < 2 ^ 256) : folV w i h hs < 2 ^ 256 := by
  rw [folV]
  split
  · rename_i hn
    split
    · rename_i g hf
      rw [← (fol_pr (ht w.toNat) g [] hf (Nat.le_refl _) (inP_w hn)).1]
      exact (prS_lt hh hb _).1
    · decide
  · decide
theorem binds_law {w i : Int} {a b : Nat} {l m : List Nat} {j : Nat} (e1 : folE w i a l = 0) (e2 : folE w i b m = 0) (hv : folV w i a l = folV w i b m) (hab : a ≠ b) (hj : (prS w.toNat i.toNat a l (ht w.toNat)).1.length ≤ j)
    (hn : ∀ t, t < j → ¬ (t < (prS w.toNat i.toNat b m (ht w.toNat)).1.length ∧ (prS w.toNat i.toNat a l (ht w.toNat)).1.getD t (0, 0) ≠ (prS w.toNat i.toNat b m (ht w.toNat)).1.getD t (0, 0) ∧ nd ((prS w.toNat i.toNat a l (ht w.toNat)).1.getD t (0, 0)).1 ((prS w.toNat i.toNat a l (ht w.toNat)).1.getD t (0, 0)).2 = nd ((prS w.toNat i.toNat b m (ht w.toNat)).1.getD t (0, 0)).1 ((prS w.toNat i.toNat b m (ht w.toNat)).1.getD t (0, 0)).2)) : False := by
  obtain ⟨g, f1, v1⟩ := folE_0 e1
  obtain ⟨g', f2, v2⟩ := folE_0 e2
  obtain ⟨h1, h2⟩ := binds (inP_w (folE_in e1)) _ (Nat.le_refl _) _ _ _ _ f1 f2
  refine hab (h2 (fun t ht hc => ?_) (by rw [← v1, ← v2, hv]))
  exact hn t (by omega) ⟨by omega, hc⟩
theorem pp_1 (x : Nat × Nat) : PV.rptr (((pp2 x).drop ((0 : Int).toNat * 32)).take 32) = .rptr (hl x.1) := by
  rw [show (0 : Int).toNat * 32 = 0 from rfl, List.drop_zero, pp2, List.take_left' (len_hl _)]
theorem pp_2 (x : Nat × Nat) : PV.rptr (((pp2 x).drop ((1 : Int).toNat * 32)).take 32) = .rptr (hl x.2) := by
  rw [show (1 : Int).toNat * 32 = 32 from rfl, pp2, List.drop_left' (len_hl _), List.take_of_length_le (by rw [len_hl]; exact Nat.le_refl _)]
theorem pp_ne {x y : Nat × Nat} (hx : x.1 < 2 ^ 256 ∧ x.2 < 2 ^ 256) (hy : y.1 < 2 ^ 256 ∧ y.2 < 2 ^ 256) : lB (!(intsOf (hl x.1) == intsOf (hl y.1) && (intsOf (hl x.2) == intsOf (hl y.2)))) = lB (decide (x ≠ y)) := by
  have h1 := eql_h hx.1 hy.1
  have h2 := eql_h hx.2 hy.2
  simp only [lB] at h1 h2
  injection h1 with h1; injection h1 with h1
  injection h2 with h2; injection h2 with h2
  rw [h1, h2]
  congr 1
  obtain ⟨a, b⟩ := x
  obtain ⟨c, d⟩ := y
  simp only [ne_eq, Prod.mk.injEq]
  by_cases e1 : a = c <;> by_cases e2 : b = d <;> simp [e1, e2]
theorem fa_b {Q : Nat → Prop} {j : Nat} (h : ∀ t, t < j → ¬ Q t) (hj : ¬ Q j) : ∀ t, t < j + 1 → ¬ Q t := by
  intro t ht
  rcases Nat.lt_succ_iff_lt_or_eq.1 ht with h3 | h3
  · exact h t h3
  · rw [h3]; exact hj
end Go.Ab
