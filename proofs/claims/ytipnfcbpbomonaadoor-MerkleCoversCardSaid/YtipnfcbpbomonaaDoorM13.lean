import Derived.Test.YtipnfcbpbomonaaDoorM12
namespace Go.Ab
open Go Go.RowKit
set_option linter.unusedVariables false
set_option linter.unusedSimpArgs false
structure Tk where
  F : List Bool
  H : List Nat
  L : List (Nat × Nat)
structure Tr where
  s : Tk
  h : Nat
  e : Nat
def tkLeaf (i : Nat) (f : Bool) (s : Tk) : Tr :=
  match s.H with
  | [] => ⟨s, 0, 1⟩
  | x :: H => ⟨⟨s.F, H, if f then s.L ++ [(i, x)] else s.L⟩, x, 0⟩
def tkKids (two : Bool) (r1 : Tr) (r2 : Tk → Tr) (n : Nat) : Tr :=
  if r1.e ≠ 0 then ⟨r1.s, 0, r1.e⟩
  else if two then (if (r2 r1.s).e ≠ 0 then ⟨(r2 r1.s).s, 0, (r2 r1.s).e⟩ else if (r2 r1.s).s.L.length = n then ⟨(r2 r1.s).s, 0, 3⟩ else ⟨(r2 r1.s).s, nd r1.h (r2 r1.s).h, 0⟩)
  else if r1.s.L.length = n then ⟨r1.s, 0, 3⟩ else ⟨r1.s, r1.h, 0⟩
def tak (n : Nat) : Nat → Nat → Tk → Tr
  | 0, i, s => match s.F with
    | [] => ⟨s, 0, 1⟩
    | f :: F => tkLeaf i f ⟨F, s.H, s.L⟩
  | k + 1, i, s => match s.F with
    | [] => ⟨s, 0, 1⟩
    | f :: F => if f then tkKids (decide (2 * i + 1 < wdt n k)) (tak n k (2 * i) ⟨F, s.H, s.L⟩) (tak n k (2 * i + 1)) s.L.length else tkLeaf i f ⟨F, s.H, s.L⟩
structure Rc where
  a : Nat
  b : Nat
  L : List (Nat × Nat)
  e : Nat
structure Rr where
  s : Rc
  h : Nat
  m : Bool
def tE (n : Nat) : Nat := if n = 0 then 1 else 0
theorem tE_0 (n : Nat) : (tE n = 0 ↔ n ≠ 0) ∧ tE n ≤ 1 := by unfold tE; split <;> omega
theorem tE_1 {n : Nat} (h : n = 0) : tE n = 1 := by rw [tE, if_pos h]
theorem tE_2 {n : Nat} (h : n ≠ 0) : tE n = 0 := by rw [tE, if_neg h]
theorem drop_0 {α : Type} {l : List α} (h : l.length = 0) : l.drop 1 = l := by
  cases l with
  | nil => rfl
  | cons x r => cases h
theorem getD_0 {α : Type} {l : List α} {d : α} (h : l.length = 0) : l.getD 0 d = d := by
  cases l with
  | nil => rfl
  | cons x r => cases h
def kid (n k i : Nat) (s : Tk) : Tr := tkKids (decide (2 * i + 1 < wdt n (k - 1))) (tak n (k - 1) (2 * i) s) (tak n (k - 1) (2 * i + 1)) s.L.length
section
variable {n k i : Nat} {F : List Bool} {H : List Nat} {L : List (Nat × Nat)}
theorem tak_0 (h : F.length = 0) : tak n k i ⟨F, H, L⟩ = ⟨⟨F.drop 1, H, L⟩, 0, 1⟩ := by
  obtain rfl : F = [] := List.length_eq_zero_iff.1 h
  cases k <;> simp [tak]
theorem tak_leaf (h : F.length ≠ 0) (hk : F.getD 0 false = false ∨ k = 0) : tak n k i ⟨F, H, L⟩ = tkLeaf i (F.getD 0 false) ⟨F.drop 1, H, L⟩ := by
  cases F with
  | nil => exact absurd rfl h
  | cons f F =>
    cases k with
    | zero => rfl
    | succ k =>
      rcases hk with hk | hk
      · simp at hk; subst hk; rfl
      · cases hk
theorem tak_k (h : F.length ≠ 0) (hf : F.getD 0 false = true) (hk : 0 < k) : tak n k i ⟨F, H, L⟩ = kid n k i ⟨F.drop 1, H, L⟩ := by
  cases F with
  | nil => exact absurd rfl h
  | cons f F =>
    simp at hf; subst hf
    cases k with
    | zero => cases hk
    | succ k => simp [tak, kid]
theorem tak_l0 (h : F.length ≠ 0) (hk : F.getD 0 false = false ∨ k = 0) (hH : H.length = 0) : tak n k i ⟨F, H, L⟩ = ⟨⟨F.drop 1, H.drop 1, L⟩, 0, 1⟩ := by
  obtain rfl : H = [] := List.length_eq_zero_iff.1 hH
  rw [tak_leaf h hk]; rfl
theorem tak_l1 (h : F.length ≠ 0) (hk : F.getD 0 false = false ∨ k = 0) (hH : H.length ≠ 0) (hf : F.getD 0 false = true) : tak n k i ⟨F, H, L⟩ = ⟨⟨F.drop 1, H.drop 1, L ++ [(i, H.getD 0 0)]⟩, H.getD 0 0, 0⟩ := by
  cases H with
  | nil => exact absurd rfl hH
  | cons x H => rw [tak_leaf h hk, hf]; rfl
theorem tak_l2 (h : F.length ≠ 0) (hk : F.getD 0 false = false ∨ k = 0) (hH : H.length ≠ 0) (hf : F.getD 0 false = false) : tak n k i ⟨F, H, L⟩ = ⟨⟨F.drop 1, H.drop 1, L⟩, H.getD 0 0, 0⟩ := by
  cases H with
  | nil => exact absurd rfl hH
  | cons x H => rw [tak_leaf h hk, hf]; rfl
theorem kid_e1 (h : (tak n (k - 1) (2 * i) ⟨F, H, L⟩).e ≠ 0) : kid n k i ⟨F, H, L⟩ = ⟨(tak n (k - 1) (2 * i) ⟨F, H, L⟩).s, 0, (tak n (k - 1) (2 * i) ⟨F, H, L⟩).e⟩ := by
  rw [kid, tkKids, if_pos h]
section
variable {r1 : Tr}
theorem kid_e2 (hr : tak n (k - 1) (2 * i) ⟨F, H, L⟩ = r1) (h : r1.e = 0) (h2 : 2 * i + 1 < wdt n (k - 1)) (h3 : (tak n (k - 1) (2 * i + 1) ⟨r1.s.F, r1.s.H, r1.s.L⟩).e ≠ 0) : kid n k i ⟨F, H, L⟩ = ⟨(tak n (k - 1) (2 * i + 1) ⟨r1.s.F, r1.s.H, r1.s.L⟩).s, 0, (tak n (k - 1) (2 * i + 1) ⟨r1.s.F, r1.s.H, r1.s.L⟩).e⟩ := by
  rw [kid, hr, tkKids, if_neg (by omega), if_pos (decide_eq_true h2), if_pos h3]
theorem kid_c2 (hr : tak n (k - 1) (2 * i) ⟨F, H, L⟩ = r1) (h : r1.e = 0) (h2 : 2 * i + 1 < wdt n (k - 1)) (h3 : (tak n (k - 1) (2 * i + 1) ⟨r1.s.F, r1.s.H, r1.s.L⟩).e = 0) (h4 : (tak n (k - 1) (2 * i + 1) ⟨r1.s.F, r1.s.H, r1.s.L⟩).s.L.length = L.length) : kid n k i ⟨F, H, L⟩ = ⟨(tak n (k - 1) (2 * i + 1) ⟨r1.s.F, r1.s.H, r1.s.L⟩).s, 0, 3⟩ := by
  rw [kid, hr, tkKids, if_neg (by omega), if_pos (decide_eq_true h2), if_neg (fun e => e h3), if_pos h4]
theorem kid_o2 (hr : tak n (k - 1) (2 * i) ⟨F, H, L⟩ = r1) (h : r1.e = 0) (h2 : 2 * i + 1 < wdt n (k - 1)) (h3 : (tak n (k - 1) (2 * i + 1) ⟨r1.s.F, r1.s.H, r1.s.L⟩).e = 0) (h4 : (tak n (k - 1) (2 * i + 1) ⟨r1.s.F, r1.s.H, r1.s.L⟩).s.L.length ≠ L.length) : kid n k i ⟨F, H, L⟩ = ⟨(tak n (k - 1) (2 * i + 1) ⟨r1.s.F, r1.s.H, r1.s.L⟩).s, nd r1.h (tak n (k - 1) (2 * i + 1) ⟨r1.s.F, r1.s.H, r1.s.L⟩).h, 0⟩ := by
  rw [kid, hr, tkKids, if_neg (by omega), if_pos (decide_eq_true h2), if_neg (fun e => e h3), if_neg h4]
theorem kid_c1 (hr : tak n (k - 1) (2 * i) ⟨F, H, L⟩ = r1) (h : r1.e = 0) (h2 : ¬ 2 * i + 1 < wdt n (k - 1)) (h4 : r1.s.L.length = L.length) : kid n k i ⟨F, H, L⟩ = ⟨r1.s, 0, 3⟩ := by
  rw [kid, hr, tkKids, if_neg (by omega), if_neg (by simpa using h2), if_pos h4]
theorem kid_o1 (hr : tak n (k - 1) (2 * i) ⟨F, H, L⟩ = r1) (h : r1.e = 0) (h2 : ¬ 2 * i + 1 < wdt n (k - 1)) (h4 : r1.s.L.length ≠ L.length) : kid n k i ⟨F, H, L⟩ = ⟨r1.s, r1.h, 0⟩ := by
  rw [kid, hr, tkKids, if_neg (by omega), if_neg (by simpa using h2), if_neg h4]
end
end
def Tk.w (s : Tk) : Nat := s.L.length + s.H.length
theorem leaf_w (i : Nat) (f : Bool) (s : Tk) : (tkLeaf i f s).s.w ≤ s.w := by
  obtain ⟨F, H, L⟩ := s
  cases H with
  | nil => exact Nat.le_refl _
  | cons x H => cases f <;> simp [tkLeaf, Tk.w] <;> omega
theorem kids_w {two : Bool} {r1 : Tr} {r2 : Tk → Tr} {n m : Nat} (h1 : r1.s.w ≤ m) (h2 : ∀ s, (r2 s).s.w ≤ s.w) : (tkKids two r1 r2 n).s.w ≤ m := by
  have h3 := h2 r1.s
  unfold tkKids
  repeat' split
  all_goals first | exact h1 | exact Nat.le_trans h3 h1
theorem tak_w {n : Nat} : ∀ (k i : Nat) (s : Tk), (tak n k i s).s.w ≤ s.w := by
  intro k
  induction k with
  | zero =>
    intro i s
    rw [tak]
    split
    · exact Nat.le_refl _
    · rename_i f F h
      exact leaf_w i f ⟨F, s.H, s.L⟩
  | succ k ih =>
    intro i s
    rw [tak]
    split
    · exact Nat.le_refl _
    · rename_i f F h
      split
      · exact kids_w (ih (2 * i) ⟨F, s.H, s.L⟩) (fun s => ih (2 * i + 1) s)
      · exact leaf_w i f ⟨F, s.H, s.L⟩
theorem tak_w2 (n k i : Nat) (F : List Bool) (H : List Nat) (L : List (Nat × Nat)) : (tak n k i ⟨F, H, L⟩).s.L.length + (tak n k i ⟨F, H, L⟩).s.H.length ≤ L.length + H.length := tak_w k i ⟨F, H, L⟩
theorem leaf_f (i : Nat) (f : Bool) (s : Tk) : (tkLeaf i f s).s.F.length ≤ s.F.length := by
  obtain ⟨F, H, L⟩ := s
  cases H <;> exact Nat.le_refl _
theorem kids_f {two : Bool} {r1 : Tr} {r2 : Tk → Tr} {n m : Nat} (h1 : r1.s.F.length ≤ m) (h2 : ∀ s, (r2 s).s.F.length ≤ s.F.length) : (tkKids two r1 r2 n).s.F.length ≤ m := by
  have h3 := h2 r1.s
  unfold tkKids
  repeat' split
  all_goals first | exact h1 | exact Nat.le_trans h3 h1
theorem tak_f' {n : Nat} : ∀ (k i : Nat) (s : Tk), (tak n k i s).s.F.length ≤ s.F.length := by
  intro k
  induction k with
  | zero =>
    intro i s
    rw [tak]
    split
    · exact Nat.le_refl _
    · rename_i f F h
      rw [h]
      exact Nat.le_trans (leaf_f i f ⟨F, s.H, s.L⟩) (by simp)
  | succ k ih =>
    intro i s
    rw [tak]
    split
    · exact Nat.le_refl _
    · rename_i f F h
      rw [h]
      split
      · exact Nat.le_trans (kids_f (ih (2 * i) ⟨F, s.H, s.L⟩) (fun s => ih (2 * i + 1) s)) (by simp)
      · exact Nat.le_trans (leaf_f i f ⟨F, s.H, s.L⟩) (by simp)
theorem tak_f (n k i : Nat) (F : List Bool) (H : List Nat) (L : List (Nat × Nat)) : (tak n k i ⟨F, H, L⟩).s.F.length ≤ F.length := tak_f' k i ⟨F, H, L⟩
def exV (c : Int) (F : List Bool) (H : List Nat) : Nat × List (Nat × Nat) × Nat :=
  if ¬ (1 ≤ c ∧ c ≤ 1024) then (0, [], 5) else if 4096 < F.length ∨ 4096 < H.length then (0, [], 4)
  else if (tak c.toNat (ht c.toNat) 0 ⟨F, H, []⟩).e ≠ 0 then (0, [], (tak c.toNat (ht c.toNat) 0 ⟨F, H, []⟩).e)
  else if 0 < (tak c.toNat (ht c.toNat) 0 ⟨F, H, []⟩).s.F.length ∨ 0 < (tak c.toNat (ht c.toNat) 0 ⟨F, H, []⟩).s.H.length then (0, [], 2)
  else ((tak c.toNat (ht c.toNat) 0 ⟨F, H, []⟩).h, (tak c.toNat (ht c.toNat) 0 ⟨F, H, []⟩).s.L, 0)
def exH (c : Int) (F : List Bool) (H : List Nat) : Nat := (exV c F H).1
def exL (c : Int) (F : List Bool) (H : List Nat) : List (Nat × Nat) := (exV c F H).2.1
def exE (c : Int) (F : List Bool) (H : List Nat) : Nat := (exV c F H).2.2
section
variable {c : Int} {F : List Bool} {H : List Nat} {m a e : Nat} {l : List (Nat × Nat)}
theorem ex_val (h : exV c F H = (a, l, e)) : PV.tup [h32 a, .own m 0 l.length 33, ln e] = .tup [h32 (exH c F H), .own m 0 (exL c F H).length 33, ln (exE c F H)] := by rw [exH, exL, exE, h]
theorem ex_row (h : exV c F H = (a, l, e)) : l = exL c F H := by rw [exL, h]
theorem exV_5 (h : ¬ (1 ≤ c ∧ c ≤ 1024)) : exV c F H = (0, [], 5) := by rw [exV, if_pos h]
theorem exV_4 (h : 1 ≤ c ∧ c ≤ 1024) (h2 : 4096 < F.length ∨ 4096 < H.length) : exV c F H = (0, [], 4) := by rw [exV, if_neg (fun e => e h), if_pos h2]
theorem exV_e (h : 1 ≤ c ∧ c ≤ 1024) (h2 : ¬ (4096 < F.length ∨ 4096 < H.length)) (h3 : (tak c.toNat (ht c.toNat) 0 ⟨F, H, []⟩).e ≠ 0) : exV c F H = (0, [], (tak c.toNat (ht c.toNat) 0 ⟨F, H, []⟩).e) := by
  rw [exV, if_neg (fun e => e h), if_neg h2, if_pos h3]
theorem exV_2 (h : 1 ≤ c ∧ c ≤ 1024) (h2 : ¬ (4096 < F.length ∨ 4096 < H.length)) (h3 : (tak c.toNat (ht c.toNat) 0 ⟨F, H, []⟩).e = 0) (h4 : 0 < (tak c.toNat (ht c.toNat) 0 ⟨F, H, []⟩).s.F.length ∨ 0 < (tak c.toNat (ht c.toNat) 0 ⟨F, H, []⟩).s.H.length) : exV c F H = (0, [], 2) := by
  rw [exV, if_neg (fun e => e h), if_neg h2, if_neg (fun e => e h3), if_pos h4]
theorem exV_0 (h : 1 ≤ c ∧ c ≤ 1024) (h2 : ¬ (4096 < F.length ∨ 4096 < H.length)) (h3 : (tak c.toNat (ht c.toNat) 0 ⟨F, H, []⟩).e = 0) (h4 : ¬ (0 < (tak c.toNat (ht c.toNat) 0 ⟨F, H, []⟩).s.F.length ∨ 0 < (tak c.toNat (ht c.toNat) 0 ⟨F, H, []⟩).s.H.length)) : exV c F H = ((tak c.toNat (ht c.toNat) 0 ⟨F, H, []⟩).h, (tak c.toNat (ht c.toNat) 0 ⟨F, H, []⟩).s.L, 0) := by
  rw [exV, if_neg (fun e => e h), if_neg h2, if_neg (fun e => e h3), if_neg h4]
end
section
variable {n k i a b e : Nat} {F : List Bool} {H : List Nat} {L : List (Nat × Nat)}
section
variable {r1 r2 : Rr}
end
end
end Go.Ab
namespace Go.Ab
open Go Go.RowKit
set_option linter.unusedVariables false
set_option linter.unusedSimpArgs false
def cvS (l : List Nat) (w : List Bool) (a m : Nat) : List (Nat × Nat) := (List.range' a m).filterMap fun i => if w.getD i false then some (i, l.getD i 0) else none
def szn (n k i : Nat) : Nat := min (2 ^ k) (n - i * 2 ^ k)
section
variable {l : List Nat} {w : List Bool} {a m m2 k i n : Nat}
theorem cvS_app : cvS l w a m ++ cvS l w (a + m) m2 = cvS l w a (m + m2) := by
  rw [cvS, cvS, ← List.filterMap_append, List.range'_append_1]; rfl
theorem cvS_nil (h : ∀ j, a ≤ j → j < a + m → w.getD j false = false) : cvS l w a m = [] := by
  rw [cvS, List.filterMap_eq_nil_iff]
  intro j hj
  rw [List.mem_range'_1] at hj
  rw [h j hj.1 hj.2]; rfl
theorem cvS_pos {j : Nat} (h1 : a ≤ j) (h2 : j < a + m) (h : w.getD j false = true) : 0 < (cvS l w a m).length := by
  have : (j, l.getD j 0) ∈ cvS l w a m := by
    rw [cvS, List.mem_filterMap]
    exact ⟨j, List.mem_range'_1.2 ⟨h1, h2⟩, by rw [h]; rfl⟩
  exact List.length_pos_of_mem this
theorem blw_no (hw : w.length = n) (h : blw w k i = false) : ∀ j, i * 2 ^ k ≤ j → j < i * 2 ^ k + szn n k i → w.getD j false = false := by
  intro j h1 h2
  cases hj : w.getD j false with
  | false => rfl
  | true =>
    have h3 : j < (i + 1) * 2 ^ k := by
      rw [Nat.succ_mul]
      have : szn n k i ≤ 2 ^ k := Nat.min_le_left _ _
      omega
    have := blw_t h1 h3 hj
    rw [h] at this
    cases this
theorem blw_ex (hw : w.length = n) (h : blw w k i = true) : ∃ j, i * 2 ^ k ≤ j ∧ j < i * 2 ^ k + szn n k i ∧ w.getD j false = true := by
  refine Classical.byContradiction fun hn => ?_
  have h2 : ∀ j, i * 2 ^ k ≤ j → j < i * 2 ^ k + szn n k i → w.getD j false = false := by
    intro j h1 h2
    cases hj : w.getD j false with
    | false => rfl
    | true => exact absurd ⟨j, h1, h2, hj⟩ hn
  have h3 := blw_f (w := w) (k := k) (i := i) (j := i * 2 ^ k + szn n k i) (fun m h4 h5 => h2 m h4 h5) (by
    rw [hw, Nat.succ_mul]
    unfold szn
    generalize i * 2 ^ k = q
    generalize 2 ^ k = p
    omega)
  rw [h] at h3
  cases h3
theorem cvS_one (h : w.getD a false = true) : cvS l w a 1 = [(a, l.getD a 0)] := by
  show List.filterMap _ (List.range' a 1) = _
  rw [show List.range' a 1 = [a] from rfl, List.filterMap_cons, h]; rfl
theorem kb3 (k i : Nat) : i * (2 ^ k * 2) = 2 * i * 2 ^ k := by rw [Nat.mul_comm (2 ^ k) 2, ← Nat.mul_assoc, Nat.mul_comm i 2]
theorem szn_two (h : 2 * i + 1 < wdt n k) : szn n k (2 * i) = 2 ^ k ∧ 2 * i * 2 ^ k + 2 ^ k = (2 * i + 1) * 2 ^ k ∧ szn n k (2 * i) + szn n k (2 * i + 1) = szn n (k + 1) i := by
  have h1 := wdt_lt h
  have e1 : (2 * i + 1) * 2 ^ k = 2 * i * 2 ^ k + 2 ^ k := Nat.succ_mul _ _
  unfold szn
  rw [e1] at h1 ⊢
  rw [Nat.pow_succ, kb3]
  generalize 2 * i * 2 ^ k = q at *
  generalize 2 ^ k = p at *
  omega
theorem szn_one (h : i < wdt n (k + 1)) (h2 : ¬ 2 * i + 1 < wdt n k) : szn n k (2 * i) = szn n (k + 1) i := by
  have h1 : ¬ (2 * i + 1) * 2 ^ k < n := fun h => h2 (lt_wdt h)
  have e1 : (2 * i + 1) * 2 ^ k = 2 * i * 2 ^ k + 2 ^ k := Nat.succ_mul _ _
  unfold szn
  rw [e1] at h1
  rw [Nat.pow_succ, kb3]
  generalize 2 * i * 2 ^ k = q at *
  generalize 2 ^ k = p at *
  omega
end
theorem kid_base (k i : Nat) : 2 * i * 2 ^ k = i * 2 ^ (k + 1) := by rw [Nat.pow_succ, Nat.mul_comm 2 i, Nat.mul_assoc, Nat.mul_comm 2]
theorem tak_vis {l : List Nat} {w : List Bool} (hw : w.length = l.length) : ∀ (k i : Nat), i < wdt l.length k → ∀ (F' : List Bool) (H' : List Nat) (L : List (Nat × Nat)),
    tak l.length k i ⟨visF l w k i ++ F', visH l w k i ++ H', L⟩ = ⟨⟨F', H', L ++ cvS l w (i * 2 ^ k) (szn l.length k i)⟩, (lev l k).getD i 0, 0⟩ := by
  intro k
  induction k with
  | zero =>
    intro i hi F' H' L
    rw [wdt_0] at hi
    cases hb : blw w 0 i with
    | false =>
      rw [cvS_nil (blw_no hw hb), List.append_nil]
      rw [tak_l2 (by simp [visF]) (.inr rfl) (by simp [visH]) (by simp [visF, hb])]
      simp [visF, visH]
    | true =>
      obtain ⟨j, h1, h2, h3⟩ := blw_ex hw hb
      have hs : szn l.length 0 i = 1 := by unfold szn; simp; omega
      rw [hs] at h2 ⊢
      rw [Nat.pow_zero, Nat.mul_one] at h1 h2 ⊢
      obtain rfl : j = i := by omega
      rw [cvS_one h3]
      rw [tak_l1 (by simp [visF]) (.inr rfl) (by simp [visH]) (by simp [visF, hb])]
      simp [visF, visH, lev]
  | succ k ih =>
    intro i hi F' H' L
    cases hb : blw w (k + 1) i with
    | false =>
      rw [cvS_nil (blw_no hw hb), List.append_nil]
      have e1 : visF l w (k + 1) i = [false] := by rw [visF, hb]; rfl
      have e2 : visH l w (k + 1) i = [(lev l (k + 1)).getD i 0] := by rw [visH, hb]; rfl
      rw [e1, e2, tak_l2 (by simp) (.inl (by simp)) (by simp) (by simp)]
      simp
    | true =>
      obtain ⟨j, h1, h2, h3⟩ := blw_ex hw hb
      have hpos := cvS_pos (l := l) h1 h2 h3
      have hk := kid_lt hi
      have hlen := len_lev l k
      by_cases h4 : 2 * i + 1 < wdt l.length k
      · have e1 : visF l w (k + 1) i ++ F' = true :: (visF l w k (2 * i) ++ (visF l w k (2 * i + 1) ++ F')) := by rw [visF, hb, if_pos rfl, if_pos h4]; simp
        have e2 : visH l w (k + 1) i ++ H' = visH l w k (2 * i) ++ (visH l w k (2 * i + 1) ++ H') := by rw [visH, hb, if_pos rfl, if_pos h4]; simp
        obtain ⟨s1, s2, s3⟩ := szn_two h4
        have hc : cvS l w (i * 2 ^ (k + 1)) (szn l.length (k + 1) i) = cvS l w (2 * i * 2 ^ k) (szn l.length k (2 * i)) ++ cvS l w ((2 * i + 1) * 2 ^ k) (szn l.length k (2 * i + 1)) := by
          rw [← s3, ← cvS_app, ← kid_base, s1, s2]
        rw [e1, e2, tak_k (by simp) (by simp) (by omega), kid, Nat.add_sub_cancel, List.drop_succ_cons, List.drop_zero, ih (2 * i) hk, tkKids, if_neg (fun h => h rfl), if_pos (decide_eq_true h4)]
        show (if (tak l.length k (2 * i + 1) ⟨visF l w k (2 * i + 1) ++ F', visH l w k (2 * i + 1) ++ H', L ++ cvS l w (2 * i * 2 ^ k) (szn l.length k (2 * i))⟩).e ≠ 0 then _ else _) = _
        rw [ih (2 * i + 1) h4, if_neg (fun h => h rfl)]
        rw [hc] at hpos ⊢
        rw [if_neg (by
          simp only [List.length_append] at hpos ⊢
          omega)]
        rw [List.append_assoc]
        congr 1
        show nd ((lev l k).getD (2 * i) 0) ((lev l k).getD (2 * i + 1) 0) = _
        exact (getD_some (up_get (by omega))).symm
      · have e1 : visF l w (k + 1) i ++ F' = true :: (visF l w k (2 * i) ++ F') := by rw [visF, hb, if_pos rfl, if_neg h4]; simp
        have e2 : visH l w (k + 1) i ++ H' = visH l w k (2 * i) ++ H' := by rw [visH, hb, if_pos rfl, if_neg h4]; simp
        have s1 := szn_one hi h4
        rw [e1, e2, tak_k (by simp) (by simp) (by omega), kid, Nat.add_sub_cancel, List.drop_succ_cons, List.drop_zero, ih (2 * i) hk, tkKids, if_neg (fun h => h rfl), if_neg (by simpa using h4)]
        rw [kid_base, s1]
        rw [if_neg (by
          simp only [List.length_append]
          omega)]
        congr 1
        exact (getD_some (up_get1 (by omega))).symm
theorem covers_eq {l : List Nat} {w : List Bool} (h : okW2 l w) : exV ((paC l w : Nat) : Int) (paF l w) (paH l w) = (rootV l, cvS l w 0 l.length, 0) := by
  have h1 := h.1
  have h2 := h.2.1
  have hp : 0 < 2 ^ ht l.length := Nat.two_pow_pos _
  have hv := tak_vis h.2.2 (ht l.length) 0 (wdt_1 h2) [] [] []
  have hs : szn l.length (ht l.length) 0 = l.length := by
    unfold szn
    have := (wdt_le h2).1 (show wdt l.length (ht l.length) ≤ 1 by rw [wdt_ht h2]; exact Nat.le_refl 1)
    rw [Nat.zero_mul]; omega
  rw [List.append_nil, List.append_nil, List.nil_append, hs, Nat.zero_mul] at hv
  have g1 := visF_len l w (ht l.length) 0
  have g2 := hf_0 h2 h1
  have g3 := visH_len l w (ht l.length) 0
  have g4 : 2 ^ (ht l.length + 1) ≤ 2 ^ 11 := Nat.pow_le_pow_right (by decide) (by have := ht_10 h2 h1; omega)
  have g5 : 2 ^ (ht l.length) ≤ 2 ^ 10 := Nat.pow_le_pow_right (by decide) (ht_10 h2 h1)
  rw [paC, paF, paH, if_pos h, if_pos h, if_pos h]
  have := exV_0 (c := (l.length : Int)) (F := visF l w (ht l.length) 0) (H := visH l w (ht l.length) 0) (by omega) (by omega) (by rw [Int.toNat_natCast, hv]) (by rw [Int.toNat_natCast, hv]; simp)
  rw [this, Int.toNat_natCast, hv, root_rt ⟨h2, h1⟩]; rfl
def cpw (n : Nat) (w : List Bool) : List Bool := w.take n ++ List.replicate (n - w.length) false
theorem len_cpw (n : Nat) (w : List Bool) : (cpw n w).length = n := by simp [cpw]; omega
theorem cv_at {l : List Nat} {w : List Bool} {i : Nat} (hi : i < l.length) (h : w.getD i false = true) : (cvS l w 0 l.length).getD (cvS l w 0 i).length (0, 0) = (i, l.getD i 0) ∧ (cvS l w 0 i).length < (cvS l w 0 l.length).length := by
  have e : cvS l w 0 l.length = cvS l w 0 i ++ ((i, l.getD i 0) :: cvS l w (i + 1) (l.length - (i + 1))) := by
    have h1 : cvS l w 0 i ++ cvS l w (0 + i) (1 + (l.length - (i + 1))) = cvS l w 0 (i + (1 + (l.length - (i + 1)))) := cvS_app
    rw [Nat.zero_add, ← cvS_app, cvS_one h, show i + (1 + (l.length - (i + 1))) = l.length by omega] at h1
    exact h1.symm
  rw [e]
  constructor
  · rw [List.getD_eq_getElem?_getD, List.getElem?_append_right (Nat.le_refl _), Nat.sub_self]; rfl
  · simp
theorem cv_s1 {l : List Nat} {w : List Bool} {i : Nat} (h : w.getD i false = true) : (cvS l w 0 i).length + 1 = (cvS l w 0 (i + 1)).length := by
  rw [← cvS_app, Nat.zero_add, cvS_one h]; simp
theorem cv_s0 {l : List Nat} {w : List Bool} {i : Nat} (h : w.getD i false = false) : (cvS l w 0 i).length = (cvS l w 0 (i + 1)).length := by
  rw [← cvS_app, Nat.zero_add, cvS_nil (a := i) (m := 1) (fun j h1 h2 => (by have e : j = i := (by omega); rw [e]; exact h))]; simp
theorem cvS_len {l : List Nat} {w : List Bool} {m : Nat} : (cvS l w 0 m).length ≤ m := by
  have := List.length_filterMap_le (fun i => if w.getD i false then some (i, l.getD i 0) else none) (List.range' 0 m)
  rw [List.length_range'] at this
  exact this
theorem cp_bo {n d : Nat} {w : List Bool} (hd : d = n) : (rk bo1 (List.replicate n false)).take 0 ++ (rk bo1 w).take (min w.length d * 1) ++ (rk bo1 (List.replicate n false)).drop (0 + min w.length d * 1) = rk bo1 (cpw n w) := by
  subst hd
  rw [Nat.zero_add, rk_take, rk_drop, List.take_zero, List.nil_append, rk_app, cpw]
  congr 1
  congr 1
  · rw [Nat.min_comm, take_min]
  · rw [List.drop_replicate]
    congr 1
    omega
theorem cp_pre {n d : Nat} {w : List Bool} (hd : d = n) : True ∧ 1 = 1 ∧ (rk bo1 w).length = w.length * 1 ∧ 0 + d * 1 ≤ (rk bo1 (List.replicate n false)).length :=
  ⟨trivial, rfl, len_rk, by rw [len_rk, List.length_replicate]; omega⟩
theorem ok_cp {l : List Nat} {w : List Bool} (h1 : 1 ≤ l.length) (h2 : l.length ≤ 1024) : okW2 l (cpw l.length w) := ⟨h2, h1, len_cpw _ _⟩
theorem paE_ok {l : List Nat} {w : List Bool} (h : okW2 l w) : paE l w = 0 := by
  obtain ⟨h1, h2, h3⟩ := h
  rw [paE, if_neg (by omega), if_neg (by omega), if_neg (by omega)]
theorem cov_h {l : List Nat} {w : List Bool} (h : okW2 l w) : exH ((paC l w : Nat) : Int) (paF l w) (paH l w) = rootV l := by rw [exH, covers_eq h]
theorem cov_l {l : List Nat} {w : List Bool} (h : okW2 l w) : exL ((paC l w : Nat) : Int) (paF l w) (paH l w) = cvS l w 0 l.length := by rw [exL, covers_eq h]
theorem cov_e {l : List Nat} {w : List Bool} (h : okW2 l w) : exE ((paC l w : Nat) : Int) (paF l w) (paH l w) = 0 := by rw [exE, covers_eq h]
theorem cv_end {l : List Nat} {w : List Bool} {i : Nat} (h : i = l.length) : lB (eqI (cvS l w 0 i).length (cvS l w 0 l.length).length) = lB true := by subst h; simp [eqI]
end Go.Ab
