import Derived.Test.YtipnfcbpbomonaaDoorM12
namespace Go.Ab
open Go Go.RowKit
set_option linter.unusedVariables false
set_option linter.unusedSimpArgs false
structure Tk where
  F : List Bool
  H : List Nat
  L : List (Nat × Nat)
structure Tr where
  s : Tk
  h : Nat
  e : Nat
def tkLeaf (i : Nat) (f : Bool) (s : Tk) : Tr :=
  match s.H with
  | [] => ⟨s, 0, 1⟩
  | x :: H => ⟨⟨s.F, H, if f then s.L ++ [(i, x)] else s.L⟩, x, 0⟩
def tkKids (two : Bool) (r1 : Tr) (r2 : Tk → Tr) (n : Nat) : Tr :=
  if r1.e ≠ 0 then ⟨r1.s, 0, r1.e⟩
  else if two then (if (r2 r1.s).e ≠ 0 then ⟨(r2 r1.s).s, 0, (r2 r1.s).e⟩ else if (r2 r1.s).s.L.length = n then ⟨(r2 r1.s).s, 0, 3⟩ else ⟨(r2 r1.s).s, nd r1.h (r2 r1.s).h, 0⟩)
  else if r1.s.L.length = n then ⟨r1.s, 0, 3⟩ else ⟨r1.s, r1.h, 0⟩
def tak (n : Nat) : Nat → Nat → Tk → Tr
  | 0, i, s => match s.F with
    | [] => ⟨s, 0, 1⟩
    | f :: F => tkLeaf i f ⟨F, s.H, s.L⟩
  | k + 1, i, s => match s.F with
    | [] => ⟨s, 0, 1⟩
    | f :: F => if f then tkKids (decide (2 * i + 1 < wdt n k)) (tak n k (2 * i) ⟨F, s.H, s.L⟩) (tak n k (2 * i + 1)) s.L.length else tkLeaf i f ⟨F, s.H, s.L⟩
structure Rc where
  a : Nat
  b : Nat
  L : List (Nat × Nat)
  e : Nat
structure Rr where
  s : Rc
  h : Nat
  m : Bool
def rdKids (two : Bool) (r1 : Rr) (r2 : Rc → Rr) : Rr :=
  if two then ⟨if (r2 r1.s).s.e = 0 ∧ (r1.m || (r2 r1.s).m) = false then { (r2 r1.s).s with e := 3 } else (r2 r1.s).s, nd r1.h (r2 r1.s).h, true⟩
  else ⟨if r1.s.e = 0 ∧ r1.m = false then { r1.s with e := 3 } else r1.s, r1.h, true⟩
def rdLeaf (H : List Nat) (i : Nat) (f : Bool) (s : Rc) : Rr :=
  if s.b = H.length then ⟨{ s with e := 1 }, 0, false⟩ else ⟨⟨s.a, s.b + 1, if f then s.L ++ [(i, H.getD s.b 0)] else s.L, s.e⟩, H.getD s.b 0, f⟩
def rd (n : Nat) (F : List Bool) (H : List Nat) : Nat → Nat → Rc → Rr
  | 0, i, s => if s.e ≠ 0 then ⟨s, 0, false⟩ else if s.a = F.length then ⟨{ s with e := 1 }, 0, false⟩ else rdLeaf H i (F.getD s.a false) { s with a := s.a + 1 }
  | k + 1, i, s => if s.e ≠ 0 then ⟨s, 0, false⟩ else if s.a = F.length then ⟨{ s with e := 1 }, 0, false⟩ else
    if F.getD s.a false then rdKids (decide (2 * i + 1 < wdt n k)) (rd n F H k (2 * i) { s with a := s.a + 1 }) (rd n F H k (2 * i + 1)) else rdLeaf H i (F.getD s.a false) { s with a := s.a + 1 }
def relS (F : List Bool) (H : List Nat) (t : Tk) (s : Rc) : Prop := s.e = 0 ∧ s.a ≤ F.length ∧ s.b ≤ H.length ∧ t.F = F.drop s.a ∧ t.H = H.drop s.b ∧ t.L = s.L
def relR (F : List Bool) (H : List Nat) (n : Nat) (r : Tr) (q : Rr) : Prop := q.s.e = r.e ∧ (r.e = 0 → relS F H r.s q.s ∧ q.h = r.h ∧ n ≤ r.s.L.length ∧ (q.m = true ↔ n < r.s.L.length))
theorem rd_stuck {n : Nat} {F : List Bool} {H : List Nat} {k i : Nat} {s : Rc} (h : s.e ≠ 0) : rd n F H k i s = ⟨s, 0, false⟩ := by
  cases k <;> rw [rd, if_pos h]
theorem drop_cons {α : Type} {l : List α} {i : Nat} (d : α) (h : i < l.length) : l.drop i = l.getD i d :: l.drop (i + 1) := by
  rw [List.drop_eq_getElem_cons h]; simp [List.getD_eq_getElem?_getD, h]
theorem leaf_rel {F : List Bool} {H : List Nat} {i : Nat} {f : Bool} {t : Tk} {s : Rc} (h : relS F H t s) : relR F H t.L.length (tkLeaf i f t) (rdLeaf H i f s) := by
  obtain ⟨h1, h2, h3, h4, h5, h6⟩ := h
  unfold tkLeaf rdLeaf
  by_cases hb : s.b = H.length
  · rw [if_pos hb, show t.H = [] by rw [h5, hb, List.drop_length]]
    exact ⟨rfl, fun h => by cases h⟩
  · rw [if_neg hb, show t.H = H.getD s.b 0 :: H.drop (s.b + 1) by rw [h5, drop_cons 0 (by omega)]]
    refine ⟨h1, fun _ => ⟨⟨h1, h2, by show s.b + 1 ≤ _; omega, h4, rfl, ?_⟩, rfl, ?_, ?_⟩⟩
    · show (if f then _ else _) = (if f then _ else _)
      rw [h6]
    · show _ ≤ (if f then _ else _ : List (Nat × Nat)).length
      split <;> simp
    · show f = true ↔ _ < (if f then _ else _ : List (Nat × Nat)).length
      cases f <;> simp
theorem kids_rel {F : List Bool} {H : List Nat} {two : Bool} {n : Nat} {r1 : Tr} {q1 : Rr} {r2 : Tk → Tr} {q2 : Rc → Rr} (h1 : relR F H n r1 q1) (h2 : ∀ t s, relS F H t s → relR F H t.L.length (r2 t) (q2 s)) (hs : ∀ s, s.e ≠ 0 → (q2 s).s = s) :
    relR F H n (tkKids two r1 r2 n) (rdKids two q1 q2) ∧ ((tkKids two r1 r2 n).e = 0 → (rdKids two q1 q2).m = true) := by
  refine ⟨?_, fun _ => by unfold rdKids; split <;> rfl⟩
  obtain ⟨e1, g1⟩ := h1
  unfold tkKids rdKids
  by_cases he : r1.e = 0
  · rw [if_neg (by omega)]
    obtain ⟨g2, g3, g4, g5⟩ := g1 he
    cases two with
    | true =>
      rw [if_pos rfl, if_pos rfl]
      obtain ⟨e2, k1⟩ := h2 _ _ g2
      by_cases he2 : (r2 r1.s).e = 0
      · rw [if_neg (by omega)]
        obtain ⟨k2, k3, k4, k5⟩ := k1 he2
        have hz : (q2 q1.s).s.e = 0 := by rw [e2, he2]
        by_cases hl : (r2 r1.s).s.L.length = n
        · rw [if_pos hl, if_pos ⟨hz, by
            have m1 : q1.m = false := by cases hm : q1.m; rfl; have := g5.1 hm; omega
            have m2 : (q2 q1.s).m = false := by cases hm : (q2 q1.s).m; rfl; have := k5.1 hm; omega
            rw [m1, m2]; rfl⟩]
          exact ⟨rfl, fun h => by cases h⟩
        · rw [if_neg hl, if_neg (by
            rintro ⟨_, hm⟩
            rw [Bool.or_eq_false_iff] at hm
            have m1 : ¬ n < r1.s.L.length := fun h => by rw [g5.2 h] at hm; cases hm.1
            have m2 : ¬ r1.s.L.length < (r2 r1.s).s.L.length := fun h => by rw [k5.2 h] at hm; cases hm.2
            omega)]
          exact ⟨hz, fun _ => ⟨k2, by show nd _ _ = nd _ _; rw [g3, k3], by show n ≤ (r2 r1.s).s.L.length; omega, by show true = true ↔ n < (r2 r1.s).s.L.length; exact ⟨fun _ => by omega, fun _ => rfl⟩⟩⟩
      · rw [if_pos he2, if_neg (by rw [e2]; omega)]
        exact ⟨e2, fun h => absurd h he2⟩
    | false =>
      rw [if_neg Bool.false_ne_true, if_neg Bool.false_ne_true]
      have hz : q1.s.e = 0 := by rw [e1, he]
      by_cases hl : r1.s.L.length = n
      · rw [if_pos hl, if_pos ⟨hz, by cases hm : q1.m; rfl; have := g5.1 hm; omega⟩]
        exact ⟨rfl, fun h => by cases h⟩
      · rw [if_neg hl, if_neg (by
          rintro ⟨_, hm⟩
          have m1 : ¬ n < r1.s.L.length := fun h => by rw [g5.2 h] at hm; cases hm
          omega)]
        exact ⟨hz, fun _ => ⟨g2, g3, by show n ≤ r1.s.L.length; omega, by show true = true ↔ n < r1.s.L.length; exact ⟨fun _ => by omega, fun _ => rfl⟩⟩⟩
  · rw [if_pos he]
    have hz : q1.s.e ≠ 0 := by rw [e1]; exact he
    have e3 := hs _ hz
    split
    · rw [e3, if_neg (fun h => hz h.1)]; exact ⟨e1, fun h => absurd h he⟩
    · rw [if_neg (fun h => hz h.1)]; exact ⟨e1, fun h => absurd h he⟩
theorem tak_rd {n : Nat} {F : List Bool} {H : List Nat} : ∀ (k i : Nat) (t : Tk) (s : Rc), relS F H t s → relR F H t.L.length (tak n k i t) (rd n F H k i s) := by
  intro k
  induction k with
  | zero =>
    intro i t s h
    obtain ⟨h1, h2, h3, h4, h5, h6⟩ := h
    rw [tak, rd, if_neg (by omega)]
    by_cases ha : s.a = F.length
    · rw [if_pos ha, show t.F = [] by rw [h4, ha, List.drop_length]]
      exact ⟨rfl, fun h => by cases h⟩
    · rw [if_neg ha, show t.F = F.getD s.a false :: F.drop (s.a + 1) by rw [h4, drop_cons false (by omega)]]
      exact leaf_rel (t := ⟨_, t.H, t.L⟩) ⟨h1, by show s.a + 1 ≤ _; omega, h3, rfl, h5, h6⟩
  | succ k ih =>
    intro i t s h
    obtain ⟨h1, h2, h3, h4, h5, h6⟩ := h
    rw [tak, rd, if_neg (by omega)]
    by_cases ha : s.a = F.length
    · rw [if_pos ha, show t.F = [] by rw [h4, ha, List.drop_length]]
      exact ⟨rfl, fun h => by cases h⟩
    · rw [if_neg ha, show t.F = F.getD s.a false :: F.drop (s.a + 1) by rw [h4, drop_cons false (by omega)]]
      have hs : relS F H ⟨F.drop (s.a + 1), t.H, t.L⟩ { s with a := s.a + 1 } := ⟨h1, by show s.a + 1 ≤ _; omega, h3, rfl, h5, h6⟩
      show relR F H t.L.length (if F.getD s.a false = true then _ else _) _
      by_cases hf : F.getD s.a false = true
      · rw [if_pos hf, if_pos hf]
        exact (kids_rel (ih (2 * i) _ _ hs) (fun t s h => ih (2 * i + 1) t s h) (fun s h => by rw [rd_stuck h])).1
      · rw [if_neg hf, if_neg hf]
        exact leaf_rel hs
def tE (n : Nat) : Nat := if n = 0 then 1 else 0
theorem tE_0 (n : Nat) : (tE n = 0 ↔ n ≠ 0) ∧ tE n ≤ 1 := by unfold tE; split <;> omega
theorem tE_1 {n : Nat} (h : n = 0) : tE n = 1 := by rw [tE, if_pos h]
theorem tE_2 {n : Nat} (h : n ≠ 0) : tE n = 0 := by rw [tE, if_neg h]
theorem drop_0 {α : Type} {l : List α} (h : l.length = 0) : l.drop 1 = l := by
  cases l with
  | nil => rfl
  | cons x r => cases h
theorem getD_0 {α : Type} {l : List α} {d : α} (h : l.length = 0) : l.getD 0 d = d := by
  cases l with
  | nil => rfl
  | cons x r => cases h
def kid (n k i : Nat) (s : Tk) : Tr := tkKids (decide (2 * i + 1 < wdt n (k - 1))) (tak n (k - 1) (2 * i) s) (tak n (k - 1) (2 * i + 1)) s.L.length
section
variable {n k i : Nat} {F : List Bool} {H : List Nat} {L : List (Nat × Nat)}
theorem tak_0 (h : F.length = 0) : tak n k i ⟨F, H, L⟩ = ⟨⟨F.drop 1, H, L⟩, 0, 1⟩ := by
  obtain rfl : F = [] := List.length_eq_zero_iff.1 h
  cases k <;> simp [tak]
theorem tak_leaf (h : F.length ≠ 0) (hk : F.getD 0 false = false ∨ k = 0) : tak n k i ⟨F, H, L⟩ = tkLeaf i (F.getD 0 false) ⟨F.drop 1, H, L⟩ := by
  cases F with
  | nil => exact absurd rfl h
  | cons f F =>
    cases k with
    | zero => rfl
    | succ k =>
      rcases hk with hk | hk
      · simp at hk; subst hk; rfl
      · cases hk
theorem tak_k (h : F.length ≠ 0) (hf : F.getD 0 false = true) (hk : 0 < k) : tak n k i ⟨F, H, L⟩ = kid n k i ⟨F.drop 1, H, L⟩ := by
  cases F with
  | nil => exact absurd rfl h
  | cons f F =>
    simp at hf; subst hf
    cases k with
    | zero => cases hk
    | succ k => simp [tak, kid]
theorem tak_l0 (h : F.length ≠ 0) (hk : F.getD 0 false = false ∨ k = 0) (hH : H.length = 0) : tak n k i ⟨F, H, L⟩ = ⟨⟨F.drop 1, H.drop 1, L⟩, 0, 1⟩ := by
  obtain rfl : H = [] := List.length_eq_zero_iff.1 hH
  rw [tak_leaf h hk]; rfl
theorem tak_l1 (h : F.length ≠ 0) (hk : F.getD 0 false = false ∨ k = 0) (hH : H.length ≠ 0) (hf : F.getD 0 false = true) : tak n k i ⟨F, H, L⟩ = ⟨⟨F.drop 1, H.drop 1, L ++ [(i, H.getD 0 0)]⟩, H.getD 0 0, 0⟩ := by
  cases H with
  | nil => exact absurd rfl hH
  | cons x H => rw [tak_leaf h hk, hf]; rfl
theorem tak_l2 (h : F.length ≠ 0) (hk : F.getD 0 false = false ∨ k = 0) (hH : H.length ≠ 0) (hf : F.getD 0 false = false) : tak n k i ⟨F, H, L⟩ = ⟨⟨F.drop 1, H.drop 1, L⟩, H.getD 0 0, 0⟩ := by
  cases H with
  | nil => exact absurd rfl hH
  | cons x H => rw [tak_leaf h hk, hf]; rfl
theorem kid_e1 (h : (tak n (k - 1) (2 * i) ⟨F, H, L⟩).e ≠ 0) : kid n k i ⟨F, H, L⟩ = ⟨(tak n (k - 1) (2 * i) ⟨F, H, L⟩).s, 0, (tak n (k - 1) (2 * i) ⟨F, H, L⟩).e⟩ := by
  rw [kid, tkKids, if_pos h]
section
variable {r1 : Tr}
theorem kid_e2 (hr : tak n (k - 1) (2 * i) ⟨F, H, L⟩ = r1) (h : r1.e = 0) (h2 : 2 * i + 1 < wdt n (k - 1)) (h3 : (tak n (k - 1) (2 * i + 1) ⟨r1.s.F, r1.s.H, r1.s.L⟩).e ≠ 0) : kid n k i ⟨F, H, L⟩ = ⟨(tak n (k - 1) (2 * i + 1) ⟨r1.s.F, r1.s.H, r1.s.L⟩).s, 0, (tak n (k - 1) (2 * i + 1) ⟨r1.s.F, r1.s.H, r1.s.L⟩).e⟩ := by
  rw [kid, hr, tkKids, if_neg (by omega), if_pos (decide_eq_true h2), if_pos h3]
theorem kid_c2 (hr : tak n (k - 1) (2 * i) ⟨F, H, L⟩ = r1) (h : r1.e = 0) (h2 : 2 * i + 1 < wdt n (k - 1)) (h3 : (tak n (k - 1) (2 * i + 1) ⟨r1.s.F, r1.s.H, r1.s.L⟩).e = 0) (h4 : (tak n (k - 1) (2 * i + 1) ⟨r1.s.F, r1.s.H, r1.s.L⟩).s.L.length = L.length) : kid n k i ⟨F, H, L⟩ = ⟨(tak n (k - 1) (2 * i + 1) ⟨r1.s.F, r1.s.H, r1.s.L⟩).s, 0, 3⟩ := by
  rw [kid, hr, tkKids, if_neg (by omega), if_pos (decide_eq_true h2), if_neg (fun e => e h3), if_pos h4]
theorem kid_o2 (hr : tak n (k - 1) (2 * i) ⟨F, H, L⟩ = r1) (h : r1.e = 0) (h2 : 2 * i + 1 < wdt n (k - 1)) (h3 : (tak n (k - 1) (2 * i + 1) ⟨r1.s.F, r1.s.H, r1.s.L⟩).e = 0) (h4 : (tak n (k - 1) (2 * i + 1) ⟨r1.s.F, r1.s.H, r1.s.L⟩).s.L.length ≠ L.length) : kid n k i ⟨F, H, L⟩ = ⟨(tak n (k - 1) (2 * i + 1) ⟨r1.s.F, r1.s.H, r1.s.L⟩).s, nd r1.h (tak n (k - 1) (2 * i + 1) ⟨r1.s.F, r1.s.H, r1.s.L⟩).h, 0⟩ := by
  rw [kid, hr, tkKids, if_neg (by omega), if_pos (decide_eq_true h2), if_neg (fun e => e h3), if_neg h4]
theorem kid_c1 (hr : tak n (k - 1) (2 * i) ⟨F, H, L⟩ = r1) (h : r1.e = 0) (h2 : ¬ 2 * i + 1 < wdt n (k - 1)) (h4 : r1.s.L.length = L.length) : kid n k i ⟨F, H, L⟩ = ⟨r1.s, 0, 3⟩ := by
  rw [kid, hr, tkKids, if_neg (by omega), if_neg (by simpa using h2), if_pos h4]
theorem kid_o1 (hr : tak n (k - 1) (2 * i) ⟨F, H, L⟩ = r1) (h : r1.e = 0) (h2 : ¬ 2 * i + 1 < wdt n (k - 1)) (h4 : r1.s.L.length ≠ L.length) : kid n k i ⟨F, H, L⟩ = ⟨r1.s, r1.h, 0⟩ := by
  rw [kid, hr, tkKids, if_neg (by omega), if_neg (by simpa using h2), if_neg h4]
end
end
def Tk.w (s : Tk) : Nat := s.L.length + s.H.length
theorem leaf_w (i : Nat) (f : Bool) (s : Tk) : (tkLeaf i f s).s.w ≤ s.w := by
  obtain ⟨F, H, L⟩ := s
  cases H with
  | nil => exact Nat.le_refl _
  | cons x H => cases f <;> simp [tkLeaf, Tk.w] <;> omega
theorem kids_w {two : Bool} {r1 : Tr} {r2 : Tk → Tr} {n m : Nat} (h1 : r1.s.w ≤ m) (h2 : ∀ s, (r2 s).s.w ≤ s.w) : (tkKids two r1 r2 n).s.w ≤ m := by
  have h3 := h2 r1.s
  unfold tkKids
  repeat' split
  all_goals first | exact h1 | exact Nat.le_trans h3 h1
theorem tak_w {n : Nat} : ∀ (k i : Nat) (s : Tk), (tak n k i s).s.w ≤ s.w := by
  intro k
  induction k with
  | zero =>
    intro i s
    rw [tak]
    split
    · exact Nat.le_refl _
    · rename_i f F h
      exact leaf_w i f ⟨F, s.H, s.L⟩
  | succ k ih =>
    intro i s
    rw [tak]
    split
    · exact Nat.le_refl _
    · rename_i f F h
      split
      · exact kids_w (ih (2 * i) ⟨F, s.H, s.L⟩) (fun s => ih (2 * i + 1) s)
      · exact leaf_w i f ⟨F, s.H, s.L⟩
theorem tak_w2 (n k i : Nat) (F : List Bool) (H : List Nat) (L : List (Nat × Nat)) : (tak n k i ⟨F, H, L⟩).s.L.length + (tak n k i ⟨F, H, L⟩).s.H.length ≤ L.length + H.length := tak_w k i ⟨F, H, L⟩
theorem leaf_f (i : Nat) (f : Bool) (s : Tk) : (tkLeaf i f s).s.F.length ≤ s.F.length := by
  obtain ⟨F, H, L⟩ := s
  cases H <;> exact Nat.le_refl _
theorem kids_f {two : Bool} {r1 : Tr} {r2 : Tk → Tr} {n m : Nat} (h1 : r1.s.F.length ≤ m) (h2 : ∀ s, (r2 s).s.F.length ≤ s.F.length) : (tkKids two r1 r2 n).s.F.length ≤ m := by
  have h3 := h2 r1.s
  unfold tkKids
  repeat' split
  all_goals first | exact h1 | exact Nat.le_trans h3 h1
theorem tak_f' {n : Nat} : ∀ (k i : Nat) (s : Tk), (tak n k i s).s.F.length ≤ s.F.length := by
  intro k
  induction k with
  | zero =>
    intro i s
    rw [tak]
    split
    · exact Nat.le_refl _
    · rename_i f F h
      rw [h]
      exact Nat.le_trans (leaf_f i f ⟨F, s.H, s.L⟩) (by simp)
  | succ k ih =>
    intro i s
    rw [tak]
    split
    · exact Nat.le_refl _
    · rename_i f F h
      rw [h]
      split
      · exact Nat.le_trans (kids_f (ih (2 * i) ⟨F, s.H, s.L⟩) (fun s => ih (2 * i + 1) s)) (by simp)
      · exact Nat.le_trans (leaf_f i f ⟨F, s.H, s.L⟩) (by simp)
theorem tak_f (n k i : Nat) (F : List Bool) (H : List Nat) (L : List (Nat × Nat)) : (tak n k i ⟨F, H, L⟩).s.F.length ≤ F.length := tak_f' k i ⟨F, H, L⟩
def exV (c : Int) (F : List Bool) (H : List Nat) : Nat × List (Nat × Nat) × Nat :=
  if ¬ (1 ≤ c ∧ c ≤ 1024) then (0, [], 5) else if 4096 < F.length ∨ 4096 < H.length then (0, [], 4)
  else if (tak c.toNat (ht c.toNat) 0 ⟨F, H, []⟩).e ≠ 0 then (0, [], (tak c.toNat (ht c.toNat) 0 ⟨F, H, []⟩).e)
  else if 0 < (tak c.toNat (ht c.toNat) 0 ⟨F, H, []⟩).s.F.length ∨ 0 < (tak c.toNat (ht c.toNat) 0 ⟨F, H, []⟩).s.H.length then (0, [], 2)
  else ((tak c.toNat (ht c.toNat) 0 ⟨F, H, []⟩).h, (tak c.toNat (ht c.toNat) 0 ⟨F, H, []⟩).s.L, 0)
def exH (c : Int) (F : List Bool) (H : List Nat) : Nat := (exV c F H).1
def exL (c : Int) (F : List Bool) (H : List Nat) : List (Nat × Nat) := (exV c F H).2.1
def exE (c : Int) (F : List Bool) (H : List Nat) : Nat := (exV c F H).2.2
section
variable {c : Int} {F : List Bool} {H : List Nat} {m a e : Nat} {l : List (Nat × Nat)}
theorem ex_val (h : exV c F H = (a, l, e)) : PV.tup [h32 a, .own m 0 l.length 33, ln e] = .tup [h32 (exH c F H), .own m 0 (exL c F H).length 33, ln (exE c F H)] := by rw [exH, exL, exE, h]
theorem ex_row (h : exV c F H = (a, l, e)) : l = exL c F H := by rw [exL, h]
theorem exV_5 (h : ¬ (1 ≤ c ∧ c ≤ 1024)) : exV c F H = (0, [], 5) := by rw [exV, if_pos h]
theorem exV_4 (h : 1 ≤ c ∧ c ≤ 1024) (h2 : 4096 < F.length ∨ 4096 < H.length) : exV c F H = (0, [], 4) := by rw [exV, if_neg (fun e => e h), if_pos h2]
theorem exV_e (h : 1 ≤ c ∧ c ≤ 1024) (h2 : ¬ (4096 < F.length ∨ 4096 < H.length)) (h3 : (tak c.toNat (ht c.toNat) 0 ⟨F, H, []⟩).e ≠ 0) : exV c F H = (0, [], (tak c.toNat (ht c.toNat) 0 ⟨F, H, []⟩).e) := by
  rw [exV, if_neg (fun e => e h), if_neg h2, if_pos h3]
theorem exV_2 (h : 1 ≤ c ∧ c ≤ 1024) (h2 : ¬ (4096 < F.length ∨ 4096 < H.length)) (h3 : (tak c.toNat (ht c.toNat) 0 ⟨F, H, []⟩).e = 0) (h4 : 0 < (tak c.toNat (ht c.toNat) 0 ⟨F, H, []⟩).s.F.length ∨ 0 < (tak c.toNat (ht c.toNat) 0 ⟨F, H, []⟩).s.H.length) : exV c F H = (0, [], 2) := by
  rw [exV, if_neg (fun e => e h), if_neg h2, if_neg (fun e => e h3), if_pos h4]
theorem exV_0 (h : 1 ≤ c ∧ c ≤ 1024) (h2 : ¬ (4096 < F.length ∨ 4096 < H.length)) (h3 : (tak c.toNat (ht c.toNat) 0 ⟨F, H, []⟩).e = 0) (h4 : ¬ (0 < (tak c.toNat (ht c.toNat) 0 ⟨F, H, []⟩).s.F.length ∨ 0 < (tak c.toNat (ht c.toNat) 0 ⟨F, H, []⟩).s.H.length)) : exV c F H = ((tak c.toNat (ht c.toNat) 0 ⟨F, H, []⟩).h, (tak c.toNat (ht c.toNat) 0 ⟨F, H, []⟩).s.L, 0) := by
  rw [exV, if_neg (fun e => e h), if_neg h2, if_neg (fun e => e h3), if_neg h4]
end
section
variable {n k i a b e : Nat} {F : List Bool} {H : List Nat} {L : List (Nat × Nat)}
theorem rd_e (h : e ≠ 0) : rd n F H k i ⟨a, b, L, e⟩ = ⟨⟨a, b, L, e⟩, 0, false⟩ := rd_stuck h
theorem rd_a (h : e = 0) (ha : a = F.length) : rd n F H k i ⟨a, b, L, e⟩ = ⟨⟨a, b, L, 1⟩, 0, false⟩ := by
  cases k <;> rw [rd, if_neg (fun x => x h), if_pos ha]
theorem rd_leaf (h : e = 0) (ha : a ≠ F.length) (hk : F.getD a false = false ∨ k = 0) : rd n F H k i ⟨a, b, L, e⟩ = rdLeaf H i (F.getD a false) ⟨a + 1, b, L, e⟩ := by
  cases k with
  | zero => rw [rd, if_neg (fun x => x h), if_neg ha]
  | succ k =>
    rcases hk with hk | hk
    · rw [rd, if_neg (fun x => x h), if_neg ha]
      show (if F.getD a false = true then _ else _) = _
      rw [hk]; rfl
    · cases hk
theorem rd_b (h : e = 0) (ha : a ≠ F.length) (hk : F.getD a false = false ∨ k = 0) (hb : b = H.length) : rd n F H k i ⟨a, b, L, e⟩ = ⟨⟨a + 1, b, L, 1⟩, 0, false⟩ := by
  rw [rd_leaf h ha hk, rdLeaf, if_pos hb]
theorem rd_l1 (h : e = 0) (ha : a ≠ F.length) (hk : F.getD a false = false ∨ k = 0) (hb : b ≠ H.length) (hf : F.getD a false = true) : rd n F H k i ⟨a, b, L, e⟩ = ⟨⟨a + 1, b + 1, L ++ [(i, H.getD b 0)], e⟩, H.getD b 0, F.getD a false⟩ := by
  rw [rd_leaf h ha hk, rdLeaf, if_neg hb, if_pos hf]
theorem rd_l2 (h : e = 0) (ha : a ≠ F.length) (hk : F.getD a false = false ∨ k = 0) (hb : b ≠ H.length) (hf : F.getD a false = false) : rd n F H k i ⟨a, b, L, e⟩ = ⟨⟨a + 1, b + 1, L, e⟩, H.getD b 0, F.getD a false⟩ := by
  rw [rd_leaf h ha hk, rdLeaf, if_neg hb, hf]; rfl
theorem rd_k (h : e = 0) (ha : a ≠ F.length) (hf : F.getD a false = true) (hk : 0 < k) : rd n F H k i ⟨a, b, L, e⟩ = rdKids (decide (2 * i + 1 < wdt n (k - 1))) (rd n F H (k - 1) (2 * i) ⟨a + 1, b, L, e⟩) (rd n F H (k - 1) (2 * i + 1)) := by
  obtain ⟨m, rfl⟩ : ∃ m, k = m + 1 := ⟨k - 1, by omega⟩
  rw [rd, if_neg (fun x => x h), if_neg ha]
  show (if F.getD a false = true then _ else _) = _
  rw [if_pos hf]; rfl
section
variable {r1 r2 : Rr}
theorem rd_k2c (hr : rd n F H (k - 1) (2 * i) ⟨a + 1, b, L, e⟩ = r1) (hq : rd n F H (k - 1) (2 * i + 1) ⟨r1.s.a, r1.s.b, r1.s.L, r1.s.e⟩ = r2) (h : e = 0) (ha : a ≠ F.length) (hf : F.getD a false = true) (hk : 0 < k) (h2 : 2 * i + 1 < wdt n (k - 1)) (h3 : r2.s.e = 0) (h4 : r1.m = false) (h5 : r2.m = false) :
    rd n F H k i ⟨a, b, L, e⟩ = ⟨⟨r2.s.a, r2.s.b, r2.s.L, 3⟩, nd r1.h r2.h, true⟩ := by
  rw [rd_k h ha hf hk, hr, rdKids, if_pos (decide_eq_true h2)]
  show Rr.mk (if (rd n F H (k - 1) (2 * i + 1) ⟨r1.s.a, r1.s.b, r1.s.L, r1.s.e⟩).s.e = 0 ∧ (r1.m || (rd n F H (k - 1) (2 * i + 1) ⟨r1.s.a, r1.s.b, r1.s.L, r1.s.e⟩).m) = false then _ else _) _ _ = _
  rw [hq, if_pos ⟨h3, by rw [h4, h5]; rfl⟩]
theorem rd_k2o (hr : rd n F H (k - 1) (2 * i) ⟨a + 1, b, L, e⟩ = r1) (hq : rd n F H (k - 1) (2 * i + 1) ⟨r1.s.a, r1.s.b, r1.s.L, r1.s.e⟩ = r2) (h : e = 0) (ha : a ≠ F.length) (hf : F.getD a false = true) (hk : 0 < k) (h2 : 2 * i + 1 < wdt n (k - 1)) (h3 : r2.s.e ≠ 0 ∨ r1.m = true ∨ r2.m = true) :
    rd n F H k i ⟨a, b, L, e⟩ = ⟨r2.s, nd r1.h r2.h, true⟩ := by
  rw [rd_k h ha hf hk, hr, rdKids, if_pos (decide_eq_true h2)]
  show Rr.mk (if (rd n F H (k - 1) (2 * i + 1) ⟨r1.s.a, r1.s.b, r1.s.L, r1.s.e⟩).s.e = 0 ∧ (r1.m || (rd n F H (k - 1) (2 * i + 1) ⟨r1.s.a, r1.s.b, r1.s.L, r1.s.e⟩).m) = false then _ else _) _ _ = _
  rw [hq, if_neg (by
    rintro ⟨g1, g2⟩
    rw [Bool.or_eq_false_iff] at g2
    rcases h3 with h3 | h3 | h3
    · exact h3 g1
    · rw [h3] at g2; cases g2.1
    · rw [h3] at g2; cases g2.2)]
theorem rd_k1c (hr : rd n F H (k - 1) (2 * i) ⟨a + 1, b, L, e⟩ = r1) (h : e = 0) (ha : a ≠ F.length) (hf : F.getD a false = true) (hk : 0 < k) (h2 : ¬ 2 * i + 1 < wdt n (k - 1)) (h3 : r1.s.e = 0) (h4 : r1.m = false) :
    rd n F H k i ⟨a, b, L, e⟩ = ⟨⟨r1.s.a, r1.s.b, r1.s.L, 3⟩, r1.h, true⟩ := by
  rw [rd_k h ha hf hk, hr, rdKids, if_neg (by simpa using h2), if_pos ⟨h3, h4⟩]
theorem rd_k1o (hr : rd n F H (k - 1) (2 * i) ⟨a + 1, b, L, e⟩ = r1) (h : e = 0) (ha : a ≠ F.length) (hf : F.getD a false = true) (hk : 0 < k) (h2 : ¬ 2 * i + 1 < wdt n (k - 1)) (h3 : r1.s.e ≠ 0 ∨ r1.m = true) :
    rd n F H k i ⟨a, b, L, e⟩ = ⟨r1.s, r1.h, true⟩ := by
  rw [rd_k h ha hf hk, hr, rdKids, if_neg (by simpa using h2), if_neg (by
    rintro ⟨g1, g2⟩
    rcases h3 with h3 | h3
    · exact h3 g1
    · rw [h3] at g2; cases g2)]
end
def rcI (F : List Bool) (H : List Nat) (s : Rc) : Prop := s.a ≤ F.length ∧ s.b ≤ H.length ∧ s.L.length ≤ s.b
theorem rdl_I {s : Rc} {f : Bool} (h : rcI F H s) : rcI F H (rdLeaf H i f s).s := by
  obtain ⟨h1, h2, h3⟩ := h
  unfold rdLeaf
  split
  · exact ⟨h1, h2, h3⟩
  · refine ⟨h1, by show s.b + 1 ≤ _; omega, ?_⟩
    show (if f then _ else _ : List (Nat × Nat)).length ≤ s.b + 1
    split
    · rw [List.length_append]; show _ + 1 ≤ _; omega
    · omega
theorem rdk_I {two : Bool} {r1 : Rr} {r2 : Rc → Rr} (h1 : rcI F H r1.s) (h2 : ∀ s, rcI F H s → rcI F H (r2 s).s) : rcI F H (rdKids two r1 r2).s := by
  have h3 := h2 _ h1
  unfold rdKids
  repeat' split
  all_goals first | exact h1 | exact h3
theorem rd_I {n : Nat} {F : List Bool} {H : List Nat} : ∀ (k i : Nat) (s : Rc), rcI F H s → rcI F H (rd n F H k i s).s := by
  intro k
  induction k with
  | zero =>
    intro i s h
    rw [rd]
    split
    · exact h
    · split
      · exact h
      · exact rdl_I (s := { s with a := s.a + 1 }) ⟨by have := h.1; show s.a + 1 ≤ _; omega, h.2.1, h.2.2⟩
  | succ k ih =>
    intro i s h
    rw [rd]
    split
    · exact h
    · split
      · exact h
      · have hs : rcI F H { s with a := s.a + 1 } := ⟨by have := h.1; show s.a + 1 ≤ _; omega, h.2.1, h.2.2⟩
        split
        · exact rdk_I (ih (2 * i) _ hs) (fun s h => ih (2 * i + 1) s h)
        · exact rdl_I hs
theorem rd_J (n k i : Nat) (ha : a ≤ F.length) (hb : b ≤ H.length) (hL : L.length ≤ b) : (rd n F H k i ⟨a, b, L, e⟩).s.a ≤ F.length ∧ (rd n F H k i ⟨a, b, L, e⟩).s.b ≤ H.length ∧ (rd n F H k i ⟨a, b, L, e⟩).s.L.length ≤ (rd n F H k i ⟨a, b, L, e⟩).s.b := rd_I k i ⟨a, b, L, e⟩ ⟨ha, hb, hL⟩
end
def wls (n k : Nat) : List Nat := (List.range (k + 1)).map (wdt n)
theorem len_wls (n k : Nat) : (wls n k).length = k + 1 := by simp [wls]
theorem wls_at {n k i : Nat} (h : i ≤ k) : (wls n k).getD i 0 = wdt n i := by
  simp [wls, List.getD_eq_getElem?_getD, List.getElem?_map, List.getElem?_range (show i < k + 1 by omega)]
theorem wls_s (n k : Nat) : wls n k ++ [(wdt n k + 1) / 2] = wls n (k + 1) := by simp [wls, List.range_succ, wdt_succ]
theorem wls_0 (n : Nat) : [n] = wls n 0 := by simp [wls, wdt_0]
theorem ref_ex {c : Int} {F : List Bool} {H : List Nat} (h : 1 ≤ c ∧ c ≤ 1024) (h2 : ¬ (4096 < F.length ∨ 4096 < H.length)) :
    ((rd c.toNat F H (ht c.toNat) 0 ⟨0, 0, [], 0⟩).s.e ≠ 0 → exV c F H = (0, [], (rd c.toNat F H (ht c.toNat) 0 ⟨0, 0, [], 0⟩).s.e)) ∧
    ((rd c.toNat F H (ht c.toNat) 0 ⟨0, 0, [], 0⟩).s.e = 0 → ((rd c.toNat F H (ht c.toNat) 0 ⟨0, 0, [], 0⟩).s.a < F.length ∨ (rd c.toNat F H (ht c.toNat) 0 ⟨0, 0, [], 0⟩).s.b < H.length) → exV c F H = (0, [], 2)) ∧
    ((rd c.toNat F H (ht c.toNat) 0 ⟨0, 0, [], 0⟩).s.e = 0 → ¬ ((rd c.toNat F H (ht c.toNat) 0 ⟨0, 0, [], 0⟩).s.a < F.length ∨ (rd c.toNat F H (ht c.toNat) 0 ⟨0, 0, [], 0⟩).s.b < H.length) → exV c F H = ((rd c.toNat F H (ht c.toNat) 0 ⟨0, 0, [], 0⟩).h, (rd c.toNat F H (ht c.toNat) 0 ⟨0, 0, [], 0⟩).s.L, 0)) := by
  obtain ⟨g1, g2⟩ := tak_rd (n := c.toNat) (F := F) (H := H) (ht c.toNat) 0 ⟨F, H, []⟩ ⟨0, 0, [], 0⟩ ⟨rfl, Nat.zero_le _, Nat.zero_le _, rfl, rfl, rfl⟩
  refine ⟨fun he => ?_, fun he h3 => ?_, fun he h3 => ?_⟩
  · rw [g1] at he ⊢
    exact exV_e h h2 he
  · have he' := he
    rw [g1] at he'
    obtain ⟨⟨_, k1, k2, k3, k4, k5⟩, _⟩ := g2 he'
    exact exV_2 h h2 he' (by rw [k3, k4, List.length_drop, List.length_drop]; omega)
  · have he' := he
    rw [g1] at he'
    obtain ⟨⟨_, k1, k2, k3, k4, k5⟩, k6, _⟩ := g2 he'
    rw [exV_0 h h2 he' (by rw [k3, k4, List.length_drop, List.length_drop]; omega), k6, k5]
theorem exL_len {c : Int} {F : List Bool} {H : List Nat} : (exL c F H).length ≤ 4096 := by
  rw [exL, exV]
  split
  · simp
  · split
    · simp
    · split
      · simp
      · split
        · simp
        · rename_i h1 h2 h3 h4
          have := tak_w2 c.toNat (ht c.toNat) 0 F H []
          simp only [List.length_nil] at this
          show (tak c.toNat (ht c.toNat) 0 ⟨F, H, []⟩).s.L.length ≤ 4096
          omega
theorem exV_bad (c : Int) (F : List Bool) (H : List Nat) : (exV c F H).2.2 ≠ 0 → (exV c F H).1 = 0 ∧ (exV c F H).2.1 = [] := by
  unfold exV
  split
  · exact fun _ => ⟨rfl, rfl⟩
  · split
    · exact fun _ => ⟨rfl, rfl⟩
    · split
      · exact fun _ => ⟨rfl, rfl⟩
      · split
        · exact fun _ => ⟨rfl, rfl⟩
        · exact fun h => absurd rfl h
theorem exL_b {c : Int} {F : List Bool} {H : List Nat} (h : exE c F H ≠ 0) : exL c F H = [] := (exV_bad c F H h).2
theorem exH_b {c : Int} {F : List Bool} {H : List Nat} (h : exE c F H ≠ 0) : exH c F H = 0 := (exV_bad c F H h).1
end Go.Ab
