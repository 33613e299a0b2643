import Derived.Test.YtaoabfnjibhgdaaDoorM10
import Derived.OpenShut
import Derived.Below
import Derived.ChangeShapes
namespace Go.Ab
def Pr (p : Nat) : Prop := 2 ≤ p ∧ ∀ d, d ∣ p → d = 1 ∨ d = p
theorem Pr.cop {p a : Nat} (hp : Pr p) (h : ¬ p ∣ a) : Nat.gcd p a = 1 := by
  rcases hp.2 _ (Nat.gcd_dvd_left p a) with h1 | h1
  · exact h1
  · exact absurd (h1 ▸ Nat.gcd_dvd_right p a) h
theorem Pr.euclid {p a b : Nat} (hp : Pr p) (h : p ∣ a * b) : p ∣ a ∨ p ∣ b := by
  by_cases ha : p ∣ a
  · exact .inl ha
  · exact .inr (Nat.Coprime.dvd_of_dvd_mul_left (hp.cop ha) h)
def bin : Nat → Nat → Nat
  | _, 0 => 1
  | 0, _ + 1 => 0
  | n + 1, k + 1 => bin n k + bin n (k + 1)
theorem bin_zero (n : Nat) : bin n 0 = 1 := by cases n <;> rfl
theorem bin_big : ∀ {n k : Nat}, n < k → bin n k = 0
  | 0, k + 1, _ => rfl
  | n + 1, k + 1, h => by
    rw [bin, bin_big (by omega), bin_big (by omega)]
theorem bin_self : ∀ n, bin n n = 1
  | 0 => rfl
  | n + 1 => by rw [bin, bin_self n, bin_big (by omega)]
theorem bin_mul : ∀ n k, (k + 1) * bin (n + 1) (k + 1) = (n + 1) * bin n k
  | 0, 0 => rfl
  | 0, k + 1 => by simp [bin]
  | n + 1, 0 => by
    have h := bin_mul n 0
    simp only [bin, bin_zero, Nat.mul_one] at h ⊢
    omega
  | n + 1, k + 1 => by
    have h1 := bin_mul n k
    have h2 := bin_mul n (k + 1)
    have e : bin (n + 1 + 1) (k + 1 + 1) = bin (n + 1) (k + 1) + bin (n + 1) (k + 1 + 1) := rfl
    have e2 : bin (n + 1) (k + 1) = bin n k + bin n (k + 1) := rfl
    rw [e, Nat.mul_add, h2, show (k + 1 + 1) * bin (n + 1) (k + 1) = (k + 1) * bin (n + 1) (k + 1) + bin (n + 1) (k + 1) by rw [Nat.add_mul (k + 1) 1, Nat.one_mul], h1, show (n + 1 + 1) * bin (n + 1) (k + 1) = (n + 1) * bin (n + 1) (k + 1) + bin (n + 1) (k + 1) by rw [Nat.add_mul (n + 1) 1, Nat.one_mul], e2, Nat.mul_add]
    omega
def bsum (a n : Nat) : Nat → Nat
  | 0 => 0
  | m + 1 => bsum a n m + bin n m * a ^ m
theorem bsum_step (a n : Nat) : ∀ m, bsum a (n + 1) (m + 1) = a * bsum a n m + bsum a n (m + 1)
  | 0 => by simp [bsum, bin_zero]
  | m + 1 => by
    have ih := bsum_step a n m
    have e1 : bsum a (n + 1) (m + 1 + 1) = bsum a (n + 1) (m + 1) + bin (n + 1) (m + 1) * a ^ (m + 1) := rfl
    have e2 : bsum a n (m + 1 + 1) = bsum a n (m + 1) + bin n (m + 1) * a ^ (m + 1) := rfl
    have e3 : bsum a n (m + 1) = bsum a n m + bin n m * a ^ m := rfl
    have e4 : bin (n + 1) (m + 1) = bin n m + bin n (m + 1) := rfl
    have e : bin n m * a ^ (m + 1) = a * (bin n m * a ^ m) := by rw [Nat.pow_succ, ← Nat.mul_assoc, Nat.mul_comm]
    have e5 : a * bsum a n (m + 1) = a * bsum a n m + a * (bin n m * a ^ m) := by rw [e3, Nat.mul_add]
    rw [e1, ih, e4, Nat.add_mul, e, e5, e2]
    omega
theorem bsum_all (a : Nat) : ∀ n, bsum a n (n + 1) = (a + 1) ^ n
  | 0 => rfl
  | n + 1 => by
    have h : bsum a n (n + 1 + 1) = bsum a n (n + 1) := by
      rw [show bsum a n (n + 1 + 1) = bsum a n (n + 1) + bin n (n + 1) * a ^ (n + 1) from rfl, bin_big (by omega)]
      omega
    rw [bsum_step, h, bsum_all a n, Nat.pow_succ, Nat.mul_add, Nat.mul_one, Nat.mul_comm]
theorem bin_dvd {p k : Nat} (hp : Pr p) (h0 : 0 < k) (h : k < p) : p ∣ bin p k := by
  have hp2 := hp.1
  obtain ⟨n, rfl⟩ : ∃ n, p = n + 1 := ⟨p - 1, by omega⟩
  obtain ⟨k, rfl⟩ : ∃ j, k = j + 1 := ⟨k - 1, by omega⟩
  have := bin_mul n k
  have hd : (n + 1) ∣ (k + 1) * bin (n + 1) (k + 1) := ⟨_, this⟩
  rcases hp.euclid hd with h1 | h1
  · exact absurd (Nat.le_of_dvd (by omega) h1) (by omega)
  · exact h1
theorem bsum_mod {p : Nat} (hp : Pr p) (a : Nat) : ∀ m, m < p → bsum a p (m + 1) % p = 1 % p
  | 0, _ => by simp [bsum, bin_zero]
  | m + 1, h => by
    obtain ⟨c, hc⟩ := bin_dvd hp (by omega) h
    rw [show bsum a p (m + 1 + 1) = bsum a p (m + 1) + bin p (m + 1) * a ^ (m + 1) from rfl, hc, Nat.mul_assoc, Nat.add_mul_mod_self_left]
    exact bsum_mod hp a m (by omega)
theorem fermat {p : Nat} (hp : Pr p) : ∀ a, a ^ p % p = a % p
  | 0 => by rw [Nat.zero_pow (by have := hp.1; omega)]
  | a + 1 => by
    have h2 := hp.1
    rw [← bsum_all, show bsum a p (p + 1) = bsum a p p + bin p p * a ^ p from rfl, bin_self, Nat.one_mul]
    obtain ⟨n, hn⟩ : ∃ n, p = n + 1 := ⟨p - 1, by omega⟩
    have h := bsum_mod hp a n (by omega)
    rw [← hn] at h
    rw [Nat.add_mod, h, fermat hp a, ← Nat.add_mod, Nat.add_comm]
theorem fermat1 {p a : Nat} (hp : Pr p) (h : ¬ p ∣ a) : a ^ (p - 1) % p = 1 := by
  have h2 := hp.1
  have hf := fermat hp a
  have e : a ^ p = a * a ^ (p - 1) := by
    conv => lhs; rw [show p = p - 1 + 1 by omega, Nat.pow_succ, Nat.mul_comm]
  have hpos : 0 < a ^ (p - 1) := Nat.pow_pos (Nat.pos_of_ne_zero fun h0 => h (h0 ▸ Nat.dvd_zero p))
  have hd : p ∣ a * (a ^ (p - 1) - 1) := by
    rw [Nat.mul_sub_one, ← e]
    exact Nat.dvd_of_mod_eq_zero (Nat.sub_mod_eq_zero_of_mod_eq hf)
  rcases hp.euclid hd with h1 | h1
  · exact absurd h1 h
  · obtain ⟨c, hc⟩ := h1
    have : a ^ (p - 1) = 1 + p * c := by omega
    rw [this, Nat.add_mul_mod_self_left, Nat.mod_eq_of_lt (by omega)]
theorem least_div {n : Nat} (hn : 2 ≤ n) : ∃ d, 2 ≤ d ∧ d ∣ n ∧ ∀ e, 2 ≤ e → e ∣ n → d ≤ e := by
  refine Classical.byContradiction fun hno => ?_
  have : ∀ d, 2 ≤ d → d ∣ n → False := by
    intro d
    induction d using Nat.strongRecOn with
    | _ d ih =>
      intro h1 h2
      exact hno ⟨d, h1, h2, fun e he1 he2 => Nat.le_of_not_lt fun hlt => ih e hlt he1 he2⟩
  exact this n hn (Nat.dvd_refl n)
theorem least_prime {n : Nat} (hn : 2 ≤ n) : ∃ r, Pr r ∧ r ∣ n ∧ (Pr n ∨ r * r ≤ n) := by
  obtain ⟨d, hd2, hdn, hmin⟩ := least_div hn
  have hd : Pr d := ⟨hd2, fun c hc => by
    by_cases h1 : c = 1
    · exact .inl h1
    · have h0 : c ≠ 0 := fun h0 => by subst h0; have := Nat.eq_zero_of_zero_dvd hc; omega
      have := hmin c (by omega) (Nat.dvd_trans hc hdn)
      have := Nat.le_of_dvd (by omega) hc
      exact .inr (by omega)⟩
  refine ⟨d, hd, hdn, ?_⟩
  obtain ⟨m, rfl⟩ := hdn
  by_cases hm : m = 1
  · subst hm; rw [Nat.mul_one]; exact .inl hd
  · have h0 : m ≠ 0 := fun h0 => by subst h0; omega
    exact .inr (Nat.mul_le_mul_left d (hmin m (by omega) (Nat.dvd_mul_left m d)))
theorem pow_gcd {b r : Nat} (hr : 2 ≤ r) (x y : Nat) : b ^ x % r = 1 → b ^ y % r = 1 → b ^ (Nat.gcd x y) % r = 1 := by
  induction x, y using Nat.gcd.induction with
  | H0 n => intro _ h; rwa [Nat.gcd_zero_left]
  | H1 m n hm ih =>
    intro h1 h2
    rw [Nat.gcd_rec]
    refine ih ?_ h1
    have e : b ^ n = (b ^ m) ^ (n / m) * b ^ (n % m) := by rw [← Nat.pow_mul, ← Nat.pow_add, Nat.div_add_mod]
    rw [e, Nat.mul_mod, Nat.pow_mod, h1, Nat.one_pow, Nat.mod_eq_of_lt (show 1 < r by omega), Nat.one_mul, Nat.mod_mod] at h2
    exact h2
theorem mod_dvd {x n r : Nat} (hr : 2 ≤ r) (hrn : r ∣ n) (h : x % n = 1) : x % r = 1 := by
  obtain ⟨c, rfl⟩ := hrn
  have := congrArg (· % r) h
  simp only [Nat.mod_mul_right_mod] at this
  rw [this, Nat.mod_eq_of_lt (by omega)]
theorem pock {n l m a : Nat} (hn : 2 ≤ n) (hl : Pr l) (hm : n - 1 = m * l) (hll : n < l * l) (h1 : a ^ (n - 1) % n = 1) (h2 : Nat.gcd (a ^ m % n + (n - 1)) n = 1) : Pr n := by
  obtain ⟨r, hr, hrn, hor⟩ := least_prime hn
  rcases hor with h | hrr
  · exact h
  exfalso
  have hr2 := hr.1
  have hrd : ¬ l ∣ r - 1 := fun hd => by
    have := Nat.le_of_dvd (by omega) hd
    have := Nat.mul_le_mul (show l ≤ r by omega) (show l ≤ r by omega)
    omega
  have h1r : a ^ (n - 1) % r = 1 := mod_dvd hr2 hrn h1
  have hbl : (a ^ m) ^ l % r = 1 := by rw [← Nat.pow_mul, ← hm]; exact h1r
  have hb0 : ¬ r ∣ a ^ m := fun hd => by
    have hl2 := hl.1
    have h0 : (a ^ m) ^ l % r = 0 := by
      rw [Nat.pow_mod, Nat.mod_eq_zero_of_dvd hd, Nat.zero_pow (by omega), Nat.zero_mod]
    omega
  have hbr := fermat1 hr hb0
  have hg := pow_gcd hr2 _ _ hbl hbr
  rw [hl.cop hrd, Nat.pow_one] at hg
  have hx : r ∣ a ^ m % n + (n - 1) := by
    apply Nat.dvd_of_mod_eq_zero
    have e : (a ^ m % n) % r = 1 := by
      obtain ⟨c, hc⟩ := hrn
      rw [hc, Nat.mod_mul_right_mod]; exact hg
    obtain ⟨c, hc⟩ := hrn
    rw [Nat.add_mod, e]
    have hc0 : 0 < c := Nat.pos_of_ne_zero fun h0 => by subst h0; omega
    have e2 : n - 1 = (r - 1) + r * (c - 1) := by
      have : r * c = r + r * (c - 1) := by
        conv => lhs; rw [show c = 1 + (c - 1) by omega, Nat.mul_add, Nat.mul_one]
      omega
    rw [e2, Nat.add_mul_mod_self_left, Nat.mod_eq_of_lt (show r - 1 < r by omega), show 1 + (r - 1) = r by omega, Nat.mod_self]
  have := Nat.dvd_gcd hx hrn
  rw [h2] at this
  have := Nat.le_of_dvd (by decide) this
  omega
theorem small_prime {n k : Nat} (hn : 2 ≤ n) (hk : n < k * k) (hd : (List.range k).all (fun d => decide (d < 2) || n % d != 0) = true) : Pr n := by
  obtain ⟨r, hr, hrn, hor⟩ := least_prime hn
  rcases hor with h | hrr
  · exact h
  exfalso
  have hlt : r < k := Nat.lt_of_not_le fun hge => by
    have := Nat.mul_le_mul hge hge
    omega
  have := List.all_eq_true.1 hd r (List.mem_range.2 hlt)
  have h2 := hr.1
  have h0 := Nat.mod_eq_zero_of_dvd hrn
  simp [h0] at this
  omega
def pwm (n : Nat) : Nat → Nat → Nat → Nat
  | 0, _, _ => 1 % n
  | f + 1, a, e => bif e % 2 == 1 then a * pwm n f (a * a % n) (e / 2) % n else pwm n f (a * a % n) (e / 2)
theorem pwm_eq (n : Nat) : ∀ f a e, e < 2 ^ f → pwm n f a e = a ^ e % n
  | 0, a, e, h => by
    obtain rfl : e = 0 := by omega
    rfl
  | f + 1, a, e, h => by
    have ih := pwm_eq n f (a * a % n) (e / 2) (by rw [Nat.pow_succ] at h; omega)
    have e1 : (a * a % n) ^ (e / 2) % n = a ^ (2 * (e / 2)) % n := by
      rw [← Nat.pow_mod, Nat.pow_mul, show a ^ 2 = a * a by rw [Nat.pow_two]]
    unfold pwm
    by_cases h2 : e % 2 = 1
    · rw [ih, e1, h2]
      show a * (a ^ (2 * (e / 2)) % n) % n = _
      rw [Nat.mul_mod_mod]
      conv => rhs; rw [show e = 2 * (e / 2) + 1 by omega, Nat.pow_succ, Nat.mul_comm]
    · have h3 : e % 2 = 0 := by omega
      rw [ih, e1, h3]
      show a ^ (2 * (e / 2)) % n = _
      rw [show 2 * (e / 2) = e by omega]
theorem pock2 {n l m f : Nat} (a : Nat) (hl : Pr l) (h : (decide (2 ≤ n) && decide (n - 1 = m * l) && decide (n < l * l) && decide (n < 2 ^ f) && (pwm n f a (n - 1) == 1) && (Nat.gcd (pwm n f a m + (n - 1)) n == 1)) = true) : Pr n := by
  simp only [Bool.and_eq_true, decide_eq_true_eq, beq_iff_eq] at h
  obtain ⟨⟨⟨⟨⟨h1, h2⟩, h3⟩, h4⟩, h5⟩, h6⟩ := h
  have hl2 := hl.1
  have hm : m < 2 ^ f := by
    have : m ≤ m * l := Nat.le_mul_of_pos_right m (by omega)
    omega
  rw [pwm_eq _ _ _ _ (by omega)] at h5
  rw [pwm_eq _ _ _ _ hm] at h6
  exact pock h1 hl h2 h3 h5 h6
def pP : Nat := 115792089237316195423570985008687907853269984665640564039457584007913129603823
def qP : Nat := 57896044618658097711785492504343953926634992332820282019728792003956564801911
theorem pr0 : Pr 213319 := small_prime (k := 500) (by decide) (by decide) (by decide +kernel)
theorem pr1 : Pr 2155375177 := pock2 (m := 10104) (f := 32) 2 pr0 (by decide +kernel)
theorem pr2 : Pr 59483944987587859 := pock2 (m := 27597954) (f := 56) 2 pr1 (by decide +kernel)
theorem pr3 : Pr 1202684276868524221513588244947 := pock2 (m := 20218636761894) (f := 100) 2 pr2 (by decide +kernel)
theorem pr4 : Pr 3201964079152361724098258636758155557 := pock2 (m := 2662348) (f := 122) 2 pr3 (by decide +kernel)
theorem pr5 : Pr 2848630210554880446022254608450222949126931851754251657020267 := pock2 (m := 889650895555637400306338) (f := 201) 2 pr4 (by decide +kernel)
theorem pr_q : Pr qP := pock2 (m := 20324169983221730) (f := 255) 2 pr5 (by decide +kernel)
theorem p2 : 2 ≤ pP := by decide +kernel
def mem (a : Nat) : Prop := 0 < a ∧ a < pP ∧ a ^ qP % pP = 1
instance (a : Nat) : Decidable (mem a) := by unfold mem; exact inferInstance
theorem four_q : 4 ^ qP % pP = 1 := by
  rw [← pwm_eq pP 255 4 qP (by decide +kernel)]
  decide +kernel
theorem pow_q {g : Nat} (h : g ^ qP % pP = 1) (e : Nat) : g ^ (e % qP) % pP = g ^ e % pP := by
  have e1 : g ^ e = (g ^ qP) ^ (e / qP) * g ^ (e % qP) := by rw [← Nat.pow_mul, ← Nat.pow_add, Nat.div_add_mod]
  have h1 : 1 % pP = 1 := Nat.mod_eq_of_lt p2
  conv => rhs; rw [e1, Nat.mul_mod, Nat.pow_mod, h, Nat.one_pow, h1, Nat.one_mul, Nat.mod_mod]
theorem pow_add_q {g : Nat} (h : g ^ qP % pP = 1) (a b : Nat) : g ^ ((a + b) % qP) % pP = (g ^ a % pP) * (g ^ b % pP) % pP := by
  rw [pow_q h, Nat.pow_add, Nat.mul_mod]
theorem pow_mem {g : Nat} (h : g ^ qP % pP = 1) (e : Nat) : (g ^ e % pP) ^ qP % pP = 1 := by
  rw [← Nat.pow_mod, ← Nat.pow_mul, Nat.mul_comm, Nat.pow_mul, Nat.pow_mod, h, Nat.one_pow, Nat.mod_eq_of_lt p2]
theorem ndvd_of_mem {a : Nat} (h : a ^ qP % pP = 1) : ¬ pP ∣ a := fun hd => by
  have h0 : a ^ qP % pP = 0 := by rw [Nat.pow_mod, Nat.mod_eq_zero_of_dvd hd, Nat.zero_pow (by decide +kernel), Nat.zero_mod]
  omega
theorem mem_iff {a : Nat} (h : a < pP) : mem a ↔ a ^ qP % pP = 1 := ⟨fun h => h.2.2, fun h2 => ⟨Nat.pos_of_ne_zero fun h0 => ndvd_of_mem h2 (h0 ▸ Nat.dvd_zero _), h, h2⟩⟩
theorem pPv : pP = 115792089237316195423570985008687907853269984665640564039457584007913129603823 := rfl
theorem qPv : qP = 57896044618658097711785492504343953926634992332820282019728792003956564801911 := rfl
attribute [irreducible] pP qP
end Go.Ab
namespace Go.Ab
set_option maxRecDepth 8000
theorem mpl (x : Nat) : x % pP < 2 ^ 256 := Nat.lt_trans (Nat.mod_lt _ (by rw [pPv]; decide)) (by rw [pPv]; decide)
theorem mql (x : Nat) : x % qP < 2 ^ 256 := Nat.lt_trans (Nat.mod_lt _ (by rw [qPv]; decide)) (by rw [qPv]; decide)
theorem pPl : pP < 2 ^ 256 := by rw [pPv]; decide
theorem qPl : qP < 2 ^ 256 := by rw [qPv]; decide
theorem pP0 : 0 < pP := by rw [pPv]; decide
theorem qP0 : 0 < qP := by rw [qPv]; decide
theorem r0p (x : Nat) : rem0 x pP = x % pP := rem0_pos (Nat.pos_iff_ne_zero.1 pP0) x
theorem r0q (x : Nat) : rem0 x qP = x % qP := rem0_pos (Nat.pos_iff_ne_zero.1 qP0) x
theorem pP_half : pP / 2 = qP := by rw [pPv, qPv]
def gx (a e : Nat) : Nat := a ^ e % pP
theorem gx_eq (a e : Nat) : gx a e = a ^ e % pP := rfl
theorem gx_lt (a e : Nat) : gx a e < pP := Nat.mod_lt _ pP0
theorem r0x (a e : Nat) : rem0 (a ^ e) pP = gx a e := r0p _
attribute [irreducible] gx
def mb (a : Nat) : Bool := decide (a ≠ 0) && decide (a < pP) && decide (gx a qP = 1)
theorem mb_iff (a : Nat) : mb a = true ↔ mem a := by
  unfold mb mem
  rw [gx_eq]
  simp only [Bool.and_eq_true, decide_eq_true_eq, Nat.pos_iff_ne_zero, and_assoc]
theorem mb_zero {a : Nat} (h : a = 0) : mb a = false := by unfold mb; rw [h]; rfl
theorem mb_big {a : Nat} (h : pP ≤ a) : mb a = false := by
  unfold mb
  rw [decide_eq_false (Nat.not_lt.2 h), Bool.and_false, Bool.false_and]
attribute [irreducible] mb
theorem cmpd_lt {a b : Nat} : decide (cmpN a b < 0) = decide (a < b) := by
  unfold cmpN
  refine decide_eq_decide.2 ?_
  (repeat' split) <;> omega
theorem gx4p (e : Nat) : gx (gx 4 e) qP = 1 := by rw [gx_eq, gx_eq]; exact pow_mem four_q e
theorem mb_lt {a : Nat} (h : a < pP) (hq : gx a qP = 1) : mb a = true := (mb_iff a).2 ((mem_iff h).2 (gx_eq a qP ▸ hq))
theorem mb_lo {a : Nat} (h : a < pP) : mb a = decide (gx a qP = 1) := by
  have e : mb a = true ↔ gx a qP = 1 := by rw [mb_iff, gx_eq]; exact mem_iff h
  by_cases hg : gx a qP = 1
  · rw [e.2 hg, decide_eq_true hg]
  · rw [decide_eq_false hg]
    exact Bool.eq_false_iff.2 fun hh => hg (e.1 hh)
theorem mb_pow (e : Nat) : mb (gx 4 e) = true := mb_lt (gx_lt _ _) (gx4p e)
theorem pow_add4 (a b : Nat) : gx 4 ((a + b) % qP) = gx 4 a * gx 4 b % pP := by
  rw [gx_eq, gx_eq, gx_eq]
  exact pow_add_q four_q a b
theorem one_mod_p : 1 % pP = 1 := Nat.mod_eq_of_lt (by rw [pPv]; decide)
theorem pow_neg4 (a : Nat) : gx 4 a * gx 4 ((qP - a % qP) % qP) % pP = 1 := by
  rw [← pow_add4, Nat.add_mod_mod, gx_eq]
  have h : (a + (qP - a % qP)) % qP = 0 := by
    have h1 := Nat.mod_lt a qP0
    rw [← Nat.mod_add_mod, show a % qP + (qP - a % qP) = qP by omega, Nat.mod_self]
  rw [h, Nat.pow_zero, one_mod_p]
theorem fold_hi {h l : Nat} (lh : h < 2 ^ 256) (ll : l < 2 ^ 256) : (h * 36113 + l) / 2 ^ 256 < 2 ^ 256 := by omega
theorem fold_le {h l : Nat} (h0 : ¬ h = 0) : (h * 36113 + l) / 2 ^ 256 * 2 ^ 256 + (h * 36113 + l) % 2 ^ 256 < h * 2 ^ 256 + l := by omega
theorem fold_mod (h l : Nat) : ((h * 36113 + l) / 2 ^ 256 * 2 ^ 256 + (h * 36113 + l) % 2 ^ 256) % pP = (h * 2 ^ 256 + l) % pP := by
  have e : h * 2 ^ 256 + l = (h * 36113 + l) + pP * h := by rw [pPv]; omega
  rw [Nat.div_add_mod', e, Nat.add_mul_mod_self_left]
theorem fold_start {a b : Nat} : (a * b / 2 ^ 256 * 2 ^ 256 + a * b % 2 ^ 256) % pP = a * b % pP := by rw [Nat.div_add_mod']
theorem below_lt {a : Nat} (h : a < pP) : a = a % pP := (Nat.mod_eq_of_lt h).symm
theorem below_ge {a : Nat} (l : a < 2 ^ 256) (h : pP ≤ a) : a - pP = a % pP := by
  have h2 : a - pP < pP := by have := pPv; omega
  rw [Nat.mod_eq_sub_mod h, Nat.mod_eq_of_lt h2]
def PInv (a e i r b : Nat) : Prop := r < pP ∧ b < 2 ^ 256 ∧ r * b ^ (e / 2 ^ i) % pP = gx a e
theorem pin_start {a e : Nat} (la : a < 2 ^ 256) : PInv a e 0 1 a := ⟨by rw [pPv]; decide, la, by rw [Nat.pow_zero, Nat.div_one, Nat.one_mul, gx_eq]⟩
theorem pin_done {a e i r b : Nat} (h : PInv a e i r b) (hi : e < 2 ^ i) : r = gx a e := by
  have := h.2.2
  rwa [Nat.div_eq_of_lt hi, Nat.pow_zero, Nat.mul_one, Nat.mod_eq_of_lt h.1] at this
theorem pin_bit {e i : Nat} (d : Nat) (h : e / 2 ^ i % 2 = d) : e / 2 ^ i = 2 * (e / 2 ^ (i + 1)) + d := by
  rw [Nat.pow_succ, ← Nat.div_div_eq_div_mul]; omega
theorem pin_sq (b n : Nat) : (b * b % pP) ^ n % pP = b ^ (2 * n) % pP := by
  rw [← Nat.pow_mod, Nat.pow_mul, Nat.pow_two]
theorem pin0 {a e i r b : Nat} (h : PInv a e i r b) (hb : e.testBit i = false) : PInv a e (i + 1) r (b * b % pP) := by
  have h0 : e / 2 ^ i % 2 = 0 := by
    rw [Nat.testBit_eq_decide_div_mod_eq] at hb
    have := of_decide_eq_false hb
    omega
  refine ⟨h.1, Nat.lt_trans (Nat.mod_lt _ pP0) pPl, ?_⟩
  rw [← h.2.2, Nat.mul_mod, pin_sq, ← Nat.mul_mod, ← show e / 2 ^ i = 2 * (e / 2 ^ (i + 1)) from pin_bit 0 h0]
theorem pin1 {a e i r b : Nat} (h : PInv a e i r b) (hb : e.testBit i = true) : PInv a e (i + 1) (r * b % pP) (b * b % pP) := by
  have h0 : e / 2 ^ i % 2 = 1 := by
    rw [Nat.testBit_eq_decide_div_mod_eq] at hb
    exact of_decide_eq_true hb
  refine ⟨Nat.mod_lt _ pP0, Nat.lt_trans (Nat.mod_lt _ pP0) pPl, ?_⟩
  rw [← h.2.2, Nat.mul_mod, pin_sq, Nat.mod_mod, ← Nat.mul_mod, Nat.mul_assoc, Nat.mul_comm b, ← show b ^ (2 * (e / 2 ^ (i + 1)) + 1) = b ^ (2 * (e / 2 ^ (i + 1))) * b from Nat.pow_succ .., ← show e / 2 ^ i = 2 * (e / 2 ^ (i + 1)) + 1 from pin_bit 1 h0]
theorem gmul_end {h l z : Nat} (hh : h = 0) (hi : (h * 2 ^ 256 + l) % pP = z) : u4 (l % pP) = u4 z := by
  subst hh
  rw [Nat.zero_mul, Nat.zero_add] at hi
  rw [hi]
theorem gexp_end {a e i r b : Nat} (h : PInv a e i r b) (h1 : ¬ i < blen e) : u4 r = u4 (gx a e) := by
  rw [pin_done h (Nat.lt_of_lt_of_le (blen_lt e) (Nat.pow_le_pow_right (by decide) (by omega)))]
theorem half_e : u4 (pP / 2 ^ 1) = u4 qP := congrArg u4 pP_half
theorem neg_e (a : Nat) : u4 (rem0 (0 + (qP - a % qP)) qP) = u4 ((qP - a % qP) % qP) := by rw [Nat.zero_add, r0q]
theorem bit_b {e i : Nat} : bn .eql (ul (e / 2 ^ (64 * (i / 64)) % 2 ^ 64 / 2 ^ (i % 64) % 2)) (ul 1) = lB (Nat.testBit e i) := by
  rw [eql_u (Nat.lt_of_lt_of_le (Nat.mod_lt _ (by decide)) (by decide)) (by decide)]
  exact congrArg lB (by rw [← bit_eq])
end Go.Ab
namespace Go.Ab
open Go Go.RowKit
set_option linter.unusedVariables false
set_option linter.unusedSimpArgs false
set_option linter.unusedVariables false
def rk {α : Type} (f : α → List PV) (b : List α) : List PV := b.flatMap f
def roK {α : Type} (f : α → List PV) (b : List α) : PV := .ro b.length (rk f b)
def newK {α : Type} (k : Nat) (f : α → List PV) (b : List α) : PV := .new b.length k (rk f b)
class Kd {α : Type} (f : α → List PV) (k : outParam Nat) : Prop where
  len : ∀ a, (f a).length = k
  clo : ∀ a, closedL (f a) = true
section
variable {α : Type} {f : α → List PV} {k : Nat} [h : Kd f k] {b c : List α}
theorem len_rk : (rk f b).length = b.length * k := by
  induction b with
  | nil => simp [rk]
  | cons a b ih => simp only [rk, List.flatMap_cons, List.length_append, h.len, List.length_cons] at *; rw [ih, Nat.succ_mul, Nat.add_comm]
theorem closedL_app {a b : List PV} (ha : closedL a = true) (hb : closedL b = true) : closedL (a ++ b) = true := by
  rw [closedL_iff] at *
  intro p hp
  rcases List.mem_append.1 hp with hp | hp
  · exact ha p hp
  · exact hb p hp
theorem closedL_rk {α : Type} {f : α → List PV} {k : Nat} [h : Kd f k] {b : List α} : closedL (rk f b) = true := by
  induction b with
  | nil => rfl
  | cons a b ih => exact closedL_app (h.clo a) ih
theorem closed_roK {α : Type} {f : α → List PV} {k : Nat} [h : Kd f k] {b : List α} : closed (roK f b) = true := closedL_rk
theorem rk_drop (i : Nat) : (rk f b).drop (i * k) = rk f (b.drop i) := by
  induction i generalizing b with
  | zero => simp
  | succ i ih =>
    cases b with
    | nil => simp [rk]
    | cons a b =>
      have e : (i + 1) * k = k + i * k := by rw [Nat.succ_mul, Nat.add_comm]
      rw [e, ← List.drop_drop]
      have : (rk f (a :: b)).drop k = rk f b := by
        simp only [rk, List.flatMap_cons]
        rw [← h.len a, List.drop_left]
      rw [this, ih]; rfl
theorem rk_take (i : Nat) : (rk f b).take (i * k) = rk f (b.take i) := by
  induction i generalizing b with
  | zero => simp [rk]
  | succ i ih =>
    cases b with
    | nil => simp [rk]
    | cons a b =>
      have e : (i + 1) * k = k + i * k := by rw [Nat.succ_mul, Nat.add_comm]
      simp only [rk, List.flatMap_cons, List.take_succ_cons]
      rw [e, ← h.len a, List.take_length_add_append, h.len a]
      exact congrArg _ ih
theorem rk_app : rk f b ++ rk f c = rk f (b ++ c) := (List.flatMap_append).symm
theorem rk_len1 {α : Type} {g : α → PV} {b : List α} : rk (fun a => [g a]) b = b.map g := by
  induction b with
  | nil => rfl
  | cons a b ih => simp only [rk, List.flatMap_cons, List.map_cons] at *; rw [ih]; rfl
def slP (l h n len sz : Nat) : Prop := 0 ≤ (l : Int) ∧ (l : Int) ≤ (h : Int) ∧ (h : Int) ≤ (n : Int) ∧ len = n * sz
theorem slP_ok {l m : Nat} (h1 : l ≤ m) (h2 : m ≤ b.length) : slP l m b.length (rk f b).length k :=
  ⟨by omega, by omega, by omega, len_rk⟩
theorem sl_eq {l m : Nat} (h1 : l ≤ m) (h2 : m ≤ b.length) : PV.ro ((m : Int) - (l : Int)).toNat (((rk f b).drop ((l : Int).toNat * k)).take (((m : Int) - (l : Int)).toNat * k)) = roK f ((b.drop l).take (m - l)) := by
  have e : ((m : Int) - (l : Int)).toNat = m - l := by omega
  rw [e, Int.toNat_natCast, rk_drop, rk_take, roK]
  congr 1
  simp; omega
theorem sl_lo {l : Nat} (h1 : l ≤ b.length) : PV.ro ((b.length : Int) - (l : Int)).toNat (((rk f b).drop ((l : Int).toNat * k)).take (((b.length : Int) - (l : Int)).toNat * k)) = roK f (b.drop l) := by
  rw [sl_eq h1 (Nat.le_refl _), List.take_of_length_le (by simp)]
theorem sl_hi {m : Nat} (h1 : m ≤ b.length) : PV.ro ((m : Int) - 0).toNat (((rk f b).drop ((0 : Int).toNat * k)).take (((m : Int) - 0).toNat * k)) = roK f (b.take m) := by
  have := sl_eq (f := f) (b := b) (l := 0) (Nat.zero_le m) h1
  rw [List.drop_zero, Nat.sub_zero] at this
  exact this
def apnP (m sz bt : Nat) (p : Prop) : Prop := 0 < sz ∧ sz = sz ∧ p ∧ m * bt ≤ 140737488355328 ∧ m ≤ 4611686018427387904
def apoP (row off n m sz bt : Nat) (p : Prop) : Prop := 0 < sz ∧ sz = sz ∧ sz = sz ∧ off + n * sz ≤ row ∧ p ∧ (n + m) * bt ≤ 140737488355328 ∧ n + m ≤ 4611686018427387904
theorem apnP_ok {m sz bt : Nat} {p : Prop} (h0 : 0 < sz) (hp : p) (h1 : m * bt ≤ 140737488355328) (h2 : m ≤ 4611686018427387904) : apnP m sz bt p := ⟨h0, rfl, hp, h1, h2⟩
theorem apoP_ok {row off n m sz bt : Nat} {p : Prop} (h0 : 0 < sz) (hr : off + n * sz ≤ row) (hp : p) (h1 : (n + m) * bt ≤ 140737488355328) (h2 : n + m ≤ 4611686018427387904) : apoP row off n m sz bt p := ⟨h0, rfl, rfl, hr, hp, h1, h2⟩
def arP (len n sz : Nat) : Prop := True ∧ len = n * sz
theorem arP_ok : arP (rk f b).length b.length k := ⟨trivial, len_rk⟩
def aoP (off n row len sz : Nat) : Prop := off + n * sz ≤ row ∧ len = n * sz
theorem aoP_ok {n : Nat} (hn : n = b.length) : aoP 0 n (rk f b).length (((rk f b).drop 0).take (n * k)).length k := by
  subst hn
  refine ⟨by rw [len_rk]; omega, ?_⟩
  rw [List.drop_zero, List.length_take, len_rk]; omega
theorem row_le {n : Nat} (hn : n = b.length) : 0 + n * k ≤ (rk f b).length := by rw [len_rk, hn]; omega
theorem row_all {n : Nat} (hn : n = b.length) : ((rk f b).drop 0).take (n * k) = rk f b := by
  rw [List.drop_zero, hn, List.take_of_length_le (by rw [len_rk]; exact Nat.le_refl _)]
theorem app_row {n : Nat} (hn : n = b.length) : ((rk f b).drop 0).take (n * k) ++ rk f c = rk f (b ++ c) := by rw [row_all hn, rk_app]
theorem app_own {n m : Nat} (hn : n = b.length) (hm : m = c.length) : ((rk f b).drop 0).take (n * k) ++ ((rk f c).drop 0).take (m * k) = rk f (b ++ c) := by rw [row_all hn, row_all hm, rk_app]
theorem own_eq {id id' off off' n m sz : Nat} (h1 : id = id') (h2 : off = off') (h : n = m) : PV.own id off n sz = .own id' off' m sz := by subst h1 h2 h; rfl
theorem shut_new {n : Nat} (hn : n = b.length) : PV.new n k (((rk f b).drop 0).take (n * k)) = newK k f b := by rw [row_all hn, newK, hn]
theorem shut_clo {n : Nat} (hn : n = b.length) : closedL (((rk f b).drop 0).take (n * k)) = true := by rw [row_all hn]; exact closedL_rk
def mkP (l c : Int) (bt sz : Nat) (z : Value) : Prop := 0 ≤ l ∧ l ≤ c ∧ (bt : Int) * c ≤ 281474976710656 ∧ c ≤ 9223372036854775807 ∧ z.cells.size = sz ∧ (∀ v ∈ z.cells.toList, v.oneCell' = true)
theorem mkP_ok {l c bt sz : Nat} {z : Value} (h1 : l ≤ c) (h2 : bt * c ≤ 281474976710656) (h3 : c ≤ 9223372036854775807) (h4 : (Nat.beq z.cells.size sz && z.cells.toList.all Value.oneCell') = true) : mkP l c bt sz z := by
  simp only [Bool.and_eq_true] at h4
  refine ⟨by omega, by omega, ?_, by omega, Nat.eq_of_beq_eq_true h4.1, List.all_eq_true.1 h4.2⟩
  rw [← Int.natCast_mul]; omega
theorem rep_rk {l : Nat} {z : Value} {a : α} (h1 : z.cells.toList.map PV.lit = f a) : rep (l : Int).toNat z = rk f (List.replicate l a) := by
  rw [rep, Int.toNat_natCast, h1]
  induction l with
  | zero => simp [rk]
  | succ l ih => rw [List.replicate_succ, List.flatten_cons, ih, List.replicate_succ]; rfl
end
def b1 (x : UInt8) : List PV := [bv x]
instance : Kd b1 1 := ⟨fun _ => rfl, fun _ => rfl⟩
theorem rk_b1 (b : List UInt8) : rk b1 b = b.map bv := rk_len1
theorem rk_hl (n : Nat) : rk b1 (by32 n) = hl n := rk_b1 _
theorem ro_map (b : List UInt8) : PV.ro b.length (b.map bv) = roK b1 b := by rw [roK, rk_b1]
theorem ro_32 (n : Nat) : PV.ro 32 (hl n) = roK b1 (by32 n) := by rw [roK, len_by32, rk_hl]
def sb (s : ByteArray) : List UInt8 := s.data.toList
theorem len_sb (s : ByteArray) : (sb s).length = s.size := Array.length_toList
theorem cv_str (s : ByteArray) : PV.ro s.size (s.data.toList.map bv) = roK b1 (sb s) := by rw [← ro_map, len_sb]; rfl
end Go.Ab
namespace Go.Ab
open Go Go.RowKit
set_option linter.unusedVariables false
set_option linter.unusedSimpArgs false
set_option linter.unusedVariables false
abbrev W := BitVec 32
def uw (x : W) : PV := .lit (.int .u32 (x.toNat : Int))
theorem wrapW (z : Int) : IntKind.u32.wrap z = z % 4294967296 := by simp [IntKind.wrap, IntKind.bits, IntKind.signed]
theorem bitsW (a : W) : BitVec.ofInt 32 (a.toNat : Int) = a := by
  rw [BitVec.ofInt_natCast, BitVec.ofNat_toNat, BitVec.setWidth_eq]
theorem ltW (a : W) : a.toNat < 4294967296 := a.isLt
theorem lit_w {a : W} {z : Int} (h : z = (a.toNat : Int)) : PV.lit (.int .u32 z) = uw a := by rw [uw, h]
theorem wrapW_nat (n : W) : IntKind.u32.wrap (n.toNat : Int) = n.toNat := by
  have := ltW n
  rw [wrapW]; omega
section
variable (a b : W)
theorem add_w : bn .add (uw a) (uw b) = uw (a + b) := by
  show PV.lit (.int .u32 (IntKind.u32.wrap _)) = _
  rw [wrapW]
  refine lit_w ?_
  rw [BitVec.toNat_add]; omega
theorem and_w : bn .and (uw a) (uw b) = uw (a &&& b) := by
  show PV.lit (.int .u32 (IntKind.u32.wrap ((BitVec.ofInt 32 _ &&& BitVec.ofInt 32 _).toNat : Int))) = _
  rw [bitsW, bitsW, wrapW_nat]; rfl
theorem or_w : bn .or (uw a) (uw b) = uw (a ||| b) := by
  show PV.lit (.int .u32 (IntKind.u32.wrap ((BitVec.ofInt 32 _ ||| BitVec.ofInt 32 _).toNat : Int))) = _
  rw [bitsW, bitsW, wrapW_nat]; rfl
theorem xor_w : bn .xor (uw a) (uw b) = uw (a ^^^ b) := by
  show PV.lit (.int .u32 (IntKind.u32.wrap ((BitVec.ofInt 32 _ ^^^ BitVec.ofInt 32 _).toNat : Int))) = _
  rw [bitsW, bitsW, wrapW_nat]; rfl
theorem not_w : un .xor (uw a) = uw (~~~ a) := by
  show PV.lit (.int .u32 (IntKind.u32.wrap ((BitVec.ofInt 32 (if IntKind.u32.signed = true then -1 else IntKind.u32.max) ^^^ BitVec.ofInt 32 _).toNat : Int))) = _
  have hm : BitVec.ofInt 32 (if IntKind.u32.signed = true then -1 else IntKind.u32.max) = BitVec.allOnes 32 := by decide
  rw [hm, bitsW, BitVec.allOnes_xor, wrapW_nat]; rfl
theorem shl_w (n : Nat) : bn .shl (uw a) (ln n) = uw (a <<< n) := by
  show PV.lit (.int .u32 (IntKind.u32.wrap ((a.toNat : Int) * 2 ^ min ((n : Nat) : Int).toNat 32))) = _
  rw [wrapW, Int.toNat_natCast]
  refine lit_w ?_
  rw [BitVec.toNat_shiftLeft, Nat.shiftLeft_eq]
  have e : (a.toNat : Int) * 2 ^ min n 32 = ((a.toNat * 2 ^ min n 32 : Nat) : Int) := by simp
  rw [e]
  have h : a.toNat * 2 ^ min n 32 % 2 ^ 32 = a.toNat * 2 ^ n % 2 ^ 32 := by
    by_cases hb : n ≤ 32
    · rw [Nat.min_eq_left hb]
    · rw [Nat.min_eq_right (by omega)]
      have h2 : n = 32 + (n - 32) := by omega
      rw [h2, Nat.pow_add, ← Nat.mul_assoc, Nat.mul_mod_left, Nat.mul_right_comm, Nat.mul_mod_left]
  have e32 : (2 : Nat) ^ 32 = 4294967296 := by decide
  rw [← h, e32]
  omega
theorem shr_w (n : Nat) : bn .shr (uw a) (ln n) = uw (a >>> n) := by
  show PV.lit (.int .u32 ((a.toNat : Int).fdiv (2 ^ min ((n : Nat) : Int).toNat 32))) = _
  rw [Int.toNat_natCast]
  refine lit_w ?_
  rw [BitVec.toNat_ushiftRight, Nat.shiftRight_eq_div_pow]
  have e : (2 : Int) ^ min n 32 = ((2 ^ min n 32 : Nat) : Int) := by simp
  rw [e, Int.fdiv_eq_ediv_of_nonneg _ (Int.natCast_nonneg _), ← Int.natCast_ediv]
  congr 1
  by_cases h : n ≤ 32
  · rw [Nat.min_eq_left h]
  · have hlt := ltW a
    rw [Nat.min_eq_right (by omega)]
    rw [Nat.div_eq_of_lt (by have : (2 : Nat) ^ 32 = 4294967296 := by decide
                             omega), Nat.div_eq_of_lt]
    exact Nat.lt_of_lt_of_le hlt (Nat.le_trans (show 4294967296 ≤ 2 ^ 32 by decide) (Nat.pow_le_pow_right (by decide) (by omega)))
theorem shl_wu {n : Nat} (h : n < 18446744073709551616) : bn .shl (uw a) (ul n) = uw (a <<< n) := by
  have : bn .shl (uw a) (ul n) = bn .shl (uw a) (ln (n % 18446744073709551616)) := rfl
  rw [this, Nat.mod_eq_of_lt h, shl_w]
theorem shr_wu {n : Nat} (h : n < 18446744073709551616) : bn .shr (uw a) (ul n) = uw (a >>> n) := by
  have : bn .shr (uw a) (ul n) = bn .shr (uw a) (ln (n % 18446744073709551616)) := rfl
  rw [this, Nat.mod_eq_of_lt h, shr_w]
end
def bw (x : UInt8) : W := BitVec.ofNat 32 x.toNat
def wb (x : W) : UInt8 := UInt8.ofNat x.toNat
theorem cv_bw (x : UInt8) : cn .u32 (bv x) = uw (bw x) := by
  show PV.lit (.int .u32 (IntKind.u32.wrap (x.toNat : Int))) = _
  rw [wrapW]
  refine lit_w ?_
  have := x.toNat_lt
  simp only [bw, BitVec.toNat_ofNat]
  omega
theorem cv_wb (x : W) : cn .u8 (uw x) = bv (wb x) := by
  show PV.lit (.int .u8 (IntKind.u8.wrap (x.toNat : Int))) = _
  rw [wrap_b]
  simp only [bv, wb, UInt8.toNat_ofNat']
  congr 1
theorem neg_n {n : Nat} (h : n ≤ 9223372036854775807) : un .neg (ln n) = li (-((n : Nat) : Int)) := by
  show PV.lit (.int .i64 (IntKind.i64.wrap (0 - (n : Int)))) = _
  rw [wrap_i (by omega) (by omega), Int.zero_sub]; rfl
theorem cv_neg {n : Nat} (h : n ≤ 18446744073709551616) : cn .u64 (li (-((n : Nat) : Int))) = ul (18446744073709551616 - n) := by
  show PV.lit (.int .u64 (IntKind.u64.wrap _)) = _
  rw [wrap_u]
  exact lit_u (by omega)
def wl (n : Nat) (l : List W) : List PV := (List.range n).map fun j => uw (l.getD j 0)
def bl (n : Nat) (l : List UInt8) : List PV := (List.range n).map fun j => bv (l.getD j 0)
theorem closedL_wl (n : Nat) (l : List W) : closedL (wl n l) = true := by
  rw [closedL_iff]; intro p hp; simp only [wl, List.mem_map] at hp; obtain ⟨i, _, rfl⟩ := hp; rfl
theorem closedL_bl (n : Nat) (l : List UInt8) : closedL (bl n l) = true := by
  rw [closedL_iff]; intro p hp; simp only [bl, List.mem_map] at hp; obtain ⟨i, _, rfl⟩ := hp; rfl
theorem wl_get {n i : Nat} (h : i < n) (l : List W) (d : PV) : (wl n l).getD i d = uw (l.getD i 0) := by
  simp [wl, List.getD_eq_getElem?_getD, h]
theorem bl_get {n i : Nat} (h : i < n) (l : List UInt8) (d : PV) : (bl n l).getD i d = bv (l.getD i 0) := by
  simp [bl, List.getD_eq_getElem?_getD, h]
theorem bl_idx {n i : Nat} (h : i < n) (l : List UInt8) (d : PV) : (bl n l).getD (((i : Nat) : Int).toNat * 1) d = bv (l.getD i 0) := by
  rw [Int.toNat_natCast, Nat.mul_one]; exact bl_get h l d
theorem map_set_range {α β : Type} {f : α → β} {n i : Nat} {l : List α} {x d : α} (h : i < l.length) : ((List.range n).map fun j => f (l.getD j d)).set i (f x) = (List.range n).map fun j => f ((l.set i x).getD j d) := by
  apply List.ext_getElem (by simp)
  intro k h1 h2
  simp only [List.getElem_set, List.getElem_map, List.getElem_range, List.getD_eq_getElem?_getD, List.getElem?_set]
  split
  · rename_i e; subst e; rfl
  · rfl
theorem wl_set {n i : Nat} {l : List W} {x : W} (h : i < l.length) : (wl n l).set i (uw x) = wl n (l.set i x) := map_set_range h
theorem bl_set {n i : Nat} {l : List UInt8} {x : UInt8} (h : i < l.length) : (bl n l).set i (bv x) = bl n (l.set i x) := map_set_range h
theorem bl_eq {n : Nat} {l : List UInt8} (h : l.length = n) : bl n l = l.map bv := by
  apply List.ext_getElem (by simp [bl, h])
  intro k h1 h2
  have : k < l.length := by simpa using h2
  simp [bl, List.getD_eq_getElem?_getD, this]
structure S8 where
  a : W
  b : W
  c : W
  d : W
  e : W
  f : W
  g : W
  h : W
def S8.l (s : S8) : List W := [s.a, s.b, s.c, s.d, s.e, s.f, s.g, s.h]
def sl (s : S8) : List PV := [uw s.a, uw s.b, uw s.c, uw s.d, uw s.e, uw s.f, uw s.g, uw s.h]
theorem closedL_sl (s : S8) : closedL (sl s) = true := rfl
theorem len_l (s : S8) : s.l.length = 8 := rfl
theorem sl_get {i : Nat} (h : i < 8) (s : S8) (d : PV) : (sl s).getD i d = uw (s.l.getD i 0) := by
  match i, h with
  | 0, _ => rfl
  | 1, _ => rfl
  | 2, _ => rfl
  | 3, _ => rfl
  | 4, _ => rfl
  | 5, _ => rfl
  | 6, _ => rfl
  | 7, _ => rfl
theorem sl_idx {i : Nat} (h : i < 8) (s : S8) (d : PV) : (sl s).getD (((i : Nat) : Int).toNat * 1) d = uw (s.l.getD i 0) := by
  rw [Int.toNat_natCast, Nat.mul_one]; exact sl_get h s d
def kk : List W := [0x428a2f98, 0x71374491, 0xb5c0fbcf, 0xe9b5dba5, 0x3956c25b, 0x59f111f1, 0x923f82a4, 0xab1c5ed5,
  0xd807aa98, 0x12835b01, 0x243185be, 0x550c7dc3, 0x72be5d74, 0x80deb1fe, 0x9bdc06a7, 0xc19bf174,
  0xe49b69c1, 0xefbe4786, 0x0fc19dc6, 0x240ca1cc, 0x2de92c6f, 0x4a7484aa, 0x5cb0a9dc, 0x76f988da,
  0x983e5152, 0xa831c66d, 0xb00327c8, 0xbf597fc7, 0xc6e00bf3, 0xd5a79147, 0x06ca6351, 0x14292967,
  0x27b70a85, 0x2e1b2138, 0x4d2c6dfc, 0x53380d13, 0x650a7354, 0x766a0abb, 0x81c2c92e, 0x92722c85,
  0xa2bfe8a1, 0xa81a664b, 0xc24b8b70, 0xc76c51a3, 0xd192e819, 0xd6990624, 0xf40e3585, 0x106aa070,
  0x19a4c116, 0x1e376c08, 0x2748774c, 0x34b0bcb5, 0x391c0cb3, 0x4ed8aa4a, 0x5b9cca4f, 0x682e6ff3,
  0x748f82ee, 0x78a5636f, 0x84c87814, 0x8cc70208, 0x90befffa, 0xa4506ceb, 0xbef9a3f7, 0xc67178f2]
def init8 : S8 := ⟨0x6a09e667, 0xbb67ae85, 0x3c6ef372, 0xa54ff53a, 0x510e527f, 0x9b05688c, 0x1f83d9ab, 0x5be0cd19⟩
def rotr (x : W) (n : Nat) : W := x <<< (32 - n) ||| x >>> n
def word (b : List UInt8) (i : Nat) : W := bw (b.getD (4 * i) 0) <<< 24 ||| bw (b.getD (4 * i + 1) 0) <<< 16 ||| bw (b.getD (4 * i + 2) 0) <<< 8 ||| bw (b.getD (4 * i + 3) 0)
def fill {α : Type} (n : Nat) (z : α) (f : Nat → α) (i : Nat) : List α := (List.range n).map fun j => if j < i then f j else z
theorem len_fill {α : Type} (n : Nat) (z : α) (f : Nat → α) (i : Nat) : (fill n z f i).length = n := by simp [fill]
theorem fill_zero {α : Type} (n : Nat) (z : α) (f : Nat → α) : List.replicate n z = fill n z f 0 := by
  apply List.ext_getElem (by simp [fill])
  intro k h1 h2
  simp [fill]
theorem fill_set {α : Type} {n i : Nat} {z : α} {f : Nat → α} (h : i < n) : (fill n z f i).set i (f i) = fill n z f (i + 1) := by
  apply List.ext_getElem (by simp [fill])
  intro k h1 h2
  have hk : k < n := by simpa [fill] using h2
  rw [List.getElem_set]
  split
  · rename_i e; subst e
    simp [fill]
  · rename_i e
    simp only [fill, List.getElem_map, List.getElem_range]
    by_cases c : k < i
    · rw [if_pos c, if_pos (by omega)]
    · rw [if_neg c, if_neg (by omega)]
theorem fill_get {α : Type} {n i j : Nat} {z : α} {f : Nat → α} (h : j < n) (d : α) : (fill n z f i).getD j d = if j < i then f j else z := by
  simp [fill, List.getD_eq_getElem?_getD, h]
theorem fill_all {α : Type} (n : Nat) (z : α) (f : Nat → α) : fill n z f n = (List.range n).map f := by
  apply List.map_congr_left
  intro j hj
  rw [if_pos (by simpa using hj)]
def sig0 (x : W) : W := rotr x 7 ^^^ rotr x 18 ^^^ x >>> 3
def sig1 (x : W) : W := rotr x 17 ^^^ rotr x 19 ^^^ x >>> 10
def ext (l : List W) : Nat → List W
  | 0 => l
  | t + 1 => (ext l t).set (16 + t) ((ext l t).getD t 0 + sig0 ((ext l t).getD (t + 1) 0) + (ext l t).getD (t + 9) 0 + sig1 ((ext l t).getD (t + 14) 0))
theorem len_ext (l : List W) : ∀ t, (ext l t).length = l.length
  | 0 => rfl
  | t + 1 => by simp [ext, len_ext l t]
def sched (b : List UInt8) : List W := ext (fill 64 0 (word b) 16) 48
def rnd (k w : W) (s : S8) : S8 :=
  let t1 := s.h + (rotr s.e 6 ^^^ rotr s.e 11 ^^^ rotr s.e 25) + (s.e &&& s.f ^^^ ~~~ s.e &&& s.g) + k + w
  let t2 := (rotr s.a 2 ^^^ rotr s.a 13 ^^^ rotr s.a 22) + (s.a &&& s.b ^^^ s.a &&& s.c ^^^ s.b &&& s.c)
  ⟨t1 + t2, s.a, s.b, s.c, s.d + t1, s.e, s.f, s.g⟩
def rnds (w : List W) (s : S8) : Nat → S8
  | 0 => s
  | t + 1 => rnd (kk.getD t 0) (w.getD t 0) (rnds w s t)
def add8 (s r : S8) : S8 := ⟨s.a + r.a, s.b + r.b, s.c + r.c, s.d + r.d, s.e + r.e, s.f + r.f, s.g + r.g, s.h + r.h⟩
def compress (s : S8) (b : List UInt8) : S8 := add8 s (rnds (sched b) s 64)
def absorb : Nat → S8 → List UInt8 → S8
  | 0, s, _ => s
  | n + 1, s, b => absorb n (compress s (b.take 64)) (b.drop 64)
theorem absorb_split : ∀ (p q : Nat) (s : S8) (b : List UInt8), absorb (p + q) s b = absorb q (absorb p s b) (b.drop (64 * p))
  | 0, q, s, b => by simp [absorb]
  | p + 1, q, s, b => by
    rw [show p + 1 + q = (p + q) + 1 by omega, absorb, absorb_split p q, absorb, List.drop_drop, show 64 + 64 * p = 64 * (p + 1) by omega]
theorem absorb_take : ∀ (p : Nat) (s : S8) (b : List UInt8) (m : Nat), 64 * p ≤ m → absorb p s (b.take m) = absorb p s b
  | 0, s, b, m, _ => rfl
  | p + 1, s, b, m, h => by
    rw [absorb, absorb, List.take_take, List.drop_take, Nat.min_eq_left (by omega), absorb_take p _ _ _ (by omega)]
theorem absorb_succ (p : Nat) (s : S8) (b : List UInt8) : absorb (p + 1) s b = compress (absorb p s b) ((b.drop (64 * p)).take 64) := by
  rw [absorb_split]; rfl
def dbyte (s : S8) (i : Nat) : UInt8 := wb (s.l.getD (i / 4) 0 >>> (8 * (3 - i % 4)))
def dig (s : S8) : List UInt8 := (List.range 32).map (dbyte s)
theorem len_dig (s : S8) : (dig s).length = 32 := by simp [dig]
def be8 (n : Nat) : List UInt8 := (List.range 8).map fun i => UInt8.ofNat (n / 2 ^ (8 * (7 - i)))
def padz (n : Nat) : Nat := (55 + (64 - n % 64)) % 64
def pad (n : Nat) : List UInt8 := 128 :: List.replicate (padz n) 0 ++ be8 (8 * n % 18446744073709551616)
theorem len_pad (n : Nat) : (pad n).length = 9 + padz n := by simp [pad, be8]; omega
theorem padz_lt (n : Nat) : padz n < 64 := Nat.mod_lt _ (by decide)
theorem pad_fits (n : Nat) : (n + (pad n).length) % 64 = 0 := by rw [len_pad]; unfold padz; omega
def msg (b : List UInt8) : List UInt8 := b ++ pad b.length
theorem len_msg (b : List UInt8) : (msg b).length % 64 = 0 := by rw [msg, List.length_append]; exact pad_fits _
def sum (b : List UInt8) : List UInt8 := dig (absorb ((msg b).length / 64) init8 (msg b))
theorem len_sum (b : List UInt8) : (sum b).length = 32 := len_dig _
theorem sum_split (b : List UInt8) : absorb ((b.drop (b.length - b.length % 64) ++ pad b.length).length / 64) (absorb (b.length / 64) init8 (b.take (b.length - b.length % 64))) (b.drop (b.length - b.length % 64) ++ pad b.length) = absorb ((msg b).length / 64) init8 (msg b) := by
  have h1 : b.length - b.length % 64 = 64 * (b.length / 64) := by omega
  have h2 := pad_fits b.length
  have h3 : (msg b).length / 64 = b.length / 64 + (b.drop (b.length - b.length % 64) ++ pad b.length).length / 64 := by
    rw [msg, List.length_append, List.length_append, List.length_drop]
    generalize (pad b.length).length = m at *
    omega
  have h4 : b.take (b.length - b.length % 64) = (msg b).take (b.length - b.length % 64) := by
    rw [msg, List.take_append_of_le_length (by omega)]
  have h5 : b.drop (b.length - b.length % 64) ++ pad b.length = (msg b).drop (64 * (b.length / 64)) := by
    rw [← h1, msg, List.drop_append_of_le_length (by omega)]
  rw [h3, absorb_split, h4, absorb_take _ _ _ _ (by omega), h5]
def byB (b : List UInt8) : Nat → List W
  | 0 => List.replicate 64 0
  | i + 1 => (byB b i).set (i / 4) ((byB b i).getD (i / 4) 0 <<< 8 ||| bw (b.getD i 0))
theorem len_byB (b : List UInt8) : ∀ i, (byB b i).length = 64
  | 0 => by simp [byB]
  | i + 1 => by simp [byB, len_byB b i]
theorem four (x0 x1 x2 x3 : UInt8) : (((((0 : W) <<< 8 ||| bw x0) <<< 8 ||| bw x1) <<< 8 ||| bw x2) <<< 8 ||| bw x3) = bw x0 <<< 24 ||| bw x1 <<< 16 ||| bw x2 <<< 8 ||| bw x3 := by
  simp only [BitVec.shiftLeft_or_distrib, ← BitVec.shiftLeft_add, Nat.reduceAdd]
  have e : ∀ x : W, (0 : W) <<< 32 ||| x = x := fun x => by
    rw [show (0 : W) <<< 32 = 0#32 by decide, BitVec.zero_or]
  rw [e]
theorem getD_set_self {α : Type} {l : List α} {i : Nat} {x d : α} (h : i < l.length) : (l.set i x).getD i d = x := by
  simp [List.getD_eq_getElem?_getD, h]
theorem byB_word (b : List UInt8) : ∀ t, t ≤ 16 → byB b (4 * t) = fill 64 0 (word b) t
  | 0, _ => fill_zero ..
  | t + 1, h => by
    have ih := byB_word b t (by omega)
    have hl : t < (fill (64 : Nat) (0 : W) (word b) t).length := by rw [len_fill]; omega
    have g0 : (fill (64 : Nat) (0 : W) (word b) t).getD t 0 = 0 := by rw [fill_get (by omega), if_neg (by omega)]
    rw [show 4 * (t + 1) = 4 * t + 3 + 1 by omega, byB, show 4 * t + 3 = 4 * t + 2 + 1 by omega, byB, show 4 * t + 2 = 4 * t + 1 + 1 by omega, byB, byB, ih]
    rw [show 4 * t / 4 = t by omega, show (4 * t + 1) / 4 = t by omega, show (4 * t + 1 + 1) / 4 = t by omega, show (4 * t + 1 + 1 + 1) / 4 = t by omega]
    simp only [List.set_set, g0]
    rw [getD_set_self hl, getD_set_self hl, getD_set_self hl, four]
    exact fill_set (by omega)
def mix {α : Type} (n : Nat) (g f : Nat → α) (i : Nat) : List α := (List.range n).map fun j => if j < i then f j else g j
theorem len_mix {α : Type} (n : Nat) (g f : Nat → α) (i : Nat) : (mix n g f i).length = n := by simp [mix]
theorem mix_set {α : Type} {n i : Nat} {g f : Nat → α} (h : i < n) : (mix n g f i).set i (f i) = mix n g f (i + 1) := by
  apply List.ext_getElem (by simp [mix])
  intro k h1 h2
  have hk : k < n := by simpa [mix] using h2
  rw [List.getElem_set]
  split
  · rename_i e; subst e
    simp [mix]
  · rename_i e
    simp only [mix, List.getElem_map, List.getElem_range]
    by_cases c : k < i
    · rw [if_pos c, if_pos (by omega)]
    · rw [if_neg c, if_neg (by omega)]
theorem mix_get {α : Type} {n i : Nat} {g f : Nat → α} (h : i < n) (d : α) : (mix n g f i).getD i d = g i := by
  simp [mix, List.getD_eq_getElem?_getD, h]
def addI (s r : S8) (i : Nat) : List W := mix 8 (fun j => s.l.getD j 0) (fun j => s.l.getD j 0 + r.l.getD j 0) i
theorem len_addI (s r : S8) (i : Nat) : (addI s r i).length = 8 := len_mix ..
theorem addI_set {s r : S8} {i : Nat} (h : i < 8) : (addI s r i).set i ((addI s r i).getD i 0 + r.l.getD i 0) = addI s r (i + 1) := by
  have e : (addI s r i).getD i 0 = s.l.getD i 0 := mix_get h 0
  rw [e]
  exact mix_set h
def padI (n i : Nat) : List UInt8 := 128 :: List.replicate (padz n) 0 ++ (be8 (8 * n % 18446744073709551616)).take i
theorem len_be8 (n : Nat) : (be8 n).length = 8 := by simp [be8]
theorem padz_eq (n : Nat) : padz n = (55 + (64 - n % 64)) % 64 := rfl
theorem len_padI (n i : Nat) : (padI n i).length = 1 + padz n + min i 8 := by
  simp [padI, len_be8]; omega
theorem padI_zero (n : Nat) : (List.replicate (1 + padz n) (0 : UInt8)).set 0 128 = padI n 0 := by
  rw [Nat.add_comm, List.replicate_succ]; simp [padI]
theorem padI_zero2 (n : Nat) : 128 :: List.replicate (padz n) 0 = padI n 0 := by simp [padI]
theorem padI_step {n i : Nat} (h : i < 8) : padI n i ++ [UInt8.ofNat (8 * n % 18446744073709551616 / 2 ^ (8 * (7 - i)))] = padI n (i + 1) := by
  have e : (be8 (8 * n % 18446744073709551616)).take (i + 1) = (be8 (8 * n % 18446744073709551616)).take i ++ [UInt8.ofNat (8 * n % 18446744073709551616 / 2 ^ (8 * (7 - i)))] := by
    rw [List.take_add_one]
    simp [be8, h]
  simp only [padI, e, List.append_assoc]
theorem padI_all (n : Nat) : padI n 8 = pad n := by
  simp only [padI, pad]
  rw [List.take_of_length_le (by rw [len_be8]; exact Nat.le_refl _)]
theorem set4 {s : S8} {i : Nat} (h : i < 8) : ((((fill 32 0 (dbyte s) (4 * i)).set (4 * i) (wb (s.l.getD i 0 >>> 24))).set (4 * i + 1) (wb (s.l.getD i 0 >>> 16))).set (4 * i + 2) (wb (s.l.getD i 0 >>> 8))).set (4 * i + 3) (wb (s.l.getD i 0)) = fill 32 0 (dbyte s) (4 * (i + 1)) := by
  have e0 : wb (s.l.getD i 0 >>> 24) = dbyte s (4 * i) := by
    unfold dbyte; rw [show 4 * i / 4 = i by omega, show 8 * (3 - 4 * i % 4) = 24 by omega]
  have e1 : wb (s.l.getD i 0 >>> 16) = dbyte s (4 * i + 1) := by
    unfold dbyte; rw [show (4 * i + 1) / 4 = i by omega, show 8 * (3 - (4 * i + 1) % 4) = 16 by omega]
  have e2 : wb (s.l.getD i 0 >>> 8) = dbyte s (4 * i + 2) := by
    unfold dbyte; rw [show (4 * i + 2) / 4 = i by omega, show 8 * (3 - (4 * i + 2) % 4) = 8 by omega]
  have e3 : wb (s.l.getD i 0) = dbyte s (4 * i + 3) := by
    unfold dbyte; rw [show (4 * i + 3) / 4 = i by omega, show 8 * (3 - (4 * i + 3) % 4) = 0 by omega]; rfl
  rw [e0, e1, e2, e3, fill_set (by omega), fill_set (by omega), fill_set (by omega), fill_set (by omega)]
  rfl
theorem dig_def (s : S8) : fill 32 0 (dbyte s) 32 = dig s := fill_all ..
def tagged (t b : List UInt8) : List UInt8 := sum (sum t ++ sum t ++ b)
theorem len_tagged (k b : List UInt8) : (tagged k b).length = 32 := len_sum _
theorem tagged_def (t b : List UInt8) : sum (sum t ++ sum t ++ b) = tagged t b := rfl
theorem tagged_r (t b : List UInt8) : sum (sum t ++ (sum t ++ b)) = tagged t b := by rw [← List.append_assoc, tagged_def]
end Go.Ab
namespace Go.Ab
open Go Go.RowKit
set_option linter.unusedVariables false
set_option linter.unusedSimpArgs false
def no : Nat → Prop := fun _ => False
theorem wf_u64 {n : Int} (h : (Lit.int .u64 n).wf = true) : 0 ≤ n ∧ n < 18446744073709551616 := by
  simp only [Lit.wf, Bool.and_eq_true, decide_eq_true_eq] at h
  have h1 : 0 ≤ n := h.1
  have h2 : n ≤ 18446744073709551615 := h.2
  omega
theorem wf_u8 {n : Int} (h : (Lit.int .u8 n).wf = true) : 0 ≤ n ∧ n < 256 := by
  simp only [Lit.wf, Bool.and_eq_true, decide_eq_true_eq] at h
  have h1 : 0 ≤ n := h.1
  have h2 : n ≤ 255 := h.2
  omega
theorem law_run {P : Program} {f : FuncId} {S : List PV → Prop × PV} (h : PureOk P f S) {args : List PV} {vs : List Value} {w : World} (hp : (S args).1) (hv : (S args).2 = .lit (.bool true)) (hc : closedL args = true) (hr : RepL no [] w args vs) (hG : Globs no [] w) :
    Calls P f vs.toArray w fun e w' => e = .returned (.bool true) ∧ Below w.heap.size w w' := by
  refine (h.run args hp hc no w vs (fun b hb => hb.elim) hr hG).mono fun e w' ⟨v, he, hg, hrr⟩ => ?_
  rw [hv] at hrr
  have hv' : v = .bool true := by
    have := hrr.2
    simpa [RepV] using this
  subst hv'
  exact ⟨he, ⟨hg.os, hg.tape, hg.output, hg.size, fun k hk => hg.block k hk (fun ⟨i, y, hb⟩ => by simp at hb)⟩⟩
section
variable {H : Type} {enc : TypeId × Value → H} {P : Program} {t e : TypeId} {n : Nat} {q : IntKind} {W : World} {base : Nat} {sp : Nat → Bool} {held : Bool}
theorem open_nums (ht : P.underlying t = some (.array n e)) (hc : P.cellsOf e = 1) (hct : P.cellsOf t = n) (he : P.underlying e = some (.int q)) {r : Reach} {b0 : Nat} {v : Value} {d : DataW H} {ps : List MemPlace}
    (hval : Value.okWide P W r b0 t v) (hd : DataW.Trod enc P W base sp held t v d ps) :
    ∃ zs : List Int, zs.length = n ∧ v = .agg (zs.map (Value.int q)).toArray ∧ ∀ z ∈ zs, (Lit.int q z).wf = true := by
  simp only [Value.okWide, ht] at hval
  obtain ⟨cs, rfl, h2, _⟩ := hval
  rw [hct] at h2
  obtain ⟨fuel, hf⟩ := hd
  obtain ⟨xs, m, _, _, hlen, hxs, hi⟩ := DataW.trod_array ht hf
  have hex : ∀ i, i < n → ∃ z, cs[i]? = some (.int q z) ∧ (Lit.int q z).wf = true := by
    intro i hin
    have := hi i hin
    rw [hc, Nat.mul_one] at this
    have hx : xs[i]? = some xs[i] := by simp [hxs, hin]
    rw [hx] at this
    obtain ⟨z, e1, _, wz⟩ := DataW.trod_int he this
    refine ⟨z, ?_, wz⟩
    have e2 := congrArg List.head? e1
    simp only [Value.cells, List.head?_take, List.head?_drop, List.head?_cons] at e2
    simpa using e2
  have hall : ∃ zs : List Int, cs.toList = zs.map (Value.int q) ∧ ∀ z ∈ zs, (Lit.int q z).wf = true := by
    have : ∀ x ∈ cs.toList, ∃ z, x = .int q z ∧ (Lit.int q z).wf = true := by
      intro x hx
      obtain ⟨i, hi2⟩ := List.getElem?_of_mem hx
      have hlt : i < n := by
        have := (List.getElem?_eq_some_iff.1 hi2).1
        simpa [h2] using this
      obtain ⟨z, hz, wz⟩ := hex i hlt
      refine ⟨z, ?_, wz⟩
      rw [Array.getElem?_toList, hz] at hi2
      exact (Option.some.inj hi2).symm
    revert this
    generalize cs.toList = l
    intro h
    induction l with
    | nil => exact ⟨[], rfl, by simp⟩
    | cons a l ih =>
      obtain ⟨zs, e1, e2⟩ := ih (fun x hx => h x (by simp [hx]))
      obtain ⟨z, rfl, wz⟩ := h a (by simp)
      exact ⟨z :: zs, by rw [e1]; rfl, by simpa using ⟨wz, e2⟩⟩
  obtain ⟨zs, e1, e2⟩ := hall
  refine ⟨zs, ?_, ?_, e2⟩
  · have := congrArg List.length e1
    simpa [h2] using this.symm
  · rw [← e1]
end
theorem u4_rep {w : World} {zs : List Int} (hl : zs.length = 4) (hw : ∀ z ∈ zs, (Lit.int .u64 z).wf = true) :
    ∃ n : Nat, n < 2 ^ 256 ∧ RepV no [] w (u4 n) (.agg (zs.map (Value.int .u64)).toArray) := by
  match zs, hl with
  | [a, b, c, d], _ =>
    have ha := wf_u64 (hw a (by simp))
    have hb := wf_u64 (hw b (by simp))
    have hc := wf_u64 (hw c (by simp))
    have hd := wf_u64 (hw d (by simp))
    refine ⟨a.toNat + b.toNat * 18446744073709551616 + c.toNat * 340282366920938463463374607431768211456 + d.toNat * 6277101735386680763835789423207666416102355444464034512896, by omega, ?_⟩
    simp only [u4, RepV]
    refine ⟨_, rfl, ?_⟩
    rw [cl4]
    simp only [RepL, ul, RepV, List.map_cons, List.map_nil]
    refine ⟨_, _, rfl, ?_, _, _, rfl, ?_, _, _, rfl, ?_, _, _, rfl, ?_, rfl⟩ <;> congr 1 <;> omega
def byK (k n : Nat) : List UInt8 := (List.range k).map fun j => UInt8.ofNat (n / 2 ^ (8 * (k - 1 - j)))
theorem byK_snoc (k v : Nat) (b : UInt8) : byK (k + 1) (v * 256 + b.toNat) = byK k v ++ [b] := by
  have hb : b.toNat < 256 := b.toNat_lt
  have e8 : (2 : Nat) ^ 8 = 256 := by decide
  unfold byK
  rw [List.range_succ, List.map_append]
  congr 1
  · apply List.map_congr_left
    intro j hj
    have hj' : j < k := by simpa using hj
    have e : 8 * (k + 1 - 1 - j) = 8 + 8 * (k - 1 - j) := by omega
    rw [e, Nat.pow_add, ← Nat.div_div_eq_div_mul, e8]
    congr 2
    omega
  · simp only [List.map_cons, List.map_nil, Nat.add_sub_cancel, Nat.sub_self, Nat.mul_zero, Nat.pow_zero, Nat.div_one]
    congr 1
    apply UInt8.toNat_inj.1
    rw [UInt8.toNat_ofNat']
    omega
theorem byK_all0 : ∀ (n : Nat) (bs : List UInt8), bs.length = n → ∃ v, v < 2 ^ (8 * bs.length) ∧ byK bs.length v = bs
  | 0, bs, h => by
    have : bs = [] := List.length_eq_zero_iff.1 h
    subst this
    exact ⟨0, by simp, rfl⟩
  | n + 1, bs, h => by
    have hne : bs ≠ [] := by intro e; subst e; simp at h
    have e0 : bs.dropLast ++ [bs.getLast hne] = bs := List.dropLast_concat_getLast hne
    generalize bs.getLast hne = b at e0
    generalize hd : bs.dropLast = ds at e0
    subst e0
    have hl : ds.length = n := by simpa using h
    obtain ⟨v, hv, e⟩ := byK_all0 n ds hl
    have hb : b.toNat < 256 := b.toNat_lt
    refine ⟨v * 256 + b.toNat, ?_, ?_⟩
    · rw [List.length_append, List.length_singleton, Nat.mul_add, Nat.mul_one, Nat.pow_add, show (2 : Nat) ^ 8 = 256 by decide]
      omega
    · rw [List.length_append, List.length_singleton, byK_snoc, e]
theorem byK_all (bs : List UInt8) : ∃ v, v < 2 ^ (8 * bs.length) ∧ byK bs.length v = bs := byK_all0 _ bs rfl
theorem h32_rep {w : World} {zs : List Int} (hlen : zs.length = 32) (hw : ∀ z ∈ zs, (Lit.int .u8 z).wf = true) :
    ∃ n : Nat, n < 115792089237316195423570985008687907853269984665640564039457584007913129639936 ∧ RepV no [] w (h32 n) (.agg (zs.map (Value.int .u8)).toArray) := by
  obtain ⟨v, hv, e⟩ := byK_all (zs.map fun z => UInt8.ofNat z.toNat)
  rw [List.length_map, hlen] at hv e
  have e32 : (2 : Nat) ^ (8 * 32) = 115792089237316195423570985008687907853269984665640564039457584007913129639936 := by decide
  refine ⟨v, by rw [← e32]; exact hv, ?_⟩
  have hb : by32 v = zs.map fun z => UInt8.ofNat z.toNat := e
  simp only [h32, hl, hb, RepV]
  refine ⟨_, rfl, ?_⟩
  clear e hb hv hlen
  induction zs with
  | nil => simp only [List.map_nil, RepL]
  | cons z zs ih =>
    have hz := wf_u8 (hw z (by simp))
    simp only [List.map_cons, RepL]
    refine ⟨_, _, rfl, ?_, ih fun z hz => hw z (by simp [hz])⟩
    simp only [bv, RepV]
    congr 1
    rw [UInt8.toNat_ofNat']
    omega
end Go.Ab
