namespace Go.Ab
def Pr (p : Nat) : Prop := 2 ≤ p ∧ ∀ d, d ∣ p → d = 1 ∨ d = p
theorem Pr.cop {p a : Nat} (hp : Pr p) (h : ¬ p ∣ a) : Nat.gcd p a = 1 := by
  rcases hp.2 _ (Nat.gcd_dvd_left p a) with h1 | h1
  · exact h1
  · exact absurd (h1 ▸ Nat.gcd_dvd_right p a) h
theorem Pr.euclid {p a b : Nat} (hp : Pr p) (h : p ∣ a * b) : p ∣ a ∨ p ∣ b := by
  by_cases ha : p ∣ a
  · exact .inl ha
  · exact .inr (Nat.Coprime.dvd_of_dvd_mul_left (hp.cop ha) h)
def bin : Nat → Nat → Nat
  | _, 0 => 1
  | 0, _ + 1 => 0
  | n + 1, k + 1 => bin n k + bin n (k + 1)
theorem bin_zero (n : Nat) : bin n 0 = 1 := by cases n <;> rfl
theorem bin_big : ∀ {n k : Nat}, n < k → bin n k = 0
  | 0, k + 1, _ => rfl
  | n + 1, k + 1, h => by
    rw [bin, bin_big (by omega), bin_big (by omega)]
theorem bin_self : ∀ n, bin n n = 1
  | 0 => rfl
  | n + 1 => by rw [bin, bin_self n, bin_big (by omega)]
theorem bin_mul : ∀ n k, (k + 1) * bin (n + 1) (k + 1) = (n + 1) * bin n k
  | 0, 0 => rfl
  | 0, k + 1 => by simp [bin]
  | n + 1, 0 => by
    have h := bin_mul n 0
    simp only [bin, bin_zero, Nat.mul_one] at h ⊢
    omega
  | n + 1, k + 1 => by
    have h1 := bin_mul n k
    have h2 := bin_mul n (k + 1)
    have e : bin (n + 1 + 1) (k + 1 + 1) = bin (n + 1) (k + 1) + bin (n + 1) (k + 1 + 1) := rfl
    have e2 : bin (n + 1) (k + 1) = bin n k + bin n (k + 1) := rfl
    rw [e, Nat.mul_add, h2, show (k + 1 + 1) * bin (n + 1) (k + 1) = (k + 1) * bin (n + 1) (k + 1) + bin (n + 1) (k + 1) by rw [Nat.add_mul (k + 1) 1, Nat.one_mul], h1, show (n + 1 + 1) * bin (n + 1) (k + 1) = (n + 1) * bin (n + 1) (k + 1) + bin (n + 1) (k + 1) by rw [Nat.add_mul (n + 1) 1, Nat.one_mul], e2, Nat.mul_add]
    omega
def bsum (a n : Nat) : Nat → Nat
  | 0 => 0
  | m + 1 => bsum a n m + bin n m * a ^ m
theorem bsum_step (a n : Nat) : ∀ m, bsum a (n + 1) (m + 1) = a * bsum a n m + bsum a n (m + 1)
  | 0 => by simp [bsum, bin_zero]
  | m + 1 => by
    have ih := bsum_step a n m
    have e1 : bsum a (n + 1) (m + 1 + 1) = bsum a (n + 1) (m + 1) + bin (n + 1) (m + 1) * a ^ (m + 1) := rfl
    have e2 : bsum a n (m + 1 + 1) = bsum a n (m + 1) + bin n (m + 1) * a ^ (m + 1) := rfl
    have e3 : bsum a n (m + 1) = bsum a n m + bin n m * a ^ m := rfl
    have e4 : bin (n + 1) (m + 1) = bin n m + bin n (m + 1) := rfl
    have e : bin n m * a ^ (m + 1) = a * (bin n m * a ^ m) := by rw [Nat.pow_succ, ← Nat.mul_assoc, Nat.mul_comm]
    have e5 : a * bsum a n (m + 1) = a * bsum a n m + a * (bin n m * a ^ m) := by rw [e3, Nat.mul_add]
    rw [e1, ih, e4, Nat.add_mul, e, e5, e2]
    omega
theorem bsum_all (a : Nat) : ∀ n, bsum a n (n + 1) = (a + 1) ^ n
  | 0 => rfl
  | n + 1 => by
    have h : bsum a n (n + 1 + 1) = bsum a n (n + 1) := by
      rw [show bsum a n (n + 1 + 1) = bsum a n (n + 1) + bin n (n + 1) * a ^ (n + 1) from rfl, bin_big (by omega)]
      omega
    rw [bsum_step, h, bsum_all a n, Nat.pow_succ, Nat.mul_add, Nat.mul_one, Nat.mul_comm]
theorem bin_dvd {p k : Nat} (hp : Pr p) (h0 : 0 < k) (h : k < p) : p ∣ bin p k := by
  have hp2 := hp.1
  obtain ⟨n, rfl⟩ : ∃ n, p = n + 1 := ⟨p - 1, by omega⟩
  obtain ⟨k, rfl⟩ : ∃ j, k = j + 1 := ⟨k - 1, by omega⟩
  have := bin_mul n k
  have hd : (n + 1) ∣ (k + 1) * bin (n + 1) (k + 1) := ⟨_, this⟩
  rcases hp.euclid hd with h1 | h1
  · exact absurd (Nat.le_of_dvd (by omega) h1) (by omega)
  · exact h1
theorem bsum_mod {p : Nat} (hp : Pr p) (a : Nat) : ∀ m, m < p → bsum a p (m + 1) % p = 1 % p
  | 0, _ => by simp [bsum, bin_zero]
  | m + 1, h => by
    obtain ⟨c, hc⟩ := bin_dvd hp (by omega) h
    rw [show bsum a p (m + 1 + 1) = bsum a p (m + 1) + bin p (m + 1) * a ^ (m + 1) from rfl, hc, Nat.mul_assoc, Nat.add_mul_mod_self_left]
    exact bsum_mod hp a m (by omega)
theorem fermat {p : Nat} (hp : Pr p) : ∀ a, a ^ p % p = a % p
  | 0 => by rw [Nat.zero_pow (by have := hp.1; omega)]
  | a + 1 => by
    have h2 := hp.1
    rw [← bsum_all, show bsum a p (p + 1) = bsum a p p + bin p p * a ^ p from rfl, bin_self, Nat.one_mul]
    obtain ⟨n, hn⟩ : ∃ n, p = n + 1 := ⟨p - 1, by omega⟩
    have h := bsum_mod hp a n (by omega)
    rw [← hn] at h
    rw [Nat.add_mod, h, fermat hp a, ← Nat.add_mod, Nat.add_comm]
theorem fermat1 {p a : Nat} (hp : Pr p) (h : ¬ p ∣ a) : a ^ (p - 1) % p = 1 := by
  have h2 := hp.1
  have hf := fermat hp a
  have e : a ^ p = a * a ^ (p - 1) := by
    conv => lhs; rw [show p = p - 1 + 1 by omega, Nat.pow_succ, Nat.mul_comm]
  have hpos : 0 < a ^ (p - 1) := Nat.pow_pos (Nat.pos_of_ne_zero fun h0 => h (h0 ▸ Nat.dvd_zero p))
  have hd : p ∣ a * (a ^ (p - 1) - 1) := by
    rw [Nat.mul_sub_one, ← e]
    exact Nat.dvd_of_mod_eq_zero (Nat.sub_mod_eq_zero_of_mod_eq hf)
  rcases hp.euclid hd with h1 | h1
  · exact absurd h1 h
  · obtain ⟨c, hc⟩ := h1
    have : a ^ (p - 1) = 1 + p * c := by omega
    rw [this, Nat.add_mul_mod_self_left, Nat.mod_eq_of_lt (by omega)]
theorem least_div {n : Nat} (hn : 2 ≤ n) : ∃ d, 2 ≤ d ∧ d ∣ n ∧ ∀ e, 2 ≤ e → e ∣ n → d ≤ e := by
  refine Classical.byContradiction fun hno => ?_
  have : ∀ d, 2 ≤ d → d ∣ n → False := by
    intro d
    induction d using Nat.strongRecOn with
    | _ d ih =>
      intro h1 h2
      exact hno ⟨d, h1, h2, fun e he1 he2 => Nat.le_of_not_lt fun hlt => ih e hlt he1 he2⟩
  exact this n hn (Nat.dvd_refl n)
theorem least_prime {n : Nat} (hn : 2 ≤ n) : ∃ r, Pr r ∧ r ∣ n ∧ (Pr n ∨ r * r ≤ n) := by
  obtain ⟨d, hd2, hdn, hmin⟩ := least_div hn
  have hd : Pr d := ⟨hd2, fun c hc => by
    by_cases h1 : c = 1
    · exact .inl h1
    · have h0 : c ≠ 0 := fun h0 => by subst h0; have := Nat.eq_zero_of_zero_dvd hc; omega
      have := hmin c (by omega) (Nat.dvd_trans hc hdn)
      have := Nat.le_of_dvd (by omega) hc
      exact .inr (by omega)⟩
  refine ⟨d, hd, hdn, ?_⟩
  obtain ⟨m, rfl⟩ := hdn
  by_cases hm : m = 1
  · subst hm; rw [Nat.mul_one]; exact .inl hd
  · have h0 : m ≠ 0 := fun h0 => by subst h0; omega
    exact .inr (Nat.mul_le_mul_left d (hmin m (by omega) (Nat.dvd_mul_left m d)))
theorem pow_gcd {b r : Nat} (hr : 2 ≤ r) (x y : Nat) : b ^ x % r = 1 → b ^ y % r = 1 → b ^ (Nat.gcd x y) % r = 1 := by
  induction x, y using Nat.gcd.induction with
  | H0 n => intro _ h; rwa [Nat.gcd_zero_left]
  | H1 m n hm ih =>
    intro h1 h2
    rw [Nat.gcd_rec]
    refine ih ?_ h1
    have e : b ^ n = (b ^ m) ^ (n / m) * b ^ (n % m) := by rw [← Nat.pow_mul, ← Nat.pow_add, Nat.div_add_mod]
    rw [e, Nat.mul_mod, Nat.pow_mod, h1, Nat.one_pow, Nat.mod_eq_of_lt (show 1 < r by omega), Nat.one_mul, Nat.mod_mod] at h2
    exact h2
theorem mod_dvd {x n r : Nat} (hr : 2 ≤ r) (hrn : r ∣ n) (h : x % n = 1) : x % r = 1 := by
  obtain ⟨c, rfl⟩ := hrn
  have := congrArg (· % r) h
  simp only [Nat.mod_mul_right_mod] at this
  rw [this, Nat.mod_eq_of_lt (by omega)]
theorem pock {n l m a : Nat} (hn : 2 ≤ n) (hl : Pr l) (hm : n - 1 = m * l) (hll : n < l * l) (h1 : a ^ (n - 1) % n = 1) (h2 : Nat.gcd (a ^ m % n + (n - 1)) n = 1) : Pr n := by
  obtain ⟨r, hr, hrn, hor⟩ := least_prime hn
  rcases hor with h | hrr
  · exact h
  exfalso
  have hr2 := hr.1
  have hrd : ¬ l ∣ r - 1 := fun hd => by
    have := Nat.le_of_dvd (by omega) hd
    have := Nat.mul_le_mul (show l ≤ r by omega) (show l ≤ r by omega)
    omega
  have h1r : a ^ (n - 1) % r = 1 := mod_dvd hr2 hrn h1
  have hbl : (a ^ m) ^ l % r = 1 := by rw [← Nat.pow_mul, ← hm]; exact h1r
  have hb0 : ¬ r ∣ a ^ m := fun hd => by
    have hl2 := hl.1
    have h0 : (a ^ m) ^ l % r = 0 := by
      rw [Nat.pow_mod, Nat.mod_eq_zero_of_dvd hd, Nat.zero_pow (by omega), Nat.zero_mod]
    omega
  have hbr := fermat1 hr hb0
  have hg := pow_gcd hr2 _ _ hbl hbr
  rw [hl.cop hrd, Nat.pow_one] at hg
  have hx : r ∣ a ^ m % n + (n - 1) := by
    apply Nat.dvd_of_mod_eq_zero
    have e : (a ^ m % n) % r = 1 := by
      obtain ⟨c, hc⟩ := hrn
      rw [hc, Nat.mod_mul_right_mod]; exact hg
    obtain ⟨c, hc⟩ := hrn
    rw [Nat.add_mod, e]
    have hc0 : 0 < c := Nat.pos_of_ne_zero fun h0 => by subst h0; omega
    have e2 : n - 1 = (r - 1) + r * (c - 1) := by
      have : r * c = r + r * (c - 1) := by
        conv => lhs; rw [show c = 1 + (c - 1) by omega, Nat.mul_add, Nat.mul_one]
      omega
    rw [e2, Nat.add_mul_mod_self_left, Nat.mod_eq_of_lt (show r - 1 < r by omega), show 1 + (r - 1) = r by omega, Nat.mod_self]
  have := Nat.dvd_gcd hx hrn
  rw [h2] at this
  have := Nat.le_of_dvd (by decide) this
  omega
theorem small_prime {n k : Nat} (hn : 2 ≤ n) (hk : n < k * k) (hd : (List.range k).all (fun d => decide (d < 2) || n % d != 0) = true) : Pr n := by
  obtain ⟨r, hr, hrn, hor⟩ := least_prime hn
  rcases hor with h | hrr
  · exact h
  exfalso
  have hlt : r < k := Nat.lt_of_not_le fun hge => by
    have := Nat.mul_le_mul hge hge
    omega
  have := List.all_eq_true.1 hd r (List.mem_range.2 hlt)
  have h2 := hr.1
  have h0 := Nat.mod_eq_zero_of_dvd hrn
  simp [h0] at this
  omega
def pwm (n : Nat) : Nat → Nat → Nat → Nat
  | 0, _, _ => 1 % n
  | f + 1, a, e => bif e % 2 == 1 then a * pwm n f (a * a % n) (e / 2) % n else pwm n f (a * a % n) (e / 2)
theorem pwm_eq (n : Nat) : ∀ f a e, e < 2 ^ f → pwm n f a e = a ^ e % n
  | 0, a, e, h => by
    obtain rfl : e = 0 := by omega
    rfl
  | f + 1, a, e, h => by
    have ih := pwm_eq n f (a * a % n) (e / 2) (by rw [Nat.pow_succ] at h; omega)
    have e1 : (a * a % n) ^ (e / 2) % n = a ^ (2 * (e / 2)) % n := by
      rw [← Nat.pow_mod, Nat.pow_mul, show a ^ 2 = a * a by rw [Nat.pow_two]]
    unfold pwm
    by_cases h2 : e % 2 = 1
    · rw [ih, e1, h2]
      show a * (a ^ (2 * (e / 2)) % n) % n = _
      rw [Nat.mul_mod_mod]
      conv => rhs; rw [show e = 2 * (e / 2) + 1 by omega, Nat.pow_succ, Nat.mul_comm]
    · have h3 : e % 2 = 0 := by omega
      rw [ih, e1, h3]
      show a ^ (2 * (e / 2)) % n = _
      rw [show 2 * (e / 2) = e by omega]
theorem pock2 {n l m f : Nat} (a : Nat) (hl : Pr l) (h : (decide (2 ≤ n) && decide (n - 1 = m * l) && decide (n < l * l) && decide (n < 2 ^ f) && (pwm n f a (n - 1) == 1) && (Nat.gcd (pwm n f a m + (n - 1)) n == 1)) = true) : Pr n := by
  simp only [Bool.and_eq_true, decide_eq_true_eq, beq_iff_eq] at h
  obtain ⟨⟨⟨⟨⟨h1, h2⟩, h3⟩, h4⟩, h5⟩, h6⟩ := h
  have hl2 := hl.1
  have hm : m < 2 ^ f := by
    have : m ≤ m * l := Nat.le_mul_of_pos_right m (by omega)
    omega
  rw [pwm_eq _ _ _ _ (by omega)] at h5
  rw [pwm_eq _ _ _ _ hm] at h6
  exact pock h1 hl h2 h3 h5 h6
def pP : Nat := 115792089237316195423570985008687907853269984665640564039457584007913129603823
def qP : Nat := 57896044618658097711785492504343953926634992332820282019728792003956564801911
theorem pr0 : Pr 213319 := small_prime (k := 500) (by decide) (by decide) (by decide +kernel)
theorem pr1 : Pr 2155375177 := pock2 (m := 10104) (f := 32) 2 pr0 (by decide +kernel)
theorem pr2 : Pr 59483944987587859 := pock2 (m := 27597954) (f := 56) 2 pr1 (by decide +kernel)
theorem pr3 : Pr 1202684276868524221513588244947 := pock2 (m := 20218636761894) (f := 100) 2 pr2 (by decide +kernel)
theorem pr4 : Pr 3201964079152361724098258636758155557 := pock2 (m := 2662348) (f := 122) 2 pr3 (by decide +kernel)
theorem pr5 : Pr 2848630210554880446022254608450222949126931851754251657020267 := pock2 (m := 889650895555637400306338) (f := 201) 2 pr4 (by decide +kernel)
theorem pr_q : Pr qP := pock2 (m := 20324169983221730) (f := 255) 2 pr5 (by decide +kernel)
theorem pr_p : Pr pP := pock2 (m := 2) (f := 256) 2 pr_q (by decide +kernel)
theorem pq : pP - 1 = 2 * qP := by decide +kernel
theorem p2 : 2 ≤ pP := by decide +kernel
theorem q_odd : qP % 2 = 1 := by decide +kernel
def mem (a : Nat) : Prop := 0 < a ∧ a < pP ∧ a ^ qP % pP = 1
instance (a : Nat) : Decidable (mem a) := by unfold mem; exact inferInstance
theorem four_q : 4 ^ qP % pP = 1 := by
  rw [← pwm_eq pP 255 4 qP (by decide +kernel)]
  decide +kernel
theorem pow_q {g : Nat} (h : g ^ qP % pP = 1) (e : Nat) : g ^ (e % qP) % pP = g ^ e % pP := by
  have e1 : g ^ e = (g ^ qP) ^ (e / qP) * g ^ (e % qP) := by rw [← Nat.pow_mul, ← Nat.pow_add, Nat.div_add_mod]
  have h1 : 1 % pP = 1 := Nat.mod_eq_of_lt p2
  conv => rhs; rw [e1, Nat.mul_mod, Nat.pow_mod, h, Nat.one_pow, h1, Nat.one_mul, Nat.mod_mod]
theorem pow_add_q {g : Nat} (h : g ^ qP % pP = 1) (a b : Nat) : g ^ ((a + b) % qP) % pP = (g ^ a % pP) * (g ^ b % pP) % pP := by
  rw [pow_q h, Nat.pow_add, Nat.mul_mod]
theorem pow_mem {g : Nat} (h : g ^ qP % pP = 1) (e : Nat) : (g ^ e % pP) ^ qP % pP = 1 := by
  rw [← Nat.pow_mod, ← Nat.pow_mul, Nat.mul_comm, Nat.pow_mul, Nat.pow_mod, h, Nat.one_pow, Nat.mod_eq_of_lt p2]
theorem mul_mem {a b : Nat} (ha : a ^ qP % pP = 1) (hb : b ^ qP % pP = 1) : (a * b % pP) ^ qP % pP = 1 := by
  rw [← Nat.pow_mod, Nat.mul_pow, Nat.mul_mod, ha, hb, Nat.mod_eq_of_lt (by have := p2; omega)]
theorem ndvd_of_mem {a : Nat} (h : a ^ qP % pP = 1) : ¬ pP ∣ a := fun hd => by
  have h0 : a ^ qP % pP = 0 := by rw [Nat.pow_mod, Nat.mod_eq_zero_of_dvd hd, Nat.zero_pow (by decide +kernel), Nat.zero_mod]
  omega
theorem mem_iff {a : Nat} (h : a < pP) : mem a ↔ a ^ qP % pP = 1 := ⟨fun h => h.2.2, fun h2 => ⟨Nat.pos_of_ne_zero fun h0 => ndvd_of_mem h2 (h0 ▸ Nat.dvd_zero _), h, h2⟩⟩
theorem inv_mul {a : Nat} (h : ¬ pP ∣ a) : a * (a ^ (pP - 2) % pP) % pP = 1 := by
  rw [Nat.mul_mod_mod, Nat.mul_comm, ← Nat.pow_succ, show (pP - 2).succ = pP - 1 by have := p2; omega, fermat1 pr_p h]
theorem euler {a : Nat} (h : ¬ pP ∣ a) : a ^ qP % pP = 1 ∨ a ^ qP % pP = pP - 1 := by
  have hp2 := p2
  have hf := fermat1 pr_p h
  rw [pq, Nat.mul_comm, Nat.pow_mul] at hf
  generalize a ^ qP = x at hf ⊢
  have hlt : x % pP < pP := Nat.mod_lt _ (by omega)
  have h1 : (x % pP) * (x % pP) % pP = 1 := by rw [← Nat.mul_mod, ← Nat.pow_two]; exact hf
  generalize x % pP = y at *
  have hy : 0 < y := Nat.pos_of_ne_zero fun h0 => by subst h0; rw [Nat.zero_mul, Nat.zero_mod] at h1; omega
  have hd : pP ∣ (y - 1) * (y + 1) := by
    have e : (y - 1) * (y + 1) = y * y - 1 := by
      obtain ⟨z, rfl⟩ : ∃ z, y = z + 1 := ⟨y - 1, by omega⟩
      simp only [Nat.add_sub_cancel, Nat.mul_add, Nat.add_mul, Nat.mul_one, Nat.one_mul]
      omega
    rw [e]
    exact Nat.dvd_of_mod_eq_zero (Nat.sub_mod_eq_zero_of_mod_eq (by rw [h1, Nat.mod_eq_of_lt (by omega)]))
  rcases pr_p.euclid hd with h2 | h2
  · left
    rcases Nat.eq_zero_or_pos (y - 1) with h3 | h3
    · omega
    · have := Nat.le_of_dvd h3 h2; omega
  · right
    have := Nat.le_of_dvd (by omega) h2
    omega
theorem neg_odd {y : Nat} (hy : y ≤ pP) : ∀ n, n % 2 = 1 → (pP - y) ^ n % pP = (pP - y ^ n % pP) % pP := by
  have hp2 := p2
  -- the square of a negative is the square
  have hsq : (pP - y) * (pP - y) % pP = y * y % pP := by
    obtain ⟨z, hz⟩ : ∃ z, pP = y + z := ⟨pP - y, by omega⟩
    have e1 : pP - y = z := by omega
    rw [e1]
    have e2 : z * z + y * pP = y * y + z * pP := by
      rw [hz, Nat.mul_add, Nat.mul_add, Nat.mul_comm z y]
      omega
    have e3 := congrArg (· % pP) e2
    simpa using e3
  have step : ∀ n, (pP - y) ^ (2 * n) % pP = y ^ (2 * n) % pP := by
    intro n
    rw [Nat.pow_mul, Nat.pow_mul, Nat.pow_mod, Nat.pow_two, hsq, ← Nat.pow_two, ← Nat.pow_mod]
  intro n hn
  have e : n = 2 * (n / 2) + 1 := by omega
  rw [e, Nat.pow_succ, Nat.mul_mod, step, ← Nat.mul_mod, Nat.pow_succ]
  generalize y ^ (2 * (n / 2)) = w
  -- w * (p - y) is the negative of w * y
  have h1 : w * (pP - y) + w * y = w * pP := by rw [← Nat.mul_add]; congr 1; omega
  have h2 : w * y % pP < pP := Nat.mod_lt _ (by omega)
  have h3 : (w * (pP - y) + w * y) % pP = 0 := by rw [h1]; exact Nat.mul_mod_left _ _
  rw [Nat.add_mod] at h3
  have h4 : w * (pP - y) % pP < pP := Nat.mod_lt _ (by omega)
  by_cases h0 : w * y % pP = 0
  · rw [h0, Nat.add_zero, Nat.mod_mod] at h3
    rw [h0, h3, Nat.sub_zero, Nat.mod_self]
  · rw [Nat.mod_eq_of_lt (show pP - w * y % pP < pP by omega)]
    have : pP ∣ w * (pP - y) % pP + w * y % pP := Nat.dvd_of_mod_eq_zero h3
    obtain ⟨c, hc⟩ := this
    have hc1 : c = 1 := by
      rcases Nat.lt_or_ge c 1 with h | h
      · have : c = 0 := by omega
        subst this; omega
      · rcases Nat.lt_or_ge 1 c with h' | h'
        · have := Nat.mul_le_mul_left pP (show 2 ≤ c from h'); omega
        · omega
    subst hc1
    omega
theorem one_mem {c : Nat} (h0 : 0 < c) (h : c < pP) : ¬ (mem (pP - c) ↔ mem c) := by
  have hp2 := p2
  have hnd : ¬ pP ∣ c := fun hd => by have := Nat.le_of_dvd h0 hd; omega
  rw [mem_iff h, mem_iff (by omega), neg_odd (by omega) qP q_odd]
  rcases euler hnd with h1 | h1
  · rw [h1, Nat.mod_eq_of_lt (by omega)]
    have : pP ≠ 2 := by decide +kernel
    omega
  · rw [h1, show pP - (pP - 1) = 1 by omega, Nat.mod_eq_of_lt (by omega)]
    have : pP ≠ 2 := by decide +kernel
    omega
theorem sq_mem {a : Nat} (h : ¬ pP ∣ a) : (a * a % pP) ^ qP % pP = 1 := by
  rw [← Nat.pow_mod, Nat.mul_pow, ← Nat.pow_add, show qP + qP = pP - 1 by rw [pq]; omega, fermat1 pr_p h]
theorem pPv : pP = 115792089237316195423570985008687907853269984665640564039457584007913129603823 := rfl
theorem qPv : qP = 57896044618658097711785492504343953926634992332820282019728792003956564801911 := rfl
attribute [irreducible] pP qP
end Go.Ab
