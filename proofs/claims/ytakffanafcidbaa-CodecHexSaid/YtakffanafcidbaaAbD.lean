import Derived.Test.YtakffanafcidbaaAbC
namespace Go.Ab
open Go Go.RowKit
set_option linter.unusedVariables false
set_option linter.unusedSimpArgs false

variable {P : Program} {X : Nat → Prop} {β : List Base} {w : World} {L : LH}

theorem convF_goes {draw : Bool} (src dst : TypeId) (x : PV) (vx : Value) (hpre : (convF P src dst x L).pre) (hH : RepH X β w L) (hx : RepV X β w x vx) :
    Goes P X β w L draw (convert src dst vx) (convF P src dst x L) := by
  unfold convF at hpre ⊢
  split at hpre
  case h_2 => exact absurd hpre (by simp [OR.bad])
  rename_i S D hS hD
  obtain ⟨uS, _⟩ := tyOf_spec hS
  obtain ⟨uD, _⟩ := tyOf_spec hD
  split at hpre
  · rename_i k kk n hk
    simp only [RepV] at hx; subst hx
    rw [hk] at uD
    exact (still_lit (by simp [convert, run_underlying uS, run_underlying uD, Conv.intToInt])).goes hH
  · rename_i s h1 h2
    simp only [RepV] at hx; subst hx
    rw [h1] at uS; rw [h2] at uD
    exact (still_lit (by simp [convert, run_underlying uS, run_underlying uD])).goes hH
  · rename_i e h1 h2
    rw [h1] at uS; rw [h2] at uD
    split at hpre
    · rename_i hE
      try simp only [hE]
      obtain ⟨ue, _⟩ := tyOf_spec hE
      obtain ⟨p1, p2, p3⟩ := hpre
      obtain ⟨a, cap, rfl, hcap, vs, hr, hl, ho, hc⟩ := slc_list p1 hH hx
      obtain ⟨ns, rfl, hb⟩ := repL_bytes p3 hr
      refine (still_lit ?_).goes hH
      rw [run_convert_bytes_string w src dst e _ _ _ uS ue uD, bytesToString_run (by simp at hl; omega) hc, hb]
    · exact absurd hpre (by simp [OR.bad])
  · rename_i e s h1 h2
    rw [h1] at uS; rw [h2] at uD
    simp only [RepV] at hx; subst hx
    split at hpre
    · rename_i hE
      try simp only [hE]
      obtain ⟨ue, _⟩ := tyOf_spec hE
      have hr := run_bytes_of_string w src dst e s uS uD ue
      refine ⟨_, _, β, hr, ?_, ?_, grow_drew.trans (grow_alloc _), fun _ => ⟨rfl, rfl⟩⟩
      · simp only [RepV]
        refine ⟨_, _, rfl, grownCap_ge w s.size 0 e, .inr ⟨w.heap.size, 0, rfl, fun h => ?_, fun h => ?_, ?_⟩⟩
        · have := (hH.out _ h).1; omega
        · have := hH.lt _ h; omega
        · rw [RepRow.iff]
          intro i p hp
          have hi : i < s.data.toList.length := by
            have := (List.getElem?_eq_some_iff.1 hp).1
            simpa using this
          simp at hi
          refine ⟨.int .u8 (s.data[i]).toNat, ?_, rfl, ?_⟩
          · rw [show w.heap.size = w.drew.heap.size from rfl, World.cell?_alloc_mark]
            simp [bytesRow, Array.getElem?_append, hi]
          · simp [List.getElem?_eq_getElem, hi] at hp
            subst hp
            simp [bv, RepV]
      · exact (hH.same grow_drew (fun _ _ => rfl)).same (grow_alloc _) (fun k hk => heap_old _ hk)
    · exact absurd hpre (by simp [OR.bad])
  · exact absurd hpre (by simp [OR.bad])

theorem lenF_still (t ty : TypeId) (ts : Array TypeId) (x : PV) (vx : Value) (hpre : (lenF P t x L).pre) (hH : RepH X β w L) (hx : RepV X β w x vx) (ht : ts[0]? = some t) :
    Still P X β w L (Builtin.len_ ts ty #[vx]) (lenF P t x L) := by
  unfold lenF at hpre ⊢
  split at hpre
  case h_2 => exact absurd hpre (by simp [OR.bad])
  rename_i T hT
  obtain ⟨u, _⟩ := tyOf_spec hT
  split at hpre
  · rename_i s h1
    simp only [RepV] at hx; subst hx
    rw [h1] at u
    exact still_lit (by simp [Builtin.len_, ht, run_underlying u, goInt])
  · rename_i e a n c h1
    simp only [RepV] at hx; subst hx
    rw [h1] at u
    exact still_lit (by simp [Builtin.len_, ht, run_underlying u, goInt])
  · rename_i e n cs h1
    simp only [RepV] at hx
    obtain ⟨a, cap, rfl, _⟩ := hx
    rw [h1] at u
    exact still_lit (by simp [Builtin.len_, ht, run_underlying u, goInt])
  · rename_i e id off n sz h1
    rw [h1] at u
    split at hpre
    · rename_i cs hL
      try simp only [hL]
      have hsl : ∃ a cap, vx = .slice a n cap := by
        simp only [RepV] at hx
        rcases hH.ent id cs hL with ⟨h1, _⟩ | ⟨b, base, c, el, h1, _⟩
        · obtain ⟨rfl, rfl, _⟩ := hx.2.2 h1; exact ⟨_, _, rfl⟩
        · obtain ⟨cap, rfl, _⟩ := hx.2.1 b base h1; exact ⟨_, _, rfl⟩
      obtain ⟨a, cap, rfl⟩ := hsl
      exact still_lit (by simp [Builtin.len_, ht, run_underlying u, goInt])
    · exact absurd hpre (by simp [OR.bad])
  · rename_i n e h1
    rw [h1] at u
    exact still_lit (by simp [Builtin.len_, ht, run_underlying u, goInt])
  · exact absurd hpre (by simp [OR.bad])

theorem capF_still (t ty : TypeId) (ts : Array TypeId) (x : PV) (vx : Value) (hpre : (capF P t x L).pre) (hx : RepV X β w x vx) (ht : ts[0]? = some t) :
    Still P X β w L (Builtin.cap_ ts ty #[vx]) (capF P t x L) := by
  unfold capF at hpre ⊢
  split at hpre
  case h_2 => exact absurd hpre (by simp [OR.bad])
  rename_i T hT
  obtain ⟨u, _⟩ := tyOf_spec hT
  split at hpre
  · rename_i e a n c h1
    simp only [RepV] at hx; subst hx
    rw [h1] at u
    exact still_lit (by simp [Builtin.cap_, ht, run_underlying u, goInt])
  · rename_i n e h1
    rw [h1] at u
    exact still_lit (by simp [Builtin.cap_, ht, run_underlying u, goInt])
  · exact absurd hpre (by simp [OR.bad])

theorem rep_length (n : Nat) (z : Value) : (rep n z).length = n * z.cells.size := by
  induction n with
  | zero => simp [rep]
  | succ n ih => simp only [rep, List.replicate_succ, List.flatten_cons, List.length_append] at ih ⊢; rw [ih]; simp [Nat.add_mul]; omega

theorem rep_get (n : Nat) (z : Value) (i : Nat) (hi : i < n * z.cells.size) : (rep n z)[i]? = some (.lit (z.cells[i % z.cells.size]!)) := by
  induction n generalizing i with
  | zero => simp at hi
  | succ n ih =>
    have hp : 0 < z.cells.size := by
      rcases Nat.eq_zero_or_pos z.cells.size with h | h
      · rw [h] at hi; simp at hi
      · exact h
    simp only [rep, List.replicate_succ, List.flatten_cons] at ih ⊢
    rw [List.getElem?_append]
    split
    · rename_i h
      simp at h
      rw [Nat.mod_eq_of_lt h]
      simp [h]
    · rename_i h
      simp at h
      simp only [List.length_map, Array.length_toList]
      rw [ih (i - z.cells.size) (by rw [Nat.add_mul] at hi; omega)]
      have : i % z.cells.size = (i - z.cells.size) % z.cells.size := by
        rw [Nat.mod_eq_sub_mod h]
      rw [this]

theorem rep_holds (n m : Nat) (z : Value) (c : Array Value) (hc : n * z.cells.size ≤ c.size) (h1 : ∀ v ∈ z.cells.toList, v.oneCell' = true)
    (h : ∀ i, i < n * z.cells.size → c[i]? = some (z.cells[i % z.cells.size]!)) : Holds X β w c (rep n z) := by
  refine ⟨by rw [rep_length]; exact hc, fun i p hp => ?_⟩
  have hi : i < n * z.cells.size := by
    have := (List.getElem?_eq_some_iff.1 hp).1
    rwa [rep_length] at this
  have hpos : 0 < z.cells.size := by
    rcases Nat.eq_zero_or_pos z.cells.size with h | h
    · rw [h] at hi; simp at hi
    · exact h
  rw [rep_get n z i hi] at hp
  cases hp
  refine ⟨_, h i hi, ?_, by simp [RepV]⟩
  have hlt := Nat.mod_lt i hpos
  rw [getElem!_pos z.cells (i % z.cells.size) hlt]
  exact h1 _ (by simp)

theorem makeF_goes {draw : Bool} (t : TypeId) (l c : PV) (vl vc : Value) (hpre : (makeF P draw t l c L).pre) (hH : RepH X β w L) (hl : RepV X β w l vl) (hc : RepV X β w c vc) :
    Goes P X β w L draw (Instr.makeSlice t vl vc) (makeF P draw t l c L) := by
  unfold makeF at hpre ⊢
  split at hpre
  case h_2 => exact absurd hpre (by simp [OR.bad])
  rename_i e _ _ _ hT
  obtain ⟨u, _⟩ := tyOf_spec hT
  split at hpre
  case h_2 => exact absurd hpre (by simp [OR.bad])
  rename_i E kl l kc c hE
  try simp only [hE]
  obtain ⟨ue, i, hi, hs, hb, hz⟩ := tyOf_spec hE
  simp only [RepV] at hl hc; subst hl hc
  obtain ⟨p1, p2, p3, p4, p5, p6⟩ := hpre
  have hr := run_make (P := P) w t e i E.zero u hi hz kl kc l c p1 p2 (by rw [hb]; exact p3) p4
  have hlc : l.toNat ≤ c.toNat := Int.toNat_le_toNat p2
  refine fresh_goes hH (.inl rfl) hr hlc (by rw [size_madeCells, hs]; exact Nat.le_refl _) ?_
  refine rep_holds l.toNat l.toNat E.zero _ ?_ p6 ?_
  · rw [size_madeCells, p5, hs]; exact Nat.mul_le_mul_right _ hlc
  · intro j hj
    have hj' : j < c.toNat * i.size := by
      rw [p5] at hj; rw [hs]
      exact Nat.lt_of_lt_of_le hj (Nat.mul_le_mul_right _ hlc)
    simp [madeCells, hj']

end Go.Ab
