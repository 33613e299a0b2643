import Derived.Test.YtipnfcbpbomonaaDoorM11
import Derived.Test.YtipnfcbpbomonaaDoorM12
namespace Go.Ab
open Go Go.RowKit
set_option linter.unusedVariables false
set_option linter.unusedSimpArgs false
set_option linter.unusedVariables false
def Rd (P : Program) (t : TypeId) {α : Type} (f : α → List PV) (ok : α → Prop) : Prop :=
  ∀ {H : Type} {enc : TypeId × Value → H} {W : World} {base : Nat} {sp : Nat → Bool} {held : Bool} {fuel : Nat} {cs : List Value} {x : DataW H × List MemPlace},
    DataW.trod enc P W base sp held fuel t cs = some x → ∃ a, ok a ∧ (∀ v ∈ cs, v.oneCell' = true) ∧ RepL no [] W (f a) cs
section
variable {P : Program} {t e : TypeId} {α β : Type} {f : α → List PV} {ok : α → Prop} {g : β → List PV} {ok' : β → Prop} {k n : Nat}
theorem rd_map (h : Rd P t f ok) (hm : ∀ a, ok a → ∃ b, ok' b ∧ g b = f a) : Rd P t g ok' := fun hd => by
  obtain ⟨a, h1, h2, h3⟩ := h hd
  obtain ⟨b, h4, h5⟩ := hm a h1
  exact ⟨b, h4, h2, by rw [h5]; exact h3⟩
theorem rd_int {q : IntKind} (ht : P.underlying t = some (.int q)) : Rd P t (fun z : Int => [.lit (.int q z)]) (fun z => (Lit.int q z).wf = true) := fun hd => by
  obtain ⟨z, rfl, _, wz⟩ := DataW.trod_int ht hd
  exact ⟨z, wz, by simp [Value.oneCell'], by simp [RepL, RepV]⟩
theorem rd_bool (ht : P.underlying t = some .bool) : Rd P t (fun b : Bool => [.lit (.bool b)]) (fun _ => True) := fun hd => by
  obtain ⟨z, rfl, _⟩ := DataW.trod_bool ht hd
  exact ⟨z, trivial, by simp [Value.oneCell'], by simp [RepL, RepV]⟩
theorem rd_u8 (ht : P.underlying t = some (.int .u8)) : Rd P t b1 (fun _ => True) :=
  rd_map (rd_int ht) fun z wz => by
    have hw := wf_u8 wz
    refine ⟨UInt8.ofNat z.toNat, trivial, ?_⟩
    simp only [b1, bv]
    congr 3
    rw [UInt8.toNat_ofNat']
    omega
theorem list_choice {Q : Nat → α → Prop} : ∀ {n : Nat}, (∀ i, i < n → ∃ a, Q i a) → ∃ l : List α, l.length = n ∧ ∀ i a, l[i]? = some a → Q i a
  | 0, _ => ⟨[], rfl, fun i a h => by simp at h⟩
  | n + 1, h => by
    obtain ⟨l, hl, hq⟩ := list_choice (n := n) fun i hi => h i (by omega)
    obtain ⟨a, ha⟩ := h n (by omega)
    refine ⟨l ++ [a], by simp [hl], fun i b hb => ?_⟩
    rw [List.getElem?_append] at hb
    split at hb
    · exact hq i b hb
    · have : i = n := by
        have := (List.getElem?_eq_some_iff.1 hb).1
        simp at this; omega
      subst this
      rw [hl, Nat.sub_self] at hb
      cases hb
      exact ha
theorem repRow_app {X : Nat → Prop} {β : List Base} {w : World} {b : Nat} : ∀ {ps qs : List PV} {off : Nat}, RepRow X β w b off ps → RepRow X β w b (off + ps.length) qs → RepRow X β w b off (ps ++ qs)
  | [], qs, off, _, h => by simpa using h
  | p :: ps, qs, off, h, h2 => by
    simp only [List.cons_append, RepRow] at h ⊢
    exact ⟨h.1, repRow_app h.2 (by rw [List.length_cons] at h2; rw [show off + 1 + ps.length = off + (ps.length + 1) by omega]; exact h2)⟩
theorem cells_at {W : World} {base b off : Nat} {k : Nat} {cs : List Value} (h : W.cells? base ⟨b, off, none⟩ k = some cs) : cs.length = k ∧ ∀ i v, cs[i]? = some v → W.cell? ⟨b, off + i, none⟩ = some v := by
  unfold World.cells? at h
  split at h
  · have hl := mapM_some_length h
    rw [List.length_range] at hl
    refine ⟨hl, fun i v hv => ?_⟩
    have hi : i < k := by have := (List.getElem?_eq_some_iff.1 hv).1; omega
    have := mapM_some_get h i i (by simp [hi])
    rw [hv] at this
    have ha : (Addr.mk b off none).add i = ⟨b, off + i, none⟩ := by
      unfold Addr.add
      split
      · rename_i h; subst h; rfl
      · rfl
    rw [ha] at this
    exact this
  · cases h
theorem rep_rows {X : Nat → Prop} {β : List Base} {w : World} {b : Nat} [h : Kd f k] : ∀ {l : List α} {off : Nat},
    (∀ i a, l[i]? = some a → ∃ cs : List Value, (∀ v ∈ cs, v.oneCell' = true) ∧ (∀ r v, cs[r]? = some v → w.cell? ⟨b, off + i * k + r, none⟩ = some v) ∧ RepL X β w (f a) cs) → RepRow X β w b off (rk f l)
  | [], off, _ => by simp [rk, RepRow]
  | a :: l, off, hq => by
    have e : rk f (a :: l) = f a ++ rk f l := rfl
    rw [e]
    obtain ⟨cs, h1, h2, h3⟩ := hq 0 a rfl
    refine repRow_app ?_ ?_
    · rw [RepRow.iff]
      intro i p hp
      have hl := RepL.length h3
      have hi : i < cs.length := by rw [hl]; exact (List.getElem?_eq_some_iff.1 hp).1
      have hv : cs[i]? = some cs[i] := by simp [hi]
      refine ⟨cs[i], ?_, h1 _ (List.getElem_mem hi), (RepL.iff.1 h3).2 i p _ hp hv⟩
      have := h2 i _ hv
      rwa [Nat.zero_mul, Nat.add_zero] at this
    · rw [h.len a]
      refine rep_rows fun i a' ha' => ?_
      obtain ⟨cs', g1, g2, g3⟩ := hq (i + 1) a' (by simpa using ha')
      refine ⟨cs', g1, fun r v hv => ?_, g3⟩
      have := g2 r v hv
      rw [Nat.succ_mul] at this
      rw [show off + k + i * k + r = off + (i * k + k) + r by omega]; exact this
theorem rd_slice [hK : Kd f k] (ht : P.underlying t = some (.slice e)) (hk : P.cellsOf e = k) (k0 : 0 < k) (h : Rd P e f ok) : Rd P t (fun l : List α => [roK f l]) (fun l => l.length ≤ maxLen ∧ ∀ a ∈ l, ok a) := by
  intro H enc W base sp held fuel cs x hd
  rcases DataW.trod_slice ht hd with ⟨rfl, _⟩ | ⟨a, len, cap, elems, rest, m, _, rfl, _, hb, hlc, hcm, hel, hi, _, _⟩
  · refine ⟨[], ⟨by simp, by simp⟩, by simp [Value.oneCell'], ?_⟩
    simp [RepL, RepV, roK, rk]
  · have hall : ∀ i, i < len → ∃ b, ok b ∧ ∃ cs : List Value, W.cells? base (a.add (i * k)) k = some cs ∧ (∀ v ∈ cs, v.oneCell' = true) ∧ RepL no [] W (f b) cs := by
      intro i hi2
      have h1 := hi i hi2
      have h2 : elems[i]? = some elems[i] := by simp [hel, hi2]
      rw [h2, Option.bind_eq_some_iff] at h1
      obtain ⟨cs, h3, h4⟩ := h1
      obtain ⟨b, h5, h6, h7⟩ := h h4
      rw [hk] at h3
      exact ⟨b, h5, cs, h3, h6, h7⟩
    obtain ⟨l, hl, hq⟩ := list_choice hall
    refine ⟨l, ⟨by omega, fun b hb => by obtain ⟨i, hi⟩ := List.getElem?_of_mem hb; exact (hq i b hi).1⟩, by simp [Value.oneCell'], ?_⟩
    simp only [RepL, RepV, roK]
    refine ⟨_, _, rfl, ⟨some a, cap, by rw [hl], by omega, ?_⟩, rfl⟩
    by_cases h0 : len = 0
    · left
      have : l = [] := List.length_eq_zero_iff.1 (by omega)
      subst this; rfl
    · right
      obtain ⟨b, off, sp2⟩ := a
      have hsp : sp2 = none := by
        have hl0 : l[0]? = some (l[0]'(by omega)) := List.getElem?_eq_getElem (by omega)
        obtain ⟨_, cs, h1, _, h3⟩ := hq 0 _ hl0
        rw [Nat.zero_mul] at h1
        have ha : (Addr.mk b off sp2).add 0 = ⟨b, off, sp2⟩ := by unfold Addr.add; rw [if_pos rfl]
        rw [ha] at h1
        unfold World.cells? at h1
        by_cases hbb : base ≤ b
        · rw [if_pos hbb] at h1
          have hlen := mapM_some_length h1
          rw [List.length_range] at hlen
          have := mapM_some_get h1 0 0 (by simp [k0])
          have hc0 : cs[0]? = some cs[0] := by simp [hlen, k0]
          rw [ha, hc0] at this
          cases sp2 with
          | none => rfl
          | some s =>
            simp only [World.cell?] at this
            split at this <;> simp at this
        · rw [if_neg hbb] at h1; cases h1
      subst hsp
      refine ⟨b, off, rfl, id, fun ⟨i, y, hb⟩ => by simp at hb, rep_rows fun i a' ha' => ?_⟩
      obtain ⟨_, cs, h1, h2, h3⟩ := hq i a' ha'
      have ha : (Addr.mk b off none).add (i * k) = ⟨b, off + i * k, none⟩ := by
        unfold Addr.add
        split
        · rename_i h; rw [h]; rfl
        · rfl
      rw [ha] at h1
      exact ⟨cs, h2, (cells_at h1).2, h3⟩
theorem repL_app {X : Nat → Prop} {β : List Base} {w : World} : ∀ {ps qs : List PV} {n : Nat} {cs : List Value}, ps.length = n → RepL X β w ps (cs.take n) → RepL X β w qs (cs.drop n) → RepL X β w (ps ++ qs) cs := by
  intro ps qs n cs hn h1 h2
  have := repL_append h1 h2
  rwa [List.take_append_drop] at this
theorem repL_flat {X : Nat → Prop} {β : List Base} {w : World} [h : Kd f k] : ∀ {l : List α} {cs : List Value}, cs.length = l.length * k → (∀ i a, l[i]? = some a → RepL X β w (f a) ((cs.drop (i * k)).take k)) → RepL X β w (rk f l) cs
  | [], cs, hc, _ => by
    have : cs = [] := List.length_eq_zero_iff.1 (by simpa using hc)
    subst this; simp [rk, RepL]
  | a :: l, cs, hc, hq => by
    have e : rk f (a :: l) = f a ++ rk f l := rfl
    rw [e]
    rw [List.length_cons, Nat.succ_mul] at hc
    refine repL_app (h.len a) (by simpa using hq 0 a rfl) (repL_flat (by rw [List.length_drop]; omega) fun i a' ha' => ?_)
    have := hq (i + 1) a' (by simpa using ha')
    rw [List.drop_drop, show k + i * k = (i + 1) * k by rw [Nat.succ_mul, Nat.add_comm]]
    exact this
theorem ones_of {cs : List Value} {n k : Nat} (hc : cs.length = n * k) (h : ∀ i, i < n → ∀ v ∈ (cs.drop (i * k)).take k, v.oneCell' = true) : ∀ v ∈ cs, v.oneCell' = true := by
  intro v hv
  obtain ⟨j, hj, rfl⟩ := List.getElem_of_mem hv
  have k0 : 0 < k := by
    rcases Nat.eq_zero_or_pos k with rfl | h
    · omega
    · exact h
  have hjn : j / k < n := (Nat.div_lt_iff_lt_mul k0).2 (by omega)
  refine h (j / k) hjn _ ?_
  have e : j / k * k + j % k = j := Nat.div_add_mod' j k
  have : ((cs.drop (j / k * k)).take k)[j % k]? = some cs[j] := by
    rw [List.getElem?_take, if_pos (Nat.mod_lt _ k0), List.getElem?_drop, e]
    simp [hj]
  exact List.mem_of_getElem? this
theorem rd_arr [hK : Kd f k] (ht : P.underlying t = some (.array n e)) (hk : P.cellsOf e = k) (hct : P.cellsOf t = n * k) (h : Rd P e f ok) : Rd P t (fun l : List α => rk f l) (fun l => l.length = n ∧ ∀ a ∈ l, ok a) := by
  intro H enc W base sp held fuel cs x hd
  obtain ⟨xs, m, _, _, hlen, hxs, hi⟩ := DataW.trod_array ht hd
  rw [hct] at hlen
  have hall : ∀ i, i < n → ∃ b, ok b ∧ (∀ v ∈ (cs.drop (i * k)).take k, v.oneCell' = true) ∧ RepL no [] W (f b) ((cs.drop (i * k)).take k) := by
    intro i hin
    have h1 := hi i hin
    have hx : xs[i]? = some xs[i] := by simp [hxs, hin]
    rw [hx, hk] at h1
    exact h h1
  obtain ⟨l, hl, hq⟩ := list_choice hall
  refine ⟨l, ⟨hl, fun b hb => by obtain ⟨i, hi⟩ := List.getElem?_of_mem hb; exact (hq i b hi).1⟩, ones_of hlen fun i hi => ?_, repL_flat (by rw [hlen, hl]) fun i a ha => (hq i a ha).2.2⟩
  exact (hq i _ (by simp [hl, hi] : l[i]? = some l[i])).2.1
theorem rd_one {w : World} {g : α → PV} (h : Rd P t (fun a => [g a]) ok) {H : Type} {enc : TypeId × Value → H} {sp : Nat → Bool} {held : Bool} {base : Nat} {v : Value} {d : DataW H} {ps : List MemPlace} (hv : v.cells.toList = [v])
    (hd : DataW.Trod enc P w base sp held t v d ps) : ∃ a, ok a ∧ RepV no [] w (g a) v := by
  obtain ⟨fuel, hf⟩ := hd
  rw [hv] at hf
  obtain ⟨a, h1, _, h3⟩ := h hf
  simp only [RepL] at h3
  obtain ⟨u, r, hu, h4, _⟩ := h3
  cases hu
  exact ⟨a, h1, h4⟩
end
end Go.Ab
namespace Go.Ab
open Go Go.RowKit
set_option linter.unusedVariables false
set_option linter.unusedSimpArgs false
set_option linter.unusedVariables false
variable {P : Program} {t e : TypeId}
def w1 (n : Nat) : List PV := [ul n]
instance : Kd w1 1 := ⟨fun _ => rfl, fun _ => rfl⟩
theorem rd_h32 (ht : P.underlying t = some (.array 32 e)) (he : P.underlying e = some (.int .u8)) (hc : P.cellsOf e = 1) (hct : P.cellsOf t = 32) : Rd P t hl (fun n => n < 2 ^ 256) :=
  rd_map (rd_arr (n := 32) ht hc hct (rd_u8 he)) fun l h => ⟨nb l, nb_lt h.1, by rw [← bl_hl h.1, bl_eq h.1, rk_b1]⟩
end Go.Ab
