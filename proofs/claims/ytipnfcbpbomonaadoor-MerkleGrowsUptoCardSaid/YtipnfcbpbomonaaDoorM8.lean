import Derived.Test.YtipnfcbpbomonaaDoorM7
import Derived.LoopNIn
namespace Go.Ab
open Go Go.RowKit
set_option linter.unusedVariables false
set_option linter.unusedSimpArgs false
variable {P : Program} {Γ : Con} {X : Nat → Prop} {β : List Base} {L : LH} {N B : Nat} {rr : Option Nat}
structure WGrow (n : Nat) (β β' : List Base) (w w' : World) : Prop where
  os : w'.os = w.os
  tape : w'.tape = w.tape
  output : w'.output = w.output
  size : w.heap.size ≤ w'.heap.size
  block : ∀ k, k < w.heap.size → ¬ Live β k → w'.heap[k]? = w.heap[k]?
  shape : ∀ (k : Nat) c el fr, w.heap[k]? = some (.cells c el fr) → ∃ c' fr', w'.heap[k]? = some (.cells c' el fr') ∧ c'.size = c.size
  live : ∀ b, Live β' b → Live β b ∨ w.heap.size ≤ b
  len : n ≤ β.length → n ≤ β'.length
  keep : n ≤ β.length → ∀ (i : Nat) x, i < n → β'[i]? = some x → x ≠ .dead → β[i]? = some x
theorem Grow.wg {n : Nat} {β' : List Base} {w w' : World} (g : Grow β β' w w') : WGrow n β β' w w' := ⟨g.os, g.tape, g.output, g.size, g.block, g.shape, g.live, fun h => Nat.le_trans h g.len, fun h i x hi hx hd => g.keep i x (Nat.lt_of_lt_of_le hi h) hx hd⟩
theorem WGrow.refl {n : Nat} (β : List Base) (w : World) : WGrow n β β w w := (Grow.refl β w).wg
theorem WGrow.trans {n : Nat} {β β' β'' : List Base} {w w' w'' : World} (h : WGrow n β β' w w') (k : WGrow n β' β'' w' w'') : WGrow n β β'' w w'' where
  len := fun e => k.len (h.len e)
  keep := fun e i x hi hx hd => h.keep e i x hi (k.keep (h.len e) i x hi hx hd) hd
  os := k.os.trans h.os
  tape := k.tape.trans h.tape
  output := k.output.trans h.output
  size := Nat.le_trans h.size k.size
  block := fun i hi hl => (k.block i (Nat.lt_of_lt_of_le hi h.size) (fun hb => by rcases h.live i hb with x | x; exact hl x; omega)).trans (h.block i hi hl)
  shape := fun i c el fr hi => by
    obtain ⟨c', fr', h1, h2⟩ := h.shape i c el fr hi
    obtain ⟨c'', fr'', h3, h4⟩ := k.shape i c' el fr' h1
    exact ⟨c'', fr'', h3, h4.trans h2⟩
  live := fun b hb => by
    rcases k.live b hb with x | x
    · exact h.live b x
    · exact .inr (Nat.le_trans h.size x)
def inM : List Nat → Nat → Bool
  | [], _ => false
  | a :: l, t => Nat.beq a t || inM l t
def idxM : List Nat → Nat → Nat
  | [], _ => 0
  | a :: l, t => bif Nat.beq a t then 0 else idxM l t + 1
theorem idxM_get : ∀ {m : List Nat} {t : Nat}, inM m t = true → m[idxM m t]? = some t
  | a :: l, t, h => by
    simp only [inM] at h
    simp only [idxM]
    cases hb : Nat.beq a t with
    | true => rw [Nat.eq_of_beq_eq_true hb]; rfl
    | false =>
      rw [hb] at h
      simp only [cond_false, List.getElem?_cons_succ]
      exact idxM_get (by simpa using h)
mutual
def mpV (f : Nat → Nat) : PV → PV
  | .own id off n sz => .own (f id) off n sz
  | .ptr id off => .ptr (f id) off
  | .agg cs => .agg (mpL f cs)
  | .tup cs => .tup (mpL f cs)
  | .any => .any
  | .lit v => .lit v
  | .ro n cs => .ro n cs
  | .rptr cs => .rptr cs
  | .fn g a b => .fn g a b
  | .new n sz cs => .new n sz cs
def mpL (f : Nat → Nat) : List PV → List PV
  | [] => []
  | p :: r => mpV f p :: mpL f r
end
mutual
def okW (c : Nat → Bool) : PV → Bool
  | .own id _ _ _ => c id
  | .ptr id _ => c id
  | .agg cs => okWL c cs
  | .tup cs => okWL c cs
  | .any => true
  | .lit _ => true
  | .ro _ cs => closedL cs
  | .rptr cs => closedL cs
  | .fn _ a b => closedL a && closedL b
  | .new _ _ _ => false
def okWL (c : Nat → Bool) : List PV → Bool
  | [] => true
  | p :: r => okW c p && okWL c r
end
section
variable {f : Nat → Nat} {c : Nat → Bool} {X2 : Nat → Prop} {β2 : List Base} {w : World}
mutual
theorem mpV_rep (hk : ∀ id, c id = true → β2[f id]? = β[id]? ∧ f id < β2.length) (hanti : ∀ b, X2 b ∨ Live β2 b → X b ∨ Live β b) : ∀ (p : PV) (v : Value), okW c p = true → RepV X β w p v → RepV X2 β2 w (mpV f p) v
  | .any, v, _, _ => by simp [mpV, RepV]
  | .lit u, v, _, h => by simpa [mpV, RepV] using h
  | .ro n cs, v, ho, h => RepV.anti hanti (.ro n cs) v (by simpa [okW, closed] using ho) h
  | .own id off n sz, v, ho, h => by
    simp only [okW] at ho
    obtain ⟨h1, h2⟩ := hk id ho
    simp only [mpV, RepV] at h ⊢
    exact ⟨h2, fun b base hb => h.2.1 b base (by rw [← h1]; exact hb), fun hb => h.2.2.1 (by rw [← h1]; exact hb), h.2.2.2⟩
  | .ptr id off, v, ho, h => by
    simp only [okW] at ho
    obtain ⟨h1, h2⟩ := hk id ho
    simp only [mpV, RepV] at h ⊢
    exact ⟨h2, fun b base hb => h.2.1 b base (by rw [← h1]; exact hb), fun hb => h.2.2.1 (by rw [← h1]; exact hb), h.2.2.2⟩
  | .rptr cs, v, ho, h => RepV.anti hanti (.rptr cs) v (by simpa [okW, closed] using ho) h
  | .agg cs, v, ho, h => by
    simp only [okW] at ho
    simp only [mpV, RepV] at h ⊢
    obtain ⟨vs, hv, hr⟩ := h
    exact ⟨vs, hv, mpL_rep hk hanti cs vs ho hr⟩
  | .tup cs, v, ho, h => by
    simp only [okW] at ho
    simp only [mpV, RepV] at h ⊢
    obtain ⟨vs, hv, hr⟩ := h
    exact ⟨vs, hv, mpL_rep hk hanti cs vs ho hr⟩
  | .fn g a b, v, ho, h => RepV.anti hanti (.fn g a b) v (by simpa [okW, closed] using ho) h
  | .new n sz cs, v, ho, _ => by simp [okW] at ho
theorem mpL_rep (hk : ∀ id, c id = true → β2[f id]? = β[id]? ∧ f id < β2.length) (hanti : ∀ b, X2 b ∨ Live β2 b → X b ∨ Live β b) : ∀ (ps : List PV) (vs : List Value), okWL c ps = true → RepL X β w ps vs → RepL X2 β2 w (mpL f ps) vs
  | [], vs, _, h => by simpa [mpL, RepL] using h
  | p :: ps, vs, ho, h => by
    simp only [okWL, Bool.and_eq_true] at ho
    simp only [mpL, RepL] at h ⊢
    obtain ⟨v, r, hv, h1, h2⟩ := h
    exact ⟨v, r, hv, mpV_rep hk hanti p v ho.1 h1, mpL_rep hk hanti ps r ho.2 h2⟩
end
theorem mpR_rep (hk : ∀ id, c id = true → β2[f id]? = β[id]? ∧ f id < β2.length) (hanti : ∀ b, X2 b ∨ Live β2 b → X b ∨ Live β b) (b : Nat) : ∀ (ps : List PV) (off : Nat), okWL c ps = true → RepRow X β w b off ps → RepRow X2 β2 w b off (mpL f ps)
  | [], _, _, _ => by simp [mpL, RepRow]
  | p :: ps, off, ho, h => by
    simp only [okWL, Bool.and_eq_true] at ho
    simp only [mpL, RepRow] at h ⊢
    obtain ⟨⟨v, h1, h2, h3⟩, h4⟩ := h
    exact ⟨⟨v, h1, h2, mpV_rep hk hanti p v ho.1 h3⟩, mpR_rep hk hanti b ps (off + 1) ho.2 h4⟩
theorem len_mpL : ∀ (ps : List PV), (mpL f ps).length = ps.length
  | [] => rfl
  | _ :: ps => by simp [mpL, len_mpL ps]
mutual
theorem mpV_closed : ∀ (p : PV), closed p = true → mpV f p = p ∧ okW c p = true
  | .any, _ => ⟨rfl, rfl⟩
  | .lit u, _ => ⟨rfl, rfl⟩
  | .ro n cs, h => ⟨rfl, by simpa [okW, closed] using h⟩
  | .own id off n sz, h => by simp [closed] at h
  | .ptr id off, h => by simp [closed] at h
  | .rptr cs, h => ⟨rfl, by simpa [okW, closed] using h⟩
  | .agg cs, h => by
    obtain ⟨h1, h2⟩ := mpL_closed cs (by simpa [closed] using h)
    exact ⟨by rw [mpV, h1], by rw [okW, h2]⟩
  | .tup cs, h => by
    obtain ⟨h1, h2⟩ := mpL_closed cs (by simpa [closed] using h)
    exact ⟨by rw [mpV, h1], by rw [okW, h2]⟩
  | .fn g a b, h => ⟨rfl, by simpa [okW, closed] using h⟩
  | .new n sz cs, h => by simp [closed] at h
theorem mpL_closed : ∀ (ps : List PV), closedL ps = true → mpL f ps = ps ∧ okWL c ps = true
  | [], _ => ⟨rfl, rfl⟩
  | p :: ps, h => by
    simp only [closedL, Bool.and_eq_true] at h
    obtain ⟨h1, h2⟩ := mpV_closed p h.1
    obtain ⟨h3, h4⟩ := mpL_closed ps h.2
    exact ⟨by rw [mpL, h1, h3], by rw [okWL, h2, h4]; rfl⟩
end
end
def ren (m : List Nat) (p : PV) : PV := mpV (idxM m) p
def renL (m : List Nat) (ps : List PV) : List PV := mpL (idxM m) ps
def okR (m : List Nat) (p : PV) : Bool := okW (inM m) p
def okRL (m : List Nat) (ps : List PV) : Bool := okWL (inM m) ps
def RenOk (m : List Nat) (p q : PV) : Prop :=
  q = .any ∨ (closed p = true ∧ q = p) ∨ (∃ id k off n sz, p = .own id off n sz ∧ m[k]? = some id ∧ q = .own k off n sz) ∨ (∃ id k off, p = .ptr id off ∧ m[k]? = some id ∧ q = .ptr k off) ∨
    (okR m p = true ∧ ren m p = q)
structure Weak (n : Nat) (m : List Nat) (env : Env) (L : LH) (env2 : Env) (L2 : LH) : Prop where
  pins : ∀ i, i < n → m[i]? = some i
  nodup : m.Nodup
  bound : ∀ i ∈ m, i < L.length
  len : L2.length = m.length
  rows : ∀ (k i : Nat) cs, m[k]? = some i → L2[k]? = some (.cells cs) → (L[i]? = some (.cells cs) ∧ closedL cs = true) ∨ ∃ cs0, L[i]? = some (.cells cs0) ∧ okRL m cs0 = true ∧ renL m cs0 = cs
  env : ∀ x ∈ env2, lookup env2 x.1 = x.2 → RenOk m (lookup env x.1) x.2
theorem lookup_cases (env : Env) (t : Nat) : lookup env t = .any ∨ (t, lookup env t) ∈ env := by
  induction env with
  | nil => exact .inl rfl
  | cons x r ih =>
    obtain ⟨i, p⟩ := x
    simp only [lookup]
    cases hb : (i == t) with
    | true =>
      have := eq_of_beq hb
      subst this
      right; simp
    | false =>
      simp only [cond_false]
      rcases ih with h | h
      · exact .inl h
      · exact .inr (List.mem_cons_of_mem _ h)
theorem weak_sound {n : Nat} {w : World} {m : List Nat} {env env2 : Env} {L2 : LH} {a : Act} (h : Weak n m env L env2 L2) (hA : RepA N B X β w env a) (hH : RepH X β w L) :
    ∃ β2, RepA N B X β2 w env2 a ∧ RepH X β2 w L2 ∧ WGrow n β β2 w w := by
  let β2 : List Base := m.map fun i => β.getD i .dead
  have hget : ∀ (k i : Nat), m[k]? = some i → β2[k]? = β[i]? := by
    intro k i hk
    have hi : i < β.length := by rw [hH.len]; exact h.bound i (List.mem_of_getElem? hk)
    simp only [β2, List.getElem?_map, hk, Option.map_some]
    simp [hi]
  have hget' : ∀ (k : Nat) x, β2[k]? = some x → ∃ i, m[k]? = some i ∧ β[i]? = some x := by
    intro k x hk
    have hlt : k < m.length := by
      have := (List.getElem?_eq_some_iff.1 hk).1
      simpa [β2] using this
    refine ⟨m[k], by simp [hlt], ?_⟩
    rw [← hget k m[k] (by simp [hlt])]; exact hk
  have hlive : ∀ b, Live β2 b → Live β b := by
    rintro b ⟨k, base, hk⟩
    obtain ⟨i, h1, h2⟩ := hget' k _ hk
    exact ⟨i, base, h2⟩
  have hanti : ∀ b, X b ∨ Live β2 b → X b ∨ Live β b := fun b hb => hb.imp id (hlive b)
  have hkk : ∀ id, inM m id = true → β2[idxM m id]? = β[id]? ∧ idxM m id < β2.length := fun id h => by
    have h1 := idxM_get h
    exact ⟨hget _ _ h1, by simp only [β2, List.length_map]; exact (List.getElem?_eq_some_iff.1 h1).1⟩
  have hval : ∀ p q v, RenOk m p q → RepV X β w p v → RepV X β2 w q v := by
    intro p q v hr hp
    rcases hr with rfl | ⟨hc, rfl⟩ | ⟨id, k, off, n, sz, rfl, hk, rfl⟩ | ⟨id, k, off, rfl, hk, rfl⟩ | ⟨ho, rfl⟩
    · simp [RepV]
    · exact RepV.anti hanti _ v hc hp
    · simp only [RepV] at hp ⊢
      have hkl : k < β2.length := by simp only [β2, List.length_map]; exact (List.getElem?_eq_some_iff.1 hk).1
      refine ⟨hkl, fun b base hb => ?_, fun hb => ?_, hp.2.2.2⟩
      · rw [hget k id hk] at hb; exact hp.2.1 b base hb
      · rw [hget k id hk] at hb; exact hp.2.2.1 hb
    · simp only [RepV] at hp ⊢
      have hkl : k < β2.length := by simp only [β2, List.length_map]; exact (List.getElem?_eq_some_iff.1 hk).1
      refine ⟨hkl, fun b base hb => ?_, fun hb => ?_, hp.2.2.2⟩
      · rw [hget k id hk] at hb; exact hp.2.1 b base hb
      · rw [hget k id hk] at hb; exact hp.2.2.1 hb
    · exact mpV_rep hkk hanti p v ho hp
  refine ⟨β2, ⟨hA.size, hA.defers.anti hlive, fun t => ?_, hA.glob.anti hanti⟩, ?_, ⟨rfl, rfl, rfl, Nat.le_refl _, fun _ _ _ => rfl, fun k c el fr h => ⟨c, fr, h, rfl⟩, fun b hb => .inl (hlive b hb), fun _ => by
      have : n ≤ m.length := by
        by_cases h0 : n = 0
        · omega
        · have := (List.getElem?_eq_some_iff.1 (h.pins (n - 1) (by omega))).1; omega
      simpa [β2] using this, fun _ i x hi hx _ => by rw [hget i i (h.pins i hi)] at hx; exact hx⟩⟩
  · rcases lookup_cases env2 t with ht | ht
    · rw [ht]; simp [RepV]
    · exact hval _ _ _ (h.env _ ht rfl) (hA.slot t)
  · refine ⟨by simp [β2, h.len], ?_, fun b hb => hH.lt b (hlive b hb), fun b hb => ⟨(hH.out b hb).1, fun hl => (hH.out b hb).2 (hlive b hl)⟩, ?_⟩
    · intro i j b x y hi hj
      obtain ⟨i', h1, h2⟩ := hget' i _ hi
      obtain ⟨j', h3, h4⟩ := hget' j _ hj
      have := hH.inj i' j' b x y h2 h4
      subst this
      have hil := (List.getElem?_eq_some_iff.1 h1).1
      exact (List.getElem_inj h.nodup (h₀ := hil) (h₁ := (List.getElem?_eq_some_iff.1 h3).1)).1 (by
        rw [(List.getElem?_eq_some_iff.1 h1).2, (List.getElem?_eq_some_iff.1 h3).2])
    · intro k cs hk
      have hkl : k < m.length := by rw [← h.len]; exact (List.getElem?_eq_some_iff.1 hk).1
      have hmk : m[k]? = some m[k] := by simp [hkl]
      rcases h.rows k m[k] cs hmk hk with ⟨h1, h2⟩ | ⟨cs0, h1, h2, rfl⟩
      · rcases hH.ent m[k] cs h1 with ⟨e1, e2⟩ | ⟨b, base, c, el, e1, e2, e3, e4⟩
        · exact .inl ⟨by rw [hget k _ hmk]; exact e1, e2⟩
        · exact .inr ⟨b, base, c, el, by rw [hget k _ hmk]; exact e1, e2, e3, RepRow.anti hanti b cs base h2 e4⟩
      · rcases hH.ent m[k] cs0 h1 with ⟨e1, e2⟩ | ⟨b, base, c, el, e1, e2, e3, e4⟩
        · exact .inl ⟨by rw [hget k _ hmk]; exact e1, by rw [e2]; rfl⟩
        · exact .inr ⟨b, base, c, el, by rw [hget k _ hmk]; exact e1, e2, by rw [renL, len_mpL]; exact e3, mpR_rep hkk hanti b cs0 base h2 e4⟩
structure Cal (w w' : World) : Prop where
  size : w.heap.size ≤ w'.heap.size
  cells : ∀ (k : Nat) c el fr, w.heap[k]? = some (.cells c el fr) → w'.heap[k]? = some (.cells c el fr)
theorem Cal.cell {w w' : World} (h : Cal w w') {a : Addr} {v : Value} (hc : w.cell? a = some v) : w'.cell? a = some v := by
  unfold World.cell? at hc ⊢
  cases ho : w.heap[a.block]? with
  | none => simp [ho] at hc
  | some o =>
    cases o with
    | cells c el fr => rw [h.cells _ c el fr ho]; simpa [ho] using hc
    | _ => simp [ho] at hc
section
variable {w w' : World}
mutual
theorem RepV.calm (h : Cal w w') : ∀ (p : PV) (v : Value), RepV X β w p v → RepV X β w' p v
  | .any, _, _ => by simp [RepV]
  | .lit v0, v, h0 => by simpa [RepV] using h0
  | .ro n cells, v, h0 => by
    simp only [RepV] at h0 ⊢
    obtain ⟨a, cap, hv, hn, hc⟩ := h0
    refine ⟨a, cap, hv, hn, ?_⟩
    rcases hc with hc | ⟨b, off, ha, hx, hl, hr⟩
    · exact .inl hc
    · exact .inr ⟨b, off, ha, hx, hl, RepRow.calm h b cells off hr⟩
  | .own id off n sz, v, h0 => by
    simp only [RepV] at h0 ⊢
    refine ⟨h0.1, fun b base hb => ?_, h0.2.2.1, h0.2.2.2⟩
    obtain ⟨cap, hv, hn, c, el, fr, hc, hs⟩ := h0.2.1 b base hb
    exact ⟨cap, hv, hn, c, el, fr, h.cells b c el fr hc, hs⟩
  | .ptr id off, v, h0 => by simpa only [RepV] using h0
  | .rptr cells, v, h0 => by
    simp only [RepV] at h0 ⊢
    obtain ⟨b, off, hv, hc⟩ := h0
    refine ⟨b, off, hv, ?_⟩
    rcases hc with hc | ⟨hx, hl, hr⟩
    · exact .inl hc
    · exact .inr ⟨hx, hl, RepRow.calm h b cells off hr⟩
  | .agg cells, v, h0 => by
    simp only [RepV] at h0 ⊢
    obtain ⟨vs, hv, hr⟩ := h0
    exact ⟨vs, hv, RepL.calm h cells vs hr⟩
  | .tup cells, v, h0 => by
    simp only [RepV] at h0 ⊢
    obtain ⟨vs, hv, hr⟩ := h0
    exact ⟨vs, hv, RepL.calm h cells vs hr⟩
  | .fn f a b, v, h0 => by
    simp only [RepV] at h0 ⊢
    obtain ⟨xs, ys, hv, hx, hy⟩ := h0
    exact ⟨xs, ys, hv, RepL.calm h a xs hx, RepL.calm h b ys hy⟩
  | .new _ _ _, v, h0 => by simp [RepV] at h0
theorem RepRow.calm (h : Cal w w') (b : Nat) : ∀ (ps : List PV) (off : Nat), RepRow X β w b off ps → RepRow X β w' b off ps
  | [], _, _ => by simp [RepRow]
  | p :: ps, off, h0 => by
    simp only [RepRow] at h0 ⊢
    obtain ⟨⟨v, hv, ho, hr⟩, h2⟩ := h0
    exact ⟨⟨v, h.cell hv, ho, RepV.calm h p v hr⟩, RepRow.calm h b ps (off + 1) h2⟩
theorem RepL.calm (h : Cal w w') : ∀ (ps : List PV) (vs : List Value), RepL X β w ps vs → RepL X β w' ps vs
  | [], vs, h0 => by simpa [RepL] using h0
  | p :: ps, vs, h0 => by
    simp only [RepL] at h0 ⊢
    obtain ⟨v, r, hv, h1, h2⟩ := h0
    exact ⟨v, r, hv, RepV.calm h p v h1, RepL.calm h ps r h2⟩
end
theorem RepH.calm (h : Cal w w') (hH : RepH X β w L) : RepH X β w' L :=
  ⟨hH.len, hH.inj, fun b hb => Nat.lt_of_lt_of_le (hH.lt b hb) h.size, fun b hb => ⟨Nat.lt_of_lt_of_le (hH.out b hb).1 h.size, (hH.out b hb).2⟩, fun id cs hL => by
    rcases hH.ent id cs hL with h1 | ⟨b, base, c, el, h1, h2, h3, h4⟩
    · exact .inl h1
    · exact .inr ⟨b, base, c, el, h1, h.cells b c el _ h2, h3, RepRow.calm h b cs base h4⟩⟩
theorem Globs.calm (h : Cal w w') (hG : Globs X β w) : Globs X β w' := fun g => RepV.calm h _ _ (hG g)
theorem cal_put {l : Nat} {o o' : Obj} (h : w.heap[l]? = some o) (ho : o.isCells = false) : Cal w (w.putObj l o') :=
  ⟨by simp, fun k c el fr hk => by
    have : k ≠ l := by rintro rfl; rw [h] at hk; cases hk; simp [Obj.isCells] at ho
    exact (World.putObj_heap_other this).trans hk⟩
def lowB (q : Nat) : Nat → Bool := fun i => Nat.blt i q
theorem WGrow.notLive {q : Nat} {β' : List Base} (g : WGrow q β β' w w') {b : Nat} (hb : b < w.heap.size) (h : ¬ Live β b) : ¬ Live β' b := fun x => by
  rcases g.live b x with y | y
  · exact h y
  · omega
mutual
theorem RepV.wgrow {q : Nat} {β' : List Base} (g : WGrow q β β' w w') (hq : q ≤ β.length) : ∀ (p : PV) (v : Value), okW (lowB q) p = true → RepV X β w p v → RepV X β' w' p v
  | .any, _, _, _ => by simp [RepV]
  | .lit v0, v, _, h => by simpa [RepV] using h
  | .ro n cells, v, ho, h => by
    simp only [RepV] at h ⊢
    obtain ⟨a, cap, hv, hn, hc⟩ := h
    refine ⟨a, cap, hv, hn, ?_⟩
    cases cells with
    | nil => exact .inl rfl
    | cons p ps =>
      rcases hc with hc | ⟨b, off, ha, hx, hl, hr⟩
      · cases hc
      · have hb : b < w.heap.size := by
          simp only [RepRow] at hr
          obtain ⟨⟨v, hv, _⟩, _⟩ := hr
          exact cell_lt hv
        exact .inr ⟨b, off, ha, hx, g.notLive hb hl, RepRow.wgrow g hq b hl (p :: ps) off (mpL_closed (f := fun i => i) (p :: ps) ho).2 hr⟩
  | .own id off n sz, v, ho, h => by
    have hid : id < q := Nat.le_of_ble_eq_true ho
    simp only [RepV] at h ⊢
    refine ⟨Nat.lt_of_lt_of_le hid (g.len hq), fun b base hb => ?_, fun hb => h.2.2.1 (g.keep hq id _ hid hb (by simp)), h.2.2.2⟩
    obtain ⟨cap, hv, hn, c, el, fr, hc, hs⟩ := h.2.1 b base (g.keep hq id _ hid hb (by simp))
    obtain ⟨c', fr', h1, h2⟩ := g.shape b c el fr hc
    exact ⟨cap, hv, hn, c', el, fr', h1, by omega⟩
  | .ptr id off, v, ho, h => by
    have hid : id < q := Nat.le_of_ble_eq_true ho
    simp only [RepV] at h ⊢
    exact ⟨Nat.lt_of_lt_of_le hid (g.len hq), fun b base hb => h.2.1 b base (g.keep hq id _ hid hb (by simp)), fun hb => h.2.2.1 (g.keep hq id _ hid hb (by simp)), h.2.2.2⟩
  | .rptr cells, v, ho, h => by
    simp only [RepV] at h ⊢
    obtain ⟨b, off, hv, hc⟩ := h
    refine ⟨b, off, hv, ?_⟩
    cases cells with
    | nil => exact .inl rfl
    | cons p ps =>
      rcases hc with hc | ⟨hx, hl, hr⟩
      · cases hc
      · have hb : b < w.heap.size := by
          simp only [RepRow] at hr
          obtain ⟨⟨v, hv, _⟩, _⟩ := hr
          exact cell_lt hv
        exact .inr ⟨hx, g.notLive hb hl, RepRow.wgrow g hq b hl (p :: ps) off (mpL_closed (f := fun i => i) (p :: ps) ho).2 hr⟩
  | .agg cells, v, ho, h => by
    simp only [RepV] at h ⊢
    obtain ⟨vs, hv, hr⟩ := h
    exact ⟨vs, hv, RepL.wgrow g hq cells vs ho hr⟩
  | .tup cells, v, ho, h => by
    simp only [RepV] at h ⊢
    obtain ⟨vs, hv, hr⟩ := h
    exact ⟨vs, hv, RepL.wgrow g hq cells vs ho hr⟩
  | .fn f a b, v, ho, h => by
    simp only [okW, Bool.and_eq_true] at ho
    simp only [RepV] at h ⊢
    obtain ⟨xs, ys, hv, hx, hy⟩ := h
    exact ⟨xs, ys, hv, RepL.wgrow g hq a xs (mpL_closed (f := fun i => i) a ho.1).2 hx, RepL.wgrow g hq b ys (mpL_closed (f := fun i => i) b ho.2).2 hy⟩
  | .new _ _ _, v, _, h => by simp [RepV] at h
theorem RepRow.wgrow {q : Nat} {β' : List Base} (g : WGrow q β β' w w') (hq : q ≤ β.length) (b : Nat) (hl : ¬ Live β b) : ∀ (ps : List PV) (off : Nat), okWL (lowB q) ps = true → RepRow X β w b off ps → RepRow X β' w' b off ps
  | [], _, _, _ => by simp [RepRow]
  | p :: ps, off, ho, h => by
    simp only [okWL, Bool.and_eq_true] at ho
    simp only [RepRow] at h ⊢
    obtain ⟨⟨v, hv, h1, hr⟩, h2⟩ := h
    refine ⟨⟨v, ?_, h1, RepV.wgrow g hq p v ho.1 hr⟩, RepRow.wgrow g hq b hl ps (off + 1) ho.2 h2⟩
    rw [← hv]
    exact World.cell?_of_block (g.block b (cell_lt hv) hl)
theorem RepL.wgrow {q : Nat} {β' : List Base} (g : WGrow q β β' w w') (hq : q ≤ β.length) : ∀ (ps : List PV) (vs : List Value), okWL (lowB q) ps = true → RepL X β w ps vs → RepL X β' w' ps vs
  | [], vs, _, h => by simpa [RepL] using h
  | p :: ps, vs, ho, h => by
    simp only [okWL, Bool.and_eq_true] at ho
    simp only [RepL] at h ⊢
    obtain ⟨v, r, hv, h1, h2⟩ := h
    exact ⟨v, r, hv, RepV.wgrow g hq p v ho.1 h1, RepL.wgrow g hq ps r ho.2 h2⟩
end
theorem glob_closed (g : Nat) : closed (.rptr ((glv g).map .lit)) = true := by
  show closedL _ = true
  rw [closedL_iff]
  intro p hp
  rw [List.mem_map] at hp
  obtain ⟨v, _, rfl⟩ := hp
  rfl
theorem Globs.wgrow {q : Nat} {β' : List Base} (g : WGrow q β β' w w') (hq : q ≤ β.length) (hG : Globs X β w) : Globs X β' w' := fun k => RepV.wgrow g hq _ _ (mpV_closed (f := fun i => i) _ (glob_closed k)).2 (hG k)
def envBelow (q : Nat) : List (Nat × PV) → Bool
  | [] => true
  | (_, p) :: r => okW (lowB q) p && envBelow q r
theorem envBelow_at {q : Nat} : ∀ {env : List (Nat × PV)}, envBelow q env = true → ∀ t, okW (lowB q) (lookup env t) = true
  | [], _, t => rfl
  | (i, p) :: r, h, t => by
    simp only [envBelow, Bool.and_eq_true] at h
    simp only [lookup]
    cases (i == t) with
    | true => exact h.1
    | false => exact envBelow_at h.2 t
theorem Marks.wgrow {q : Nat} {β' : List Base} (g : WGrow q β β' w w') : ∀ {ds : List Deferred}, Marks B β w ds → Marks B β' w' ds
  | [], h => Nat.le_trans h g.size
  | d :: ds, ⟨⟨D, h1, h2, h3, h4, h5⟩, h⟩ => by
    have hlt := (Array.getElem?_eq_some_iff.1 h4).1
    exact ⟨⟨D, h1, h2, g.notLive hlt h3, (g.block D hlt h3).trans h4, h5⟩, h.wgrow g⟩
theorem Marks.lt {w : World} : ∀ {ds : List Deferred}, Marks B β w ds → ∀ d ∈ ds, ∃ D, d.target = .collected D ∧ D < w.heap.size
  | d :: ds, ⟨⟨D, h1, h2, h3, h4, h5⟩, h⟩, e, he => by
    rcases List.mem_cons.1 he with rfl | he
    · exact ⟨D, by rw [h1], (Array.getElem?_eq_some_iff.1 h4).1⟩
    · exact h.lt e he
theorem clean_sound {env : List (Nat × PV)} {a : Act} : ∀ (n : Nat) {β : List Base} {L : LH}, RepA N B X β w env a → RepH X β w L → ∃ β', RepA N B X β' w env a ∧ RepH X β' w L ∧ Grow β β' w w ∧ ∀ i, i < n → L[i]? = some .dead → ∀ b x, β'[i]? ≠ some (.blk b x)
  | 0, β, L, hA, hH => ⟨β, hA, hH, Grow.refl β w, fun i hi => absurd hi (Nat.not_lt_zero i)⟩
  | n + 1, β, L, hA, hH => by
    obtain ⟨β1, h1, h2, h3, h4⟩ := clean_sound n hA hH
    by_cases hd : L[n]? = some .dead
    · obtain ⟨hk, g⟩ := repH_kill h2 n
      have hset : L.set n .dead = L := by
        apply List.ext_getElem?
        intro i
        rw [List.getElem?_set]
        split
        · rename_i e; subst e
          have := (List.getElem?_eq_some_iff.1 hd).1
          rw [if_pos this, hd]
        · rfl
      rw [hset] at hk
      refine ⟨β1.set n .dead, h1.grow g, hk, h3.trans g, fun i hi hL b x => ?_⟩
      rw [List.getElem?_set]
      split
      · split <;> simp
      · exact h4 i (by omega) hL b x
    · refine ⟨β1, h1, h2, h3, fun i hi hL b x => ?_⟩
      by_cases hin : i = n
      · subst hin; exact absurd hL hd
      · exact h4 i (by omega) hL b x
theorem clean_cells {env : List (Nat × PV)} {a : Act} {β : List Base} {L : LH} (hA : RepA N B X β w env a) (hH : RepH X β w L) : ∃ β', RepA N B X β' w env a ∧ RepH X β' w L ∧ Grow β β' w w ∧ ∀ b, Live β' b → ∃ c el fr, w.heap[b]? = some (.cells c el fr) := by
  obtain ⟨β', h1, h2, h3, h4⟩ := clean_sound L.length hA hH
  refine ⟨β', h1, h2, h3, ?_⟩
  rintro b ⟨i, x, hi⟩
  have hil : i < L.length := by rw [← h2.len]; exact (List.getElem?_eq_some_iff.1 hi).1
  cases hL : L[i]? with
  | none => rw [List.getElem?_eq_none_iff] at hL; omega
  | some e =>
    cases e with
    | dead => exact absurd hi (h4 i hil hL b x)
    | cells cs =>
      rcases h2.ent i cs hL with ⟨e1, _⟩ | ⟨b', base, c, el, e1, e2, _⟩
      · rw [e1] at hi; cases hi
      · rw [e1] at hi; cases hi; exact ⟨c, el, _, e2⟩
end
def IterOk (P : Program) (gf : FuncId) (caps els : List PV) : Prop :=
  (∀ (vs : Array Value) (w : World), (callFunc gf vs).run P w = .ok (.enter gf vs) w) ∧
  ∀ (X : Nat → Prop) (w : World) (vs : List Value), RepL X [] w caps vs → Globs X [] w → ∀ (l : Nat) (J : Nat → World → Prop),
    (∀ k W, J k W → J k W.drew) → (∀ k W, J k W → W.os = w.os ∧ w.heap.size ≤ W.heap.size ∧ ∀ b, b < w.heap.size → ¬ X b → W.heap[b]? = w.heap[b]?) →
    (∀ k W p v, J k W → els[k]? = some p → RepV (fun b => X b ∨ w.heap.size ≤ b) [] W p v → YieldAt Fence.wide 0 P l #[v] W fun e W' => e = .returned (.bool true) ∧ J (k + 1) W') →
    ∀ W0, J 0 W0 → CallsIn Fence.wide 0 P gf (#[.func (.yield l) #[] #[]] ++ vs.toArray) W0 fun e W' => (∃ v, e = .returned v) ∧ J els.length W'
def asgShape (ps : Array Tmp) : Code → Option (Nat × Nat)
  | .region _ ops false => match ps.toList, ops.toList with
    | [p], [o] => match o.dst, o.op, o.guard with
      | some d, .assign (.tmp t), none => bif Nat.beq t p then some (p, d) else none
      | _, _, _ => none
    | _, _ => none
  | _ => none
def flatC : Code → Bool
  | .seq a b => flatC a && flatC b
  | .cond _ a b => flatC a && flatC b
  | .block _ c => flatC c
  | .loop c => flatC c
  | .scope c => flatC c
  | .rangeFunc _ _ _ _ => false
  | _ => true
inductive Run (P : Program) : Con → Code → Env → LH → Exit → Env → LH → Prop
  | skip {Γ env L} : Run P Γ .skip env L .normal env L
  | region {Γ id ops env L env' L'} (h : LRun P Γ ops.toList ops.toList env L env' L') : Run P Γ (.region id ops false) env L .normal env' L'
  | regionDraw {Γ id ops env L env' L'} (h : TRun P Γ true ops.toList ops.toList env L env' L') (hd : drawOk ops.toList = true) : Run P Γ (.region id ops true) env L .normal env' L'
  | regionTail {Γ id ops m env L env1 L1 env' L'} (h : TRun P Γ true ops.toList (ops.toList.take m) env L env1 L1) (h2 : LRun P Γ ops.toList (ops.toList.drop m) env1 L1 env' L') (hd : drawOk ops.toList = true) (ht : tailOk ops.toList m = true) : Run P Γ (.region id ops true) env L .normal env' L'
  | regionAny {Γ id ops env L env' L'} (h : ARun P Γ ops.toList ops.toList env L env' L') (hd : anyOk ops.toList = true) (hs : lsOk ops.toList env' = true) : Run P Γ (.region id ops true) env L .normal env' L'
  | regionTwo {Γ id ops p q m env L env1 L1 env2 L2} (hne : p ≠ q) (hp : p < ops.toList.length) (hq : q < ops.toList.length)
      (h1 : ARun P Γ (ver1 p q ops.toList) (ver1 p q ops.toList) env L env1 L1) (o1 : anyOk (ver1 p q ops.toList) = true) (s1 : lsOk (ver1 p q ops.toList) env1 = true)
      (h2 : ARun P Γ (ver2 p q ops.toList) (ver2 p q ops.toList) env L env2 L2) (o2 : anyOk (ver2 p q ops.toList) = true) (s2 : lsOk (ver2 p q ops.toList) env2 = true)
      (hw : Weak Γ.pin m env2 L2 env1 L1) : Run P Γ (.region id ops true) env L .normal env1 L1
  | less {Γ c env L env2 e env' L'} (hl : ∀ t, lookup env2 t = .any ∨ lookup env2 t = lookup env t) (h : Run P Γ c env2 L e env' L') : Run P Γ c env L e env' L'
  | scope {Γ c env L e env' L'} (h : Run P Γ c env L e env' L') (he : ∀ l, e ≠ .goto l) : Run P Γ (.scope c) env L e env' L'
  | label {Γ l env L} : Run P Γ (.label l) env L .normal env L
  | seq {Γ x y env L env1 L1 e env' L'} (h : Run P Γ x env L .normal env1 L1) (k : Run P Γ y env1 L1 e env' L') : Run P Γ (.seq x y) env L e env' L'
  | seqOut {Γ x y env L e env' L'} (h : Run P Γ x env L e env' L') (he : e ≠ .normal) : Run P Γ (.seq x y) env L e env' L'
  | cond {Γ c x y env L t e env' L'} (hc : evalIn env c = .lit (.bool t)) (h : Run P Γ (if t then x else y) env L e env' L') : Run P Γ (.cond c x y) env L e env' L'
  | block {Γ id c env L e env' L'} (h : Run P Γ c env L e env' L') (he : e ≠ .exit id) : Run P Γ (.block id c) env L e env' L'
  | blockOut {Γ id c env L env' L'} (h : Run P Γ c env L (.exit id) env' L') : Run P Γ (.block id c) env L .normal env' L'
  | loop {Γ c env L env1 L1 e env' L'} (h : Run P Γ c env L .normal env1 L1) (k : Run P Γ (.loop c) env1 L1 e env' L') : Run P Γ (.loop c) env L e env' L'
  | loopOut {Γ c env L e env' L'} (h : Run P Γ c env L e env' L') (he : e ≠ .normal) : Run P Γ (.loop c) env L e env' L'
  | exit {Γ id env L} : Run P Γ (.exit id) env L (.exit id) env L
  | ret {Γ env L} : Run P Γ .ret env L .ret env L
  | weak {Γ c env L m env2 L2 e env' L'} (hw : Weak Γ.pin m env L env2 L2) (h : Run P Γ c env2 L2 e env' L') : Run P Γ c env L e env' L'
  | after {Γ c env L m env2 L2 e env' L'} (h : Run P Γ c env L e env' L') (hw : Weak Γ.pin m env' L' env2 L2) : Run P Γ c env L e env2 L2
  | rangeFunc {Γ ps asg body env L} {ε : Type} {g : Operand} {p d q gf : Nat} {caps : List PV} {els : List ε} {pv : ε → PV} {ok : ε → Prop} {S : List ε → LH} {E : List ε → ε → Env} {L1 : List ε → ε → LH} {m : List ε → ε → List Nat}
      (hs : asgShape ps asg = some (p, d)) (hg : evalIn env g = .fn (.func gf) [] caps) (hcl : closedL caps = true) (hq : Γ.pin ≤ q) (hqL : q ≤ L.length) (he : envBelow q env = true) (hfl : flatC body = true)
      (hit : IterOk P gf caps (els.map pv)) (hok : ∀ x ∈ els, ok x) (hpc : ∀ x, ok x → closed (pv x) = true) (hL : S [] = L)
      (hr : ∀ (pre : List ε) (x : ε), ok x ∧ pre.length < els.length → Run P ⟨Γ.tab, q⟩ body ((d, pv x) :: (p, pv x) :: env) (S pre) .normal (E pre x) (L1 pre x))
      (hw : ∀ (pre : List ε) (x : ε), ok x ∧ pre.length < els.length → Weak q (m pre x) (E pre x) (L1 pre x) [] (S (pre ++ [x]))) :
      Run P Γ (.rangeFunc g ps asg body) env L .normal env (S els)
def fits (N : Nat) : Code → Bool
  | .region _ ops _ => ops.toList.all fun o => match o.dst with | some d => decide (d < N) | none => true
  | .seq a b => fits N a && fits N b
  | .cond _ a b => fits N a && fits N b
  | .block _ c => fits N c
  | .loop c => fits N c
  | .rangeFunc _ ps a b => ps.toList.all (fun p => decide (p < N)) && fits N a && fits N b
  | .scope c => fits N c
  | _ => true
def Post (n N B : Nat) (X : Nat → Prop) (β : List Base) (w : World) (e : Exit) (env' : Env) (L' : LH) : Exit → Act → World → Prop :=
  fun e' a' w' => e' = e ∧ ∃ β', RepA N B X β' w' env' a' ∧ RepH X β' w' L' ∧ WGrow n β β' w w'
theorem rounds_mono {c : Code} {Q Q' : Exit → Act → World → Prop} (hq : ∀ e a w, Q e a w → Q' e a w) : ∀ (n : Nat) (a : Act) (w : World), Code.roundsIn (FF rr) 0 P c Q n a w → Code.roundsIn (FF rr) 0 P c Q' n a w
  | 0, _, _, h => h.elim
  | n + 1, a, w, h => by
    rw [roundsIn_succ] at h ⊢
    refine wpIn_mono h fun e a' w' he => ?_
    cases e with
    | normal => exact rounds_mono hq n a' w' he
    | _ => exact hq _ _ _ he
theorem Post.mono {n : Nat} {β1 : List Base} {w w1 : World} {e e' : Exit} {env' : Env} {L' : LH} {a' : Act} {w' : World} (g : WGrow n β β1 w w1) (h : Post n N B X β1 w1 e env' L' e' a' w') : Post n N B X β w e env' L' e' a' w' := by
  obtain ⟨h1, β', h2, h3, h4⟩ := h
  exact ⟨h1, β', h2, h3, g.trans h4⟩
theorem asg_spec {ps : Array Tmp} {asg : Code} {p d : Nat} (h : asgShape ps asg = some (p, d)) : ps = #[p] ∧ ∃ id o, asg = .region id #[o] false ∧ o.dst = some d ∧ o.op = .assign (.tmp p) ∧ o.guard = none := by
  unfold asgShape at h
  split at h
  · rename_i id ops
    split at h
    · rename_i q o hp ho
      split at h
      · rename_i d' t h1 h2 h3
        cases hb : Nat.beq t q with
        | true =>
          rw [hb] at h
          simp only [cond_true] at h
          cases h
          have := Nat.eq_of_beq_eq_true hb
          subst this
          refine ⟨?_, id, o, ?_, h1, h2, h3⟩
          · exact Array.toList_inj.1 hp
          · congr 1
            exact Array.toList_inj.1 ho
        | false => rw [hb] at h; cases h
      · cases h
    · cases h
  · cases h
theorem asg_wp {id : Nat} {o : Oper} {p d : Nat} {F : Fence} {K : Act → World → Prop} {a : Act} {w : World} (h1 : o.dst = some d) (h2 : o.op = .assign (.tmp p)) (h3 : o.guard = none) (hF : ∀ f, F.fn f) (hk : K (a.put (some d) (a.tmps.getD p undef)) w) :
    (Code.region id #[o] false).wpIn F 0 P (Exit.then K (fun _ _ _ => False)) a w := by
  refine wpIn_region_lit (l := [o]) ?_
  unfold wpListIn
  have hw : Region.wanted o (yielded [o].toArray a.tmps) = true := by simp [Region.wanted, h3]
  rw [if_pos hw]
  refine ⟨fun f _ => hF f, ?_⟩
  rw [Oper.semAt_eq _ _ _ (by intro c h; rw [h2] at h; cases h)]
  have hx : (execOp a.eval o).run P w = .ok (.value (a.tmps.getD p undef)) w := by simp [execOp, h2, Act.eval]
  rw [hx]
  simp only [Oper.uponIn, wpListIn]
  rw [h1]
  exact hk
theorem WGrow.put {n : Nat} {β' : List Base} {w W : World} {l : Nat} {o o' : Obj} (g : WGrow n β β' w W) (hl : w.heap.size ≤ l) (h : W.heap[l]? = some o) (ho : o.isCells = false) : WGrow n β β' w (W.putObj l o') :=
  ⟨g.os, g.tape, g.output, by simpa using g.size, fun k hk hn => (World.putObj_heap_other (by omega)).trans (g.block k hk hn), fun k c el fr hk => by
    obtain ⟨c', fr', h1, h2⟩ := g.shape k c el fr hk
    have : k ≠ l := by rintro rfl; rw [h] at h1; cases h1; simp [Obj.isCells] at ho
    exact ⟨c', fr', (World.putObj_heap_other this).trans h1, h2⟩, g.live, g.len, g.keep⟩
theorem RepA.calm {env : List (Nat × PV)} {a : Act} {w w' : World} (h : Cal w w') (hm : Marks B β w' a.defers) (hA : RepA N B X β w env a) : RepA N B X β w' env a := ⟨hA.size, hm, fun t => RepV.calm h _ _ (hA.slot t), hA.glob.calm h⟩
theorem wg_mono {n q : Nat} {β' : List Base} {w w' : World} (h : WGrow q β β' w w') (hn : n ≤ q) (hq : q ≤ β.length) : WGrow n β β' w w' :=
  ⟨h.os, h.tape, h.output, h.size, h.block, h.shape, h.live, fun _ => Nat.le_trans hn (h.len hq), fun _ i x hi => h.keep hq i x (Nat.lt_of_lt_of_le hi hn)⟩
theorem range_sound {ps : Array Tmp} {asg body : Code} {env : List (Nat × PV)} {ε : Type} {g : Operand} {p d q gf n : Nat} {caps : List PV} {els : List ε} {pv : ε → PV} {ok : ε → Prop} {S : List ε → LH} {w : World} {a : Act}
    (hs : asgShape ps asg = some (p, d)) (hg : evalIn env g = .fn (.func gf) [] caps) (hcl : closedL caps = true) (hn : n ≤ q) (hqL : q ≤ (S []).length) (he : envBelow q env = true)
    (hit : IterOk P gf caps (els.map pv)) (hok : ∀ x ∈ els, ok x) (hpc : ∀ x, ok x → closed (pv x) = true) (hp : p < N) (hd : d < N)
    (hbody : ∀ (l : Nat) (pre : List ε) (x : ε), ok x ∧ pre.length < els.length → ∀ (β : List Base) (W : World) (a1 : Act), RepA N B X β W ((d, pv x) :: (p, pv x) :: env) a1 → RepH X β W (S pre) →
      body.wpIn (FF (some l)) 0 P (fun e a' W' => e = .normal ∧ ∃ β', RepA N B X β' W' [] a' ∧ RepH X β' W' (S (pre ++ [x])) ∧ WGrow q β β' W W') a1 W)
    (hA0 : RepA N B X β w env a) (hH0 : RepH X β w (S [])) : (Code.rangeFunc g ps asg body).wpIn (FF none) 0 P (Post n N B X β w .normal env (S els)) a w := by
  obtain ⟨rfl, id, o, rfl, o1, o2, o3⟩ := asg_spec hs
  obtain ⟨β0, hA, hH, hg0, hcells⟩ := clean_cells hA0 hH0
  have hq0 : q ≤ β0.length := by rw [hH.len]; exact hqL
  refine wpIn_rangeFunc ?_
  intro fn hfn
  have hgv := hA.eval g
  rw [hg] at hgv
  simp only [RepV] at hgv
  obtain ⟨xs, ys, hgv, hxs, hys⟩ := hgv
  simp only [RepL] at hxs
  subst hxs
  obtain ⟨rec, hrec⟩ : ∃ rec : LoopState → Option Code → Loop, rec = fun st pe => { state := st, pending := pe, fn, tmps := a.tmps, params := #[p], assign := .region id #[o] false, body, defers := w.heap.size } := ⟨_, rfl⟩
  obtain ⟨W1, hW1⟩ : ∃ W1, (w.alloc (.deferred (some []))).alloc (.loop (rec .ready none)) = W1 := ⟨_, rfl⟩
  have hL1 : W1.heap[w.heap.size + 1]? = some (.loop (rec .ready none)) := by
    rw [← hW1]; have := World.alloc_heap_new (w.alloc (.deferred (some []))) (.loop (rec .ready none)); rwa [World.size_alloc] at this
  have hK1 : W1.heap[w.heap.size]? = some (.deferred (some [])) := by
    rw [← hW1]; exact (Below.heap_alloc _ _ _ (by simp)).trans (World.alloc_heap_new w _)
  have hold : ∀ k, k < w.heap.size → W1.heap[k]? = w.heap[k]? := fun k hk => by
    rw [← hW1, Below.heap_alloc _ _ _ (by simp; omega), Below.heap_alloc _ _ _ hk]
  have hsz1 : W1.heap.size = w.heap.size + 2 := by rw [← hW1]; simp
  have hcal : Cal w W1 := ⟨by omega, fun k c el fr hk => (hold k (Array.getElem?_eq_some_iff.1 hk).1).trans hk⟩
  have hos1 : W1.os = w.os ∧ W1.tape = w.tape ∧ W1.output = w.output := by rw [← hW1]; exact ⟨rfl, rfl, rfl⟩
  have hnl : ∀ k, w.heap.size ≤ k → ¬ Live β0 k := fun k hk hl => by have := hH.lt k hl; omega
  refine ⟨w.heap.size + 1, [{ target := .collected w.heap.size, args := #[] }], W1, { target := .fn (.func gf) ys.toArray, args := #[.func (.yield (w.heap.size + 1)) #[] #[]] }, W1, gf,
    #[.func (.yield (w.heap.size + 1)) #[] #[]] ++ ys.toArray, W1, ?_, ?_, ?_, ?_, (fun h => by cases h), ?_⟩
  · rw [← hW1, hrec]; exact run_enterLoop_outer _ _ _ _ _
  · simp only [resolve, hgv]
    simp [go_sem]
  · intro f' hf'; exact trivial
  · simp [invoke, go_sem, hit.1]
  · -- what holds when k rounds are over
    let J : Nat → World → Prop := fun k W => ∃ βk, RepA N B X βk W env { tmps := a.tmps, defers := [] } ∧ RepH X βk W (S (els.take k)) ∧ WGrow q β0 βk w W ∧ ¬ Live βk w.heap.size ∧ ¬ Live βk (w.heap.size + 1) ∧
      W.heap[w.heap.size + 1]? = some (.loop (rec .ready none)) ∧ W.heap[w.heap.size]? = some (.deferred (some []))
    have hJ0 : J 0 W1 := by
      refine ⟨β0, ?_, ?_, ?_, hnl _ (Nat.le_refl _), hnl _ (by omega), hL1, hK1⟩
      · exact ⟨hA.size, Nat.le_trans hA.defers.base hcal.size, fun t => RepV.calm hcal _ _ (hA.slot t), hA.glob.calm hcal⟩
      · rw [List.take_zero]; exact hH.calm hcal
      · exact ⟨hos1.1, hos1.2.1, hos1.2.2, hcal.size, fun k hk _ => hold k hk, fun k c el fr hk => ⟨c, fr, hcal.cells k c el fr hk, rfl⟩, fun b hb => .inl hb, fun h => h, fun _ i x _ hx _ => hx⟩
    have hcaps : RepL (fun b => X b ∨ Live β0 b) [] w caps ys := RepL.anti (fun b hb => by rcases hb with hb | ⟨i, x, hb⟩; exact hb; simp at hb) caps ys hcl hys
    have hglob : Globs (fun b => X b ∨ Live β0 b) [] w := hA.glob.anti fun b hb => by rcases hb with hb | ⟨i, x, hb⟩; exact hb; simp at hb
    refine (hit.2 (fun b => X b ∨ Live β0 b) w ys hcaps hglob (w.heap.size + 1) J ?_ ?_ ?_ W1 hJ0).mono ?_
    · rintro k W ⟨βk, h1, h2, h3, h4, h5, h6, h7⟩
      have gd : Grow βk βk W W.drew := grow_drew_id
      exact ⟨βk, ⟨h1.size, (h1.grow gd).defers, (h1.grow gd).slot, (h1.grow gd).glob⟩, h2.same gd (fun _ _ => rfl), h3.trans gd.wg, h4, h5, h6, h7⟩
    · rintro k W ⟨βk, h1, h2, h3, h4, h5, h6, h7⟩
      exact ⟨h3.os, h3.size, fun b hb hX => h3.block b hb fun hl => hX (.inr hl)⟩
    · -- one round
      rintro k W pe v ⟨βk, h1, h2, h3, h4, h5, h6, h7⟩ hk hv
      rw [List.getElem?_map, Option.map_eq_some_iff] at hk
      obtain ⟨x, hx, rfl⟩ := hk
      have hox := hok x (List.mem_of_getElem? hx)
      have htake : els.take (k + 1) = els.take k ++ [x] := by rw [List.take_add_one, hx]; rfl
      have hlt : w.heap.size + 1 < W.heap.size := (Array.getElem?_eq_some_iff.1 h6).1
      have hy : (Instr.yield (w.heap.size + 1) #[v]).run P W = .ok (.round (w.heap.size + 1) fn (a.tmps.setIfInBounds p v) (.region id #[o] false) body) W := by
        have := run_yield (P := P) (args := #[v]) h6 (by rw [hrec]; rfl)
        rw [this, hrec]; simp
      have hbr : (Instr.beginRound (w.heap.size + 1)).run P W = .ok () (W.putObj (w.heap.size + 1) (.loop (rec .busy none))) := by
        have := run_beginRound (P := P) h6 (by rw [hrec])
        rw [this, hrec]
      refine ⟨fn, _, _, body, hy, roundIn_of_wpIn (FF_fn none fn) (asg_wp o1 o2 o3 (fun f => trivial) ⟨_, hbr, ?_⟩)⟩
      have hl2 : (W.putObj (w.heap.size + 1) (.loop (rec .busy none))).heap[w.heap.size + 1]? = some (.loop (rec .busy none)) := World.putObj_heap_same hlt
      have hk2 : (W.putObj (w.heap.size + 1) (.loop (rec .busy none))).heap[w.heap.size]? = some (.deferred (some [])) := (World.putObj_heap_other (by omega)).trans h7
      have hc2 : Cal W (W.putObj (w.heap.size + 1) (.loop (rec .busy none))) := cal_put h6 rfl
      have hsz : a.tmps.size = N := hA.size
      have hve : RepV X βk W (pv x) v := RepV.anti (fun b hb => by
        rcases hb with hb | hb
        · exact .inl (.inl (.inl hb))
        · rcases h3.live b hb with hb | hb
          · exact .inl (.inl (.inr hb))
          · exact .inl (.inr hb)) _ _ (hpc x hox) hv
      have hA2 : RepA N B X βk (W.putObj (w.heap.size + 1) (.loop (rec .busy none))) ((d, pv x) :: (p, pv x) :: env)
          (({ tmps := a.tmps.setIfInBounds p v, defers := [] } : Act).put (some d) ((a.tmps.setIfInBounds p v).getD p undef)) := by
        have e1 : RepA N B X βk W ((p, pv x) :: env) { tmps := a.tmps.setIfInBounds p v, defers := [] } := h1.put (dst := some p) (fun d hd => by cases hd; exact hp) hve
        have e2 : (a.tmps.setIfInBounds p v).getD p undef = v := by simp [hsz, hp]
        have e3 := e1.put (dst := some d) (fun d' hd' => by cases hd'; exact hd) (v := v) hve
        rw [e2]
        exact ⟨e3.size, Nat.le_trans (Marks.base h1.defers) hc2.size, fun t => RepV.calm hc2 _ _ (e3.slot t), e3.glob.calm hc2⟩
      refine wpIn_mono (hbody (w.heap.size + 1) (els.take k) x ⟨hox, by have := (List.getElem?_eq_some_iff.1 hx).1; rw [List.length_take]; omega⟩ βk _ _ hA2 (h2.calm hc2)) ?_
      rintro e a3 W3 ⟨rfl, β', g1, g2, g3⟩
      obtain ⟨β3, k1, k2, k3, k4⟩ := clean_cells g1 g2
      have hl3 : W3.heap[w.heap.size + 1]? = some (.loop (rec .busy none)) := (g3.block _ (by simpa using hlt) h5).trans hl2
      have hk3 : W3.heap[w.heap.size]? = some (.deferred (some [])) := (g3.block _ (by simp; omega) h4).trans hk2
      have hr3 : (Instr.endRound (w.heap.size + 1) none).run P W3 = .ok (.bool true) (W3.putObj (w.heap.size + 1) (.loop (rec .ready none))) := by
        have := run_endRound (P := P) none hl3
        rw [this, hrec]; rfl
      have hqk : q ≤ βk.length := h3.len hq0
      have hg3 : WGrow q βk β3 (W.putObj (w.heap.size + 1) (.loop (rec .busy none))) W3 := g3.trans k3.wg
      have hW3lt : w.heap.size + 1 < W3.heap.size := (Array.getElem?_eq_some_iff.1 hl3).1
      have hc4 : Cal W3 (W3.putObj (w.heap.size + 1) (.loop (rec .ready none))) := cal_put hl3 rfl
      refine ⟨_, _, hr3, rfl, β3, ?_, ?_, ?_, ?_, ?_, ?_, ?_⟩
      · exact ⟨hsz, Nat.le_trans (Marks.base k1.defers) (by simp), fun t => RepV.calm hc4 _ _ (RepV.wgrow hg3 hqk _ _ (envBelow_at he t) (RepV.calm hc2 _ _ (h1.slot t))), k1.glob.calm hc4⟩
      · rw [htake]; exact k2.calm hc4
      · exact ((h3.put (by omega) h6 rfl).trans hg3).put (by omega) hl3 rfl
      · intro hb
        obtain ⟨c, el, fr, hc⟩ := k4 _ hb
        rw [hk3] at hc; cases hc
      · intro hb
        obtain ⟨c, el, fr, hc⟩ := k4 _ hb
        rw [hl3] at hc; cases hc
      · exact World.putObj_heap_same hW3lt
      · exact (World.putObj_heap_other (by omega)).trans hk3
    · -- behind the function
      rintro e W2 ⟨⟨v, rfl⟩, βn, h1, h2, h3, h4, h5, h6, h7⟩
      have hend := run_endLoop (P := P) h6 (by rw [hrec]; simp)
      rw [List.length_map, List.take_length] at h2
      have hc : Cal W2 (W2.putObj (w.heap.size + 1) (.loop { rec .ready none with state := .exhausted })) := cal_put h6 rfl
      refine ⟨none, _, ?_, rfl, βn, ?_, h2.calm hc, ?_⟩
      · rw [hend, hrec]
      · refine ⟨hA.size, ⟨⟨w.heap.size, rfl, hA.defers.base, h4, (World.putObj_heap_other (by omega)).trans h7, fun e he => ?_⟩, ?_⟩, fun t => RepV.calm hc _ _ (h1.slot t), h1.glob.calm hc⟩
        · obtain ⟨D, e1, e2⟩ := hA.defers.lt e he
          rw [e1]; intro e; cases e; omega
        · exact (hA.defers.wgrow (h3.put (o' := .loop { rec .ready none with state := .exhausted }) (by omega) h6 rfl))
      · exact (hg0.wg.trans (wg_mono (h3.put (by omega) h6 rfl) hn hq0))
def Fl (rr : Option Nat) (c : Code) : Prop := rr = none ∨ flatC c = true
theorem Fl.seq {a b : Code} (h : Fl rr (.seq a b)) : Fl rr a ∧ Fl rr b := by
  rcases h with h | h
  · exact ⟨.inl h, .inl h⟩
  · simp only [flatC, Bool.and_eq_true] at h; exact ⟨.inr h.1, .inr h.2⟩
theorem Fl.cond {o : Operand} {a b : Code} (h : Fl rr (.cond o a b)) : Fl rr a ∧ Fl rr b := by
  rcases h with h | h
  · exact ⟨.inl h, .inl h⟩
  · simp only [flatC, Bool.and_eq_true] at h; exact ⟨.inr h.1, .inr h.2⟩
theorem Run.sound (hm : P.follows .mixedOrders = true) {Γ : Con} {c : Code} {env env' : Env} {L L' : LH} {e : Exit} (h : Run P Γ c env L e env' L') : GammaOk P Γ →
    (∀ (rr : Option Nat) (N B : Nat) (X : Nat → Prop) (β : List Base) (w : World) (a : Act), Fl rr c → fits N c = true → RepA N B X β w env a → RepH X β w L → c.wpIn (FF rr) 0 P (Post Γ.pin N B X β w e env' L') a w) ∧
    (∀ d, c = .loop d → ∃ n, ∀ (rr : Option Nat) (N B : Nat) (X : Nat → Prop) (β : List Base) (w : World) (a : Act), Fl rr c → fits N c = true → RepA N B X β w env a → RepH X β w L → Code.roundsIn (FF rr) 0 P d (Post Γ.pin N B X β w e env' L') n a w) := by
  induction h with
  | skip => intro hΓ; exact ⟨fun rr N B X β w a _ _ hA hH => wpIn_skip ⟨rfl, β, hA, hH, WGrow.refl β w⟩, fun d hd => by cases hd⟩
  | @region Γ id ops env L env' L' h =>
    intro hΓ
    refine ⟨fun rr N B X β w a fl hf hA hH => ?_, fun d hd => by cases hd⟩
    have hfit : ∀ o ∈ ops.toList, ∀ d, o.dst = some d → d < N := by
      intro o ho d hod
      have := List.all_eq_true.1 hf o ho
      simpa [hod] using this
    exact wpIn_region_list (lrun_sound hΓ h hA hH hfit (fun a' w' β' h1 h2 h3 => ⟨rfl, β', h1, h2, h3.wg⟩))
  | @regionDraw Γ id ops env L env' L' h hd =>
    intro hΓ
    refine ⟨fun rr N B X β w a fl hf hA hH => ?_, fun d hd => by cases hd⟩
    have hfit : ∀ o ∈ ops.toList, ∀ d, o.dst = some d → d < N := by
      intro o ho d hod
      have := List.all_eq_true.1 hf o ho
      simpa [hod] using this
    exact region_draw (all := ops.toList) hΓ hm hd hfit h hA hH (fun a' w' h1 h2 h3 => ⟨rfl, β, h1, h2, h3.wg⟩)
  | @regionTail Γ id ops m env L env1 L1 env' L' h h2 hd ht =>
    intro hΓ
    refine ⟨fun rr N B X β w a fl hf hA hH => ?_, fun d hd => by cases hd⟩
    have hfit : ∀ o ∈ ops.toList, ∀ d, o.dst = some d → d < N := by
      intro o ho d hod
      have := List.all_eq_true.1 hf o ho
      simpa [hod] using this
    exact region_tail (all := ops.toList) hΓ hm hd ht hfit h h2 hA hH (fun a' w' β' h1 h2 h3 => ⟨rfl, β', h1, h2, h3.wg⟩)
  | @regionAny Γ id ops env L env' L' h hd hs =>
    intro hΓ
    refine ⟨fun rr N B X β w a fl hf hA hH => ?_, fun d hd => by cases hd⟩
    have hfit : ∀ o ∈ ops.toList, ∀ d, o.dst = some d → d < N := by
      intro o ho d hod
      have := List.all_eq_true.1 hf o ho
      simpa [hod] using this
    exact region_any (all := ops.toList) hΓ hm hd hfit h hs hA hH (fun a' w' β' h1 h2 h3 => ⟨rfl, β', h1, h2, h3.wg⟩)
  | @regionTwo Γ id ops p q m env L env1 L1 env2 L2 hne hp hq h1 o1 s1 h2 o2 s2 hw =>
    intro hΓ
    refine ⟨fun rr N B X β w a fl hf hA hH => ?_, fun d hd => by cases hd⟩
    have hfit : ∀ o ∈ ops.toList, ∀ d, o.dst = some d → d < N := by
      intro o ho d hod
      have := List.all_eq_true.1 hf o ho
      simpa [hod] using this
    refine region_two_any (all := ops.toList) hΓ hm hne hp hq hfit o1 h1 s1 o2 h2 s2 hA hH (fun a' w' β' g1 g2 g3 => ⟨rfl, β', g1, g2, g3.wg⟩) (fun a' w' β' g1 g2 g3 => ?_)
    obtain ⟨β2, k1, k2, k3⟩ := weak_sound hw g1 g2
    exact ⟨rfl, β2, k1, k2, g3.wg.trans k3⟩
  | @less Γ c env L env2 e env' L' hl h ih =>
    intro hΓ
    have hA' : ∀ {N B : Nat} {X : Nat → Prop} {β : List Base} {w : World} {a : Act}, RepA N B X β w env a → RepA N B X β w env2 a := by
      intro N B X β w a hA
      refine ⟨hA.size, hA.defers, fun t => ?_, hA.glob⟩
      rcases hl t with h | h
      · rw [h]; simp [RepV]
      · rw [h]; exact hA.slot t
    refine ⟨fun rr N B X β w a fl hf hA hH => (ih hΓ).1 rr N B X β w a fl hf (hA' hA) hH, fun d hd => ?_⟩
    obtain ⟨n, hn⟩ := (ih hΓ).2 d hd
    exact ⟨n, fun rr N B X β w a fl hf hA hH => hn rr N B X β w a fl hf (hA' hA) hH⟩
  | @scope Γ c env L e env' L' h he ih =>
    intro hΓ
    refine ⟨fun rr N B X β w a fl hf hA hH => ?_, fun d hd => by cases hd⟩
    refine wpIn_scope_straight (wpIn_mono ((ih hΓ).1 rr N B X β w a fl hf hA hH) fun e1 a1 w1 he1 => ?_)
    obtain ⟨rfl, hp⟩ := he1
    cases e1 <;> first | (exact absurd rfl (he _)) | (exact ⟨rfl, hp⟩)
  | label => intro hΓ; exact ⟨fun rr N B X β w a _ _ hA hH => wpIn_label ⟨rfl, β, hA, hH, WGrow.refl β w⟩, fun d hd => by cases hd⟩
  | @seq Γ x y env L env1 L1 e env' L' h k ih1 ih2 =>
    intro hΓ
    refine ⟨fun rr N B X β w a fl hf hA hH => ?_, fun d hd => by cases hd⟩
    simp only [fits, Bool.and_eq_true] at hf
    have fl := fl.seq
    refine wpIn_seq (wpIn_mono ((ih1 hΓ).1 rr N B X β w a fl.1 hf.1 hA hH) fun e1 a1 w1 he => ?_)
    obtain ⟨rfl, β1, h1, h2, h3⟩ := he
    exact wpIn_mono ((ih2 hΓ).1 rr N B X β1 w1 a1 fl.2 hf.2 h1 h2) fun e2 a2 w2 he => he.mono h3
  | @seqOut Γ x y env L e env' L' h he ih =>
    intro hΓ
    refine ⟨fun rr N B X β w a fl hf hA hH => ?_, fun d hd => by cases hd⟩
    simp only [fits, Bool.and_eq_true] at hf
    have fl := fl.seq
    refine wpIn_seq (wpIn_mono ((ih hΓ).1 rr N B X β w a fl.1 hf.1 hA hH) fun e1 a1 w1 he1 => ?_)
    obtain ⟨rfl, hp⟩ := he1
    cases e1 <;> first | (exact absurd rfl he) | (exact ⟨rfl, hp⟩)
  | @cond Γ c x y env L t e env' L' hc h ih =>
    intro hΓ
    refine ⟨fun rr N B X β w a fl hf hA hH => ?_, fun d hd => by cases hd⟩
    simp only [fits, Bool.and_eq_true] at hf
    have hcv := hA.eval c
    rw [hc] at hcv
    simp only [RepV] at hcv
    refine wpIn_cond hcv ((ih hΓ).1 rr N B X β w a ?_ ?_ hA hH)
    · cases t
      · exact fl.cond.2
      · exact fl.cond.1
    · cases t
      · exact hf.2
      · exact hf.1
  | @block Γ id c env L e env' L' h he ih =>
    intro hΓ
    refine ⟨fun rr N B X β w a fl hf hA hH => ?_, fun d hd => by cases hd⟩
    refine wpIn_block (wpIn_mono ((ih hΓ).1 rr N B X β w a fl hf hA hH) fun e1 a1 w1 he1 => ?_)
    obtain ⟨rfl, hp⟩ := he1
    cases e1 with
    | exit id' =>
      have hne : id' ≠ id := fun h => he (by rw [h])
      simp only [Exit.inBlock, hne, if_false]
      exact ⟨rfl, hp⟩
    | _ => exact ⟨rfl, hp⟩
  | @blockOut Γ id c env L env' L' h ih =>
    intro hΓ
    refine ⟨fun rr N B X β w a fl hf hA hH => ?_, fun d hd => by cases hd⟩
    refine wpIn_block (wpIn_mono ((ih hΓ).1 rr N B X β w a fl hf hA hH) fun e1 a1 w1 he1 => ?_)
    obtain ⟨rfl, hp⟩ := he1
    simp only [Exit.inBlock, if_true]
    exact ⟨rfl, hp⟩
  | @loop Γ c env L env1 L1 e env' L' h k ih1 ih2 =>
    intro hΓ
    have key : ∃ n, ∀ (rr : Option Nat) (N B : Nat) (X : Nat → Prop) (β : List Base) (w : World) (a : Act), Fl rr (.loop c) → fits N (.loop c) = true → RepA N B X β w env a → RepH X β w L → Code.roundsIn (FF rr) 0 P c (Post Γ.pin N B X β w e env' L') n a w := by
      obtain ⟨n, hn⟩ := (ih2 hΓ).2 c rfl
      refine ⟨n + 1, fun rr N B X β w a fl hf hA hH => ?_⟩
      rw [roundsIn_succ]
      refine wpIn_mono ((ih1 hΓ).1 rr N B X β w a fl hf hA hH) fun e1 a1 w1 he => ?_
      obtain ⟨rfl, β1, h1, h2, h3⟩ := he
      exact rounds_mono (fun e2 a2 w2 he => he.mono h3) n a1 w1 (hn rr N B X β1 w1 a1 fl hf h1 h2)
    refine ⟨fun rr N B X β w a fl hf hA hH => ?_, fun d hd => by cases hd; exact key⟩
    obtain ⟨n, hn⟩ := key
    exact wpIn_loop_rounds n (hn rr N B X β w a fl hf hA hH)
  | @loopOut Γ c env L e env' L' h he ih =>
    intro hΓ
    have key : ∀ (rr : Option Nat) (N B : Nat) (X : Nat → Prop) (β : List Base) (w : World) (a : Act), Fl rr (.loop c) → fits N (.loop c) = true → RepA N B X β w env a → RepH X β w L → Code.roundsIn (FF rr) 0 P c (Post Γ.pin N B X β w e env' L') 1 a w := by
      intro rr N B X β w a fl hf hA hH
      rw [roundsIn_succ]
      refine wpIn_mono ((ih hΓ).1 rr N B X β w a fl hf hA hH) fun e1 a1 w1 he1 => ?_
      obtain ⟨rfl, hp⟩ := he1
      cases e1 <;> first | (exact absurd rfl he) | (exact ⟨rfl, hp⟩)
    exact ⟨fun rr N B X β w a fl hf hA hH => wpIn_loop_rounds 1 (key rr N B X β w a fl hf hA hH), fun d hd => by cases hd; exact ⟨1, key⟩⟩
  | exit => intro hΓ; exact ⟨fun rr N B X β w a _ _ hA hH => wpIn_exit ⟨rfl, β, hA, hH, WGrow.refl β w⟩, fun d hd => by cases hd⟩
  | ret => intro hΓ; exact ⟨fun rr N B X β w a _ _ hA hH => wpIn_ret ⟨rfl, β, hA, hH, WGrow.refl β w⟩, fun d hd => by cases hd⟩
  | @weak Γ c env L m env2 L2 e env' L' hw h ih =>
    intro hΓ
    refine ⟨fun rr N B X β w a fl hf hA hH => ?_, fun d hd => ?_⟩
    · obtain ⟨β2, h1, h2, h3⟩ := weak_sound hw hA hH
      exact wpIn_mono ((ih hΓ).1 rr N B X β2 w a fl hf h1 h2) fun e2 a2 w2 he => he.mono h3
    · obtain ⟨n, hn⟩ := (ih hΓ).2 d hd
      refine ⟨n, fun rr N B X β w a fl hf hA hH => ?_⟩
      obtain ⟨β2, h1, h2, h3⟩ := weak_sound hw hA hH
      exact rounds_mono (fun e2 a2 w2 he => he.mono h3) n a w (hn rr N B X β2 w a fl hf h1 h2)
  | @after Γ c env L m env2 L2 e env' L' h hw ih =>
    intro hΓ
    have hp : ∀ (N B : Nat) (X : Nat → Prop) (β : List Base) (w : World) (e1 : Exit) (a1 : Act) (w1 : World), Post Γ.pin N B X β w e env' L' e1 a1 w1 → Post Γ.pin N B X β w e env2 L2 e1 a1 w1 := by
      rintro N B X β w e1 a1 w1 ⟨rfl, β1, h1, h2, h3⟩
      obtain ⟨β2, h4, h5, h6⟩ := weak_sound hw h1 h2
      exact ⟨rfl, β2, h4, h5, h3.trans h6⟩
    refine ⟨fun rr N B X β w a fl hf hA hH => wpIn_mono ((ih hΓ).1 rr N B X β w a fl hf hA hH) (hp N B X β w), fun d hd => ?_⟩
    obtain ⟨n, hn⟩ := (ih hΓ).2 d hd
    exact ⟨n, fun rr N B X β w a fl hf hA hH => rounds_mono (hp N B X β w) n a w (hn rr N B X β w a fl hf hA hH)⟩
  | @rangeFunc Γ ps asg body env L ε g p d q gf caps els pv ok S E L1 m hs hg hcl hq hqL he hfl hit hok hpc hL hr hw ih =>
    intro hΓ
    refine ⟨fun rr N B X β w a fl hf hA hH => ?_, fun d hd => by cases hd⟩
    rcases fl with rfl | fl
    · subst hL
      simp only [fits, Bool.and_eq_true] at hf
      obtain ⟨rfl, id, o, rfl, o1, o2, o3⟩ := asg_spec hs
      have hp : p < N := by simpa using hf.1.1
      have hd : d < N := by
        have := hf.1.2
        simp only [fits, List.all_cons, List.all_nil, Bool.and_true, o1] at this
        simpa using this
      refine range_sound hs hg hcl hq hqL he hit hok hpc hp hd (fun l pre x hx β W a1 h1 h2 => ?_) hA hH
      refine wpIn_mono ((ih pre x hx hΓ).1 (some l) N B X β W a1 (.inr hfl) hf.2 h1 h2) ?_
      rintro e a' W' ⟨rfl, β', g1, g2, g3⟩
      obtain ⟨β2, k1, k2, k3⟩ := weak_sound (hw pre x hx) g1 g2
      exact ⟨rfl, β2, k1, k2, g3.trans k3⟩
    · simp [flatC] at fl
def Ex (P : Program) (Γ : Con) (c : Code) (env : Env) (L : LH) (Q : Exit → Env → LH → Prop) : Prop := ∃ e env' L', Run P Γ c env L e env' L' ∧ Q e env' L'
theorem Ex.mono {c : Code} {env : Env} {Q Q' : Exit → Env → LH → Prop} (h : Ex P Γ c env L Q) (hq : ∀ e env L, Q e env L → Q' e env L) : Ex P Γ c env L Q' :=
  let ⟨e, env', L', h1, h2⟩ := h; ⟨e, env', L', h1, hq _ _ _ h2⟩
theorem Ex.weak {c : Code} {env env2 : Env} {L2 : LH} {Q : Exit → Env → LH → Prop} (m : List Nat) (hw : Weak Γ.pin m env L env2 L2) (h : Ex P Γ c env2 L2 Q) : Ex P Γ c env L Q :=
  let ⟨e, env', L', h1, h2⟩ := h; ⟨e, env', L', .weak hw h1, h2⟩
theorem Ex.loop {ι : Type} {c : Code} {Q : Exit → Env → LH → Prop} (I : ι → Env × LH) (μ : ι → Nat)
    (step : ∀ x, Ex P Γ c (I x).1 (I x).2 (fun e env' L' => match e with
      | .normal => ∃ y m, μ y < μ x ∧ Weak Γ.pin m env' L' (I y).1 (I y).2
      | e => Q e env' L')) (x : ι) : Ex P Γ (.loop c) (I x).1 (I x).2 Q := by
  have key : ∀ n x, μ x = n → Ex P Γ (.loop c) (I x).1 (I x).2 Q := by
    intro n
    induction n using Nat.strongRecOn with
    | _ n ih =>
      intro x hx
      obtain ⟨e, env', L', h1, h2⟩ := step x
      cases e with
      | normal =>
        obtain ⟨y, m, hy, hw⟩ := h2
        obtain ⟨e, env2, L2, h3, h4⟩ := ih (μ y) (hx ▸ hy) y rfl
        exact ⟨e, env2, L2, .loop h1 (.weak hw h3), h4⟩
      | exit id => exact ⟨_, env', L', .loopOut h1 (by simp), h2⟩
      | goto l => exact ⟨_, env', L', .loopOut h1 (by simp), h2⟩
      | ret => exact ⟨_, env', L', .loopOut h1 (by simp), h2⟩
      | panic ch => exact ⟨_, env', L', .loopOut h1 (by simp), h2⟩
      | outgrown => exact ⟨_, env', L', .loopOut h1 (by simp), h2⟩
  exact key _ x rfl
section
variable {env : Env} {L : LH} {k : Exit → Env → LH → Prop}
end
end Go.Ab
