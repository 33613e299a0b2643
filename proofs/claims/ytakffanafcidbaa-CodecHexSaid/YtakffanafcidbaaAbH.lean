import Derived.Test.YtakffanafcidbaaAbG
namespace Go.Ab
open Go Go.RowKit
set_option linter.unusedVariables false
set_option linter.unusedSimpArgs false

mutual
/-- No handle of a row of a call's own. -/
def closed : PV → Bool
  | .any => true
  | .lit _ => true
  | .ro _ cs => closedL cs
  | .own _ _ _ _ => false
  | .ptr _ _ => false
  | .rptr cs => closedL cs
  | .agg cs => closedL cs
  | .tup cs => closedL cs
  | .fn _ a b => closedL a && closedL b
  | .new _ _ _ => false
def closedL : List PV → Bool
  | [] => true
  | p :: r => closed p && closedL r
end

mutual
/-- No memory at all. -/
def flat : PV → Bool
  | .any => true
  | .lit _ => true
  | .agg cs => flatL cs
  | .tup cs => flatL cs
  | .new _ _ cs => flatL cs
  | _ => false
def flatL : List PV → Bool
  | [] => true
  | p :: r => flat p && flatL r
end

theorem closedL_iff {ps : List PV} : closedL ps = true ↔ ∀ p ∈ ps, closed p = true := by
  induction ps with
  | nil => simp [closedL]
  | cons p ps ih => simp [closedL, ih]
theorem flatL_iff {ps : List PV} : flatL ps = true ↔ ∀ p ∈ ps, flat p = true := by
  induction ps with
  | nil => simp [flatL]
  | cons p ps ih => simp [flatL, ih]

variable {P : Program} {X : Nat → Prop} {β : List Base} {w : World} {L : LH}

mutual
theorem RepV.anti {X1 X2 : Nat → Prop} {β1 β2 : List Base} (hX : ∀ b, X2 b ∨ Live β2 b → X1 b ∨ Live β1 b) : ∀ (p : PV) (v : Value), closed p = true → RepV X1 β1 w p v → RepV X2 β2 w p v
  | .any, _, _, _ => by simp [RepV]
  | .lit v0, v, _, h => by simpa [RepV] using h
  | .ro n cells, v, hc, h => by
    simp only [RepV] at h ⊢
    obtain ⟨a, cap, hv, hn, hcs⟩ := h
    refine ⟨a, cap, hv, hn, ?_⟩
    rcases hcs with hcs | ⟨b, off, ha, hx, hl, hr⟩
    · exact .inl hcs
    · have hnot : ¬ (X2 b ∨ Live β2 b) := fun h => by rcases hX b h with h | h; exact hx h; exact hl h
      exact .inr ⟨b, off, ha, fun h => hnot (.inl h), fun h => hnot (.inr h), RepRow.anti hX b cells off hc hr⟩
  | .own _ _ _ _, v, hc, h => by simp [closed] at hc
  | .ptr _ _, v, hc, h => by simp [closed] at hc
  | .rptr cells, v, hc, h => by
    simp only [RepV] at h ⊢
    obtain ⟨b, off, hv, hcs⟩ := h
    refine ⟨b, off, hv, ?_⟩
    rcases hcs with hcs | ⟨hx, hl, hr⟩
    · exact .inl hcs
    · have hnot : ¬ (X2 b ∨ Live β2 b) := fun h => by rcases hX b h with h | h; exact hx h; exact hl h
      exact .inr ⟨fun h => hnot (.inl h), fun h => hnot (.inr h), RepRow.anti hX b cells off hc hr⟩
  | .agg cells, v, hc, h => by
    simp only [RepV] at h ⊢
    obtain ⟨vs, hv, hr⟩ := h
    exact ⟨vs, hv, RepL.anti hX cells vs hc hr⟩
  | .tup cells, v, hc, h => by
    simp only [RepV] at h ⊢
    obtain ⟨vs, hv, hr⟩ := h
    exact ⟨vs, hv, RepL.anti hX cells vs hc hr⟩
  | .fn f first captured, v, hc, h => by
    simp only [closed, Bool.and_eq_true] at hc
    simp only [RepV] at h ⊢
    obtain ⟨xs, ys, hv, hx, hy⟩ := h
    exact ⟨xs, ys, hv, RepL.anti hX first xs hc.1 hx, RepL.anti hX captured ys hc.2 hy⟩
  | .new _ _ _, v, hc, h => by simp [closed] at hc
theorem RepRow.anti {X1 X2 : Nat → Prop} {β1 β2 : List Base} (hX : ∀ b, X2 b ∨ Live β2 b → X1 b ∨ Live β1 b) (b : Nat) : ∀ (ps : List PV) (off : Nat), closedL ps = true → RepRow X1 β1 w b off ps → RepRow X2 β2 w b off ps
  | [], _, _, _ => by simp [RepRow]
  | p :: ps, off, hc, h => by
    simp only [closedL, Bool.and_eq_true] at hc
    simp only [RepRow] at h ⊢
    obtain ⟨⟨v, hv, ho, hr⟩, h2⟩ := h
    exact ⟨⟨v, hv, ho, RepV.anti hX p v hc.1 hr⟩, RepRow.anti hX b ps (off + 1) hc.2 h2⟩
theorem RepL.anti {X1 X2 : Nat → Prop} {β1 β2 : List Base} (hX : ∀ b, X2 b ∨ Live β2 b → X1 b ∨ Live β1 b) : ∀ (ps : List PV) (vs : List Value), closedL ps = true → RepL X1 β1 w ps vs → RepL X2 β2 w ps vs
  | [], vs, _, h => by simpa [RepL] using h
  | p :: ps, vs, hc, h => by
    simp only [closedL, Bool.and_eq_true] at hc
    simp only [RepL] at h ⊢
    obtain ⟨v, r, hv, h1, h2⟩ := h
    exact ⟨v, r, hv, RepV.anti hX p v hc.1 h1, RepL.anti hX ps r hc.2 h2⟩
end

mutual
theorem RepV.flat {X1 X2 : Nat → Prop} {β1 β2 : List Base} : ∀ (p : PV) (v : Value), flat p = true → RepV X1 β1 w p v → RepV X2 β2 w p v
  | .any, _, _, _ => by simp [RepV]
  | .lit v0, v, _, h => by simpa [RepV] using h
  | .ro _ _, v, hc, h => by simp [Ab.flat] at hc
  | .own _ _ _ _, v, hc, h => by simp [Ab.flat] at hc
  | .ptr _ _, v, hc, h => by simp [Ab.flat] at hc
  | .rptr _, v, hc, h => by simp [Ab.flat] at hc
  | .agg cells, v, hc, h => by
    simp only [Ab.flat] at hc
    simp only [RepV] at h ⊢
    obtain ⟨vs, hv, hr⟩ := h
    exact ⟨vs, hv, RepL.flat cells vs hc hr⟩
  | .tup cells, v, hc, h => by
    simp only [Ab.flat] at hc
    simp only [RepV] at h ⊢
    obtain ⟨vs, hv, hr⟩ := h
    exact ⟨vs, hv, RepL.flat cells vs hc hr⟩
  | .fn _ _ _, v, hc, h => by simp [Ab.flat] at hc
  | .new _ _ _, v, hc, h => by simp [RepV] at h
theorem RepL.flat {X1 X2 : Nat → Prop} {β1 β2 : List Base} : ∀ (ps : List PV) (vs : List Value), flatL ps = true → RepL X1 β1 w ps vs → RepL X2 β2 w ps vs
  | [], vs, _, h => by simpa [RepL] using h
  | p :: ps, vs, hc, h => by
    simp only [flatL, Bool.and_eq_true] at hc
    simp only [RepL] at h ⊢
    obtain ⟨v, r, hv, h1, h2⟩ := h
    exact ⟨v, r, hv, RepV.flat p v hc.1 h1, RepL.flat ps r hc.2 h2⟩
end

theorem RepRow.flat {X1 X2 : Nat → Prop} {β1 β2 : List Base} {b off : Nat} {ps : List PV} (hf : flatL ps = true) (h : RepRow X1 β1 w b off ps) : RepRow X2 β2 w b off ps := by
  rw [RepRow.iff] at h ⊢
  intro i p hp
  obtain ⟨v, h1, h2, h3⟩ := h i p hp
  exact ⟨v, h1, h2, RepV.flat p v (flatL_iff.1 hf p (List.mem_of_getElem? hp)) h3⟩

/-- What is read of it, without handles. -/
def dro (L : LH) : Nat → PV → PV
  | 0, p => p
  | n + 1, .own id off k sz => .ro k ((slc L (.own id off k sz)).2.2.map (dro L n))
  | n + 1, .agg cs => .agg (cs.map (dro L n))
  | _, .ptr id off => match L[id]? with
    | some (.cells cs) => .rptr (cs.drop off)
    | _ => .ptr id off
  | _, p => p

def droOk (L : LH) : Nat → PV → Prop
  | 0, _ => True
  | n + 1, .own id off k sz => (slc L (.own id off k sz)).1 ∧ ∀ q ∈ (slc L (.own id off k sz)).2.2, droOk L n q
  | n + 1, .agg cs => ∀ q ∈ cs, droOk L n q
  | _, _ => True

theorem one_dro {p : PV} {n : Nat} : True := trivial

/-- 'X2' keeps clear of what is not live. -/
theorem dro_rep {X2 : Nat → Prop} (hH : RepH X β w L) (hX : ∀ b, X2 b → X b ∨ (Live β b ∧ False)) : ∀ (n : Nat) (p : PV) (v : Value), RepV X β w p v → droOk L n p → closed (dro L n p) = true → RepV X2 [] w (dro L n p) v
  | 0, p, v, h, _, hc => by
    simp only [dro] at hc ⊢
    exact RepV.anti (fun b hb => by rcases hb with hb | ⟨i, x, hb⟩; rcases hX b hb with h | h; exact .inl h; exact h.2.elim; simp at hb) p v hc h
  | n + 1, p, v, h, hok, hc => by
    have base : closed p = true → RepV X2 [] w p v := fun hc => RepV.anti (fun b hb => by rcases hb with hb | ⟨i, x, hb⟩; rcases hX b hb with h | h; exact .inl h; exact h.2.elim; simp at hb) p v hc h
    cases p with
    | own id off k sz =>
      simp only [dro, droOk, closed] at hok hc ⊢
      obtain ⟨a, cap, hv, hn, hcs⟩ := slc_rep hok.1 hH h
      have hk : (slc L (.own id off k sz)).2.1 = k := by
        have := hok.1
        simp only [slc] at this ⊢
        split at this
        · rename_i cs hL; simp [hL]
        · exact this.elim
      rw [hk] at hv hn
      simp only [RepV]
      refine ⟨a, cap, hv, hn, ?_⟩
      rcases hcs with hcs | ⟨b, o, ha, hr⟩
      · left; rw [hcs]; rfl
      · by_cases he : (slc L (.own id off k sz)).2.2 = []
        · left; rw [he]; rfl
        · right
          have hlive : Live β b := by
            have := hok.1
            simp only [slc] at this
            split at this
            · rename_i cs hL
              rcases own_slice hH hL h with ⟨_, e, _⟩ | ⟨b', base', c, el, cap', e1, e2, _⟩
              · rw [hv] at e; cases e; cases ha
              · rw [hv, ha] at e2; cases e2; exact ⟨id, base', e1⟩
            · exact this.elim
          refine ⟨b, o, ha, fun hx => ?_, fun ⟨i, x, hb⟩ => by simp at hb, ?_⟩
          · rcases hX b hx with h | h
            · exact (hH.out b h).2 hlive
            · exact h.2
          · rw [RepRow.iff] at hr ⊢
            intro i q hq
            rw [List.getElem?_map, Option.map_eq_some_iff] at hq
            obtain ⟨q', hq', rfl⟩ := hq
            obtain ⟨u, e1, e2, e3⟩ := hr i q' hq'
            have hm := List.mem_of_getElem? hq'
            exact ⟨u, e1, e2, dro_rep hH hX n q' u e3 (hok.2 q' hm) (closedL_iff.1 hc _ (List.mem_map_of_mem hm))⟩
    | agg cs =>
      simp only [dro, droOk, closed] at hok hc ⊢
      simp only [RepV] at h ⊢
      obtain ⟨vs, hv, hr⟩ := h
      refine ⟨vs, hv, ?_⟩
      rw [RepL.iff] at hr ⊢
      refine ⟨by simp [hr.1], fun i q u hq hu => ?_⟩
      rw [List.getElem?_map, Option.map_eq_some_iff] at hq
      obtain ⟨q', hq', rfl⟩ := hq
      have hm := List.mem_of_getElem? hq'
      exact dro_rep hH hX n q' u (hr.2 i q' u hq' hu) (hok q' hm) (closedL_iff.1 hc _ (List.mem_map_of_mem hm))
    | ptr id off =>
      simp only [dro] at hc ⊢
      split at hc
      · rename_i cs hL
        simp only [RepV] at h
        rcases hH.ent id cs hL with ⟨h1, _⟩ | ⟨b, base', c, el, h1, h2, h3, h4⟩
        · exact absurd h1 h.2.2
        · have := h.2.1 b base' h1
          subst this
          simp only [RepV]
          refine ⟨b, base' + off, rfl, .inr ⟨fun hx => ?_, fun ⟨i, x, hb⟩ => by simp at hb, ?_⟩⟩
          · rcases hX b hx with h | h
            · exact (hH.out b h).2 ⟨id, base', h1⟩
            · exact h.2
          · have hr : RepRow X β w b (base' + off) (cs.drop off) := by
              have := row_sub h4 off cs.length
              rwa [List.take_of_length_le (by simp)] at this
            exact RepRow.anti (fun b hb => by rcases hb with hb | ⟨i, x, hb⟩; rcases hX b hb with h | h; exact .inl h; exact h.2.elim; simp at hb) b _ _ hc hr
      · simp [closed] at hc
    | any => simpa [dro] using base rfl
    | lit u => simpa [dro] using base rfl
    | ro k cs => simp only [dro] at hc ⊢; exact base hc
    | rptr cs => simp only [dro] at hc ⊢; exact base hc
    | tup cs => simp only [dro] at hc ⊢; exact base hc
    | fn f a b => simp only [dro] at hc ⊢; exact base hc
    | new a b c => simp [dro, closed] at hc

/-- A new row, as a result. -/
def NewRow (X : Nat → Prop) (w w' : World) (n sz : Nat) (cs : List PV) (v : Value) : Prop :=
  (v = .slice none 0 0 ∧ n = 0 ∧ cs = []) ∨
  ∃ b off cap c el, v = .slice (some ⟨b, off, none⟩) n cap ∧ n ≤ cap ∧ w.heap.size ≤ b ∧ w'.heap[b]? = some (.cells c el (0, 0)) ∧ off + cap * sz ≤ c.size ∧ off + cs.length ≤ c.size ∧
    closedL cs = true ∧ RepRow (fun x => X x ∨ x = b) [] w' b off cs

def blockOf : Value → Nat → Prop
  | .slice (some a) _ _, b => b = a.block
  | _, _ => False

def RepR (X : Nat → Prop) (w w' : World) : PV → Value → Prop
  | .new n sz cs, v => NewRow X w w' n sz cs v
  | .tup (.new n sz cs :: rs), v => ∃ v0 vs, v = .tuple (v0 :: vs).toArray ∧ NewRow X w w' n sz cs v0 ∧ closedL rs = true ∧ RepL (fun x => X x ∨ blockOf v0 x) [] w' rs vs
  | p, v => closed p = true ∧ RepV X [] w' p v

/-- A contract of a function that is given plain data and makes new memory at most. -/
structure PureOk (P : Program) (f : FuncId) (S : List PV → Prop × PV) : Prop where
  run : ∀ args, (S args).1 → closedL args = true → ∀ (X : Nat → Prop) (w : World) (vs : List Value), (∀ b, X b → b < w.heap.size) → RepL X [] w args vs →
    Calls P f vs.toArray w fun e w' => ∃ v, e = .returned v ∧ Grow [] [] w w' ∧ RepR X w w' (S args).2 v
  call : (∃ args, (S args).1) → ∀ (vs : Array Value) (w : World), (callFunc f vs).run P w = .ok (.enter f vs) w

abbrev Con := FuncId → List PV → Prop × PV

def borrow (L : LH) (p : PV) : PV := bif closed p then p else dro L 4 p
def borrowOk (L : LH) (p : PV) : Prop := closed p = true ∨ (droOk L 4 p ∧ closed (dro L 4 p) = true)

theorem borrow_rep {p : PV} {v : Value} (hH : RepH X β w L) (h : RepV X β w p v) (hok : borrowOk L p) : RepV X [] w (borrow L p) v ∧ closed (borrow L p) = true := by
  unfold borrow
  cases hc : closed p with
  | true =>
    refine ⟨?_, by simpa using hc⟩
    simp only [cond_true]
    exact RepV.anti (fun b hb => by rcases hb with hb | ⟨i, x, hb⟩; exact .inl hb; simp at hb) p v hc h
  | false =>
    rcases hok with hok | ⟨hok, hc2⟩
    · rw [hc] at hok; cases hok
    · exact ⟨dro_rep hH (fun b hb => .inl hb) 4 p v h hok hc2, hc2⟩

/-- Plain data keeps clear of whatever it kept clear of. -/
theorem borrow_plain {Y : Nat → Prop} {p : PV} {v : Value} (hc : closed p = true) (h : RepV X β w p v) (hY : ∀ b, Y b → X b ∨ Live β b) : RepV Y [] w (borrow L p) v ∧ closed (borrow L p) = true := by
  unfold borrow
  rw [hc]
  simp only [cond_true]
  exact ⟨RepV.anti (fun b hb => by rcases hb with hb | ⟨i, x, hb⟩; exact hY b hb; simp at hb) p v hc h, hc⟩

/-- The result of a call, taken over. -/
def adopt (draw : Bool) (p : PV) (L : LH) : PV × LH :=
  match p with
  | .new n sz cs => fresh draw n sz cs L
  | .tup (.new n sz cs :: rs) => (.tup ((fresh draw n sz cs L).1 :: rs), (fresh draw n sz cs L).2)
  | p => (p, L)

def callF (Γ : Con) (draw : Bool) (g : FuncId) (args : List PV) (L : LH) : OR :=
  ⟨(Γ g (args.map (borrow L))).1 ∧ (∀ p ∈ args, borrowOk L p) ∧ (closedL args = true ∨ flat (Γ g (args.map (borrow L))).2 = true), (adopt draw (Γ g (args.map (borrow L))).2 L).1, (adopt draw (Γ g (args.map (borrow L))).2 L).2⟩

def opF (P : Program) (Γ : Con) (draw : Bool) (ρ : Operand → PV) (L : LH) (op : Op) : OR :=
  match op with
  | .move x => ⟨True, ρ x, L⟩
  | .assign x => ⟨True, ρ x, L⟩
  | .alloc t => allocF P draw t L
  | .box _ x => boxF draw (ρ x) L
  | .buildSlice t len parts => buildSliceF P draw t len (parts.toList.map fun x => (x.1, ρ x.2)) L
  | .load t a => loadF P t (ρ a) L
  | .store t a x => storeF P draw t (ρ a) (ρ x) L
  | .nilCheck x => match ρ x with
    | .rptr cs => ⟨True, .rptr cs, L⟩
    | .ptr id off => match L[id]? with
      | some (.cells _) => ⟨True, .ptr id off, L⟩
      | _ => .bad
    | _ => .bad
  | .binOp op t x y _ => binF P op t (ρ x) (ρ y) L
  | .unOp op _ x => unF op (ρ x) L
  | .convert src dst x => convF P src dst (ρ x) L
  | .makeSlice t l c => makeF P draw t (ρ l) (ρ c) L
  | .slice t x lo hi mx => sliceF P t (ρ x) (lo.map ρ) (hi.map ρ) (mx.map ρ) L
  | .indexAddr t x i => indexAddrF P t (ρ x) (ρ i) L
  | .index t x i => indexF P t (ρ x) (ρ i) L
  | .field t x f => fieldF P t (ρ x) f L
  | .extract x i => extractF (ρ x) i L
  | .call c => match c.callee, c.args.toList, c.argTypes.toList with
    | .builtin .len, [x], [t] => lenF P t (ρ x) L
    | .builtin .cap, [x], [t] => capF P t (ρ x) L
    | .builtin .append, [s, x], [t, t2] => appF P draw t t2 (ρ s) (ρ x) L
    | .builtin .copy, [d, s], [t, t2] => copyF P draw t (ρ d) (ρ s) L
    | .value (.func g), as, _ => callF Γ draw g (as.map ρ) L
    | _, _, _ => .bad
  | _ => .bad

end Go.Ab
