import Derived.Test.YtipnfcbpbomonaaDoorM3
import Derived.TacticsIn
import Derived.OrdersIn
import Derived.LoopNIn
import Derived.RangeFuncRecord
import Derived.RangeFuncCalls
import Derived.Scope
namespace Go.Ab
open Go Go.RowKit
set_option linter.unusedVariables false
set_option linter.unusedSimpArgs false
mutual
def closed : PV → Bool
  | .any => true
  | .lit _ => true
  | .ro _ cs => closedL cs
  | .own _ _ _ _ => false
  | .ptr _ _ => false
  | .rptr cs => closedL cs
  | .agg cs => closedL cs
  | .tup cs => closedL cs
  | .fn _ a b => closedL a && closedL b
  | .new _ _ _ => false
def closedL : List PV → Bool
  | [] => true
  | p :: r => closed p && closedL r
end
mutual
def flat : PV → Bool
  | .any => true
  | .lit _ => true
  | .agg cs => flatL cs
  | .tup cs => flatL cs
  | .new _ _ cs => flatL cs
  | _ => false
def flatL : List PV → Bool
  | [] => true
  | p :: r => flat p && flatL r
end
theorem closedL_iff {ps : List PV} : closedL ps = true ↔ ∀ p ∈ ps, closed p = true := by
  induction ps with
  | nil => simp [closedL]
  | cons p ps ih => simp [closedL, ih]
theorem flatL_iff {ps : List PV} : flatL ps = true ↔ ∀ p ∈ ps, flat p = true := by
  induction ps with
  | nil => simp [flatL]
  | cons p ps ih => simp [flatL, ih]
variable {P : Program} {X : Nat → Prop} {β : List Base} {w : World} {L : LH}
mutual
theorem RepV.anti {X1 X2 : Nat → Prop} {β1 β2 : List Base} (hX : ∀ b, X2 b ∨ Live β2 b → X1 b ∨ Live β1 b) : ∀ (p : PV) (v : Value), closed p = true → RepV X1 β1 w p v → RepV X2 β2 w p v
  | .any, _, _, _ => by simp [RepV]
  | .lit v0, v, _, h => by simpa [RepV] using h
  | .ro n cells, v, hc, h => by
    simp only [RepV] at h ⊢
    obtain ⟨a, cap, hv, hn, hcs⟩ := h
    refine ⟨a, cap, hv, hn, ?_⟩
    rcases hcs with hcs | ⟨b, off, ha, hx, hl, hr⟩
    · exact .inl hcs
    · have hnot : ¬ (X2 b ∨ Live β2 b) := fun h => by rcases hX b h with h | h; exact hx h; exact hl h
      exact .inr ⟨b, off, ha, fun h => hnot (.inl h), fun h => hnot (.inr h), RepRow.anti hX b cells off hc hr⟩
  | .own _ _ _ _, v, hc, h => by simp [closed] at hc
  | .ptr _ _, v, hc, h => by simp [closed] at hc
  | .rptr cells, v, hc, h => by
    simp only [RepV] at h ⊢
    obtain ⟨b, off, hv, hcs⟩ := h
    refine ⟨b, off, hv, ?_⟩
    rcases hcs with hcs | ⟨hx, hl, hr⟩
    · exact .inl hcs
    · have hnot : ¬ (X2 b ∨ Live β2 b) := fun h => by rcases hX b h with h | h; exact hx h; exact hl h
      exact .inr ⟨fun h => hnot (.inl h), fun h => hnot (.inr h), RepRow.anti hX b cells off hc hr⟩
  | .agg cells, v, hc, h => by
    simp only [RepV] at h ⊢
    obtain ⟨vs, hv, hr⟩ := h
    exact ⟨vs, hv, RepL.anti hX cells vs hc hr⟩
  | .tup cells, v, hc, h => by
    simp only [RepV] at h ⊢
    obtain ⟨vs, hv, hr⟩ := h
    exact ⟨vs, hv, RepL.anti hX cells vs hc hr⟩
  | .fn f first captured, v, hc, h => by
    simp only [closed, Bool.and_eq_true] at hc
    simp only [RepV] at h ⊢
    obtain ⟨xs, ys, hv, hx, hy⟩ := h
    exact ⟨xs, ys, hv, RepL.anti hX first xs hc.1 hx, RepL.anti hX captured ys hc.2 hy⟩
  | .new _ _ _, v, hc, h => by simp [closed] at hc
theorem RepRow.anti {X1 X2 : Nat → Prop} {β1 β2 : List Base} (hX : ∀ b, X2 b ∨ Live β2 b → X1 b ∨ Live β1 b) (b : Nat) : ∀ (ps : List PV) (off : Nat), closedL ps = true → RepRow X1 β1 w b off ps → RepRow X2 β2 w b off ps
  | [], _, _, _ => by simp [RepRow]
  | p :: ps, off, hc, h => by
    simp only [closedL, Bool.and_eq_true] at hc
    simp only [RepRow] at h ⊢
    obtain ⟨⟨v, hv, ho, hr⟩, h2⟩ := h
    exact ⟨⟨v, hv, ho, RepV.anti hX p v hc.1 hr⟩, RepRow.anti hX b ps (off + 1) hc.2 h2⟩
theorem RepL.anti {X1 X2 : Nat → Prop} {β1 β2 : List Base} (hX : ∀ b, X2 b ∨ Live β2 b → X1 b ∨ Live β1 b) : ∀ (ps : List PV) (vs : List Value), closedL ps = true → RepL X1 β1 w ps vs → RepL X2 β2 w ps vs
  | [], vs, _, h => by simpa [RepL] using h
  | p :: ps, vs, hc, h => by
    simp only [closedL, Bool.and_eq_true] at hc
    simp only [RepL] at h ⊢
    obtain ⟨v, r, hv, h1, h2⟩ := h
    exact ⟨v, r, hv, RepV.anti hX p v hc.1 h1, RepL.anti hX ps r hc.2 h2⟩
end
mutual
theorem RepV.flat {X1 X2 : Nat → Prop} {β1 β2 : List Base} : ∀ (p : PV) (v : Value), flat p = true → RepV X1 β1 w p v → RepV X2 β2 w p v
  | .any, _, _, _ => by simp [RepV]
  | .lit v0, v, _, h => by simpa [RepV] using h
  | .ro _ _, v, hc, h => by simp [Ab.flat] at hc
  | .own _ _ _ _, v, hc, h => by simp [Ab.flat] at hc
  | .ptr _ _, v, hc, h => by simp [Ab.flat] at hc
  | .rptr _, v, hc, h => by simp [Ab.flat] at hc
  | .agg cells, v, hc, h => by
    simp only [Ab.flat] at hc
    simp only [RepV] at h ⊢
    obtain ⟨vs, hv, hr⟩ := h
    exact ⟨vs, hv, RepL.flat cells vs hc hr⟩
  | .tup cells, v, hc, h => by
    simp only [Ab.flat] at hc
    simp only [RepV] at h ⊢
    obtain ⟨vs, hv, hr⟩ := h
    exact ⟨vs, hv, RepL.flat cells vs hc hr⟩
  | .fn _ _ _, v, hc, h => by simp [Ab.flat] at hc
  | .new _ _ _, v, hc, h => by simp [RepV] at h
theorem RepL.flat {X1 X2 : Nat → Prop} {β1 β2 : List Base} : ∀ (ps : List PV) (vs : List Value), flatL ps = true → RepL X1 β1 w ps vs → RepL X2 β2 w ps vs
  | [], vs, _, h => by simpa [RepL] using h
  | p :: ps, vs, hc, h => by
    simp only [flatL, Bool.and_eq_true] at hc
    simp only [RepL] at h ⊢
    obtain ⟨v, r, hv, h1, h2⟩ := h
    exact ⟨v, r, hv, RepV.flat p v hc.1 h1, RepL.flat ps r hc.2 h2⟩
end
theorem RepRow.flat {X1 X2 : Nat → Prop} {β1 β2 : List Base} {b off : Nat} {ps : List PV} (hf : flatL ps = true) (h : RepRow X1 β1 w b off ps) : RepRow X2 β2 w b off ps := by
  rw [RepRow.iff] at h ⊢
  intro i p hp
  obtain ⟨v, h1, h2, h3⟩ := h i p hp
  exact ⟨v, h1, h2, RepV.flat p v (flatL_iff.1 hf p (List.mem_of_getElem? hp)) h3⟩
def dro (L : LH) : Nat → PV → PV
  | 0, p => p
  | n + 1, .own id off k sz => .ro k ((slc L (.own id off k sz)).2.2.map (dro L n))
  | n + 1, .agg cs => .agg (cs.map (dro L n))
  | _, .ptr id off => match L[id]? with
    | some (.cells cs) => .rptr (cs.drop off)
    | _ => .ptr id off
  | _, p => p
def droOk (L : LH) : Nat → PV → Prop
  | 0, _ => True
  | n + 1, .own id off k sz => (slc L (.own id off k sz)).1 ∧ ∀ q ∈ (slc L (.own id off k sz)).2.2, droOk L n q
  | n + 1, .agg cs => ∀ q ∈ cs, droOk L n q
  | _, _ => True
theorem dro_rep {X2 : Nat → Prop} (hH : RepH X β w L) (hX : ∀ b, X2 b → X b ∨ (Live β b ∧ False)) : ∀ (n : Nat) (p : PV) (v : Value), RepV X β w p v → droOk L n p → closed (dro L n p) = true → RepV X2 [] w (dro L n p) v
  | 0, p, v, h, _, hc => by
    simp only [dro] at hc ⊢
    exact RepV.anti (fun b hb => by rcases hb with hb | ⟨i, x, hb⟩; rcases hX b hb with h | h; exact .inl h; exact h.2.elim; simp at hb) p v hc h
  | n + 1, p, v, h, hok, hc => by
    have base : closed p = true → RepV X2 [] w p v := fun hc => RepV.anti (fun b hb => by rcases hb with hb | ⟨i, x, hb⟩; rcases hX b hb with h | h; exact .inl h; exact h.2.elim; simp at hb) p v hc h
    cases p with
    | own id off k sz =>
      simp only [dro, droOk, closed] at hok hc ⊢
      obtain ⟨a, cap, hv, hn, hcs⟩ := slc_rep hok.1 hH h
      have hk : (slc L (.own id off k sz)).2.1 = k := by
        have := hok.1
        simp only [slc] at this ⊢
        split at this
        · rename_i cs hL; simp [hL]
        · exact this.elim
      rw [hk] at hv hn
      simp only [RepV]
      refine ⟨a, cap, hv, hn, ?_⟩
      rcases hcs with hcs | ⟨b, o, ha, hr⟩
      · left; rw [hcs]; rfl
      · by_cases he : (slc L (.own id off k sz)).2.2 = []
        · left; rw [he]; rfl
        · right
          have hlive : Live β b := by
            have := hok.1
            simp only [slc] at this
            split at this
            · rename_i cs hL
              rcases own_slice hH hL h with ⟨_, e, _⟩ | ⟨b', base', c, el, cap', e1, e2, _⟩
              · rw [hv] at e; cases e; cases ha
              · rw [hv, ha] at e2; cases e2; exact ⟨id, base', e1⟩
            · exact this.elim
          refine ⟨b, o, ha, fun hx => ?_, fun ⟨i, x, hb⟩ => by simp at hb, ?_⟩
          · rcases hX b hx with h | h
            · exact (hH.out b h).2 hlive
            · exact h.2
          · rw [RepRow.iff] at hr ⊢
            intro i q hq
            rw [List.getElem?_map, Option.map_eq_some_iff] at hq
            obtain ⟨q', hq', rfl⟩ := hq
            obtain ⟨u, e1, e2, e3⟩ := hr i q' hq'
            have hm := List.mem_of_getElem? hq'
            exact ⟨u, e1, e2, dro_rep hH hX n q' u e3 (hok.2 q' hm) (closedL_iff.1 hc _ (List.mem_map_of_mem hm))⟩
    | agg cs =>
      simp only [dro, droOk, closed] at hok hc ⊢
      simp only [RepV] at h ⊢
      obtain ⟨vs, hv, hr⟩ := h
      refine ⟨vs, hv, ?_⟩
      rw [RepL.iff] at hr ⊢
      refine ⟨by simp [hr.1], fun i q u hq hu => ?_⟩
      rw [List.getElem?_map, Option.map_eq_some_iff] at hq
      obtain ⟨q', hq', rfl⟩ := hq
      have hm := List.mem_of_getElem? hq'
      exact dro_rep hH hX n q' u (hr.2 i q' u hq' hu) (hok q' hm) (closedL_iff.1 hc _ (List.mem_map_of_mem hm))
    | ptr id off =>
      simp only [dro] at hc ⊢
      split at hc
      · rename_i cs hL
        simp only [RepV] at h
        rcases hH.ent id cs hL with ⟨h1, _⟩ | ⟨b, base', c, el, h1, h2, h3, h4⟩
        · exact absurd h1 h.2.2.1
        · have := h.2.1 b base' h1
          subst this
          simp only [RepV]
          refine ⟨b, base' + off, rfl, .inr ⟨fun hx => ?_, fun ⟨i, x, hb⟩ => by simp at hb, ?_⟩⟩
          · rcases hX b hx with h | h
            · exact (hH.out b h).2 ⟨id, base', h1⟩
            · exact h.2
          · have hr : RepRow X β w b (base' + off) (cs.drop off) := by
              have := row_sub h4 off cs.length
              rwa [List.take_of_length_le (by simp)] at this
            exact RepRow.anti (fun b hb => by rcases hb with hb | ⟨i, x, hb⟩; rcases hX b hb with h | h; exact .inl h; exact h.2.elim; simp at hb) b _ _ hc hr
      · simp [closed] at hc
    | any => simpa [dro] using base rfl
    | lit u => simpa [dro] using base rfl
    | ro k cs => simp only [dro] at hc ⊢; exact base hc
    | rptr cs => simp only [dro] at hc ⊢; exact base hc
    | tup cs => simp only [dro] at hc ⊢; exact base hc
    | fn f a b => simp only [dro] at hc ⊢; exact base hc
    | new a b c => simp [dro, closed] at hc
def NewRow (X : Nat → Prop) (w w' : World) (n sz : Nat) (cs : List PV) (v : Value) : Prop :=
  (v = .slice none 0 0 ∧ n = 0 ∧ cs = []) ∨
  ∃ b off cap c el, v = .slice (some ⟨b, off, none⟩) n cap ∧ n ≤ cap ∧ w.heap.size ≤ b ∧ w'.heap[b]? = some (.cells c el (0, 0)) ∧ off + cap * sz ≤ c.size ∧ off + cs.length ≤ c.size ∧
    closedL cs = true ∧ RepRow (fun x => X x ∨ x = b) [] w' b off cs
def blockOf : Value → Nat → Prop
  | .slice (some a) _ _, b => b = a.block
  | _, _ => False
def RepR (X : Nat → Prop) (w w' : World) : PV → Value → Prop
  | .new n sz cs, v => NewRow X w w' n sz cs v
  | .tup (.new n sz cs :: rs), v => ∃ v0 vs, v = .tuple (v0 :: vs).toArray ∧ NewRow X w w' n sz cs v0 ∧ closedL rs = true ∧ RepL (fun x => X x ∨ blockOf v0 x) [] w' rs vs
  | p, v => closed p = true ∧ RepV X [] w' p v
theorem closed_lits : ∀ (l : List Value), closedL (l.map .lit) = true
  | [] => rfl
  | v :: l => by simp [closedL, closed, closed_lits l]
theorem Globs.anti {X1 X2 : Nat → Prop} {β1 β2 : List Base} (hX : ∀ b, X2 b ∨ Live β2 b → X1 b ∨ Live β1 b) (h : Globs X1 β1 w) : Globs X2 β2 w := fun g =>
  RepV.anti hX _ _ (by simp only [closed, closed_lits]) (h g)
structure PureOk (P : Program) (f : FuncId) (S : List PV → Prop × PV) : Prop where
  run : ∀ args, (S args).1 → closedL args = true → ∀ (X : Nat → Prop) (w : World) (vs : List Value), (∀ b, X b → b < w.heap.size) → RepL X [] w args vs → Globs X [] w →
    Calls P f vs.toArray w fun e w' => ∃ v, e = .returned v ∧ Grow [] [] w w' ∧ RepR X w w' (S args).2 v
  call : (∃ args, (S args).1) → ∀ (vs : Array Value) (w : World), (callFunc f vs).run P w = .ok (.enter f vs) w
structure ExtOk (P : Program) (f : FuncId) (S : List PV → Prop × PV) : Prop where
  run : ∀ args, (S args).1 → ∀ (X : Nat → Prop) (β : List Base) (w : World) (vs : List Value), RepL X β w args vs →
    ∃ v, (callFunc f vs.toArray).run P w = .ok (.value v) w ∧ RepV X β w (S args).2 v
structure StOk (P : Program) (f : FuncId) (T : List PV → LH → OR) : Prop where
  run : ∀ args L, (T args L).pre → ∀ (X : Nat → Prop) (β : List Base) (w : World) (vs : List Value), RepL X β w args vs → RepH X β w L → Globs X β w →
    Calls P f vs.toArray w fun e w' => ∃ v β', e = .returned v ∧ RepV X β' w' (T args L).val v ∧ RepH X β' w' (T args L).L ∧ Grow β β' w w'
  call : (∃ args L, (T args L).pre) → ∀ (vs : Array Value) (w : World), (callFunc f vs).run P w = .ok (.enter f vs) w
inductive Entry where
  | none
  | pure (S : List PV → Prop × PV)
  | ext (S : List PV → Prop × PV)
  | st (T : List PV → LH → OR)
structure Con where
  tab : FuncId → Entry
  pin : Nat := 0
def borrow (L : LH) (p : PV) : PV := bif closed p then p else dro L 4 p
def borrowOk (L : LH) (p : PV) : Prop := closed p = true ∨ (droOk L 4 p ∧ closed (dro L 4 p) = true)
theorem borrow_rep {p : PV} {v : Value} (hH : RepH X β w L) (h : RepV X β w p v) (hok : borrowOk L p) : RepV X [] w (borrow L p) v ∧ closed (borrow L p) = true := by
  unfold borrow
  cases hc : closed p with
  | true =>
    refine ⟨?_, by simpa using hc⟩
    simp only [cond_true]
    exact RepV.anti (fun b hb => by rcases hb with hb | ⟨i, x, hb⟩; exact .inl hb; simp at hb) p v hc h
  | false =>
    rcases hok with hok | ⟨hok, hc2⟩
    · rw [hc] at hok; cases hok
    · exact ⟨dro_rep hH (fun b hb => .inl hb) 4 p v h hok hc2, hc2⟩
theorem borrow_plain {Y : Nat → Prop} {p : PV} {v : Value} (hc : closed p = true) (h : RepV X β w p v) (hY : ∀ b, Y b → X b ∨ Live β b) : RepV Y [] w (borrow L p) v ∧ closed (borrow L p) = true := by
  unfold borrow
  rw [hc]
  simp only [cond_true]
  exact ⟨RepV.anti (fun b hb => by rcases hb with hb | ⟨i, x, hb⟩; exact hY b hb; simp at hb) p v hc h, hc⟩
def adopt (draw : Bool) (p : PV) (L : LH) : PV × LH :=
  match p with
  | .new n sz cs => fresh draw n sz cs L
  | .tup (.new n sz cs :: rs) => (.tup ((fresh draw n sz cs L).1 :: rs), (fresh draw n sz cs L).2)
  | p => (p, L)
def pureF (S : List PV → Prop × PV) (draw : Bool) (args : List PV) (L : LH) : OR :=
  ⟨(S (args.map (borrow L))).1 ∧ (∀ p ∈ args, borrowOk L p) ∧ (closedL args = true ∨ flat (S (args.map (borrow L))).2 = true), (adopt draw (S (args.map (borrow L))).2 L).1, (adopt draw (S (args.map (borrow L))).2 L).2⟩
def callF (Γ : Con) (draw : Bool) (g : FuncId) (args : List PV) (L : LH) : OR :=
  match Γ.tab g with
  | .none => .bad
  | .pure S => pureF S draw args L
  | .ext S => ⟨(S args).1, (S args).2, L⟩
  | .st T => bif draw then .bad else T args L
def convG (P : Program) (draw : Bool) (src dst : TypeId) (x : PV) (L : LH) : OR :=
  match draw, x with
  | false, .own id off n sz => match tyOf P src, tyOf P dst with
    | some ⟨.slice _, _, _, _⟩, some ⟨.slice e, _, _, _⟩ => match tyOf P e with
      | some ⟨.int .u8, 1, _, _⟩ => ⟨src = dst ∧ 0 < n ∧ sz = 1 ∧ (slc L (.own id off n sz)).1 ∧ closedL (slc L (.own id off n sz)).2.2 = true, .ro n (slc L (.own id off n sz)).2.2, L.set id .dead⟩
      | _ => .bad
    | _, _ => convF P src dst (.own id off n sz) L
  | _, x => convF P src dst x L
theorem convG_draw {src dst : TypeId} {x : PV} : convG P true src dst x L = convF P src dst x L := rfl
theorem convG_goes {draw : Bool} (src dst : TypeId) (x : PV) (vx : Value) (hpre : (convG P draw src dst x L).pre) (hH : RepH X β w L) (hx : RepV X β w x vx) :
    Goes P X β w L draw (convert src dst vx) (convG P draw src dst x L) := by
  unfold convG at hpre ⊢
  split at hpre
  case h_2 => exact convF_goes src dst x vx hpre hH hx
  rename_i id off n sz
  split at hpre
  case h_2 => exact convF_goes src dst _ vx hpre hH hx
  rename_i e0 _ _ _ e _ _ _ hS hD
  try simp only [hS, hD] at hpre ⊢
  split at hpre
  case h_2 => exact absurd hpre (by simp [OR.bad])
  rename_i _ _ hE
  try simp only [hE] at hpre ⊢
  obtain ⟨rfl, hn, rfl, hok, hcl⟩ := hpre
  obtain ⟨uS, _⟩ := tyOf_spec hS
  have uD := hD
  rw [hS] at hD
  cases hD
  obtain ⟨ue, _⟩ := tyOf_spec hE
  obtain ⟨cs, hL, hle⟩ : ∃ cs, L[id]? = some (.cells cs) ∧ off + n * 1 ≤ cs.length := by
    have := hok
    unfold slc at this
    simp only at this
    split at this
    · rename_i cs h; exact ⟨cs, h, this⟩
    · exact this.elim
  have hsl : (slc L (.own id off n 1)).2.2 = (cs.drop off).take (n * 1) := by simp [slc, hL]
  rw [hsl] at hcl ⊢
  rcases own_slice hH hL hx with ⟨_, _, h3, _⟩ | ⟨b, base, c, el, cap, h1, rfl, hcap, h2, h3, h4, h5⟩
  · omega
  have hlb : Live β b := ⟨id, base, h1⟩
  have hrun : (convert src src (.slice (some ⟨b, base + off, none⟩) n cap)).run P w = .ok (.slice (some ⟨b, base + off, none⟩) n cap) (w.freeze ⟨b, c.size, none⟩ 1) := by
    have hsh : w.shape? b = some (el, c.size) := by unfold World.shape?; rw [h2]
    simp [convert, run_underlying uS, run_underlying ue, markStringish, hsh]
  have hbs : b < w.heap.size := hH.lt b hlb
  have hb' : (w.freeze ⟨b, c.size, none⟩ 1).heap[b]? = some (.cells c el (c.size, c.size + 1)) := by
    unfold World.freeze
    rw [if_neg (by decide)]
    simp only [Array.getElem?_modify, if_true, h2, Option.map_some]
    rfl
  have ho' : ∀ k, k ≠ b → (w.freeze ⟨b, c.size, none⟩ 1).heap[k]? = w.heap[k]? := by
    intro k hk
    unfold World.freeze
    rw [if_neg (by decide)]
    simp only [Array.getElem?_modify, if_neg (Ne.symm hk)]
  have hs' : (w.freeze ⟨b, c.size, none⟩ 1).heap.size = w.heap.size := by
    unfold World.freeze
    rw [if_neg (by decide)]
    simp
  have hos : (w.freeze ⟨b, c.size, none⟩ 1).os = w.os ∧ (w.freeze ⟨b, c.size, none⟩ 1).tape = w.tape ∧ (w.freeze ⟨b, c.size, none⟩ 1).output = w.output := by
    unfold World.freeze
    rw [if_neg (by decide)]
    exact ⟨rfl, rfl, rfl⟩
  generalize w.freeze ⟨b, c.size, none⟩ 1 = w' at hrun hb' ho' hs' hos
  have hcell : ∀ a : Addr, w'.cell? a = w.cell? a := by
    intro a
    unfold World.cell?
    by_cases h : a.block = b
    · rw [h, hb', h2]
    · rw [ho' _ h]
  obtain ⟨hk, g0⟩ := repH_kill hH id
  have hnl : ¬ Live (β.set id .dead) b := by
    rintro ⟨j, y, hj⟩
    rw [List.getElem?_set] at hj
    split at hj
    · split at hj <;> cases hj
    · rename_i hne
      exact hne (hH.inj j id b y base hj h1).symm
  have g : Grow β (β.set id .dead) w w' := by
    refine ⟨hos.1, hos.2.1, hos.2.2, by rw [hs']; exact Nat.le_refl _, fun k hk2 hl => ho' k (fun e => hl (e ▸ hlb)), fun k d e2 fr h => ?_, fun x hx2 => g0.live x hx2, g0.len, g0.keep⟩
    by_cases hkb : k = b
    · subst hkb
      rw [h2] at h; cases h
      exact ⟨c, _, hb', rfl⟩
    · exact ⟨d, fr, by rw [ho' k hkb]; exact h, rfl⟩
  refine ⟨_, w', β.set id .dead, hrun, ?_, ?_, g, fun h => by cases h⟩
  · simp only [RepV]
    refine ⟨_, cap, rfl, hcap, .inr ⟨b, base + off, rfl, fun hx2 => (hH.out b hx2).2 hlb, hnl, ?_⟩⟩
    have hr := row_sub h5 off (n * 1)
    rw [RepRow.iff] at hr ⊢
    intro i p hp
    obtain ⟨v, hv, ho, hrv⟩ := hr i p hp
    exact ⟨v, by rw [hcell]; exact hv, ho, hrv.grow g⟩
  · refine ⟨hk.len, hk.inj, fun x hx2 => by rw [hs']; exact hk.lt x hx2, fun x hx2 => by rw [hs']; exact hk.out x hx2, fun j ds hj => ?_⟩
    have hj0 := hj
    rw [List.getElem?_set] at hj
    split at hj
    · split at hj <;> cases hj
    · rename_i hne
      rcases hH.ent j ds hj with ⟨e1, e2⟩ | ⟨b', base', c2, el', e1, e2, e3, e4⟩
      · exact .inl ⟨by rw [List.getElem?_set_ne hne]; exact e1, e2⟩
      · have hbb : b' ≠ b := fun e => hne (hH.inj j id b' base' base e1 (e ▸ h1)).symm
        refine .inr ⟨b', base', c2, el', by rw [List.getElem?_set_ne hne]; exact e1, by rw [ho' b' hbb]; exact e2, e3, ?_⟩
        rw [RepRow.iff] at e4 ⊢
        intro i p hp
        obtain ⟨v, hv, ho, hrv⟩ := e4 i p hp
        exact ⟨v, by rw [hcell]; exact hv, ho, hrv.grow g⟩
def minF (x y : PV) (L : LH) : OR :=
  match x, y with
  | .lit (.int k a), .lit (.int _ b) => ⟨True, .lit (.int k (if b < a then b else a)), L⟩
  | _, _ => .bad
def maxF (x y : PV) (L : LH) : OR :=
  match x, y with
  | .lit (.int k a), .lit (.int _ b) => ⟨True, .lit (.int k (if a < b then b else a)), L⟩
  | _, _ => .bad
set_option backward.match.sparseCases false in
def opF (P : Program) (Γ : Con) (draw : Bool) (ρ : Operand → PV) (L : LH) (op : Op) : OR :=
  match op with
  | .move x => ⟨True, ρ x, L⟩
  | .assign x => ⟨True, ρ x, L⟩
  | .alloc t => allocF P draw t L
  | .box _ x => boxF draw (ρ x) L
  | .buildSlice t len parts => buildSliceF P draw t len (parts.toList.map fun x => (x.1, ρ x.2)) L
  | .build t parts => buildF P t (parts.toList.map fun x => (x.1, ρ x.2)) L
  | .fieldAddr t x f => fieldAddrF P t (ρ x) f L
  | .load t a => loadF P t (ρ a) L
  | .store t a x => storeF P draw t (ρ a) (ρ x) L
  | .nilCheck x => match ρ x with
    | .rptr cs => ⟨True, .rptr cs, L⟩
    | .ptr id off => match L[id]? with
      | some (.cells _) => ⟨True, .ptr id off, L⟩
      | _ => .bad
    | _ => .bad
  | .binOp op t x y _ => binF P op t (ρ x) (ρ y) L
  | .unOp op _ x => unF op (ρ x) L
  | .convert src dst x => convG P draw src dst (ρ x) L
  | .makeSlice t l c => makeF P draw t (ρ l) (ρ c) L
  | .slice t x lo hi mx => sliceF P t (ρ x) (lo.map ρ) (hi.map ρ) (mx.map ρ) L
  | .indexAddr t x i => indexAddrF P t (ρ x) (ρ i) L
  | .index t x i => indexF P t (ρ x) (ρ i) L
  | .field t x f => fieldF P t (ρ x) f L
  | .extract x i => extractF (ρ x) i L
  | .sliceToArrayPointer t x => arrF P t (ρ x) L
  | .makeFunc (.func g) first captured => ⟨True, .fn (.func g) (first.toList.map ρ) (captured.toList.map ρ), L⟩
  | .call c => match c.callee, c.args.toList, c.argTypes.toList with
    | .builtin .len, [x], [t] => lenF P t (ρ x) L
    | .builtin .cap, [x], [t] => capF P t (ρ x) L
    | .builtin .min, [x, y], [_t, _t2] => minF (ρ x) (ρ y) L
    | .builtin .max, [x, y], [_t, _t2] => maxF (ρ x) (ρ y) L
    | .builtin .append, [s, x], [t, t2] => appF P draw t t2 (ρ s) (ρ x) L
    | .builtin .copy, [d, s], [t, t2] => copyF P draw t (ρ d) (ρ s) L
    | .value (.func g), _, _ => callF Γ draw g (c.args.toList.map ρ) L
    | _, _, _ => .bad
  | _ => .bad
end Go.Ab
namespace Go.Ab
open Go Go.RowKit
set_option linter.unusedVariables false
set_option linter.unusedSimpArgs false
def FF : Option Nat → Fence
  | none => Fence.wide
  | some l => Fence.wide.inRound l
theorem FF_fn (r : Option Nat) (f : FuncId) : (FF r).fn f := by cases r <;> trivial
theorem FF_depth (r : Option Nat) : (FF r).depth = none := by cases r <;> rfl
theorem FF_le {r : Option Nat} {n : Nat} : (FF r).depth.isSome = true → 1 ≤ n := fun h => by rw [FF_depth] at h; cases h
variable {P : Program} {rr : Option Nat}
theorem calls_FF {n : Nat} {f : FuncId} {args : Array Value} {w : World} {R : Ending → World → Prop} (h : Calls P f args w R) : CallsIn (FF rr) n P f args w R := by
  cases rr with
  | none => exact callsIn_wide.2 h
  | some l => exact CallsIn.inRound l (callsIn_wide.2 h)
section
variable {o : Oper} {a : Act} {w w' : World} {next : Act → World → Prop} {Q : Exit → Act → World → Prop}
theorem op_value {v : Value} (hnd : ∀ c, o.op ≠ .defer c) (hx : (execOp a.eval o).run P w = .ok (.value v) w') (h : next (a.put o.dst v) w') : o.wpIn (FF rr) 0 P a w next Q :=
  ⟨fun f _ => FF_fn rr f, by rw [Oper.semAt_eq _ _ _ hnd, hx]; exact h⟩
theorem op_skip (hnd : ∀ c, o.op ≠ .defer c) (hx : (execOp a.eval o).run P w = .ok .skip w') (h : next (a.put o.dst undef) w') : o.wpIn (FF rr) 0 P a w next Q :=
  ⟨fun f _ => FF_fn rr f, by rw [Oper.semAt_eq _ _ _ hnd, hx]; exact h⟩
theorem op_enter {f : FuncId} {args : Array Value} (hnd : ∀ c, o.op ≠ .defer c) (hx : (execOp a.eval o).run P w = .ok (.enter f args) w') (h : Calls P f args w' fun
      | .returned v, w'' => next (a.put o.dst v) w''
      | .panicked chain, w'' => Q (.panic chain) a w''
      | .outgrown, _ => LetsOut Q) : o.wpIn (FF rr) 0 P a w next Q :=
  ⟨fun f _ => FF_fn rr f, by rw [Oper.semAt_eq _ _ _ hnd, hx]; exact ⟨FF_le, calls_FF h⟩⟩
end
section
variable {F : Fence} {n : Nat} {b : Frame} {a : Act} {k : List Item} {cs : List Frame} {w : World} {Q : Exit → Act → World → Prop}
theorem stepR_scope {c : Code} : step P (lone (b.atR a (.code (.scope c) :: k)) cs w) = .next (lone (b.atR a (.code c :: .inScope c :: k)) cs w) :=
  step_lone_go (by simp [stepG, stepG.exec, Frame.atR])
theorem stepR_inScope {c : Code} : step P (lone (b.atR a (.inScope c :: k)) cs w) = .next (lone (b.atR a k) cs w) :=
  step_lone_go (by simp [stepG, stepG.exec, Frame.atR])
theorem wpIn_scope_straight {c : Code} (h : c.wpIn F n P (Exit.noGoto Q) a w) : (Code.scope c).wpIn F n P Q a w := by
  intro b k cs hro hb hr
  have h0 : (lone (b.atR a (.code (.scope c) :: k)) cs w).fenced P F := fenced_calm hb hr rfl
  obtain ⟨e, a₁, w₁, hq, harr⟩ := h b (.inScope c :: k) cs hro hb hr
  cases e with
  | normal => exact ⟨.normal, a₁, w₁, hq, .head h0 stepR_scope (StepsIn.trans harr (.one (fenced_calm hb hr rfl) stepR_inScope))⟩
  | exit id =>
    have hx : exitTo id (.inScope c :: k) = exitTo id k := by simp [exitTo]
    exact ⟨.exit id, a₁, w₁, hq, fun k' hk => .head h0 stepR_scope (harr.1 k' (by rw [hx]; exact hk)),
      fun hr' hk => let ⟨k₁, h1, h2⟩ := harr.2 hr' (by rw [hx]; exact hk); ⟨k₁, h1, .head h0 stepR_scope h2⟩⟩
  | goto l => exact hq.elim
  | ret => exact ⟨_, a₁, w₁, hq, .of_steps (.one h0 stepR_scope) harr⟩
  | panic ch => exact ⟨_, a₁, w₁, hq, .of_steps (.one h0 stepR_scope) harr⟩
  | outgrown => exact ⟨_, a₁, w₁, hq, .of_steps (.one h0 stepR_scope) harr⟩
end
end Go.Ab
namespace Go.Ab
open Go Go.RowKit
set_option linter.unusedVariables false
set_option linter.unusedSimpArgs false
variable {P : Program} {Γ : Con} {X : Nat → Prop} {β : List Base} {w : World} {L : LH} {N B : Nat} {rr : Option Nat}
theorem grow_of_nil {w' : World} (g : Grow [] [] w w') : Grow β β w w' :=
  ⟨g.os, g.tape, g.output, g.size, fun k hk _ => g.block k hk (fun ⟨i, x, h⟩ => by simp at h), g.shape, fun _ h => .inl h, Nat.le_refl _, fun _ _ _ h _ => h⟩
theorem same_of_nil {w' : World} (g : Grow [] [] w w') : ∀ k, k < w.heap.size → w'.heap[k]? = w.heap[k]? := fun k hk => g.block k hk (fun ⟨i, x, h⟩ => by simp at h)
theorem repL_borrow {ps : List PV} {vs : List Value} (hH : RepH X β w L) (h : RepL X β w ps vs) (hok : ∀ p ∈ ps, borrowOk L p) : RepL X [] w (ps.map (borrow L)) vs ∧ closedL (ps.map (borrow L)) = true := by
  rw [RepL.iff] at h
  constructor
  · rw [RepL.iff]
    refine ⟨by simp [h.1], fun i p v hp hv => ?_⟩
    rw [List.getElem?_map, Option.map_eq_some_iff] at hp
    obtain ⟨q, hq, rfl⟩ := hp
    exact (borrow_rep hH (h.2 i q v hq hv) (hok q (List.mem_of_getElem? hq))).1
  · rw [closedL_iff]
    intro p hp
    rw [List.mem_map] at hp
    obtain ⟨q, hq, rfl⟩ := hp
    obtain ⟨i, hi⟩ := List.getElem?_of_mem hq
    have hlt : i < vs.length := by rw [h.1]; exact (List.getElem?_eq_some_iff.1 hi).1
    exact (borrow_rep hH (h.2 i q vs[i] hi (by simp [hlt])) (hok q hq)).2
theorem repL_plain {Y : Nat → Prop} {ps : List PV} {vs : List Value} (hc : closedL ps = true) (h : RepL X β w ps vs) (hY : ∀ b, Y b → X b ∨ Live β b) : RepL Y [] w (ps.map (borrow L)) vs := by
  rw [closedL_iff] at hc
  rw [RepL.iff] at h ⊢
  refine ⟨by simp [h.1], fun i p v hp hv => ?_⟩
  rw [List.getElem?_map, Option.map_eq_some_iff] at hp
  obtain ⟨q, hq, rfl⟩ := hp
  exact (borrow_plain (hc q (List.mem_of_getElem? hq)) (h.2 i q v hq hv) hY).1
theorem live_nil {b : Nat} : ¬ Live [] b := fun ⟨i, x, h⟩ => by simp at h
theorem newRow_adopt {draw : Bool} {Y : Nat → Prop} {w' : World} {n sz : Nat} {cs : List PV} {v : Value} (hH : RepH X β w L) (g : Grow [] [] w w') (h : NewRow Y w w' n sz cs v) (hY : (∀ b, X b ∨ Live β b → Y b) ∨ flatL cs = true) :
    ∃ β', RepV X β' w' (fresh draw n sz cs L).1 v ∧ RepH X β' w' (fresh draw n sz cs L).2 ∧ Grow β β' w w' ∧ (draw = true → β' = β ∧ (fresh draw n sz cs L).2 = L) ∧ (∀ b, Live β' b → Live β b ∨ blockOf v b) := by
  have hH' := hH.same (grow_of_nil g) (same_of_nil g)
  rcases h with ⟨rfl, rfl, rfl⟩ | ⟨b, off, cap, c, el, rfl, hn, hb, hw, hcap, hoff, hcl, hr⟩
  · cases draw with
    | false =>
      refine ⟨β ++ [.nil], ?_, repH_nil (sz := 0) hH', (grow_of_nil g).trans grow_nil, (fun e => by cases e), fun b hb => ?_⟩
      · simp only [fresh, RepV]
        refine ⟨by simp [hH.len], fun b base hb => ?_, fun _ => by simp, rfl⟩
        rw [List.getElem?_append_right (by rw [hH.len]; exact Nat.le_refl _)] at hb
        simp [hH.len] at hb
      · rcases live_snoc hb with h | ⟨_, h⟩
        · exact .inl h
        · cases h
    | true =>
      refine ⟨β, ?_, hH', grow_of_nil g, fun _ => ⟨rfl, rfl⟩, fun b hb => .inl hb⟩
      simp only [fresh, RepV]
      exact ⟨none, 0, rfl, Nat.le_refl _, .inl rfl⟩
  · have hnX : ¬ X b := fun hx => by have := (hH.out b hx).1; omega
    have hnl : ¬ Live β b := fun hl => by have := hH.lt b hl; omega
    cases draw with
    | true =>
      refine ⟨β, ?_, hH', grow_of_nil g, fun _ => ⟨rfl, rfl⟩, fun b hb => .inl hb⟩
      simp only [fresh, RepV]
      refine ⟨_, cap, rfl, hn, .inr ⟨b, off, rfl, hnX, hnl, ?_⟩⟩
      rcases hY with hY | hY
      · exact RepRow.anti (fun x hx => .inl (.inl (hY x hx))) b cs off hcl hr
      · exact RepRow.flat hY hr
    | false =>
      have g2 : Grow β (β ++ [.blk b off]) w w' := by
        have g1 := grow_of_nil (β := β) g
        refine ⟨g1.os, g1.tape, g1.output, g1.size, g1.block, g1.shape, fun d hd => ?_, by simp, fun id x hid hx _ => by rw [List.getElem?_append_left hid] at hx; exact hx⟩
        rcases live_snoc hd with h | ⟨base, h⟩
        · exact .inl h
        · cases h; exact .inr hb
      have hrow : RepRow X (β ++ [.blk b off]) w' b off cs := by
        rcases hY with hY | hY
        · refine RepRow.anti (fun x hx => ?_) b cs off hcl hr
          rcases hx with hx | hx
          · exact .inl (.inl (hY x (.inl hx)))
          · rcases live_snoc hx with h | ⟨base, h⟩
            · exact .inl (.inl (hY x (.inr h)))
            · cases h; exact .inl (.inr rfl)
        · exact RepRow.flat hY hr
      refine ⟨β ++ [.blk b off], ?_, ?_, g2, (fun e => by cases e), fun d hd => ?_⟩
      · simp only [fresh, RepV]
        refine ⟨by simp [hH.len], fun b' base' hb' => ?_, fun hb' => ?_, rfl⟩
        · rw [List.getElem?_append_right (by rw [hH.len]; exact Nat.le_refl _)] at hb'
          simp [hH.len] at hb'
          obtain ⟨rfl, rfl⟩ := hb'
          exact ⟨cap, rfl, hn, c, el, _, hw, by omega⟩
        · rw [List.getElem?_append_right (by rw [hH.len]; exact Nat.le_refl _)] at hb'
          simp [hH.len] at hb'
      · refine ⟨by simp [fresh, hH.len], ?_, ?_, ?_, ?_⟩
        · intro i j d x y hi hj
          rw [List.getElem?_append] at hi hj
          split at hi <;> split at hj
          · exact hH.inj i j d x y hi hj
          · rw [List.getElem?_singleton] at hj
            split at hj
            · simp at hj
              exact absurd ⟨i, x, hj.1 ▸ hi⟩ hnl
            · cases hj
          · rw [List.getElem?_singleton] at hi
            split at hi
            · simp at hi
              exact absurd ⟨j, y, hi.1 ▸ hj⟩ hnl
            · cases hi
          · rw [List.getElem?_singleton] at hi hj
            split at hi <;> split at hj <;> first | (cases hi; done) | (cases hj; done) | omega
        · intro d hd
          rcases live_snoc hd with h | ⟨base, h⟩
          · exact hH'.lt d h
          · cases h; exact (Array.getElem?_eq_some_iff.1 hw).1
        · intro d hd
          refine ⟨(hH'.out d hd).1, fun hl => ?_⟩
          rcases live_snoc hl with h | ⟨base, h⟩
          · exact (hH.out d hd).2 h
          · cases h; exact hnX hd
        · intro id ds hid
          simp only [fresh] at hid
          rw [if_neg (by simp)] at hid
          rw [List.getElem?_append] at hid
          split at hid
          · rename_i hlt
            rcases hH'.ent id ds hid with ⟨e1, e2⟩ | ⟨b', base', c', el', e1, e2, e3, e4⟩
            · exact .inl ⟨by rw [List.getElem?_append_left (by rw [hH.len]; exact hlt)]; exact e1, e2⟩
            · refine .inr ⟨b', base', c', el', by rw [List.getElem?_append_left (by rw [hH.len]; exact hlt)]; exact e1, e2, e3, ?_⟩
              rcases hH.ent id ds hid with ⟨f1, _⟩ | ⟨b5, base5, c5, el5, f1, f2, f3, f4⟩
              · rw [e1] at f1; cases f1
              · rw [e1] at f1; cases f1
                rw [RepRow.iff] at f4 ⊢
                intro k p hp
                obtain ⟨u, hu, ho, hr2⟩ := f4 k p hp
                exact ⟨u, by rw [← hu]; exact World.cell?_of_block (same_of_nil g b' (hH.lt b' ⟨id, base', e1⟩)), ho, hr2.grow g2⟩
          · rename_i hge
            rw [List.getElem?_singleton] at hid
            split at hid
            · simp at hid
              subst hid
              refine .inr ⟨b, off, c, el, ?_, hw, hoff, hrow⟩
              rw [List.getElem?_append_right (by rw [hH.len]; omega)]
              rw [show id - β.length = 0 by rw [hH.len]; omega]
              rfl
            · cases hid
      · rcases live_snoc hd with h | ⟨base, h⟩
        · exact .inl h
        · cases h; exact .inr rfl
theorem adopt_rep {draw : Bool} {Y : Nat → Prop} {w' : World} {r : PV} {v : Value} (hH : RepH X β w L) (g : Grow [] [] w w') (h : RepR Y w w' r v) (hY : (∀ b, X b ∨ Live β b → Y b) ∨ flat r = true) :
    ∃ β', RepV X β' w' (adopt draw r L).1 v ∧ RepH X β' w' (adopt draw r L).2 ∧ Grow β β' w w' ∧ (draw = true → β' = β ∧ (adopt draw r L).2 = L) := by
  have plain : closed r = true → RepV Y [] w' r v → ∃ β', RepV X β' w' r v ∧ RepH X β' w' L ∧ Grow β β' w w' ∧ (draw = true → β' = β ∧ L = L) := by
    intro hc hr
    refine ⟨β, ?_, hH.same (grow_of_nil g) (same_of_nil g), grow_of_nil g, fun _ => ⟨rfl, rfl⟩⟩
    rcases hY with hY | hY
    · exact RepV.anti (fun b hb => .inl (hY b hb)) r v hc hr
    · exact RepV.flat r v hY hr
  unfold adopt
  split
  · rename_i n sz cs
    simp only [RepR] at h
    obtain ⟨β', h1, h2, h3, h4, _⟩ := newRow_adopt (draw := draw) hH g h (hY.imp id (fun hf => by simpa [flat] using hf))
    exact ⟨β', h1, h2, h3, h4⟩
  · rename_i n sz cs rs
    simp only [RepR] at h
    obtain ⟨v0, vs, rfl, h0, hcl, hrs⟩ := h
    obtain ⟨β', h1, h2, h3, h4, h5⟩ := newRow_adopt (draw := draw) hH g h0 (hY.imp id (fun hf => by simp [flat, flatL] at hf; exact hf.1))
    refine ⟨β', ?_, h2, h3, h4⟩
    simp only [RepV, RepL]
    refine ⟨v0 :: vs, rfl, v0, vs, rfl, h1, ?_⟩
    rcases hY with hY | hY
    · refine RepL.anti (fun b hb => ?_) rs vs hcl hrs
      left
      rcases hb with hb | hb
      · exact .inl (hY b (.inl hb))
      · rcases h5 b hb with h | h
        · exact .inl (hY b (.inr h))
        · exact .inr h
    · simp [flat, flatL] at hY
      exact RepL.flat rs vs hY.2 hrs
  · rename_i hne1 hne2
    have : closed r = true ∧ RepV Y [] w' r v := by
      unfold RepR at h
      split at h
      · exact absurd rfl (hne1 _ _ _)
      · exact absurd rfl (hne2 _ _ _ _)
      · exact h
    exact plain this.1 this.2
def EntryOk (P : Program) (f : FuncId) : Entry → Prop
  | .none => True
  | .pure S => PureOk P f S
  | .ext S => ExtOk P f S
  | .st T => StOk P f T
def GammaOk (P : Program) (Γ : Con) : Prop := ∀ f, EntryOk P f (Γ.tab f)
def OpGoes (P : Program) (X : Nat → Prop) (β : List Base) (w : World) (L : LH) (draw : Bool) (o : Oper) (a : Act) (r : OR) : Prop :=
  ∀ (rr : Option Nat) (next : Act → World → Prop) (Q : Exit → Act → World → Prop),
    (∀ v w' β', RepV X β' w' r.val v → RepH X β' w' r.L → Grow β β' w w' → (draw = true → β' = β ∧ r.L = L) → next (a.put o.dst v) w') → o.wpIn (FF rr) 0 P a w next Q
theorem Goes.op {draw : Bool} {o : Oper} {a : Act} {m : Sem Value} {r : OR} (h : Goes P X β w L draw m r) (hx : (execOp a.eval o).run P w = (do pure (.value (← m)) : Sem Next).run P w) (hnd : ∀ c, o.op ≠ .defer c := by intro c h; cases h) : OpGoes P X β w L draw o a r := by
  intro rr next Q hn
  obtain ⟨v, w', β', h1, h2, h3, h4, h5⟩ := h
  refine op_value hnd (v := v) (w' := w') ?_ (hn v w' β' h2 h3 h4 h5)
  rw [hx]
  simp only [Sem.run_bind, h1, Result.andThen_ok, Sem.run_pure]
theorem repL_args {env : List (Nat × PV)} {a : Act} (hA : RepA N B X β w env a) (xs : List Operand) : RepL X β w (xs.map (evalIn env)) (xs.map a.eval) := by
  induction xs with
  | nil => simp [RepL]
  | cons x xs ih => simp only [List.map_cons, RepL]; exact ⟨_, _, rfl, hA.eval x, ih⟩
theorem repO_map {env : List (Nat × PV)} {a : Act} (hA : RepA N B X β w env a) (x : Option Operand) : RepO X β w (x.map (evalIn env)) (x.map a.eval) := by
  cases x with
  | none => trivial
  | some x => exact hA.eval x
theorem still_same {p : PV} {v : Value} (h : RepV X β w p v) : Still P X β w L (pure v) ⟨True, p, L⟩ := ⟨v, rfl, h, rfl⟩
theorem minF_still (ts : Array TypeId) (ty : TypeId) (x y : PV) {vx vy : Value} (hpre : (minF x y L).pre) (hx : RepV X β w x vx) (hy : RepV X β w y vy) :
    Still P X β w L (Builtin.min_ ts ty #[vx, vy]) (minF x y L) := by
  unfold minF at hpre ⊢
  split at hpre
  · simp only [RepV] at hx hy; subst hx; subst hy
    exact still_lit (by simp [Builtin.min_, Builtin.min2])
  · exact absurd hpre (by simp [OR.bad])
theorem maxF_still (ts : Array TypeId) (ty : TypeId) (x y : PV) {vx vy : Value} (hpre : (maxF x y L).pre) (hx : RepV X β w x vx) (hy : RepV X β w y vy) :
    Still P X β w L (Builtin.max_ ts ty #[vx, vy]) (maxF x y L) := by
  unfold maxF at hpre ⊢
  split at hpre
  · simp only [RepV] at hx hy; subst hx; subst hy
    exact still_lit (by simp [Builtin.max_, Builtin.max2])
  · exact absurd hpre (by simp [OR.bad])
theorem op_sound (hΓ : GammaOk P Γ) {draw : Bool} {o : Oper} {env : List (Nat × PV)} {a : Act} (hA : RepA N B X β w env a) (hH : RepH X β w L) (hpre : (opF P Γ draw (evalIn env) L o.op).pre) :
    OpGoes P X β w L draw o a (opF P Γ draw (evalIn env) L o.op) := by
  obtain ⟨dst, op, type, pos, after, guard⟩ := o
  cases op <;> (try simp only [opF] at hpre ⊢) <;> first | (exfalso; simp [OR.bad] at hpre; done) | skip
  case move x => exact Goes.op (Still.goes (still_same (hA.eval x)) hH) (by simp [execOp])
  case assign x => exact Goes.op (Still.goes (still_same (hA.eval x)) hH) (by simp [execOp])
  case alloc t => exact Goes.op (allocF_goes t hpre hH) rfl
  case box el x => exact Goes.op (boxF_goes el _ _ hpre hH (hA.eval x)) rfl
  case buildSlice t len parts =>
    have hgo := buildSliceF_goes (P := P) (X := X) (β := β) (w := w) (draw := draw) t len _ (parts.map fun (i, x) => (i, a.eval x)) hpre hH (by simp) (fun j i p hp => ?_)
    · exact Goes.op hgo (by unfold execOp; rfl)
    rw [List.getElem?_map, Option.map_eq_some_iff] at hp
    obtain ⟨⟨i', x⟩, hq, he⟩ := hp
    cases he
    exact ⟨a.eval x, by simp only [Array.getElem?_map]; rw [Array.getElem?_toList] at hq; rw [hq]; rfl, hA.eval x⟩
  case build t parts =>
    have hst := buildF_still (P := P) (X := X) (β := β) (w := w) t _ (parts.map fun (i, x) => (i, a.eval x)) hpre (by simp) (fun j i p hp => ?_)
    · exact Goes.op (hst.goes hH) (by unfold execOp; rfl)
    rw [List.getElem?_map, Option.map_eq_some_iff] at hp
    obtain ⟨⟨i', x⟩, hq, he⟩ := hp
    cases he
    exact ⟨a.eval x, by simp only [Array.getElem?_map]; rw [Array.getElem?_toList] at hq; rw [hq]; rfl, hA.eval x⟩
  case fieldAddr t x f => exact Goes.op ((fieldAddrF_still t _ f _ hpre hH (hA.eval x)).goes hH) rfl
  case load t x => exact Goes.op ((loadF_still t _ _ hpre hH (hA.eval x)).goes hH) rfl
  case store t p x =>
    obtain ⟨w', h1, h2, h3, h4, h5⟩ := storeF_runs t _ _ _ _ hpre hH (hA.eval p) (hA.eval x)
    intro rr next Q hn
    have hx : (execOp a.eval { dst, op := .store t p x, type, pos, after, guard }).run P w = .ok .skip w' := by
      simp [execOp, h1]
    refine op_skip (by intro c h; cases h) hx ?_
    exact hn _ w' β (by rw [h4]; simp [RepV]) h2 h3 (fun e => by rw [h5] at e; cases e)
  case nilCheck x =>
    have hx := hA.eval x
    split at hpre
    · rename_i cs hcs
      try simp only [hcs]
      rw [hcs] at hx
      have hx' := hx
      simp only [RepV] at hx
      obtain ⟨b, off, hv, _⟩ := hx
      refine Goes.op (Still.goes (still_same hx') hH) ?_
      simp [execOp, hv]
    · rename_i id off hcs
      try simp only [hcs]
      rw [hcs] at hx
      split at hpre
      · rename_i cs hL
        try simp only [hL]
        have hx' := hx
        simp only [RepV] at hx
        rcases hH.ent id cs hL with ⟨h1, _⟩ | ⟨b, base, c, el, h1, _⟩
        · exact absurd h1 hx.2.2.1
        · have hv := hx.2.1 b base h1
          refine Goes.op (Still.goes (still_same hx') hH) ?_
          simp [execOp, hv]
      · exact absurd hpre (by simp [OR.bad])
    · exact absurd hpre (by simp [OR.bad])
  case binOp op t x y yt => exact Goes.op ((binF_still op t x y _ _ _ _ hpre (hA.eval x) (hA.eval y)).goes hH) rfl
  case unOp op t x => exact Goes.op ((unF_still op _ _ hpre (hA.eval x)).goes hH) rfl
  case convert src dst' x => exact Goes.op (convG_goes src dst' _ _ hpre hH (hA.eval x)) rfl
  case makeSlice t l c => exact Goes.op (makeF_goes t _ _ _ _ hpre hH (hA.eval l) (hA.eval c)) rfl
  case slice t x lo hi mx => exact Goes.op ((sliceF_still t _ _ _ _ _ _ _ _ hpre hH (hA.eval x) (repO_map hA lo) (repO_map hA hi) (repO_map hA mx)).goes hH) rfl
  case indexAddr t x i => exact Goes.op ((indexAddrF_still t _ _ _ _ hpre hH (hA.eval x) (hA.eval i)).goes hH) rfl
  case index t x i => exact Goes.op ((indexF_still t _ _ _ _ hpre (hA.eval x) (hA.eval i)).goes hH) rfl
  case field t x f => exact Goes.op ((fieldF_still t _ f _ hpre (hA.eval x)).goes hH) rfl
  case sliceToArrayPointer t x => exact Goes.op ((arrF_still t _ _ hpre (hA.eval x)).goes hH) rfl
  case makeFunc fn first captured =>
    cases fn with
    | func g =>
      have hst : Still P X β w L (pure (.func (.func g) (first.map a.eval) (captured.map a.eval))) ⟨True, .fn (.func g) (first.toList.map (evalIn env)) (captured.toList.map (evalIn env)), L⟩ := by
        refine ⟨_, rfl, ?_, rfl⟩
        simp only [RepV]
        exact ⟨first.toList.map a.eval, captured.toList.map a.eval, (by simp only [← Array.toList_map, Array.toArray_toList]), repL_args hA _, repL_args hA _⟩
      exact Goes.op (hst.goes hH) (by unfold execOp; rfl)
    | _ => exact absurd hpre (by simp [OR.bad])
  case extract x i => exact Goes.op ((extractF_still _ i _ hpre (hA.eval x)).goes hH) rfl
  case call c =>
    obtain ⟨callee, ⟨args⟩, ⟨argTypes⟩⟩ := c
    simp only at hpre ⊢
    split at hpre
    · rename_i x t
      exact Goes.op ((lenF_still t type #[t] _ _ hpre hH (hA.eval x) rfl).goes hH) (by simp [execOp, resolve, invoke, builtin])
    · rename_i x t
      exact Goes.op ((capF_still t type #[t] _ _ hpre (hA.eval x) rfl).goes hH) (by simp [execOp, resolve, invoke, builtin])
    · rename_i x y t t2
      exact Goes.op ((minF_still #[t, t2] type _ _ hpre (hA.eval x) (hA.eval y)).goes hH) (by simp [execOp, resolve, invoke, builtin])
    · rename_i x y t t2
      exact Goes.op ((maxF_still #[t, t2] type _ _ hpre (hA.eval x) (hA.eval y)).goes hH) (by simp [execOp, resolve, invoke, builtin])
    · rename_i s x t t2
      exact Goes.op (appF_goes t t2 type _ _ _ _ hpre hH (hA.eval s) (hA.eval x)) (by simp [execOp, resolve, invoke, builtin])
    · rename_i d s t t2
      exact Goes.op (copyF_goes t t2 type _ _ _ _ hpre hH (hA.eval d) (hA.eval s)) (by simp [execOp, resolve, invoke, builtin])
    · skip
      rename_i g
      simp only [callF] at hpre ⊢
      have hok := hΓ g
      cases hE : Γ.tab g with
      | none => rw [hE] at hpre; exact absurd hpre (by simp [OR.bad])
      | ext S =>
        rw [hE] at hpre hok
        simp only at hpre ⊢
        intro rr next Q hn
        obtain ⟨v, h1, h2⟩ := hok.run _ hpre X β w _ (repL_args hA args)
        have hx : (execOp a.eval { dst, op := .call ⟨.value (.func g), ⟨args⟩, ⟨argTypes⟩⟩, type, pos, after, guard }).run P w = .ok (.value v) w := by
          simp [execOp, resolve, Deferred.ofValue, Act.eval, invoke, h1]
        refine op_value (by intro c h; cases h) hx ?_
        exact hn v w β h2 hH (Grow.refl β w) (fun _ => ⟨rfl, rfl⟩)
      | st T =>
        rw [hE] at hpre hok
        simp only at hpre ⊢
        cases draw with
        | true => simp only [cond_true] at hpre; exact absurd hpre (by simp [OR.bad])
        | false =>
          simp only [cond_false] at hpre ⊢
          intro rr next Q hn
          have hcall := hok.call ⟨_, _, hpre⟩ (args.map a.eval).toArray w
          have hx : (execOp a.eval { dst, op := .call ⟨.value (.func g), ⟨args⟩, ⟨argTypes⟩⟩, type, pos, after, guard }).run P w = .ok (.enter g (args.map a.eval).toArray) w := by
            simp [execOp, resolve, Deferred.ofValue, Act.eval, invoke, hcall]
          refine op_enter (by intro c h; cases h) hx ?_
          refine (hok.run _ _ hpre X β w _ (repL_args hA args) hH hA.glob).mono fun e w' ⟨v, β', he, h1, h2, h3⟩ => ?_
          subst he
          exact hn v w' β' h1 h2 h3 (fun e => by cases e)
      | pure S =>
        rw [hE] at hpre hok
        simp only at hpre ⊢
        intro rr next Q hn
        simp only [pureF] at hpre hn
        obtain ⟨p1, p2, p3⟩ := hpre
        have hargs := repL_args hA args
        obtain ⟨hb1, hb2⟩ := repL_borrow hH hargs p2
        have hcall := hok.call ⟨_, p1⟩ (args.map a.eval).toArray w
        have hx : (execOp a.eval { dst, op := .call ⟨.value (.func g), ⟨args⟩, ⟨argTypes⟩⟩, type, pos, after, guard }).run P w = .ok (.enter g (args.map a.eval).toArray) w := by
          simp [execOp, resolve, Deferred.ofValue, Act.eval, invoke, hcall]
        refine op_enter (by intro c h; cases h) hx ?_
        rcases p3 with p3 | p3
        · let Y : Nat → Prop := fun b => X b ∨ Live β b
          have hY : RepL Y [] w ((args.map (evalIn env)).map (borrow L)) (args.map a.eval) := repL_plain p3 hargs (fun b hb => hb)
          have hrun := hok.run _ p1 hb2 Y w _ (fun b hb => by rcases hb with hb | hb; exact (hH.out b hb).1; exact hH.lt b hb) hY (hA.glob.anti fun b hb => by rcases hb with hb | ⟨i, x, hb⟩; exact hb; simp at hb)
          refine hrun.mono fun e w' ⟨v, he, hg, hr⟩ => ?_
          subst he
          obtain ⟨β', h1, h2, h3, h4⟩ := adopt_rep (draw := draw) (Y := Y) hH hg hr (.inl fun b hb => hb)
          exact hn v w' β' h1 h2 h3 h4
        · have hrun := hok.run _ p1 hb2 X w _ (fun b hb => (hH.out b hb).1) hb1 (hA.glob.anti fun b hb => by rcases hb with hb | ⟨i, x, hb⟩; exact .inl hb; simp at hb)
          refine hrun.mono fun e w' ⟨v, he, hg, hr⟩ => ?_
          subst he
          obtain ⟨β', h1, h2, h3, h4⟩ := adopt_rep (draw := draw) (Y := X) hH hg hr (.inr p3)
          exact hn v w' β' h1 h2 h3 h4
    · exact absurd hpre (by simp [OR.bad])
end Go.Ab
namespace Go.Ab
open Go Go.RowKit
set_option linter.unusedVariables false
set_option linter.unusedSimpArgs false
abbrev Env := List (Nat × PV)
variable {P : Program} {Γ : Con} {X : Nat → Prop} {β : List Base} {w : World} {L : LH} {N B : Nat} {rr : Option Nat}
def GuardIs (all : List Oper) (env : Env) (o : Oper) (b : Bool) : Prop :=
  (o.guard = none ∧ b = true) ∨
  ∃ j want d, o.guard = some (j, want) ∧ (all[j]?).bind (·.dst) = some d ∧
    ((∃ x, lookup env d = .lit (.bool x) ∧ b = (x == want)) ∨ (∃ vs, lookup env d = .lit (.tuple vs) ∧ b = false))
def stepV0 (P : Program) (Γ : Con) (draw : Bool) (all : List Oper) (o : Oper) (env : Env) (L : LH) (v : PV) (L' : LH) : Prop :=
  (GuardIs all env o true ∧ ((∃ c a b t, o.op = .pick c a b ∧ evalIn env c = .lit (.bool t) ∧ v = (if t then evalIn env a else evalIn env b) ∧ L' = L) ∨
      ((opF P Γ draw (evalIn env) L o.op).pre ∧ v = (opF P Γ draw (evalIn env) L o.op).val ∧ L' = (opF P Γ draw (evalIn env) L o.op).L))) ∨
  (GuardIs all env o false ∧ v = .lit undef ∧ L' = L)
theorem guard_wanted {all : List Oper} {env : Env} {o : Oper} {b : Bool} {a : Act} (hA : RepA N B X β w env a) (h : GuardIs all env o b) : Region.wanted o (yielded all.toArray a.tmps) = b := by
  rcases h with ⟨h1, h2⟩ | ⟨j, want, d, h1, h2, h3⟩
  · simp [Region.wanted, h1, h2]
  · have h2' : (all.toArray[j]?).bind (·.dst) = some d := by simpa using h2
    have hs := hA.slot d
    rcases h3 with ⟨x, h3, h4⟩ | ⟨vs, h3, h4⟩
    · rw [h3] at hs
      simp only [RepV] at hs
      have : a.tmps[d]? = some (.bool x) := by
        cases hd : a.tmps[d]? with
        | none => simp [hd, undef] at hs
        | some u => simp [hd] at hs; rw [hs]
      simp only [Region.wanted, h1, yielded, h2', Option.bind_some, this]
      rw [h4]; cases x <;> cases want <;> rfl
    · rw [h3] at hs
      simp only [RepV] at hs
      simp only [Region.wanted, h1, yielded, h2', Option.bind_some]
      cases hd : a.tmps[d]? with
      | none => simp [h4]
      | some u =>
        simp [hd] at hs
        subst hs
        simp [h4]
theorem step_sound0 (hΓ : GammaOk P Γ) {draw : Bool} {all : List Oper} {o : Oper} {env : Env} {v : PV} {L' : LH} {a : Act} {Q : Exit → Act → World → Prop} {K : Act → World → Prop}
    (h : stepV0 P Γ draw all o env L v L') (hA : RepA N B X β w env a) (hH : RepH X β w L) (hd : ∀ d, o.dst = some d → d < N)
    (hK : ∀ a' w' β', RepA N B X β' w' (putIn env o.dst v) a' → RepH X β' w' L' → Grow β β' w w' → (draw = true → β' = β ∧ L' = L) → K a' w') :
    if Region.wanted o (yielded all.toArray a.tmps) then o.wpIn (FF rr) 0 P a w K Q else K (a.put o.dst undef) w := by
  rcases h with ⟨hg, h⟩ | ⟨hg, rfl, rfl⟩
  · rw [guard_wanted hA hg]
    simp only [if_true]
    rcases h with ⟨c, x, y, t, hop, hc, rfl, rfl⟩ | ⟨hpre, rfl, rfl⟩
    · have hcv := hA.eval c
      rw [hc] at hcv
      simp only [RepV] at hcv
      have hx : (execOp a.eval o).run P w = .ok (.value (if t then a.eval x else a.eval y)) w := by
        simp [execOp, hop, hcv, asBool]
      refine op_value (by intro c h; rw [hop] at h; cases h) hx ?_
      refine hK _ w β (hA.put hd ?_) hH (Grow.refl β w) (fun _ => ⟨rfl, rfl⟩)
      cases t
      · simpa using hA.eval y
      · simpa using hA.eval x
    · exact op_sound hΓ hA hH hpre rr K Q (fun u w' β' h1 h2 h3 h4 => hK _ w' β' ((hA.grow h3).put hd h1) h2 h3 h4)
  · rw [guard_wanted hA hg]
    simp only [Bool.false_eq_true, if_false]
    exact hK _ w β (hA.put hd (by simp [RepV])) hH (Grow.refl β w) (fun _ => ⟨rfl, rfl⟩)
def stepV (P : Program) (Γ : Con) (draw : Bool) (all : List Oper) (o : Oper) (env : Env) (L : LH) (v : PV) (L' : LH) : Prop :=
  ∃ Γ' : Con, GammaOk P Γ' ∧ stepV0 P Γ' draw all o env L v L'
theorem step_sound (hΓ : GammaOk P Γ) {draw : Bool} {all : List Oper} {o : Oper} {env : Env} {v : PV} {L' : LH} {a : Act} {Q : Exit → Act → World → Prop} {K : Act → World → Prop}
    (h : stepV P Γ draw all o env L v L') (hA : RepA N B X β w env a) (hH : RepH X β w L) (hd : ∀ d, o.dst = some d → d < N)
    (hK : ∀ a' w' β', RepA N B X β' w' (putIn env o.dst v) a' → RepH X β' w' L' → Grow β β' w w' → (draw = true → β' = β ∧ L' = L) → K a' w') :
    if Region.wanted o (yielded all.toArray a.tmps) then o.wpIn (FF rr) 0 P a w K Q else K (a.put o.dst undef) w := by
  obtain ⟨Γ', hΓ', h⟩ := h
  exact step_sound0 hΓ' h hA hH hd hK
def TRun (P : Program) (Γ : Con) (draw : Bool) (all : List Oper) : List Oper → Env → LH → Env → LH → Prop
  | [], env, L, env', L' => env' = env ∧ L' = L
  | o :: r, env, L, env', L' => ∃ v L1, stepV P Γ draw all o env L v L1 ∧ TRun P Γ draw all r (putIn env o.dst v) L1 env' L'
def reads (all : List Oper) (o : Oper) : List Nat :=
  (o.op.operands.toList.filterMap fun | .tmp t => some t | _ => none) ++ (match o.guard with | some (j, _) => ((all[j]?).bind (·.dst)).toList | none => [])
theorem evalIn_congr {env env' : Env} {o : Op} (h : ∀ t ∈ (o.operands.toList.filterMap fun | .tmp t => some t | _ => none), lookup env t = lookup env' t) : ∀ x ∈ o.operands, evalIn env x = evalIn env' x := by
  intro x hx
  cases x with
  | tmp t => exact h t (List.mem_filterMap.2 ⟨.tmp t, by simpa using hx, rfl⟩)
  | const v => rfl
  | global g => rfl
  | func f => rfl
theorem opF_congr {draw : Bool} {ρ ρ' : Operand → PV} (op : Op) (h : ∀ x ∈ op.operands, ρ x = ρ' x) : opF P Γ draw ρ L op = opF P Γ draw ρ' L op := by
  cases op <;> (try simp only [Op.operands] at h) <;> (try simp only [opF]) <;> try (simp_all; done)
  case makeFunc fn first captured =>
    cases fn with
    | func g =>
      have h1 : first.toList.map ρ = first.toList.map ρ' := List.map_congr_left fun x hx => h x (Array.mem_append.2 (.inl (by simpa using hx)))
      have h2 : captured.toList.map ρ = captured.toList.map ρ' := List.map_congr_left fun x hx => h x (Array.mem_append.2 (.inr (by simpa using hx)))
      show OR.mk True (.fn (.func g) (first.toList.map ρ) (captured.toList.map ρ)) L = OR.mk True (.fn (.func g) (first.toList.map ρ') (captured.toList.map ρ')) L
      rw [h1, h2]
    | _ => rfl
  case buildSlice t len parts =>
    congr 1
    apply List.map_congr_left
    intro x hx
    have := h x.2 (by simp; exact ⟨x.1, by simpa using hx⟩)
    rw [this]
  case build t parts =>
    congr 1
    apply List.map_congr_left
    intro x hx
    have := h x.2 (by simp; exact ⟨x.1, by simpa using hx⟩)
    rw [this]
  case slice t x lo hi mx => cases lo <;> cases hi <;> cases mx <;> simp_all
  case call c =>
    obtain ⟨callee, ⟨args⟩, ⟨argTypes⟩⟩ := c
    simp only [Call.operands] at h
    have ha : ∀ x ∈ args, ρ x = ρ' x := fun x hx => h x (by simp [hx])
    simp only
    split
    · simp_all
    · simp_all
    · simp_all
    · simp_all
    · simp_all
    · simp_all
    · rw [List.map_congr_left ha]
    · rfl
theorem stepV0_congr {draw : Bool} {all : List Oper} {o : Oper} {env env' : Env} {v : PV} {L' : LH} (h : ∀ t ∈ reads all o, lookup env t = lookup env' t) (hs : stepV0 P Γ draw all o env L v L') : stepV0 P Γ draw all o env' L v L' := by
  have hop : ∀ x ∈ o.op.operands, evalIn env x = evalIn env' x := evalIn_congr (fun t ht => h t (List.mem_append_left _ ht))
  have hg : ∀ b, GuardIs all env o b → GuardIs all env' o b := by
    rintro b (h1 | ⟨j, want, d, h1, h2, h3⟩)
    · exact .inl h1
    · have hd : lookup env d = lookup env' d := h d (List.mem_append_right _ (by simp [h1, h2]))
      rw [hd] at h3
      exact .inr ⟨j, want, d, h1, h2, h3⟩
  rcases hs with ⟨h1, h2⟩ | ⟨h1, h2, h3⟩
  · refine .inl ⟨hg _ h1, ?_⟩
    rcases h2 with ⟨c, a, b, t, h2, h3, h4, h5⟩ | ⟨h2, h3, h4⟩
    · left
      have hc := hop c (by simp [h2, Op.operands])
      have ha := hop a (by simp [h2, Op.operands])
      have hb := hop b (by simp [h2, Op.operands])
      exact ⟨c, a, b, t, h2, by rw [← hc]; exact h3, by rw [← ha, ← hb]; exact h4, h5⟩
    · right
      rw [opF_congr o.op hop] at h2 h3 h4
      exact ⟨h2, h3, h4⟩
  · exact .inr ⟨hg _ h1, h2, h3⟩
theorem stepV_congr {draw : Bool} {all : List Oper} {o : Oper} {env env' : Env} {v : PV} {L' : LH} (h : ∀ t ∈ reads all o, lookup env t = lookup env' t) (hs : stepV P Γ draw all o env L v L') : stepV P Γ draw all o env' L v L' := by
  obtain ⟨Γ', hΓ', hs⟩ := hs
  exact ⟨Γ', hΓ', stepV0_congr h hs⟩
def bound (ops : List Oper) (i j : Nat) : Bool :=
  match ops[i]? with
  | some o => o.after.toList.any fun e => Region.binds .any e && e.on == j
  | none => false
def drawOk (ops : List Oper) : Bool :=
  (List.range ops.length).all fun i => match ops[i]? with
    | none => true
    | some o =>
      (o.after.toList.all fun e => !Region.binds .any e || decide (e.on < i)) &&
      (List.range ops.length).all fun j => match ops[j]? with
        | none => true
        | some q => match q.dst with
          | none => true
          | some d =>
            (if (reads ops o).contains d then (if j < i then bound ops i j else if i < j then bound ops j i else false) else true) &&
            (decide (i = j) || o.dst != some d)
theorem drawOk_spec {ops : List Oper} (h : drawOk ops = true) :
    (∀ (i : Nat) (o : Oper), ops[i]? = some o → ∀ e ∈ o.after.toList, Region.binds .any e = true → e.on < i) ∧
    (∀ (i : Nat) (o : Oper) (j : Nat) (q : Oper) (d : Nat), ops[i]? = some o → ops[j]? = some q → q.dst = some d → d ∈ reads ops o → (j < i ∧ bound ops i j = true) ∨ (i < j ∧ bound ops j i = true)) ∧
    (∀ (i : Nat) (o : Oper) (j : Nat) (q : Oper) (d : Nat), ops[i]? = some o → ops[j]? = some q → q.dst = some d → o.dst = some d → i = j) := by
  unfold drawOk at h
  rw [List.all_eq_true] at h
  have base : ∀ (i : Nat) (o : Oper), ops[i]? = some o → (o.after.toList.all fun e => !Region.binds .any e || decide (e.on < i)) = true ∧ ∀ (j : Nat) (q : Oper) (d : Nat), ops[j]? = some q → q.dst = some d →
      ((if (reads ops o).contains d then (if j < i then bound ops i j else if i < j then bound ops j i else false) else true) = true ∧ (i = j ∨ o.dst ≠ some d)) := by
    intro i o ho
    have hi := h i (by simp; exact (List.getElem?_eq_some_iff.1 ho).1)
    rw [ho] at hi
    simp only [Bool.and_eq_true] at hi
    refine ⟨hi.1, fun j q d hq hd => ?_⟩
    have hj := List.all_eq_true.1 hi.2 j (by simp; exact (List.getElem?_eq_some_iff.1 hq).1)
    rw [hq] at hj
    simp only [hd, Bool.and_eq_true, Bool.or_eq_true, decide_eq_true_eq, bne_iff_ne] at hj
    exact hj
  refine ⟨fun i o ho e he hb => ?_, fun i o j q d ho hq hd hr => ?_, fun i o j q d ho hq hd hod => ?_⟩
  · have := List.all_eq_true.1 (base i o ho).1 e he
    simpa [hb] using this
  · have := ((base i o ho).2 j q d hq hd).1
    rw [if_pos (by simpa using hr)] at this
    split at this
    · exact .inl ⟨‹_›, this⟩
    · split at this
      · exact .inr ⟨‹_›, this⟩
      · cases this
  · rcases ((base i o ho).2 j q d hq hd).2 with h | h
    · exact h
    · exact absurd hod h
end Go.Ab
