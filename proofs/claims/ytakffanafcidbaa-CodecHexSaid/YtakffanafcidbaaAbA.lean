import Derived.Calls
import Derived.Orders
import Derived.Below
import Derived.Laws.AppendOwn
import Derived.Laws.CopyRow
namespace Go.Ab
open Go Go.RowKit
set_option linter.unusedVariables false
set_option linter.unusedSimpArgs false

/-- Values as trees: what a slice holds is written out. -/
inductive PV where
  | any
  | lit (v : Value)
  | ro (n : Nat) (cells : List PV)
  | own (id off n sz : Nat)
  | ptr (id off : Nat)
  | rptr (cells : List PV)
  | agg (cells : List PV)
  | tup (vs : List PV)
  | fn (f : Fn) (first captured : List PV)
  | new (n sz : Nat) (cells : List PV)

inductive Base where
  | dead
  | nil
  | blk (b base : Nat)
def Live (β : List Base) (b : Nat) : Prop := ∃ (id base : Nat), β[id]? = some (.blk b base)

mutual
def RepV (X : Nat → Prop) (β : List Base) (w : World) : PV → Value → Prop
  | .any, _ => True
  | .lit v0, v => v = v0
  | .ro n cells, v => ∃ a cap, v = .slice a n cap ∧ n ≤ cap ∧
      (cells = [] ∨ ∃ b off, a = some ⟨b, off, none⟩ ∧ ¬ X b ∧ ¬ Live β b ∧ RepRow X β w b off cells)
  | .own id off n sz, v => id < β.length ∧ (∀ b base, β[id]? = some (.blk b base) →
      ∃ cap, v = .slice (some ⟨b, base + off, none⟩) n cap ∧ n ≤ cap ∧ ∃ c el fr, w.heap[b]? = some (.cells c el fr) ∧ base + off + cap * sz ≤ c.size) ∧
      (β[id]? = some .nil → v = .slice none 0 0 ∧ n = 0 ∧ off = 0)
  | .ptr id off, v => id < β.length ∧ (∀ b base, β[id]? = some (.blk b base) → v = .pointer (some ⟨b, base + off, none⟩)) ∧ β[id]? ≠ some .nil
  | .rptr cells, v => ∃ b off, v = .pointer (some ⟨b, off, none⟩) ∧ (cells = [] ∨ (¬ X b ∧ ¬ Live β b ∧ RepRow X β w b off cells))
  | .agg cells, v => ∃ vs : List Value, v = .agg vs.toArray ∧ RepL X β w cells vs
  | .tup ps, v => ∃ vs : List Value, v = .tuple vs.toArray ∧ RepL X β w ps vs
  | .fn f first captured, v => ∃ xs ys : List Value, v = .func f xs.toArray ys.toArray ∧ RepL X β w first xs ∧ RepL X β w captured ys
  | .new _ _ _, _ => False
def RepRow (X : Nat → Prop) (β : List Base) (w : World) (b : Nat) : Nat → List PV → Prop
  | _, [] => True
  | off, p :: ps => (∃ v, w.cell? ⟨b, off, none⟩ = some v ∧ v.oneCell' = true ∧ RepV X β w p v) ∧ RepRow X β w b (off + 1) ps
def RepL (X : Nat → Prop) (β : List Base) (w : World) : List PV → List Value → Prop
  | [], vs => vs = []
  | p :: ps, vs => ∃ v r, vs = v :: r ∧ RepV X β w p v ∧ RepL X β w ps r
end

inductive LE where
  | dead
  | cells (cs : List PV)

abbrev LH := List LE

structure RepH (X : Nat → Prop) (β : List Base) (w : World) (L : LH) : Prop where
  len : β.length = L.length
  inj : ∀ (i j b x y : Nat), β[i]? = some (.blk b x) → β[j]? = some (.blk b y) → i = j
  lt : ∀ b, Live β b → b < w.heap.size
  out : ∀ b, X b → b < w.heap.size ∧ ¬ Live β b
  ent : ∀ (id : Nat) cs, L[id]? = some (.cells cs) → (β[id]? = some .nil ∧ cs = []) ∨ ∃ b base c el, β[id]? = some (.blk b base) ∧ w.heap[b]? = some (.cells c el (0, 0)) ∧ base + cs.length ≤ c.size ∧ RepRow X β w b base cs

structure Grow (β β' : List Base) (w w' : World) : Prop where
  os : w'.os = w.os
  tape : w'.tape = w.tape
  output : w'.output = w.output
  size : w.heap.size ≤ w'.heap.size
  block : ∀ k, k < w.heap.size → ¬ Live β k → w'.heap[k]? = w.heap[k]?
  shape : ∀ (k : Nat) c el fr, w.heap[k]? = some (.cells c el fr) → ∃ c' fr', w'.heap[k]? = some (.cells c' el fr') ∧ c'.size = c.size
  live : ∀ b, Live β' b → Live β b ∨ w.heap.size ≤ b
  len : β.length ≤ β'.length
  keep : ∀ (id : Nat) x, id < β.length → β'[id]? = some x → x ≠ .dead → β[id]? = some x

theorem Grow.refl (β : List Base) (w : World) : Grow β β w w :=
  ⟨rfl, rfl, rfl, Nat.le_refl _, fun _ _ _ => rfl, fun k c el fr h => ⟨c, fr, h, rfl⟩, fun _ h => .inl h, Nat.le_refl _, fun _ _ _ h _ => h⟩

theorem Grow.trans {β β' β'' : List Base} {w w' w'' : World} (h : Grow β β' w w') (k : Grow β' β'' w' w'') : Grow β β'' w w'' where
  os := k.os.trans h.os
  tape := k.tape.trans h.tape
  output := k.output.trans h.output
  size := Nat.le_trans h.size k.size
  block := fun i hi hl => (k.block i (Nat.lt_of_lt_of_le hi h.size) (fun hb => by rcases h.live i hb with x | x; exact hl x; omega)).trans (h.block i hi hl)
  shape := fun i c el fr hi => by
    obtain ⟨c', fr', h1, h2⟩ := h.shape i c el fr hi
    obtain ⟨c'', fr'', h3, h4⟩ := k.shape i c' el fr' h1
    exact ⟨c'', fr'', h3, h4.trans h2⟩
  live := fun b hb => by
    rcases k.live b hb with x | x
    · exact h.live b x
    · exact .inr (Nat.le_trans h.size x)
  len := Nat.le_trans h.len k.len
  keep := fun id x hid hx hd => h.keep id x hid (k.keep id x (Nat.lt_of_lt_of_le hid h.len) hx hd) hd

theorem cell_lt {w : World} {a : Addr} {v : Value} (h : w.cell? a = some v) : a.block < w.heap.size := World.block_lt_of_cell? w a h

theorem Grow.notLive {β β' : List Base} {w w' : World} (g : Grow β β' w w') {b : Nat} (hb : b < w.heap.size) (h : ¬ Live β b) : ¬ Live β' b := fun x => by
  rcases g.live b x with y | y
  · exact h y
  · omega

mutual
theorem RepV.grow {X : Nat → Prop} {β β' : List Base} {w w' : World} (g : Grow β β' w w') : ∀ (p : PV) (v : Value), RepV X β w p v → RepV X β' w' p v
  | .any, _, _ => by simp [RepV]
  | .lit v0, v, h => by simpa [RepV] using h
  | .ro n cells, v, h => by
    simp only [RepV] at h ⊢
    obtain ⟨a, cap, hv, hn, hc⟩ := h
    refine ⟨a, cap, hv, hn, ?_⟩
    cases cells with
    | nil => exact .inl rfl
    | cons p ps =>
      rcases hc with hc | ⟨b, off, ha, hx, hl, hr⟩
      · cases hc
      · have hb : b < w.heap.size := by
          simp only [RepRow] at hr
          obtain ⟨⟨v, hv, _⟩, _⟩ := hr
          exact cell_lt hv
        exact .inr ⟨b, off, ha, hx, g.notLive hb hl, RepRow.grow g b hl (p :: ps) off hr⟩
  | .own id off n sz, v, h => by
    simp only [RepV] at h ⊢
    refine ⟨Nat.lt_of_lt_of_le h.1 g.len, fun b base hb => ?_, fun hb => h.2.2 (g.keep id _ h.1 hb (by simp))⟩
    obtain ⟨cap, hv, hn, c, el, fr, hc, hs⟩ := h.2.1 b base (g.keep id _ h.1 hb (by simp))
    obtain ⟨c', fr', h1, h2⟩ := g.shape b c el fr hc
    exact ⟨cap, hv, hn, c', el, fr', h1, by omega⟩
  | .ptr id off, v, h => by
    simp only [RepV] at h ⊢
    exact ⟨Nat.lt_of_lt_of_le h.1 g.len, fun b base hb => h.2.1 b base (g.keep id _ h.1 hb (by simp)), fun hb => h.2.2 (g.keep id _ h.1 hb (by simp))⟩
  | .rptr cells, v, h => by
    simp only [RepV] at h ⊢
    obtain ⟨b, off, hv, hc⟩ := h
    refine ⟨b, off, hv, ?_⟩
    cases cells with
    | nil => exact .inl rfl
    | cons p ps =>
      rcases hc with hc | ⟨hx, hl, hr⟩
      · cases hc
      · have hb : b < w.heap.size := by
          simp only [RepRow] at hr
          obtain ⟨⟨v, hv, _⟩, _⟩ := hr
          exact cell_lt hv
        exact .inr ⟨hx, g.notLive hb hl, RepRow.grow g b hl (p :: ps) off hr⟩
  | .agg cells, v, h => by
    simp only [RepV] at h ⊢
    obtain ⟨vs, hv, hr⟩ := h
    exact ⟨vs, hv, RepL.grow g cells vs hr⟩
  | .tup cells, v, h => by
    simp only [RepV] at h ⊢
    obtain ⟨vs, hv, hr⟩ := h
    exact ⟨vs, hv, RepL.grow g cells vs hr⟩
  | .fn f first captured, v, h => by
    simp only [RepV] at h ⊢
    obtain ⟨xs, ys, hv, hx, hy⟩ := h
    exact ⟨xs, ys, hv, RepL.grow g first xs hx, RepL.grow g captured ys hy⟩
  | .new _ _ _, v, h => by simp [RepV] at h
theorem RepRow.grow {X : Nat → Prop} {β β' : List Base} {w w' : World} (g : Grow β β' w w') (b : Nat) (hl : ¬ Live β b) : ∀ (ps : List PV) (off : Nat), RepRow X β w b off ps → RepRow X β' w' b off ps
  | [], _, _ => by simp [RepRow]
  | p :: ps, off, h => by
    simp only [RepRow] at h ⊢
    obtain ⟨⟨v, hv, ho, hr⟩, h2⟩ := h
    refine ⟨⟨v, ?_, ho, RepV.grow g p v hr⟩, RepRow.grow g b hl ps (off + 1) h2⟩
    rw [← hv]
    exact World.cell?_of_block (g.block b (cell_lt hv) hl)
theorem RepL.grow {X : Nat → Prop} {β β' : List Base} {w w' : World} (g : Grow β β' w w') : ∀ (ps : List PV) (vs : List Value), RepL X β w ps vs → RepL X β' w' ps vs
  | [], vs, h => by simpa [RepL] using h
  | p :: ps, vs, h => by
    simp only [RepL] at h ⊢
    obtain ⟨v, r, hv, h1, h2⟩ := h
    exact ⟨v, r, hv, RepV.grow g p v h1, RepL.grow g ps r h2⟩
end

/-- Rows read by index. -/
theorem RepRow.iff {X : Nat → Prop} {β : List Base} {w : World} {b : Nat} : ∀ {ps : List PV} {off : Nat}, RepRow X β w b off ps ↔
    ∀ (i : Nat) p, ps[i]? = some p → ∃ v, w.cell? ⟨b, off + i, none⟩ = some v ∧ v.oneCell' = true ∧ RepV X β w p v
  | [], off => by simp [RepRow]
  | p :: ps, off => by
    simp only [RepRow]
    rw [RepRow.iff (ps := ps) (off := off + 1)]
    constructor
    · rintro ⟨h1, h2⟩ i q hq
      cases i with
      | zero => simp at hq; subst hq; simpa using h1
      | succ i => simp at hq; have := h2 i q hq; rw [show off + (i + 1) = off + 1 + i by omega]; exact this
    · intro h
      refine ⟨by simpa using h 0 p (by simp), fun i q hq => ?_⟩
      have := h (i + 1) q (by simpa using hq)
      rw [show off + 1 + i = off + (i + 1) by omega]; exact this

theorem RepL.length {X : Nat → Prop} {β : List Base} {w : World} : ∀ {ps : List PV} {vs : List Value}, RepL X β w ps vs → vs.length = ps.length
  | [], vs, h => by simp [RepL] at h; simp [h]
  | p :: ps, vs, h => by
    simp only [RepL] at h
    obtain ⟨v, r, rfl, _, h2⟩ := h
    simp [RepL.length h2]

theorem RepL.iff {X : Nat → Prop} {β : List Base} {w : World} : ∀ {ps : List PV} {vs : List Value}, RepL X β w ps vs ↔
    vs.length = ps.length ∧ ∀ (i : Nat) p v, ps[i]? = some p → vs[i]? = some v → RepV X β w p v
  | [], vs => by simp [RepL]
  | p :: ps, vs => by
    simp only [RepL]
    constructor
    · rintro ⟨v, r, rfl, h1, h2⟩
      rw [RepL.iff] at h2
      refine ⟨by simp [h2.1], fun i q u hq hu => ?_⟩
      cases i with
      | zero => simp at hq hu; subst hq hu; exact h1
      | succ i => simp at hq hu; exact h2.2 i q u hq hu
    · rintro ⟨hl, h⟩
      cases vs with
      | nil => simp at hl
      | cons v r =>
        refine ⟨v, r, rfl, h 0 p v (by simp) (by simp), ?_⟩
        rw [RepL.iff]
        exact ⟨by simpa using hl, fun i q u hq hu => h (i + 1) q u (by simpa using hq) (by simpa using hu)⟩

theorem repL_append {X : Nat → Prop} {β : List Base} {w : World} {ps qs : List PV} {vs us : List Value} (h : RepL X β w ps vs) (k : RepL X β w qs us) : RepL X β w (ps ++ qs) (vs ++ us) := by
  induction ps generalizing vs with
  | nil => simp [RepL] at h; subst h; simpa using k
  | cons p ps ih =>
    simp only [RepL] at h
    obtain ⟨v, r, rfl, h1, h2⟩ := h
    simp only [List.cons_append, RepL]
    exact ⟨v, r ++ us, rfl, h1, ih h2⟩

def lookup : List (Nat × PV) → Nat → PV
  | [], _ => .any
  | (i, p) :: r, t => bif i.beq t then p else lookup r t

structure St where
  env : List (Nat × PV)
  L : LH

def evalIn (env : List (Nat × PV)) : Operand → PV
  | .tmp t => lookup env t
  | .const v => .lit v
  | .global _ => .any
  | .func f => .fn (.func f) [] []

def putIn (env : List (Nat × PV)) (dst : Option Nat) (p : PV) : List (Nat × PV) :=
  match dst with
  | some d => (d, p) :: env
  | none => env

structure RepA (N : Nat) (X : Nat → Prop) (β : List Base) (w : World) (env : List (Nat × PV)) (a : Act) : Prop where
  size : a.tmps.size = N
  defers : a.defers = []
  slot : ∀ t, RepV X β w (lookup env t) (a.tmps.getD t undef)

theorem RepA.eval {N : Nat} {X : Nat → Prop} {β : List Base} {w : World} {env : List (Nat × PV)} {a : Act} (h : RepA N X β w env a) (x : Operand) : RepV X β w (evalIn env x) (a.eval x) := by
  cases x with
  | tmp t => exact h.slot t
  | const v => simp [evalIn, Act.eval, RepV]
  | global g => simp [evalIn, RepV]
  | func f => simp only [evalIn, Act.eval, RepV, RepL]; exact ⟨[], [], rfl, rfl, rfl⟩

theorem RepA.grow {N : Nat} {X : Nat → Prop} {β β' : List Base} {w w' : World} {env : List (Nat × PV)} {a : Act} (h : RepA N X β w env a) (g : Grow β β' w w') : RepA N X β' w' env a :=
  ⟨h.size, h.defers, fun t => RepV.grow g _ _ (h.slot t)⟩

theorem RepA.put {N : Nat} {X : Nat → Prop} {β : List Base} {w : World} {env : List (Nat × PV)} {a : Act} (h : RepA N X β w env a) {dst : Option Nat} (hd : ∀ d, dst = some d → d < N) {p : PV} {v : Value} (hv : RepV X β w p v) :
    RepA N X β w (putIn env dst p) (a.put dst v) := by
  cases dst with
  | none => exact h
  | some d =>
    have hlt : d < a.tmps.size := by rw [h.size]; exact hd d rfl
    refine ⟨by simp [Act.put, h.size], h.defers, fun t => ?_⟩
    simp only [putIn, lookup, Act.put]
    by_cases ht : d = t
    · subst ht
      rw [show Nat.beq d d = true from Nat.beq_refl d]
      simp only [cond_true]
      have : ((a.tmps.setIfInBounds d v).getD d undef) = v := by simp [hlt]
      rw [this]; exact hv
    · have hb : Nat.beq d t = false := by
        cases hh : Nat.beq d t
        · rfl
        · exact absurd (Nat.eq_of_beq_eq_true hh) ht
      rw [hb]
      simp only [cond_false]
      have : ((a.tmps.setIfInBounds d v).getD t undef) = a.tmps.getD t undef := by simp [Array.getElem?_setIfInBounds_ne ht]
      rw [this]; exact h.slot t

end Go.Ab
