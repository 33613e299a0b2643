import Derived.Calls
import Derived.Orders
import Derived.Below
import Derived.Laws.AppendOwn
import Derived.Laws.CopyRow
namespace Go.Ab
open Go
def glv : Nat → List Value
  | 0 => [.int .u32 1779033703, .int .u32 3144134277, .int .u32 1013904242, .int .u32 2773480762, .int .u32 1359893119, .int .u32 2600822924, .int .u32 528734635, .int .u32 1541459225]
  | 1 => [.int .u32 1116352408, .int .u32 1899447441, .int .u32 3049323471, .int .u32 3921009573, .int .u32 961987163, .int .u32 1508970993, .int .u32 2453635748, .int .u32 2870763221, .int .u32 3624381080, .int .u32 310598401, .int .u32 607225278, .int .u32 1426881987, .int .u32 1925078388, .int .u32 2162078206, .int .u32 2614888103, .int .u32 3248222580, .int .u32 3835390401, .int .u32 4022224774, .int .u32 264347078, .int .u32 604807628, .int .u32 770255983, .int .u32 1249150122, .int .u32 1555081692, .int .u32 1996064986, .int .u32 2554220882, .int .u32 2821834349, .int .u32 2952996808, .int .u32 3210313671, .int .u32 3336571891, .int .u32 3584528711, .int .u32 113926993, .int .u32 338241895, .int .u32 666307205, .int .u32 773529912, .int .u32 1294757372, .int .u32 1396182291, .int .u32 1695183700, .int .u32 1986661051, .int .u32 2177026350, .int .u32 2456956037, .int .u32 2730485921, .int .u32 2820302411, .int .u32 3259730800, .int .u32 3345764771, .int .u32 3516065817, .int .u32 3600352804, .int .u32 4094571909, .int .u32 275423344, .int .u32 430227734, .int .u32 506948616, .int .u32 659060556, .int .u32 883997877, .int .u32 958139571, .int .u32 1322822218, .int .u32 1537002063, .int .u32 1747873779, .int .u32 1955562222, .int .u32 2024104815, .int .u32 2227730452, .int .u32 2361852424, .int .u32 2428436474, .int .u32 2756734187, .int .u32 3204031479, .int .u32 3329325298]
  | _ => []
end Go.Ab
namespace Go.Ab
open Go Go.RowKit
set_option linter.unusedVariables false
set_option linter.unusedSimpArgs false
inductive PV where
  | any
  | lit (v : Value)
  | ro (n : Nat) (cells : List PV)
  | own (id off n sz : Nat)
  | ptr (id off : Nat)
  | rptr (cells : List PV)
  | agg (cells : List PV)
  | tup (vs : List PV)
  | fn (f : Fn) (first captured : List PV)
  | new (n sz : Nat) (cells : List PV)
inductive Base where
  | dead
  | nil
  | blk (b base : Nat)
def Live (β : List Base) (b : Nat) : Prop := ∃ (id base : Nat), β[id]? = some (.blk b base)
mutual
def RepV (X : Nat → Prop) (β : List Base) (w : World) : PV → Value → Prop
  | .any, _ => True
  | .lit v0, v => v = v0
  | .ro n cells, v => ∃ a cap, v = .slice a n cap ∧ n ≤ cap ∧
      (cells = [] ∨ ∃ b off, a = some ⟨b, off, none⟩ ∧ ¬ X b ∧ ¬ Live β b ∧ RepRow X β w b off cells)
  | .own id off n sz, v => id < β.length ∧ (∀ b base, β[id]? = some (.blk b base) →
      ∃ cap, v = .slice (some ⟨b, base + off, none⟩) n cap ∧ n ≤ cap ∧ ∃ c el fr, w.heap[b]? = some (.cells c el fr) ∧ base + off + cap * sz ≤ c.size) ∧
      (β[id]? = some .nil → v = .slice none 0 0 ∧ n = 0 ∧ off = 0) ∧ v.oneCell' = true
  | .ptr id off, v => id < β.length ∧ (∀ b base, β[id]? = some (.blk b base) → v = .pointer (some ⟨b, base + off, none⟩)) ∧ β[id]? ≠ some .nil ∧ v.oneCell' = true
  | .rptr cells, v => ∃ b off, v = .pointer (some ⟨b, off, none⟩) ∧ (cells = [] ∨ (¬ X b ∧ ¬ Live β b ∧ RepRow X β w b off cells))
  | .agg cells, v => ∃ vs : List Value, v = .agg vs.toArray ∧ RepL X β w cells vs
  | .tup ps, v => ∃ vs : List Value, v = .tuple vs.toArray ∧ RepL X β w ps vs
  | .fn f first captured, v => ∃ xs ys : List Value, v = .func f xs.toArray ys.toArray ∧ RepL X β w first xs ∧ RepL X β w captured ys
  | .new _ _ _, _ => False
def RepRow (X : Nat → Prop) (β : List Base) (w : World) (b : Nat) : Nat → List PV → Prop
  | _, [] => True
  | off, p :: ps => (∃ v, w.cell? ⟨b, off, none⟩ = some v ∧ v.oneCell' = true ∧ RepV X β w p v) ∧ RepRow X β w b (off + 1) ps
def RepL (X : Nat → Prop) (β : List Base) (w : World) : List PV → List Value → Prop
  | [], vs => vs = []
  | p :: ps, vs => ∃ v r, vs = v :: r ∧ RepV X β w p v ∧ RepL X β w ps r
end
inductive LE where
  | dead
  | cells (cs : List PV)
abbrev LH := List LE
structure RepH (X : Nat → Prop) (β : List Base) (w : World) (L : LH) : Prop where
  len : β.length = L.length
  inj : ∀ (i j b x y : Nat), β[i]? = some (.blk b x) → β[j]? = some (.blk b y) → i = j
  lt : ∀ b, Live β b → b < w.heap.size
  out : ∀ b, X b → b < w.heap.size ∧ ¬ Live β b
  ent : ∀ (id : Nat) cs, L[id]? = some (.cells cs) → (β[id]? = some .nil ∧ cs = []) ∨ ∃ b base c el, β[id]? = some (.blk b base) ∧ w.heap[b]? = some (.cells c el (0, 0)) ∧ base + cs.length ≤ c.size ∧ RepRow X β w b base cs
structure Grow (β β' : List Base) (w w' : World) : Prop where
  os : w'.os = w.os
  tape : w'.tape = w.tape
  output : w'.output = w.output
  size : w.heap.size ≤ w'.heap.size
  block : ∀ k, k < w.heap.size → ¬ Live β k → w'.heap[k]? = w.heap[k]?
  shape : ∀ (k : Nat) c el fr, w.heap[k]? = some (.cells c el fr) → ∃ c' fr', w'.heap[k]? = some (.cells c' el fr') ∧ c'.size = c.size
  live : ∀ b, Live β' b → Live β b ∨ w.heap.size ≤ b
  len : β.length ≤ β'.length
  keep : ∀ (id : Nat) x, id < β.length → β'[id]? = some x → x ≠ .dead → β[id]? = some x
theorem Grow.refl (β : List Base) (w : World) : Grow β β w w :=
  ⟨rfl, rfl, rfl, Nat.le_refl _, fun _ _ _ => rfl, fun k c el fr h => ⟨c, fr, h, rfl⟩, fun _ h => .inl h, Nat.le_refl _, fun _ _ _ h _ => h⟩
theorem Grow.trans {β β' β'' : List Base} {w w' w'' : World} (h : Grow β β' w w') (k : Grow β' β'' w' w'') : Grow β β'' w w'' where
  os := k.os.trans h.os
  tape := k.tape.trans h.tape
  output := k.output.trans h.output
  size := Nat.le_trans h.size k.size
  block := fun i hi hl => (k.block i (Nat.lt_of_lt_of_le hi h.size) (fun hb => by rcases h.live i hb with x | x; exact hl x; omega)).trans (h.block i hi hl)
  shape := fun i c el fr hi => by
    obtain ⟨c', fr', h1, h2⟩ := h.shape i c el fr hi
    obtain ⟨c'', fr'', h3, h4⟩ := k.shape i c' el fr' h1
    exact ⟨c'', fr'', h3, h4.trans h2⟩
  live := fun b hb => by
    rcases k.live b hb with x | x
    · exact h.live b x
    · exact .inr (Nat.le_trans h.size x)
  len := Nat.le_trans h.len k.len
  keep := fun id x hid hx hd => h.keep id x hid (k.keep id x (Nat.lt_of_lt_of_le hid h.len) hx hd) hd
theorem cell_lt {w : World} {a : Addr} {v : Value} (h : w.cell? a = some v) : a.block < w.heap.size := World.block_lt_of_cell? w a h
theorem Grow.notLive {β β' : List Base} {w w' : World} (g : Grow β β' w w') {b : Nat} (hb : b < w.heap.size) (h : ¬ Live β b) : ¬ Live β' b := fun x => by
  rcases g.live b x with y | y
  · exact h y
  · omega
mutual
theorem RepV.grow {X : Nat → Prop} {β β' : List Base} {w w' : World} (g : Grow β β' w w') : ∀ (p : PV) (v : Value), RepV X β w p v → RepV X β' w' p v
  | .any, _, _ => by simp [RepV]
  | .lit v0, v, h => by simpa [RepV] using h
  | .ro n cells, v, h => by
    simp only [RepV] at h ⊢
    obtain ⟨a, cap, hv, hn, hc⟩ := h
    refine ⟨a, cap, hv, hn, ?_⟩
    cases cells with
    | nil => exact .inl rfl
    | cons p ps =>
      rcases hc with hc | ⟨b, off, ha, hx, hl, hr⟩
      · cases hc
      · have hb : b < w.heap.size := by
          simp only [RepRow] at hr
          obtain ⟨⟨v, hv, _⟩, _⟩ := hr
          exact cell_lt hv
        exact .inr ⟨b, off, ha, hx, g.notLive hb hl, RepRow.grow g b hl (p :: ps) off hr⟩
  | .own id off n sz, v, h => by
    simp only [RepV] at h ⊢
    refine ⟨Nat.lt_of_lt_of_le h.1 g.len, fun b base hb => ?_, fun hb => h.2.2.1 (g.keep id _ h.1 hb (by simp)), h.2.2.2⟩
    obtain ⟨cap, hv, hn, c, el, fr, hc, hs⟩ := h.2.1 b base (g.keep id _ h.1 hb (by simp))
    obtain ⟨c', fr', h1, h2⟩ := g.shape b c el fr hc
    exact ⟨cap, hv, hn, c', el, fr', h1, by omega⟩
  | .ptr id off, v, h => by
    simp only [RepV] at h ⊢
    exact ⟨Nat.lt_of_lt_of_le h.1 g.len, fun b base hb => h.2.1 b base (g.keep id _ h.1 hb (by simp)), fun hb => h.2.2.1 (g.keep id _ h.1 hb (by simp)), h.2.2.2⟩
  | .rptr cells, v, h => by
    simp only [RepV] at h ⊢
    obtain ⟨b, off, hv, hc⟩ := h
    refine ⟨b, off, hv, ?_⟩
    cases cells with
    | nil => exact .inl rfl
    | cons p ps =>
      rcases hc with hc | ⟨hx, hl, hr⟩
      · cases hc
      · have hb : b < w.heap.size := by
          simp only [RepRow] at hr
          obtain ⟨⟨v, hv, _⟩, _⟩ := hr
          exact cell_lt hv
        exact .inr ⟨hx, g.notLive hb hl, RepRow.grow g b hl (p :: ps) off hr⟩
  | .agg cells, v, h => by
    simp only [RepV] at h ⊢
    obtain ⟨vs, hv, hr⟩ := h
    exact ⟨vs, hv, RepL.grow g cells vs hr⟩
  | .tup cells, v, h => by
    simp only [RepV] at h ⊢
    obtain ⟨vs, hv, hr⟩ := h
    exact ⟨vs, hv, RepL.grow g cells vs hr⟩
  | .fn f first captured, v, h => by
    simp only [RepV] at h ⊢
    obtain ⟨xs, ys, hv, hx, hy⟩ := h
    exact ⟨xs, ys, hv, RepL.grow g first xs hx, RepL.grow g captured ys hy⟩
  | .new _ _ _, v, h => by simp [RepV] at h
theorem RepRow.grow {X : Nat → Prop} {β β' : List Base} {w w' : World} (g : Grow β β' w w') (b : Nat) (hl : ¬ Live β b) : ∀ (ps : List PV) (off : Nat), RepRow X β w b off ps → RepRow X β' w' b off ps
  | [], _, _ => by simp [RepRow]
  | p :: ps, off, h => by
    simp only [RepRow] at h ⊢
    obtain ⟨⟨v, hv, ho, hr⟩, h2⟩ := h
    refine ⟨⟨v, ?_, ho, RepV.grow g p v hr⟩, RepRow.grow g b hl ps (off + 1) h2⟩
    rw [← hv]
    exact World.cell?_of_block (g.block b (cell_lt hv) hl)
theorem RepL.grow {X : Nat → Prop} {β β' : List Base} {w w' : World} (g : Grow β β' w w') : ∀ (ps : List PV) (vs : List Value), RepL X β w ps vs → RepL X β' w' ps vs
  | [], vs, h => by simpa [RepL] using h
  | p :: ps, vs, h => by
    simp only [RepL] at h ⊢
    obtain ⟨v, r, hv, h1, h2⟩ := h
    exact ⟨v, r, hv, RepV.grow g p v h1, RepL.grow g ps r h2⟩
end
theorem RepRow.iff {X : Nat → Prop} {β : List Base} {w : World} {b : Nat} : ∀ {ps : List PV} {off : Nat}, RepRow X β w b off ps ↔
    ∀ (i : Nat) p, ps[i]? = some p → ∃ v, w.cell? ⟨b, off + i, none⟩ = some v ∧ v.oneCell' = true ∧ RepV X β w p v
  | [], off => by simp [RepRow]
  | p :: ps, off => by
    simp only [RepRow]
    rw [RepRow.iff (ps := ps) (off := off + 1)]
    constructor
    · rintro ⟨h1, h2⟩ i q hq
      cases i with
      | zero => simp at hq; subst hq; simpa using h1
      | succ i => simp at hq; have := h2 i q hq; rw [show off + (i + 1) = off + 1 + i by omega]; exact this
    · intro h
      refine ⟨by simpa using h 0 p (by simp), fun i q hq => ?_⟩
      have := h (i + 1) q (by simpa using hq)
      rw [show off + 1 + i = off + (i + 1) by omega]; exact this
theorem RepL.length {X : Nat → Prop} {β : List Base} {w : World} : ∀ {ps : List PV} {vs : List Value}, RepL X β w ps vs → vs.length = ps.length
  | [], vs, h => by simp [RepL] at h; simp [h]
  | p :: ps, vs, h => by
    simp only [RepL] at h
    obtain ⟨v, r, rfl, _, h2⟩ := h
    simp [RepL.length h2]
theorem RepL.iff {X : Nat → Prop} {β : List Base} {w : World} : ∀ {ps : List PV} {vs : List Value}, RepL X β w ps vs ↔
    vs.length = ps.length ∧ ∀ (i : Nat) p v, ps[i]? = some p → vs[i]? = some v → RepV X β w p v
  | [], vs => by simp [RepL]
  | p :: ps, vs => by
    simp only [RepL]
    constructor
    · rintro ⟨v, r, rfl, h1, h2⟩
      rw [RepL.iff] at h2
      refine ⟨by simp [h2.1], fun i q u hq hu => ?_⟩
      cases i with
      | zero => simp at hq hu; subst hq hu; exact h1
      | succ i => simp at hq hu; exact h2.2 i q u hq hu
    · rintro ⟨hl, h⟩
      cases vs with
      | nil => simp at hl
      | cons v r =>
        refine ⟨v, r, rfl, h 0 p v (by simp) (by simp), ?_⟩
        rw [RepL.iff]
        exact ⟨by simpa using hl, fun i q u hq hu => h (i + 1) q u (by simpa using hq) (by simpa using hu)⟩
theorem repL_append {X : Nat → Prop} {β : List Base} {w : World} {ps qs : List PV} {vs us : List Value} (h : RepL X β w ps vs) (k : RepL X β w qs us) : RepL X β w (ps ++ qs) (vs ++ us) := by
  induction ps generalizing vs with
  | nil => simp [RepL] at h; subst h; simpa using k
  | cons p ps ih =>
    simp only [RepL] at h
    obtain ⟨v, r, rfl, h1, h2⟩ := h
    simp only [List.cons_append, RepL]
    exact ⟨v, r ++ us, rfl, h1, ih h2⟩
def lookup : List (Nat × PV) → Nat → PV
  | [], _ => .any
  | (i, p) :: r, t => bif i == t then p else lookup r t
structure St where
  env : List (Nat × PV)
  L : LH
def evalIn (env : List (Nat × PV)) : Operand → PV
  | .tmp t => lookup env t
  | .const v => .lit v
  | .global g => .rptr ((glv g).map .lit)
  | .func f => .fn (.func f) [] []
def putIn (env : List (Nat × PV)) (dst : Option Nat) (p : PV) : List (Nat × PV) :=
  match dst with
  | some d => (d, p) :: env
  | none => env
def Globs (X : Nat → Prop) (β : List Base) (w : World) : Prop := ∀ g, RepV X β w (.rptr ((glv g).map .lit)) (.pointer (some ⟨g, 0, none⟩))
theorem Globs.grow {X : Nat → Prop} {β β' : List Base} {w w' : World} (h : Globs X β w) (g : Grow β β' w w') : Globs X β' w' := fun k => RepV.grow g _ _ (h k)
def Marks (B : Nat) (β : List Base) (w : World) : List Deferred → Prop
  | [] => B ≤ w.heap.size
  | d :: ds => (∃ D, d = { target := .collected D, args := #[] } ∧ B ≤ D ∧ ¬ Live β D ∧ w.heap[D]? = some (.deferred (some [])) ∧ ∀ e ∈ ds, e.target ≠ .collected D) ∧ Marks B β w ds
theorem Marks.grow {B : Nat} {β β' : List Base} {w w' : World} (g : Grow β β' w w') : ∀ {ds : List Deferred}, Marks B β w ds → Marks B β' w' ds
  | [], h => Nat.le_trans h g.size
  | d :: ds, ⟨⟨D, h1, h2, h3, h4, h5⟩, h⟩ => by
    have hlt := (Array.getElem?_eq_some_iff.1 h4).1
    exact ⟨⟨D, h1, h2, g.notLive hlt h3, (g.block D hlt h3).trans h4, h5⟩, h.grow g⟩
theorem Marks.anti {B : Nat} {β β' : List Base} {w : World} (hl : ∀ b, Live β' b → Live β b) : ∀ {ds : List Deferred}, Marks B β w ds → Marks B β' w ds
  | [], h => h
  | d :: ds, ⟨⟨D, h1, h2, h3, h4, h5⟩, h⟩ => ⟨⟨D, h1, h2, fun h => h3 (hl D h), h4, h5⟩, h.anti hl⟩
theorem Marks.base {B : Nat} {β : List Base} {w : World} : ∀ {ds : List Deferred}, Marks B β w ds → B ≤ w.heap.size
  | [], h => h
  | _ :: _, h => Marks.base h.2
structure RepA (N B : Nat) (X : Nat → Prop) (β : List Base) (w : World) (env : List (Nat × PV)) (a : Act) : Prop where
  size : a.tmps.size = N
  defers : Marks B β w a.defers
  slot : ∀ t, RepV X β w (lookup env t) (a.tmps.getD t undef)
  glob : Globs X β w
theorem RepA.eval {N B : Nat} {X : Nat → Prop} {β : List Base} {w : World} {env : List (Nat × PV)} {a : Act} (h : RepA N B X β w env a) (x : Operand) : RepV X β w (evalIn env x) (a.eval x) := by
  cases x with
  | tmp t => exact h.slot t
  | const v => simp [evalIn, Act.eval, RepV]
  | global g => exact h.glob g
  | func f => simp only [evalIn, Act.eval, RepV, RepL]; exact ⟨[], [], rfl, rfl, rfl⟩
theorem RepA.grow {N B : Nat} {X : Nat → Prop} {β β' : List Base} {w w' : World} {env : List (Nat × PV)} {a : Act} (h : RepA N B X β w env a) (g : Grow β β' w w') : RepA N B X β' w' env a :=
  ⟨h.size, h.defers.grow g, fun t => RepV.grow g _ _ (h.slot t), h.glob.grow g⟩
theorem RepA.put {N B : Nat} {X : Nat → Prop} {β : List Base} {w : World} {env : List (Nat × PV)} {a : Act} (h : RepA N B X β w env a) {dst : Option Nat} (hd : ∀ d, dst = some d → d < N) {p : PV} {v : Value} (hv : RepV X β w p v) :
    RepA N B X β w (putIn env dst p) (a.put dst v) := by
  cases dst with
  | none => exact h
  | some d =>
    have hlt : d < a.tmps.size := by rw [h.size]; exact hd d rfl
    refine ⟨by simp [Act.put, h.size], h.defers, fun t => ?_, h.glob⟩
    simp only [putIn, lookup, Act.put]
    by_cases ht : d = t
    · subst ht
      rw [show (d == d) = true from beq_self_eq_true d]
      simp only [cond_true]
      have : ((a.tmps.setIfInBounds d v).getD d undef) = v := by simp [hlt]
      rw [this]; exact hv
    · have hb : (d == t) = false := by
        cases hh : (d == t)
        · rfl
        · exact absurd (eq_of_beq hh) ht
      rw [hb]
      simp only [cond_false]
      have : ((a.tmps.setIfInBounds d v).getD t undef) = a.tmps.getD t undef := by simp [Array.getElem?_setIfInBounds_ne ht]
      rw [this]; exact h.slot t
end Go.Ab
namespace Go.Ab
open Go Go.RowKit
set_option linter.unusedVariables false
set_option linter.unusedSimpArgs false
structure TI where
  und : TypeDesc
  size : Nat
  bytes : Nat
  zero : Value
def tyOf (P : Program) (t : TypeId) : Option TI :=
  match P.underlying t, P.info? t with
  | some d, some i => i.zero.map fun z => ⟨d, i.size, i.bytes, z⟩
  | _, _ => none
structure OR where
  pre : Prop
  val : PV
  L : LH
def OR.bad : OR := ⟨False, .any, []⟩
def PV.cells : PV → List PV
  | .agg cs => cs
  | .lit v => v.cells.toList.map .lit
  | p => [p]
def PV.one : PV → Bool
  | .lit v => v.oneCell'
  | .ro _ _ | .rptr _ | .fn _ _ _ | .own _ _ _ _ | .ptr _ _ => true
  | _ => false
def isByte : PV → Prop
  | .lit (.int .u8 _) => True
  | _ => False
def byteOf : PV → UInt8
  | .lit (.int .u8 n) => UInt8.ofNat n.toNat
  | _ => 0
def bv (b : UInt8) : PV := .lit (.int .u8 b.toNat)
def isAggD : TypeDesc → Bool
  | .struct _ => true
  | .array _ _ => true
  | _ => false
def slc (L : LH) : PV → Prop × Nat × List PV
  | .lit (.slice none 0 0) => (True, 0, [])
  | .ro n cs => (True, n, cs)
  | .own id off n sz => match L[id]? with
    | some (.cells cs) => (off + n * sz ≤ cs.length, n, (cs.drop off).take (n * sz))
    | _ => (False, 0, [])
  | _ => (False, 0, [])
def binInt (op : BinOp) (k : IntKind) (a b : Int) : Prop × Value :=
  match op with
  | .add => (True, .int k (k.wrap (a + b)))
  | .sub => (True, .int k (k.wrap (a - b)))
  | .mul => (True, .int k (k.wrap (a * b)))
  | .quo => (b ≠ 0, .int k (k.wrap (a.tdiv b)))
  | .rem => (b ≠ 0, .int k (a.tmod b))
  | .and => (True, .int k (k.wrap (BitVec.ofInt k.bits a &&& BitVec.ofInt k.bits b).toNat))
  | .or => (True, .int k (k.wrap (BitVec.ofInt k.bits a ||| BitVec.ofInt k.bits b).toNat))
  | .xor => (True, .int k (k.wrap (BitVec.ofInt k.bits a ^^^ BitVec.ofInt k.bits b).toNat))
  | .andNot => (True, .int k (k.wrap (BitVec.ofInt k.bits a &&& ~~~ BitVec.ofInt k.bits b).toNat))
  | .eql => (True, .bool (a == b))
  | .neq => (True, .bool (a != b))
  | .lss => (True, .bool (decide (a < b)))
  | .leq => (True, .bool (decide (a ≤ b)))
  | .gtr => (True, .bool (decide (a > b)))
  | .geq => (True, .bool (decide (a ≥ b)))
  | _ => (False, .bool false)
def binStr (op : BinOp) (a b : ByteArray) : Prop × Value :=
  match op with
  | .add => (((a.size + b.size : Nat) : Int) ≤ IntKind.i64.max, .string (a ++ b))
  | .eql => (True, .bool (a.toList == b.toList))
  | .neq => (True, .bool (!(a.toList == b.toList)))
  | .lss => (True, .bool (Op.bytesLess a.toList b.toList))
  | .leq => (True, .bool (Op.bytesLess a.toList b.toList || a.toList == b.toList))
  | .gtr => (True, .bool (!(Op.bytesLess a.toList b.toList || a.toList == b.toList)))
  | .geq => (True, .bool (!(Op.bytesLess a.toList b.toList)))
  | _ => (False, .bool false)
def isInts (k : IntKind) : List PV → Prop
  | [] => True
  | .lit (.int k' _) :: r => k' = k ∧ isInts k r
  | _ => False
def intsOf : List PV → List Int
  | [] => []
  | .lit (.int _ n) :: r => n :: intsOf r
  | _ => []
def isIntsB (k : IntKind) : List PV → Bool
  | [] => true
  | .lit (.int k' _) :: r => decide (k' = k) && isIntsB k r
  | _ => false
def partO (T : TI) (cs : List PV) (off : Nat) : Option PV :=
  bif isAggD T.und then (bif Nat.ble (off + T.size) cs.length then some (.agg ((cs.drop off).take T.size)) else none)
  else (bif Nat.blt off cs.length then some (cs.getD off (.lit T.zero)) else none)
def andO : Option Bool → Option Bool → Option Bool
  | some a, some b => some (a && b)
  | _, _ => none
def eqAll {α : Type} (f : α → Option Bool) : List α → Option Bool
  | [] => some true
  | [a] => f a
  | a :: b :: r => andO (f a) (eqAll f (b :: r))
def eqV (P : Program) : Nat → TypeId → PV → PV → Option Bool
  | 0, _, _, _ => none
  | d + 1, t, x, y => match P.underlying t with
    | some .bool => match x, y with
      | .lit (.bool a), .lit (.bool b) => some (a == b)
      | _, _ => none
    | some (.int _) => match x, y with
      | .lit (.int k a), .lit (.int k' b) => bif decide (k = k') then some (a == b) else none
      | _, _ => none
    | some .string => match x, y with
      | .lit (.string a), .lit (.string b) => some (a.toList == b.toList)
      | _, _ => none
    | some (.array n e) => match tyOf P e, x, y with
      | some E, .agg xs, .agg ys => match E.und with
        | .int k => bif Nat.blt 0 d && Nat.beq E.size 1 && Nat.beq xs.length n && Nat.beq ys.length n && isIntsB k xs && isIntsB k ys then some (intsOf xs == intsOf ys) else none
        | _ => eqAll (fun i => match partO E xs (i * E.size), partO E ys (i * E.size) with
          | some a, some b => eqV P d e a b
          | _, _ => none) (List.range n)
      | _, _, _ => none
    | some (.struct fs) => bif P.stoodInHeld t then none else match x, y with
      | .agg xs, .agg ys => eqAll (fun f => bif f.name == "_" then some true else match tyOf P f.type with
        | some T => match partO T xs f.offset, partO T ys f.offset with
          | some a, some b => eqV P d f.type a b
          | _, _ => none
        | none => none) fs.toList
      | _, _ => none
    | _ => none
def eqG (P : Program) (t : TypeId) (x y : PV) : Option Bool := bif P.eqGuardType P.depth t then none else eqV P 8 t x y
def binF (P : Program) (op : BinOp) (t : TypeId) (x y : PV) (L : LH) : OR :=
  match op, x, y with
  | .shl, .lit (.int k a), .lit (.int _ b) => ⟨0 ≤ b, .lit (.int k (k.wrap (a * 2 ^ (min b.toNat k.bits)))), L⟩
  | .shr, .lit (.int k a), .lit (.int _ b) => ⟨0 ≤ b, .lit (.int k (a.fdiv (2 ^ (min b.toNat k.bits)))), L⟩
  | op, .lit (.int k a), .lit (.int k' b) => ⟨k = k' ∧ (binInt op k a b).1, .lit (binInt op k a b).2, L⟩
  | op, .lit (.string a), .lit (.string b) => ⟨(binStr op a b).1, .lit (binStr op a b).2, L⟩
  | .eql, .lit (.bool a), .lit (.bool b) => ⟨(tyOf P t).map (·.und) = some .bool, .lit (.bool (a == b)), L⟩
  | .neq, .lit (.bool a), .lit (.bool b) => ⟨(tyOf P t).map (·.und) = some .bool, .lit (.bool (!(a == b))), L⟩
  | .eql, .agg xs, .agg ys => match eqG P t (.agg xs) (.agg ys) with
    | some b => ⟨True, .lit (.bool b), L⟩
    | none => .bad
  | .neq, .agg xs, .agg ys => match eqG P t (.agg xs) (.agg ys) with
    | some b => ⟨True, .lit (.bool !b), L⟩
    | none => .bad
  | _, _, _ => .bad
def unF (op : UnOp) (x : PV) (L : LH) : OR :=
  match op, x with
  | .neg, .lit (.int k n) => ⟨True, .lit (.int k (k.wrap (0 - n))), L⟩
  | .xor, .lit (.int k n) => ⟨True, .lit (.int k (k.wrap (BitVec.ofInt k.bits (if k.signed then -1 else k.max) ^^^ BitVec.ofInt k.bits n).toNat)), L⟩
  | .not, .lit (.bool b) => ⟨True, .lit (.bool !b), L⟩
  | _, _ => .bad
def convF (P : Program) (src dst : TypeId) (x : PV) (L : LH) : OR :=
  match tyOf P src, tyOf P dst with
  | some S, some D => match S.und, D.und, x with
    | _, .int k, .lit (.int _ n) => ⟨True, .lit (.int k (k.wrap n)), L⟩
    | .string, .string, .lit (.string s) => ⟨True, .lit (.string s), L⟩
    | .slice e, .string, x => match tyOf P e with
      | some ⟨.int .u8, 1, _, _⟩ => ⟨(slc L x).1 ∧ (slc L x).2.2.length = (slc L x).2.1 ∧ (∀ p ∈ (slc L x).2.2, isByte p), .lit (.string ⟨((slc L x).2.2.map byteOf).toArray⟩), L⟩
      | _ => .bad
    | .string, .slice e, .lit (.string s) => match tyOf P e with
      | some ⟨.int .u8, 1, _, _⟩ => ⟨True, .ro s.size (s.data.toList.map bv), L⟩
      | _ => .bad
    | _, _, _ => .bad
  | _, _ => .bad
def lenF (P : Program) (t : TypeId) (x : PV) (L : LH) : OR :=
  match tyOf P t with
  | some T => match T.und, x with
    | .string, .lit (.string s) => ⟨True, .lit (.int .i64 s.size), L⟩
    | .slice _, .lit (.slice _ n _) => ⟨True, .lit (.int .i64 n), L⟩
    | .slice _, .ro n _ => ⟨True, .lit (.int .i64 n), L⟩
    | .slice _, .own id _ n _ => match L[id]? with
      | some (.cells _) => ⟨True, .lit (.int .i64 n), L⟩
      | _ => .bad
    | .array n _, _ => ⟨True, .lit (.int .i64 n), L⟩
    | _, _ => .bad
  | none => .bad
def capF (P : Program) (t : TypeId) (x : PV) (L : LH) : OR :=
  match tyOf P t with
  | some T => match T.und, x with
    | .slice _, .lit (.slice _ _ c) => ⟨True, .lit (.int .i64 c), L⟩
    | .array n _, _ => ⟨True, .lit (.int .i64 n), L⟩
    | _, _ => .bad
  | none => .bad
def fresh (draw : Bool) (n sz : Nat) (cells : List PV) (L : LH) : PV × LH :=
  if draw then (.ro n cells, L) else (.own L.length 0 n sz, L ++ [.cells cells])
def rep (n : Nat) (z : Value) : List PV := (List.replicate n (z.cells.toList.map PV.lit)).flatten
def makeF (P : Program) (draw : Bool) (t : TypeId) (l c : PV) (L : LH) : OR :=
  match tyOf P t with
  | some ⟨.slice e, _, _, _⟩ => match tyOf P e, l, c with
    | some E, .lit (.int _ l), .lit (.int _ c) =>
      ⟨0 ≤ l ∧ l ≤ c ∧ E.bytes * c ≤ 281474976710656 ∧ c ≤ 9223372036854775807 ∧ E.zero.cells.size = E.size ∧ (∀ v ∈ E.zero.cells.toList, v.oneCell' = true), (fresh draw l.toNat E.size (rep l.toNat E.zero) L).1, (fresh draw l.toNat E.size (rep l.toNat E.zero) L).2⟩
    | _, _, _ => .bad
  | _ => .bad
def news (P : Program) (E : TI) (t2 : TypeId) (x : PV) (L : LH) : Prop × Nat × List PV :=
  match tyOf P t2 with
  | some ⟨.int _, _, _, _⟩ => match x with
    | .lit (.int _ m) => (0 ≤ m ∧ m ≤ 9223372036854775807 ∧ m * E.bytes ≤ 281474976710656 ∧ E.zero.cells.size = E.size ∧ (∀ v ∈ E.zero.cells.toList, v.oneCell' = true), m.toNat, rep m.toNat E.zero)
    | _ => (False, 0, [])
  | some ⟨.slice _, _, _, _⟩ => ((slc L x).1 ∧ (slc L x).2.2.length = (slc L x).2.1 * E.size, (slc L x).2)
  | some ⟨.string, _, _, _⟩ => match x with
    | .lit (.string s) => (E.size = 1, s.size, s.data.toList.map bv)
    | _ => (False, 0, [])
  | _ => (False, 0, [])
def kill (L : LH) (x : PV) : LH :=
  match x with
  | .own id _ _ _ => L.set id .dead
  | _ => L
def appF (P : Program) (draw : Bool) (t t2 : TypeId) (s x : PV) (L : LH) : OR :=
  match tyOf P t with
  | some ⟨.slice e, _, _, _⟩ => match tyOf P e with
    | some E =>
      let N := news P E t2 x L
      match s with
      | .lit (.slice none 0 0) => let f := fresh draw N.2.1 E.size N.2.2 L
        ⟨0 < E.size ∧ E.zero.cells.size = E.size ∧ N.1 ∧ N.2.1 * E.bytes ≤ 140737488355328 ∧ N.2.1 ≤ 4611686018427387904, f.1, f.2⟩
      | .own id off n sz => match draw with
        | true => .bad
        | false =>
          ⟨0 < E.size ∧ E.zero.cells.size = E.size ∧ sz = E.size ∧ (slc L s).1 ∧ N.1 ∧ (n + N.2.1) * E.bytes ≤ 140737488355328 ∧ n + N.2.1 ≤ 4611686018427387904,
            .own L.length 0 (n + N.2.1) E.size, kill L s ++ [.cells ((slc L s).2.2 ++ N.2.2)]⟩
      | _ => .bad
    | none => .bad
  | _ => .bad
def ints? : Option PV → Int → Option Int
  | none, d => some d
  | some (.lit (.int _ n)), _ => some n
  | _, _ => none
def sliceF (P : Program) (t : TypeId) (x : PV) (lo hi mx : Option PV) (L : LH) : OR :=
  match tyOf P t, mx with
  | some ⟨.slice e, _, _, _⟩, none => match tyOf P e, x with
    | some E, .lit (.slice none 0 0) => match ints? lo 0, ints? hi 0 with
      | some l, some h => ⟨l = 0 ∧ h = 0, .lit (.slice none 0 0), L⟩
      | _, _ => .bad
    | some E, .ro n cs => match ints? lo 0, ints? hi n with
      | some l, some h => ⟨0 ≤ l ∧ l ≤ h ∧ h ≤ n ∧ cs.length = n * E.size, .ro (h - l).toNat ((cs.drop (l.toNat * E.size)).take ((h - l).toNat * E.size)), L⟩
      | _, _ => .bad
    | some E, .own id off n sz => match ints? lo 0, ints? hi n, L[id]? with
      | some l, some h, some (.cells _) => ⟨0 ≤ l ∧ l ≤ h ∧ h ≤ n ∧ sz = E.size ∧ (l = 0 ∨ l < h), .own id (off + l.toNat * E.size) (h - l).toNat sz, L⟩
      | _, _, _ => .bad
    | _, _ => .bad
  | some ⟨.array n e, _, _, _⟩, none => match tyOf P e, x, ints? lo 0, ints? hi n with
    | some E, .ptr id off, some l, some h => match L[id]? with
      | some (.cells cs) => ⟨0 ≤ l ∧ l ≤ h ∧ h ≤ n ∧ (l = 0 ∨ l < h) ∧ off + n * E.size ≤ cs.length, .own id (off + l.toNat * E.size) (h - l).toNat E.size, L⟩
      | _ => .bad
    | some E, .rptr cs, some l, some h => ⟨l = 0 ∧ h = n ∧ 0 < n ∧ cs.length = n * E.size ∧ 0 < E.size, .ro n cs, L⟩
    | _, _, _, _ => .bad
  | some ⟨.string, _, _, _⟩, none => match x with
    | .lit (.string s) => match ints? lo 0, ints? hi s.size with
      | some l, some h => ⟨0 ≤ l ∧ l ≤ h ∧ h ≤ s.size, .lit (.string (s.extract l.toNat h.toNat)), L⟩
      | _, _ => .bad
    | _ => .bad
  | some ⟨.slice e, _, _, _⟩, some (.lit (.int _ m)) => match tyOf P e, x, lo, hi with
    | some E, .ro n cs, some (.lit (.int _ l)), some (.lit (.int _ h)) => ⟨0 ≤ l ∧ l ≤ h ∧ h ≤ m ∧ m ≤ n ∧ cs.length = n * E.size, .ro (h - l).toNat ((cs.drop (l.toNat * E.size)).take ((h - l).toNat * E.size)), L⟩
    | _, _, _, _ => .bad
  | _, _ => .bad
def elemAt (E : TI) (cs : List PV) (i : Nat) : List PV :=
  if E.size = 1 then [cs.getD i (.lit E.zero)] else (cs.drop (i * E.size)).take E.size
def indexAddrF (P : Program) (t : TypeId) (x i : PV) (L : LH) : OR :=
  match i with
  | .lit (.int _ i) => match tyOf P t with
    | some ⟨.slice e, _, _, _⟩ => match tyOf P e, x with
      | some E, .ro n cs => ⟨0 ≤ i ∧ i < n ∧ cs.length = n * E.size ∧ 0 < E.size, .rptr (elemAt E cs i.toNat), L⟩
      | some E, .own id off n sz => match L[id]? with
        | some (.cells _) => ⟨0 ≤ i ∧ i < n ∧ sz = E.size, .ptr id (off + i.toNat * E.size), L⟩
        | _ => .bad
      | _, _ => .bad
    | some ⟨.array n e, _, _, _⟩ => match tyOf P e, x with
      | some E, .ptr id off => match L[id]? with
        | some (.cells _) => ⟨0 ≤ i ∧ i < n, .ptr id (off + i.toNat * E.size), L⟩
        | _ => .bad
      | some E, .rptr cs => ⟨0 ≤ i ∧ i < n ∧ cs.length = n * E.size ∧ 0 < E.size, .rptr (elemAt E cs i.toNat), L⟩
      | _, _ => .bad
    | _ => .bad
  | _ => .bad
def partF (T : TI) (cs : List PV) (off : Nat) : Prop × PV :=
  if isAggD T.und then (off + T.size ≤ cs.length, .agg ((cs.drop off).take T.size))
  else (off < cs.length, cs.getD off (.lit T.zero))
def loadF (P : Program) (t : TypeId) (a : PV) (L : LH) : OR :=
  match tyOf P t with
  | some T => match a with
    | .ptr id off => match L[id]? with
      | some (.cells cs) => ⟨(partF T cs off).1, (partF T cs off).2, L⟩
      | _ => .bad
    | .rptr cs => ⟨(partF T cs 0).1, (partF T cs 0).2, L⟩
    | _ => .bad
  | none => .bad
def splice (cs : List PV) (off : Nat) (vs : List PV) : List PV :=
  match vs with
  | [v] => cs.set off v
  | vs => cs.take off ++ vs ++ cs.drop (off + vs.length)
def storeF (P : Program) (draw : Bool) (t : TypeId) (a v : PV) (L : LH) : OR :=
  match tyOf P t, draw with
  | some T, false => match a with
    | .ptr id off => match L[id]? with
      | some (.cells cs) => ⟨v.cells.length = T.size ∧ off + T.size ≤ cs.length ∧ v.cells.all PV.one = true, .lit undef, L.set id (.cells (splice cs off v.cells))⟩
      | _ => .bad
    | _ => .bad
  | _, _ => .bad
def boxF (draw : Bool) (v : PV) (L : LH) : OR :=
  match draw with
  | false => ⟨v.cells.all PV.one = true, .ptr L.length 0, L ++ [.cells v.cells]⟩
  | true => .bad
def allocF (P : Program) (draw : Bool) (t : TypeId) (L : LH) : OR :=
  match tyOf P t, draw with
  | some T, false => ⟨(∀ v ∈ T.zero.cells.toList, v.oneCell' = true), .ptr L.length 0, L ++ [.cells (T.zero.cells.toList.map .lit)]⟩
  | _, _ => .bad
def fillA (size : Nat) (place : Nat → Option Nat) (cs : List PV) : List (Nat × PV) → Option (List PV)
  | [] => some cs
  | (i, p) :: r => match place i with
    | some off => if p.cells.length = size ∧ off + size ≤ cs.length then fillA size place (splice cs off p.cells) r else none
    | none => none
def buildSliceF (P : Program) (draw : Bool) (t : TypeId) (len : Nat) (parts : List (Nat × PV)) (L : LH) : OR :=
  match tyOf P t with
  | some ⟨.slice e, _, _, _⟩ => match tyOf P e with
    | some E => match fillA E.size (fun i => some (i * E.size)) (rep len E.zero) parts with
      | some cs => ⟨len * E.size ≤ 16777216 ∧ 0 < len * E.size ∧ E.zero.cells.size = E.size ∧ (∀ v ∈ E.zero.cells.toList, v.oneCell' = true) ∧ parts.all (fun x => x.2.cells.all PV.one) = true ∧ cs.all PV.one = true, (fresh draw len E.size cs L).1, (fresh draw len E.size cs L).2⟩
      | none => .bad
    | none => .bad
  | _ => .bad
def fieldF (P : Program) (t : TypeId) (x : PV) (f : Nat) (L : LH) : OR :=
  match tyOf P t with
  | some ⟨.struct fs, _, _, _⟩ => match fs[f]? with
    | some fd => match tyOf P fd.type with
      | some T => match x with
        | .agg cs => ⟨(partF T cs fd.offset).1, (partF T cs fd.offset).2, L⟩
        | _ => .bad
      | none => .bad
    | none => .bad
  | _ => .bad
def indexF (P : Program) (t : TypeId) (x i : PV) (L : LH) : OR :=
  match i with
  | .lit (.int _ i) => match tyOf P t with
    | some ⟨.string, _, _, _⟩ => match x with
      | .lit (.string s) => ⟨0 ≤ i ∧ i < s.size, bv (s.data.toList.getD i.toNat 0), L⟩
      | _ => .bad
    | some ⟨.array n e, _, _, _⟩ => match tyOf P e, x with
      | some E, .agg cs => ⟨0 ≤ i ∧ i < n ∧ (partF E cs (i.toNat * E.size)).1, (partF E cs (i.toNat * E.size)).2, L⟩
      | _, _ => .bad
    | _ => .bad
  | _ => .bad
def extractF (x : PV) (i : Nat) (L : LH) : OR :=
  match x with
  | .tup vs => match vs[i]? with
    | some p => ⟨True, p, L⟩
    | none => .bad
  | _ => .bad
def arrF (P : Program) (t : TypeId) (x : PV) (L : LH) : OR :=
  match tyOf P t with
  | some ⟨.array n e, _, _, _⟩ => match tyOf P e, x with
    | some E, .ro m cs => ⟨n ≤ m ∧ 0 < n ∧ cs.length = m * E.size ∧ 0 < E.size, .rptr (cs.take (n * E.size)), L⟩
    | _, _ => .bad
  | _ => .bad
def copyF (P : Program) (draw : Bool) (t : TypeId) (d s : PV) (L : LH) : OR :=
  match tyOf P t with
  | some ⟨.slice e, _, _, _⟩ => match tyOf P e, d, draw with
    | some E, .own id off n sz, false => match L[id]? with
      | some (.cells cs) =>
        let m := min (slc L s).2.1 n
        ⟨(slc L s).1 ∧ sz = E.size ∧ (slc L s).2.2.length = (slc L s).2.1 * E.size ∧ off + n * sz ≤ cs.length,
          .lit (.int .i64 m), L.set id (.cells (cs.take off ++ (slc L s).2.2.take (m * E.size) ++ cs.drop (off + m * E.size)))⟩
      | _ => .bad
    | _, _, _ => .bad
  | _ => .bad
end Go.Ab
