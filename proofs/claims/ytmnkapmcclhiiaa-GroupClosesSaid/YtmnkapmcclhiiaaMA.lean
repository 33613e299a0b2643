import Derived.Calls
import Derived.Orders
import Derived.Below
import Derived.Laws.AppendOwn
import Derived.Laws.CopyRow
import Derived.ChangeKeysEq
import Derived.Laws.MakeOwn
import Derived.Laws.BytesString
import Derived.Laws.IdiomStrings
import Derived.Tactics
namespace Go.Ab
open Go
def glv : Nat → List Value
  | _ => []
end Go.Ab
namespace Go.Ab
open Go Go.RowKit
set_option linter.unusedVariables false
set_option linter.unusedSimpArgs false
inductive PV where
  | any
  | lit (v : Value)
  | ro (n : Nat) (cells : List PV)
  | own (id off n sz : Nat)
  | ptr (id off : Nat)
  | rptr (cells : List PV)
  | agg (cells : List PV)
  | tup (vs : List PV)
  | fn (f : Fn) (first captured : List PV)
  | new (n sz : Nat) (cells : List PV)
inductive Base where
  | dead
  | nil
  | blk (b base : Nat)
def Live (β : List Base) (b : Nat) : Prop := ∃ (id base : Nat), β[id]? = some (.blk b base)
mutual
def RepV (X : Nat → Prop) (β : List Base) (w : World) : PV → Value → Prop
  | .any, _ => True
  | .lit v0, v => v = v0
  | .ro n cells, v => ∃ a cap, v = .slice a n cap ∧ n ≤ cap ∧
      (cells = [] ∨ ∃ b off, a = some ⟨b, off, none⟩ ∧ ¬ X b ∧ ¬ Live β b ∧ RepRow X β w b off cells)
  | .own id off n sz, v => id < β.length ∧ (∀ b base, β[id]? = some (.blk b base) →
      ∃ cap, v = .slice (some ⟨b, base + off, none⟩) n cap ∧ n ≤ cap ∧ ∃ c el fr, w.heap[b]? = some (.cells c el fr) ∧ base + off + cap * sz ≤ c.size) ∧
      (β[id]? = some .nil → v = .slice none 0 0 ∧ n = 0 ∧ off = 0)
  | .ptr id off, v => id < β.length ∧ (∀ b base, β[id]? = some (.blk b base) → v = .pointer (some ⟨b, base + off, none⟩)) ∧ β[id]? ≠ some .nil
  | .rptr cells, v => ∃ b off, v = .pointer (some ⟨b, off, none⟩) ∧ (cells = [] ∨ (¬ X b ∧ ¬ Live β b ∧ RepRow X β w b off cells))
  | .agg cells, v => ∃ vs : List Value, v = .agg vs.toArray ∧ RepL X β w cells vs
  | .tup ps, v => ∃ vs : List Value, v = .tuple vs.toArray ∧ RepL X β w ps vs
  | .fn f first captured, v => ∃ xs ys : List Value, v = .func f xs.toArray ys.toArray ∧ RepL X β w first xs ∧ RepL X β w captured ys
  | .new _ _ _, _ => False
def RepRow (X : Nat → Prop) (β : List Base) (w : World) (b : Nat) : Nat → List PV → Prop
  | _, [] => True
  | off, p :: ps => (∃ v, w.cell? ⟨b, off, none⟩ = some v ∧ v.oneCell' = true ∧ RepV X β w p v) ∧ RepRow X β w b (off + 1) ps
def RepL (X : Nat → Prop) (β : List Base) (w : World) : List PV → List Value → Prop
  | [], vs => vs = []
  | p :: ps, vs => ∃ v r, vs = v :: r ∧ RepV X β w p v ∧ RepL X β w ps r
end
inductive LE where
  | dead
  | cells (cs : List PV)
abbrev LH := List LE
structure RepH (X : Nat → Prop) (β : List Base) (w : World) (L : LH) : Prop where
  len : β.length = L.length
  inj : ∀ (i j b x y : Nat), β[i]? = some (.blk b x) → β[j]? = some (.blk b y) → i = j
  lt : ∀ b, Live β b → b < w.heap.size
  out : ∀ b, X b → b < w.heap.size ∧ ¬ Live β b
  ent : ∀ (id : Nat) cs, L[id]? = some (.cells cs) → (β[id]? = some .nil ∧ cs = []) ∨ ∃ b base c el, β[id]? = some (.blk b base) ∧ w.heap[b]? = some (.cells c el (0, 0)) ∧ base + cs.length ≤ c.size ∧ RepRow X β w b base cs
structure Grow (β β' : List Base) (w w' : World) : Prop where
  os : w'.os = w.os
  tape : w'.tape = w.tape
  output : w'.output = w.output
  size : w.heap.size ≤ w'.heap.size
  block : ∀ k, k < w.heap.size → ¬ Live β k → w'.heap[k]? = w.heap[k]?
  shape : ∀ (k : Nat) c el fr, w.heap[k]? = some (.cells c el fr) → ∃ c' fr', w'.heap[k]? = some (.cells c' el fr') ∧ c'.size = c.size
  live : ∀ b, Live β' b → Live β b ∨ w.heap.size ≤ b
  len : β.length ≤ β'.length
  keep : ∀ (id : Nat) x, id < β.length → β'[id]? = some x → x ≠ .dead → β[id]? = some x
theorem Grow.refl (β : List Base) (w : World) : Grow β β w w :=
  ⟨rfl, rfl, rfl, Nat.le_refl _, fun _ _ _ => rfl, fun k c el fr h => ⟨c, fr, h, rfl⟩, fun _ h => .inl h, Nat.le_refl _, fun _ _ _ h _ => h⟩
theorem Grow.trans {β β' β'' : List Base} {w w' w'' : World} (h : Grow β β' w w') (k : Grow β' β'' w' w'') : Grow β β'' w w'' where
  os := k.os.trans h.os
  tape := k.tape.trans h.tape
  output := k.output.trans h.output
  size := Nat.le_trans h.size k.size
  block := fun i hi hl => (k.block i (Nat.lt_of_lt_of_le hi h.size) (fun hb => by rcases h.live i hb with x | x; exact hl x; omega)).trans (h.block i hi hl)
  shape := fun i c el fr hi => by
    obtain ⟨c', fr', h1, h2⟩ := h.shape i c el fr hi
    obtain ⟨c'', fr'', h3, h4⟩ := k.shape i c' el fr' h1
    exact ⟨c'', fr'', h3, h4.trans h2⟩
  live := fun b hb => by
    rcases k.live b hb with x | x
    · exact h.live b x
    · exact .inr (Nat.le_trans h.size x)
  len := Nat.le_trans h.len k.len
  keep := fun id x hid hx hd => h.keep id x hid (k.keep id x (Nat.lt_of_lt_of_le hid h.len) hx hd) hd
theorem cell_lt {w : World} {a : Addr} {v : Value} (h : w.cell? a = some v) : a.block < w.heap.size := World.block_lt_of_cell? w a h
theorem Grow.notLive {β β' : List Base} {w w' : World} (g : Grow β β' w w') {b : Nat} (hb : b < w.heap.size) (h : ¬ Live β b) : ¬ Live β' b := fun x => by
  rcases g.live b x with y | y
  · exact h y
  · omega
mutual
theorem RepV.grow {X : Nat → Prop} {β β' : List Base} {w w' : World} (g : Grow β β' w w') : ∀ (p : PV) (v : Value), RepV X β w p v → RepV X β' w' p v
  | .any, _, _ => by simp [RepV]
  | .lit v0, v, h => by simpa [RepV] using h
  | .ro n cells, v, h => by
    simp only [RepV] at h ⊢
    obtain ⟨a, cap, hv, hn, hc⟩ := h
    refine ⟨a, cap, hv, hn, ?_⟩
    cases cells with
    | nil => exact .inl rfl
    | cons p ps =>
      rcases hc with hc | ⟨b, off, ha, hx, hl, hr⟩
      · cases hc
      · have hb : b < w.heap.size := by
          simp only [RepRow] at hr
          obtain ⟨⟨v, hv, _⟩, _⟩ := hr
          exact cell_lt hv
        exact .inr ⟨b, off, ha, hx, g.notLive hb hl, RepRow.grow g b hl (p :: ps) off hr⟩
  | .own id off n sz, v, h => by
    simp only [RepV] at h ⊢
    refine ⟨Nat.lt_of_lt_of_le h.1 g.len, fun b base hb => ?_, fun hb => h.2.2 (g.keep id _ h.1 hb (by simp))⟩
    obtain ⟨cap, hv, hn, c, el, fr, hc, hs⟩ := h.2.1 b base (g.keep id _ h.1 hb (by simp))
    obtain ⟨c', fr', h1, h2⟩ := g.shape b c el fr hc
    exact ⟨cap, hv, hn, c', el, fr', h1, by omega⟩
  | .ptr id off, v, h => by
    simp only [RepV] at h ⊢
    exact ⟨Nat.lt_of_lt_of_le h.1 g.len, fun b base hb => h.2.1 b base (g.keep id _ h.1 hb (by simp)), fun hb => h.2.2 (g.keep id _ h.1 hb (by simp))⟩
  | .rptr cells, v, h => by
    simp only [RepV] at h ⊢
    obtain ⟨b, off, hv, hc⟩ := h
    refine ⟨b, off, hv, ?_⟩
    cases cells with
    | nil => exact .inl rfl
    | cons p ps =>
      rcases hc with hc | ⟨hx, hl, hr⟩
      · cases hc
      · have hb : b < w.heap.size := by
          simp only [RepRow] at hr
          obtain ⟨⟨v, hv, _⟩, _⟩ := hr
          exact cell_lt hv
        exact .inr ⟨hx, g.notLive hb hl, RepRow.grow g b hl (p :: ps) off hr⟩
  | .agg cells, v, h => by
    simp only [RepV] at h ⊢
    obtain ⟨vs, hv, hr⟩ := h
    exact ⟨vs, hv, RepL.grow g cells vs hr⟩
  | .tup cells, v, h => by
    simp only [RepV] at h ⊢
    obtain ⟨vs, hv, hr⟩ := h
    exact ⟨vs, hv, RepL.grow g cells vs hr⟩
  | .fn f first captured, v, h => by
    simp only [RepV] at h ⊢
    obtain ⟨xs, ys, hv, hx, hy⟩ := h
    exact ⟨xs, ys, hv, RepL.grow g first xs hx, RepL.grow g captured ys hy⟩
  | .new _ _ _, v, h => by simp [RepV] at h
theorem RepRow.grow {X : Nat → Prop} {β β' : List Base} {w w' : World} (g : Grow β β' w w') (b : Nat) (hl : ¬ Live β b) : ∀ (ps : List PV) (off : Nat), RepRow X β w b off ps → RepRow X β' w' b off ps
  | [], _, _ => by simp [RepRow]
  | p :: ps, off, h => by
    simp only [RepRow] at h ⊢
    obtain ⟨⟨v, hv, ho, hr⟩, h2⟩ := h
    refine ⟨⟨v, ?_, ho, RepV.grow g p v hr⟩, RepRow.grow g b hl ps (off + 1) h2⟩
    rw [← hv]
    exact World.cell?_of_block (g.block b (cell_lt hv) hl)
theorem RepL.grow {X : Nat → Prop} {β β' : List Base} {w w' : World} (g : Grow β β' w w') : ∀ (ps : List PV) (vs : List Value), RepL X β w ps vs → RepL X β' w' ps vs
  | [], vs, h => by simpa [RepL] using h
  | p :: ps, vs, h => by
    simp only [RepL] at h ⊢
    obtain ⟨v, r, hv, h1, h2⟩ := h
    exact ⟨v, r, hv, RepV.grow g p v h1, RepL.grow g ps r h2⟩
end
theorem RepRow.iff {X : Nat → Prop} {β : List Base} {w : World} {b : Nat} : ∀ {ps : List PV} {off : Nat}, RepRow X β w b off ps ↔
    ∀ (i : Nat) p, ps[i]? = some p → ∃ v, w.cell? ⟨b, off + i, none⟩ = some v ∧ v.oneCell' = true ∧ RepV X β w p v
  | [], off => by simp [RepRow]
  | p :: ps, off => by
    simp only [RepRow]
    rw [RepRow.iff (ps := ps) (off := off + 1)]
    constructor
    · rintro ⟨h1, h2⟩ i q hq
      cases i with
      | zero => simp at hq; subst hq; simpa using h1
      | succ i => simp at hq; have := h2 i q hq; rw [show off + (i + 1) = off + 1 + i by omega]; exact this
    · intro h
      refine ⟨by simpa using h 0 p (by simp), fun i q hq => ?_⟩
      have := h (i + 1) q (by simpa using hq)
      rw [show off + 1 + i = off + (i + 1) by omega]; exact this
theorem RepL.length {X : Nat → Prop} {β : List Base} {w : World} : ∀ {ps : List PV} {vs : List Value}, RepL X β w ps vs → vs.length = ps.length
  | [], vs, h => by simp [RepL] at h; simp [h]
  | p :: ps, vs, h => by
    simp only [RepL] at h
    obtain ⟨v, r, rfl, _, h2⟩ := h
    simp [RepL.length h2]
theorem RepL.iff {X : Nat → Prop} {β : List Base} {w : World} : ∀ {ps : List PV} {vs : List Value}, RepL X β w ps vs ↔
    vs.length = ps.length ∧ ∀ (i : Nat) p v, ps[i]? = some p → vs[i]? = some v → RepV X β w p v
  | [], vs => by simp [RepL]
  | p :: ps, vs => by
    simp only [RepL]
    constructor
    · rintro ⟨v, r, rfl, h1, h2⟩
      rw [RepL.iff] at h2
      refine ⟨by simp [h2.1], fun i q u hq hu => ?_⟩
      cases i with
      | zero => simp at hq hu; subst hq hu; exact h1
      | succ i => simp at hq hu; exact h2.2 i q u hq hu
    · rintro ⟨hl, h⟩
      cases vs with
      | nil => simp at hl
      | cons v r =>
        refine ⟨v, r, rfl, h 0 p v (by simp) (by simp), ?_⟩
        rw [RepL.iff]
        exact ⟨by simpa using hl, fun i q u hq hu => h (i + 1) q u (by simpa using hq) (by simpa using hu)⟩
theorem repL_append {X : Nat → Prop} {β : List Base} {w : World} {ps qs : List PV} {vs us : List Value} (h : RepL X β w ps vs) (k : RepL X β w qs us) : RepL X β w (ps ++ qs) (vs ++ us) := by
  induction ps generalizing vs with
  | nil => simp [RepL] at h; subst h; simpa using k
  | cons p ps ih =>
    simp only [RepL] at h
    obtain ⟨v, r, rfl, h1, h2⟩ := h
    simp only [List.cons_append, RepL]
    exact ⟨v, r ++ us, rfl, h1, ih h2⟩
def lookup : List (Nat × PV) → Nat → PV
  | [], _ => .any
  | (i, p) :: r, t => bif i == t then p else lookup r t
structure St where
  env : List (Nat × PV)
  L : LH
def evalIn (env : List (Nat × PV)) : Operand → PV
  | .tmp t => lookup env t
  | .const v => .lit v
  | .global g => .rptr ((glv g).map .lit)
  | .func f => .fn (.func f) [] []
def putIn (env : List (Nat × PV)) (dst : Option Nat) (p : PV) : List (Nat × PV) :=
  match dst with
  | some d => (d, p) :: env
  | none => env
def Globs (X : Nat → Prop) (β : List Base) (w : World) : Prop := ∀ g, RepV X β w (.rptr ((glv g).map .lit)) (.pointer (some ⟨g, 0, none⟩))
theorem Globs.grow {X : Nat → Prop} {β β' : List Base} {w w' : World} (h : Globs X β w) (g : Grow β β' w w') : Globs X β' w' := fun k => RepV.grow g _ _ (h k)
structure RepA (N : Nat) (X : Nat → Prop) (β : List Base) (w : World) (env : List (Nat × PV)) (a : Act) : Prop where
  size : a.tmps.size = N
  defers : a.defers = []
  slot : ∀ t, RepV X β w (lookup env t) (a.tmps.getD t undef)
  glob : Globs X β w
theorem RepA.eval {N : Nat} {X : Nat → Prop} {β : List Base} {w : World} {env : List (Nat × PV)} {a : Act} (h : RepA N X β w env a) (x : Operand) : RepV X β w (evalIn env x) (a.eval x) := by
  cases x with
  | tmp t => exact h.slot t
  | const v => simp [evalIn, Act.eval, RepV]
  | global g => exact h.glob g
  | func f => simp only [evalIn, Act.eval, RepV, RepL]; exact ⟨[], [], rfl, rfl, rfl⟩
theorem RepA.grow {N : Nat} {X : Nat → Prop} {β β' : List Base} {w w' : World} {env : List (Nat × PV)} {a : Act} (h : RepA N X β w env a) (g : Grow β β' w w') : RepA N X β' w' env a :=
  ⟨h.size, h.defers, fun t => RepV.grow g _ _ (h.slot t), h.glob.grow g⟩
theorem RepA.put {N : Nat} {X : Nat → Prop} {β : List Base} {w : World} {env : List (Nat × PV)} {a : Act} (h : RepA N X β w env a) {dst : Option Nat} (hd : ∀ d, dst = some d → d < N) {p : PV} {v : Value} (hv : RepV X β w p v) :
    RepA N X β w (putIn env dst p) (a.put dst v) := by
  cases dst with
  | none => exact h
  | some d =>
    have hlt : d < a.tmps.size := by rw [h.size]; exact hd d rfl
    refine ⟨by simp [Act.put, h.size], h.defers, fun t => ?_, h.glob⟩
    simp only [putIn, lookup, Act.put]
    by_cases ht : d = t
    · subst ht
      rw [show (d == d) = true from beq_self_eq_true d]
      simp only [cond_true]
      have : ((a.tmps.setIfInBounds d v).getD d undef) = v := by simp [hlt]
      rw [this]; exact hv
    · have hb : (d == t) = false := by
        cases hh : (d == t)
        · rfl
        · exact absurd (eq_of_beq hh) ht
      rw [hb]
      simp only [cond_false]
      have : ((a.tmps.setIfInBounds d v).getD t undef) = a.tmps.getD t undef := by simp [Array.getElem?_setIfInBounds_ne ht]
      rw [this]; exact h.slot t
end Go.Ab
namespace Go.Ab
open Go Go.RowKit
set_option linter.unusedVariables false
set_option linter.unusedSimpArgs false
structure TI where
  und : TypeDesc
  size : Nat
  bytes : Nat
  zero : Value
def tyOf (P : Program) (t : TypeId) : Option TI :=
  match P.underlying t, P.info? t with
  | some d, some i => i.zero.map fun z => ⟨d, i.size, i.bytes, z⟩
  | _, _ => none
structure OR where
  pre : Prop
  val : PV
  L : LH
def OR.bad : OR := ⟨False, .any, []⟩
def PV.cells : PV → List PV
  | .agg cs => cs
  | .lit v => v.cells.toList.map .lit
  | p => [p]
def PV.one : PV → Bool
  | .lit v => v.oneCell'
  | .ro _ _ | .rptr _ | .fn _ _ _ => true
  | _ => false
def isByte : PV → Prop
  | .lit (.int .u8 _) => True
  | _ => False
def byteOf : PV → UInt8
  | .lit (.int .u8 n) => UInt8.ofNat n.toNat
  | _ => 0
def bv (b : UInt8) : PV := .lit (.int .u8 b.toNat)
def isAggD : TypeDesc → Bool
  | .struct _ => true
  | .array _ _ => true
  | _ => false
def slc (L : LH) : PV → Prop × Nat × List PV
  | .lit (.slice none 0 0) => (True, 0, [])
  | .ro n cs => (True, n, cs)
  | .own id off n sz => match L[id]? with
    | some (.cells cs) => (off + n * sz ≤ cs.length, n, (cs.drop off).take (n * sz))
    | _ => (False, 0, [])
  | _ => (False, 0, [])
def binInt (op : BinOp) (k : IntKind) (a b : Int) : Prop × Value :=
  match op with
  | .add => (True, .int k (k.wrap (a + b)))
  | .sub => (True, .int k (k.wrap (a - b)))
  | .mul => (True, .int k (k.wrap (a * b)))
  | .quo => (b ≠ 0, .int k (k.wrap (a.tdiv b)))
  | .rem => (b ≠ 0, .int k (a.tmod b))
  | .and => (True, .int k (k.wrap (BitVec.ofInt k.bits a &&& BitVec.ofInt k.bits b).toNat))
  | .or => (True, .int k (k.wrap (BitVec.ofInt k.bits a ||| BitVec.ofInt k.bits b).toNat))
  | .xor => (True, .int k (k.wrap (BitVec.ofInt k.bits a ^^^ BitVec.ofInt k.bits b).toNat))
  | .andNot => (True, .int k (k.wrap (BitVec.ofInt k.bits a &&& ~~~ BitVec.ofInt k.bits b).toNat))
  | .eql => (True, .bool (a == b))
  | .neq => (True, .bool (a != b))
  | .lss => (True, .bool (decide (a < b)))
  | .leq => (True, .bool (decide (a ≤ b)))
  | .gtr => (True, .bool (decide (a > b)))
  | .geq => (True, .bool (decide (a ≥ b)))
  | _ => (False, .bool false)
def binStr (op : BinOp) (a b : ByteArray) : Prop × Value :=
  match op with
  | .add => (((a.size + b.size : Nat) : Int) ≤ IntKind.i64.max, .string (a ++ b))
  | .eql => (True, .bool (a.toList == b.toList))
  | .neq => (True, .bool (!(a.toList == b.toList)))
  | .lss => (True, .bool (Op.bytesLess a.toList b.toList))
  | .leq => (True, .bool (Op.bytesLess a.toList b.toList || a.toList == b.toList))
  | .gtr => (True, .bool (!(Op.bytesLess a.toList b.toList || a.toList == b.toList)))
  | .geq => (True, .bool (!(Op.bytesLess a.toList b.toList)))
  | _ => (False, .bool false)
def isInts (k : IntKind) : List PV → Prop
  | [] => True
  | .lit (.int k' _) :: r => k' = k ∧ isInts k r
  | _ => False
def intsOf : List PV → List Int
  | [] => []
  | .lit (.int _ n) :: r => n :: intsOf r
  | _ => []
def binF (P : Program) (op : BinOp) (t : TypeId) (x y : PV) (L : LH) : OR :=
  match op, x, y with
  | .shl, .lit (.int k a), .lit (.int _ b) => ⟨0 ≤ b, .lit (.int k (k.wrap (a * 2 ^ (min b.toNat k.bits)))), L⟩
  | .shr, .lit (.int k a), .lit (.int _ b) => ⟨0 ≤ b, .lit (.int k (a.fdiv (2 ^ (min b.toNat k.bits)))), L⟩
  | op, .lit (.int k a), .lit (.int k' b) => ⟨k = k' ∧ (binInt op k a b).1, .lit (binInt op k a b).2, L⟩
  | op, .lit (.string a), .lit (.string b) => ⟨(binStr op a b).1, .lit (binStr op a b).2, L⟩
  | .eql, .lit (.bool a), .lit (.bool b) => ⟨(tyOf P t).map (·.und) = some .bool, .lit (.bool (a == b)), L⟩
  | .neq, .lit (.bool a), .lit (.bool b) => ⟨(tyOf P t).map (·.und) = some .bool, .lit (.bool (!(a == b))), L⟩
  | .eql, .agg xs, .agg ys => match tyOf P t with
    | some ⟨.array n e, _, _, _⟩ => match tyOf P e with
      | some ⟨.int k, 1, _, _⟩ => ⟨xs.length = n ∧ ys.length = n ∧ isInts k xs ∧ isInts k ys, .lit (.bool (intsOf xs == intsOf ys)), L⟩
      | _ => .bad
    | _ => .bad
  | .neq, .agg xs, .agg ys => match tyOf P t with
    | some ⟨.array n e, _, _, _⟩ => match tyOf P e with
      | some ⟨.int k, 1, _, _⟩ => ⟨xs.length = n ∧ ys.length = n ∧ isInts k xs ∧ isInts k ys, .lit (.bool (!(intsOf xs == intsOf ys))), L⟩
      | _ => .bad
    | _ => .bad
  | _, _, _ => .bad
def unF (op : UnOp) (x : PV) (L : LH) : OR :=
  match op, x with
  | .neg, .lit (.int k n) => ⟨True, .lit (.int k (k.wrap (0 - n))), L⟩
  | .xor, .lit (.int k n) => ⟨True, .lit (.int k (k.wrap (BitVec.ofInt k.bits (if k.signed then -1 else k.max) ^^^ BitVec.ofInt k.bits n).toNat)), L⟩
  | .not, .lit (.bool b) => ⟨True, .lit (.bool !b), L⟩
  | _, _ => .bad
def convF (P : Program) (src dst : TypeId) (x : PV) (L : LH) : OR :=
  match tyOf P src, tyOf P dst with
  | some S, some D => match S.und, D.und, x with
    | _, .int k, .lit (.int _ n) => ⟨True, .lit (.int k (k.wrap n)), L⟩
    | .string, .string, .lit (.string s) => ⟨True, .lit (.string s), L⟩
    | .slice e, .string, x => match tyOf P e with
      | some ⟨.int .u8, 1, _, _⟩ => ⟨(slc L x).1 ∧ (slc L x).2.2.length = (slc L x).2.1 ∧ (∀ p ∈ (slc L x).2.2, isByte p), .lit (.string ⟨((slc L x).2.2.map byteOf).toArray⟩), L⟩
      | _ => .bad
    | .string, .slice e, .lit (.string s) => match tyOf P e with
      | some ⟨.int .u8, 1, _, _⟩ => ⟨True, .ro s.size (s.data.toList.map bv), L⟩
      | _ => .bad
    | _, _, _ => .bad
  | _, _ => .bad
def lenF (P : Program) (t : TypeId) (x : PV) (L : LH) : OR :=
  match tyOf P t with
  | some T => match T.und, x with
    | .string, .lit (.string s) => ⟨True, .lit (.int .i64 s.size), L⟩
    | .slice _, .lit (.slice _ n _) => ⟨True, .lit (.int .i64 n), L⟩
    | .slice _, .ro n _ => ⟨True, .lit (.int .i64 n), L⟩
    | .slice _, .own id _ n _ => match L[id]? with
      | some (.cells _) => ⟨True, .lit (.int .i64 n), L⟩
      | _ => .bad
    | .array n _, _ => ⟨True, .lit (.int .i64 n), L⟩
    | _, _ => .bad
  | none => .bad
def capF (P : Program) (t : TypeId) (x : PV) (L : LH) : OR :=
  match tyOf P t with
  | some T => match T.und, x with
    | .slice _, .lit (.slice _ _ c) => ⟨True, .lit (.int .i64 c), L⟩
    | .array n _, _ => ⟨True, .lit (.int .i64 n), L⟩
    | _, _ => .bad
  | none => .bad
def fresh (draw : Bool) (n sz : Nat) (cells : List PV) (L : LH) : PV × LH :=
  if draw then (.ro n cells, L) else (.own L.length 0 n sz, L ++ [.cells cells])
def rep (n : Nat) (z : Value) : List PV := (List.replicate n (z.cells.toList.map PV.lit)).flatten
def makeF (P : Program) (draw : Bool) (t : TypeId) (l c : PV) (L : LH) : OR :=
  match tyOf P t with
  | some ⟨.slice e, _, _, _⟩ => match tyOf P e, l, c with
    | some E, .lit (.int _ l), .lit (.int _ c) =>
      ⟨0 ≤ l ∧ l ≤ c ∧ E.bytes * c ≤ 281474976710656 ∧ c ≤ 9223372036854775807 ∧ E.zero.cells.size = E.size ∧ (∀ v ∈ E.zero.cells.toList, v.oneCell' = true), (fresh draw l.toNat E.size (rep l.toNat E.zero) L).1, (fresh draw l.toNat E.size (rep l.toNat E.zero) L).2⟩
    | _, _, _ => .bad
  | _ => .bad
def news (P : Program) (E : TI) (t2 : TypeId) (x : PV) (L : LH) : Prop × Nat × List PV :=
  match tyOf P t2 with
  | some ⟨.int _, _, _, _⟩ => match x with
    | .lit (.int _ m) => (0 ≤ m ∧ m ≤ 9223372036854775807 ∧ m * E.bytes ≤ 281474976710656 ∧ E.zero.cells.size = E.size ∧ (∀ v ∈ E.zero.cells.toList, v.oneCell' = true), m.toNat, rep m.toNat E.zero)
    | _ => (False, 0, [])
  | some ⟨.slice _, _, _, _⟩ => ((slc L x).1 ∧ (slc L x).2.2.length = (slc L x).2.1 * E.size, (slc L x).2)
  | some ⟨.string, _, _, _⟩ => match x with
    | .lit (.string s) => (E.size = 1, s.size, s.data.toList.map bv)
    | _ => (False, 0, [])
  | _ => (False, 0, [])
def kill (L : LH) (x : PV) : LH :=
  match x with
  | .own id _ _ _ => L.set id .dead
  | _ => L
def appF (P : Program) (draw : Bool) (t t2 : TypeId) (s x : PV) (L : LH) : OR :=
  match tyOf P t with
  | some ⟨.slice e, _, _, _⟩ => match tyOf P e with
    | some E =>
      let N := news P E t2 x L
      match s with
      | .lit (.slice none 0 0) => let f := fresh draw N.2.1 E.size N.2.2 L
        ⟨0 < E.size ∧ E.zero.cells.size = E.size ∧ N.1 ∧ N.2.1 * E.bytes ≤ 140737488355328 ∧ N.2.1 ≤ 4611686018427387904, f.1, f.2⟩
      | .own id off n sz => match draw with
        | true => .bad
        | false =>
          ⟨0 < E.size ∧ E.zero.cells.size = E.size ∧ sz = E.size ∧ (slc L s).1 ∧ N.1 ∧ (n + N.2.1) * E.bytes ≤ 140737488355328 ∧ n + N.2.1 ≤ 4611686018427387904,
            .own L.length 0 (n + N.2.1) E.size, kill L s ++ [.cells ((slc L s).2.2 ++ N.2.2)]⟩
      | _ => .bad
    | none => .bad
  | _ => .bad
def ints? : Option PV → Int → Option Int
  | none, d => some d
  | some (.lit (.int _ n)), _ => some n
  | _, _ => none
def sliceF (P : Program) (t : TypeId) (x : PV) (lo hi mx : Option PV) (L : LH) : OR :=
  match tyOf P t, mx with
  | some ⟨.slice e, _, _, _⟩, none => match tyOf P e, x with
    | some E, .lit (.slice none 0 0) => match ints? lo 0, ints? hi 0 with
      | some l, some h => ⟨l = 0 ∧ h = 0, .lit (.slice none 0 0), L⟩
      | _, _ => .bad
    | some E, .ro n cs => match ints? lo 0, ints? hi n with
      | some l, some h => ⟨0 ≤ l ∧ l ≤ h ∧ h ≤ n ∧ cs.length = n * E.size, .ro (h - l).toNat ((cs.drop (l.toNat * E.size)).take ((h - l).toNat * E.size)), L⟩
      | _, _ => .bad
    | some E, .own id off n sz => match ints? lo 0, ints? hi n, L[id]? with
      | some l, some h, some (.cells _) => ⟨0 ≤ l ∧ l ≤ h ∧ h ≤ n ∧ sz = E.size ∧ (l = 0 ∨ l < h), .own id (off + l.toNat * E.size) (h - l).toNat sz, L⟩
      | _, _, _ => .bad
    | _, _ => .bad
  | some ⟨.array n e, _, _, _⟩, none => match tyOf P e, x, ints? lo 0, ints? hi n with
    | some E, .ptr id off, some l, some h => match L[id]? with
      | some (.cells cs) => ⟨0 ≤ l ∧ l ≤ h ∧ h ≤ n ∧ (l = 0 ∨ l < h) ∧ off + n * E.size ≤ cs.length, .own id (off + l.toNat * E.size) (h - l).toNat E.size, L⟩
      | _ => .bad
    | some E, .rptr cs, some l, some h => ⟨l = 0 ∧ h = n ∧ 0 < n ∧ cs.length = n * E.size ∧ 0 < E.size, .ro n cs, L⟩
    | _, _, _, _ => .bad
  | some ⟨.string, _, _, _⟩, none => match x with
    | .lit (.string s) => match ints? lo 0, ints? hi s.size with
      | some l, some h => ⟨0 ≤ l ∧ l ≤ h ∧ h ≤ s.size, .lit (.string (s.extract l.toNat h.toNat)), L⟩
      | _, _ => .bad
    | _ => .bad
  | _, _ => .bad
def elemAt (E : TI) (cs : List PV) (i : Nat) : List PV :=
  if E.size = 1 then [cs.getD i (.lit E.zero)] else (cs.drop (i * E.size)).take E.size
def indexAddrF (P : Program) (t : TypeId) (x i : PV) (L : LH) : OR :=
  match i with
  | .lit (.int _ i) => match tyOf P t with
    | some ⟨.slice e, _, _, _⟩ => match tyOf P e, x with
      | some E, .ro n cs => ⟨0 ≤ i ∧ i < n ∧ cs.length = n * E.size ∧ 0 < E.size, .rptr (elemAt E cs i.toNat), L⟩
      | some E, .own id off n sz => match L[id]? with
        | some (.cells _) => ⟨0 ≤ i ∧ i < n ∧ sz = E.size, .ptr id (off + i.toNat * E.size), L⟩
        | _ => .bad
      | _, _ => .bad
    | some ⟨.array n e, _, _, _⟩ => match tyOf P e, x with
      | some E, .ptr id off => match L[id]? with
        | some (.cells _) => ⟨0 ≤ i ∧ i < n, .ptr id (off + i.toNat * E.size), L⟩
        | _ => .bad
      | some E, .rptr cs => ⟨0 ≤ i ∧ i < n ∧ cs.length = n * E.size ∧ 0 < E.size, .rptr (elemAt E cs i.toNat), L⟩
      | _, _ => .bad
    | _ => .bad
  | _ => .bad
def partF (T : TI) (cs : List PV) (off : Nat) : Prop × PV :=
  if isAggD T.und then (off + T.size ≤ cs.length, .agg ((cs.drop off).take T.size))
  else (off < cs.length, cs.getD off (.lit T.zero))
def loadF (P : Program) (t : TypeId) (a : PV) (L : LH) : OR :=
  match tyOf P t with
  | some T => match a with
    | .ptr id off => match L[id]? with
      | some (.cells cs) => ⟨(partF T cs off).1, (partF T cs off).2, L⟩
      | _ => .bad
    | .rptr cs => ⟨(partF T cs 0).1, (partF T cs 0).2, L⟩
    | _ => .bad
  | none => .bad
def splice (cs : List PV) (off : Nat) (vs : List PV) : List PV :=
  match vs with
  | [v] => cs.set off v
  | vs => cs.take off ++ vs ++ cs.drop (off + vs.length)
def storeF (P : Program) (draw : Bool) (t : TypeId) (a v : PV) (L : LH) : OR :=
  match tyOf P t, draw with
  | some T, false => match a with
    | .ptr id off => match L[id]? with
      | some (.cells cs) => ⟨v.cells.length = T.size ∧ off + T.size ≤ cs.length ∧ v.cells.all PV.one = true, .lit undef, L.set id (.cells (splice cs off v.cells))⟩
      | _ => .bad
    | _ => .bad
  | _, _ => .bad
def boxF (draw : Bool) (v : PV) (L : LH) : OR :=
  match draw with
  | false => ⟨v.cells.all PV.one = true, .ptr L.length 0, L ++ [.cells v.cells]⟩
  | true => .bad
def allocF (P : Program) (draw : Bool) (t : TypeId) (L : LH) : OR :=
  match tyOf P t, draw with
  | some T, false => ⟨(∀ v ∈ T.zero.cells.toList, v.oneCell' = true), .ptr L.length 0, L ++ [.cells (T.zero.cells.toList.map .lit)]⟩
  | _, _ => .bad
def fillA (size : Nat) (place : Nat → Option Nat) (cs : List PV) : List (Nat × PV) → Option (List PV)
  | [] => some cs
  | (i, p) :: r => match place i with
    | some off => if p.cells.length = size ∧ off + size ≤ cs.length then fillA size place (splice cs off p.cells) r else none
    | none => none
def buildSliceF (P : Program) (draw : Bool) (t : TypeId) (len : Nat) (parts : List (Nat × PV)) (L : LH) : OR :=
  match tyOf P t with
  | some ⟨.slice e, _, _, _⟩ => match tyOf P e with
    | some E => match fillA E.size (fun i => some (i * E.size)) (rep len E.zero) parts with
      | some cs => ⟨len * E.size ≤ 16777216 ∧ 0 < len * E.size ∧ E.zero.cells.size = E.size ∧ (∀ v ∈ E.zero.cells.toList, v.oneCell' = true) ∧ parts.all (fun x => x.2.cells.all PV.one) = true ∧ cs.all PV.one = true, (fresh draw len E.size cs L).1, (fresh draw len E.size cs L).2⟩
      | none => .bad
    | none => .bad
  | _ => .bad
def fieldF (P : Program) (t : TypeId) (x : PV) (f : Nat) (L : LH) : OR :=
  match tyOf P t with
  | some ⟨.struct fs, _, _, _⟩ => match fs[f]? with
    | some fd => match tyOf P fd.type with
      | some T => match x with
        | .agg cs => ⟨(partF T cs fd.offset).1, (partF T cs fd.offset).2, L⟩
        | _ => .bad
      | none => .bad
    | none => .bad
  | _ => .bad
def indexF (P : Program) (t : TypeId) (x i : PV) (L : LH) : OR :=
  match i with
  | .lit (.int _ i) => match tyOf P t with
    | some ⟨.string, _, _, _⟩ => match x with
      | .lit (.string s) => ⟨0 ≤ i ∧ i < s.size, bv (s.data.toList.getD i.toNat 0), L⟩
      | _ => .bad
    | some ⟨.array n e, _, _, _⟩ => match tyOf P e, x with
      | some E, .agg cs => ⟨0 ≤ i ∧ i < n ∧ (partF E cs (i.toNat * E.size)).1, (partF E cs (i.toNat * E.size)).2, L⟩
      | _, _ => .bad
    | _ => .bad
  | _ => .bad
def extractF (x : PV) (i : Nat) (L : LH) : OR :=
  match x with
  | .tup vs => match vs[i]? with
    | some p => ⟨True, p, L⟩
    | none => .bad
  | _ => .bad
def arrF (P : Program) (t : TypeId) (x : PV) (L : LH) : OR :=
  match tyOf P t with
  | some ⟨.array n e, _, _, _⟩ => match tyOf P e, x with
    | some E, .ro m cs => ⟨n ≤ m ∧ 0 < n ∧ cs.length = m * E.size ∧ 0 < E.size, .rptr (cs.take (n * E.size)), L⟩
    | _, _ => .bad
  | _ => .bad
def copyF (P : Program) (draw : Bool) (t : TypeId) (d s : PV) (L : LH) : OR :=
  match tyOf P t with
  | some ⟨.slice e, _, _, _⟩ => match tyOf P e, d, draw with
    | some E, .own id off n sz, false => match L[id]? with
      | some (.cells cs) =>
        let m := min (slc L s).2.1 n
        ⟨(slc L s).1 ∧ sz = E.size ∧ (slc L s).2.2.length = (slc L s).2.1 * E.size ∧ off + n * sz ≤ cs.length,
          .lit (.int .i64 m), L.set id (.cells (cs.take off ++ (slc L s).2.2.take (m * E.size) ++ cs.drop (off + m * E.size)))⟩
      | _ => .bad
    | _, _, _ => .bad
  | _ => .bad
end Go.Ab
namespace Go.Ab
open Go Go.RowKit
set_option linter.unusedVariables false
set_option linter.unusedSimpArgs false
variable {P : Program} {X : Nat → Prop} {β : List Base} {w : World} {L : LH}
theorem tyOf_spec {t : TypeId} {T : TI} (h : tyOf P t = some T) : P.underlying t = some T.und ∧ ∃ i, P.info? t = some i ∧ i.size = T.size ∧ i.bytes = T.bytes ∧ i.zero = some T.zero := by
  unfold tyOf at h
  split at h
  · rename_i d i hd hi
    cases hz : i.zero with
    | none => simp [hz] at h
    | some z =>
      simp [hz] at h
      subst h
      exact ⟨hd, i, hi, rfl, rfl, hz⟩
  · cases h
def Still (P : Program) (X : Nat → Prop) (β : List Base) (w : World) (L : LH) (m : Sem Value) (r : OR) : Prop :=
  ∃ v, m.run P w = .ok v w ∧ RepV X β w r.val v ∧ r.L = L
theorem still_lit {m : Sem Value} {v : Value} (h : m.run P w = .ok v w) {p : Prop} : Still P X β w L m ⟨p, .lit v, L⟩ :=
  ⟨v, h, by simp [RepV], rfl⟩
theorem binInt_run (op : BinOp) (t : TypeId) (k : IntKind) (a b : Int) (h : (binInt op k a b).1) (h1 : op ≠ .shl) (h2 : op ≠ .shr) :
    (binOp op t (.int k a) (.int k b)).run P w = .ok (binInt op k a b).2 w := by
  cases op <;> simp [binInt] at h ⊢ <;> first | contradiction | (simp [binOp, Op.intArith, Op.intBits, Op.intCmp]; done) | (simp [binOp, Op.intDiv, h]; done)
theorem binStr_run (op : BinOp) (t : TypeId) (a b : ByteArray) (h : (binStr op a b).1) :
    (binOp op t (.string a) (.string b)).run P w = .ok (binStr op a b).2 w := by
  cases op <;> simp [binStr] at h ⊢ <;> first | contradiction | (simp [binOp, Op.stringOp]; done) | skip
  simp [binOp, Op.stringOp]
  exact h
theorem repL_ints {k : IntKind} : ∀ {ps : List PV} {vs : List Value}, isInts k ps → RepL X β w ps vs → vs = (intsOf ps).map (Value.int k)
  | [], vs, _, h => by simp [RepL] at h; simp [h, intsOf]
  | .lit (.int k' n) :: r, vs, hi, h => by
    simp only [RepL, RepV] at h
    obtain ⟨v, r', rfl, rfl, h2⟩ := h
    simp only [isInts] at hi
    simp [intsOf, hi.1, repL_ints hi.2 h2]
theorem guard_int (op : BinOp) (t : TypeId) (x y : Operand) (k k' : IntKind) (a b : Int) : (eqGuard op t x y (.int k a) (.int k' b)).run P w = .ok () w := by
  cases op <;> simp [eqGuard]
theorem guard_str (op : BinOp) (t : TypeId) (x y : Operand) (a b : ByteArray) : (eqGuard op t x y (.string a) (.string b)).run P w = .ok () w := by
  cases op <;> simp [eqGuard]
theorem guard_bool (op : BinOp) (t : TypeId) (x y : Operand) (a b : Bool) : (eqGuard op t x y (.bool a) (.bool b)).run P w = .ok () w := by
  cases op <;> simp [eqGuard]
theorem guard_arr (op : BinOp) (t e : TypeId) (n : Nat) (k : IntKind) (x y : Operand) (xs ys : Array Value) (ht : P.underlying t = some (.array n e)) (he : P.underlying e = some (.int k)) :
    (eqGuard op t x y (.agg xs) (.agg ys)).run P w = .ok () w := by
  have hd : ∃ d, P.depth = d + 2 := ⟨2 * (P.types.size + Made.depth), rfl⟩
  obtain ⟨d, hd⟩ := hd
  have hg : P.eqGuardType P.depth t = false := by rw [hd]; simp [Program.eqGuardType, ht, he]
  cases op <;> simp [eqGuard, program, Sem.run, hg]
theorem equal_ints (t e : TypeId) (n : Nat) (k : IntKind) (i : TypeInfo) (as bs : List Int) (ht : P.underlying t = some (.array n e)) (he : P.underlying e = some (.int k)) (hi : P.info? e = some i) (h1 : i.size = 1)
    (ha : as.length = n) (hb : bs.length = n) :
    (Op.equal t (.agg (as.map (Value.int k)).toArray) (.agg (bs.map (Value.int k)).toArray)).run P w = .ok (as == bs) w := by
  unfold Op.equal
  obtain ⟨d, hd⟩ : ∃ d, Op.maxDepth = d + 1 + 1 := ⟨9998, rfl⟩
  rw [hd, run_equalIn_array w (d + 1) _ _ ht hi]
  have hc : P.cellsOf e = 1 := by simp [Program.cellsOf, hi, h1]
  rw [hc]
  have key : ∀ (m : Nat) (is : List Nat), (∀ j ∈ is, j < n) → (Op.eqItems (d + 1) e 1 (as.map (Value.int k)).toArray (bs.map (Value.int k)).toArray is).run P w = .ok (is.all fun j => as.getD j 0 == bs.getD j 0) w := by
    intro m is
    induction is with
    | nil => intro _; simp [Op.eqItems]
    | cons j is ih =>
      intro hj
      have hjn := hj j (by simp)
      have pa : (part e (as.map (Value.int k)).toArray (j * 1)).run P w = .ok (.int k (as.getD j 0)) w := by
        simp [part, isAgg, run_underlying he, List.getElem?_eq_getElem (show j < as.length by omega)]
      have pb : (part e (bs.map (Value.int k)).toArray (j * 1)).run P w = .ok (.int k (bs.getD j 0)) w := by
        simp [part, isAgg, run_underlying he, List.getElem?_eq_getElem (show j < bs.length by omega)]
      have pe : (Op.equalIn (d + 1) e (.int k (as.getD j 0)) (.int k (bs.getD j 0))).run P w = .ok (as.getD j 0 == bs.getD j 0) w := by
        simp [Op.equalIn, run_underlying he]
      simp only [Op.eqItems, Sem.run_bind, pa, pb, pe, Result.andThen_ok, List.all_cons]
      cases hq : (as.getD j 0 == bs.getD j 0)
      · simp
      · simp; exact ih (fun q hq => hj q (by simp [hq]))
  rw [key 0 (List.range n) (fun j hj => by simpa using hj)]
  congr 1
  rw [Bool.eq_iff_iff]
  simp only [List.all_eq_true, List.mem_range, beq_iff_eq]
  constructor
  · intro h
    apply List.ext_getElem (by omega)
    intro j h1 h2
    have := h j (by omega)
    simpa [List.getD, List.getElem?_eq_getElem h1, List.getElem?_eq_getElem h2] using this
  · rintro rfl j _
    rfl
theorem binF_still (op : BinOp) (t : TypeId) (ox oy : Operand) (x y : PV) (vx vy : Value) (hpre : (binF P op t x y L).pre) (hx : RepV X β w x vx) (hy : RepV X β w y vy) :
    Still P X β w L (do eqGuard op t ox oy vx vy; binOp op t vx vy) (binF P op t x y L) := by
  unfold binF at hpre ⊢
  split at hpre
  · simp only [RepV] at hx hy; subst hx hy
    refine still_lit ?_
    simp only [Sem.run_bind, guard_int, Result.andThen_ok]
    have : ¬ _ < _ := Int.not_lt.2 hpre
    simp [binOp, Op.shift, this]
  · simp only [RepV] at hx hy; subst hx hy
    refine still_lit ?_
    simp only [Sem.run_bind, guard_int, Result.andThen_ok]
    have : ¬ _ < _ := Int.not_lt.2 hpre
    simp [binOp, Op.shift, this]
  · rename_i k a k' b h1 h2
    simp only [RepV] at hx hy; subst hx hy
    obtain ⟨rfl, hpre⟩ := hpre
    have h1' : op ≠ BinOp.shl := fun e => by subst e; simp [binInt] at hpre
    have h2' : op ≠ BinOp.shr := fun e => by subst e; simp [binInt] at hpre
    refine still_lit ?_
    simp only [Sem.run_bind, guard_int, Result.andThen_ok, binInt_run op t k a b hpre h1' h2']
  · rename_i a b
    simp only [RepV] at hx hy; subst hx hy
    refine still_lit ?_
    simp only [Sem.run_bind, guard_str, Result.andThen_ok, binStr_run op t a b hpre]
  · simp only [RepV] at hx hy; subst hx hy
    refine still_lit ?_
    simp only [Option.map_eq_some_iff] at hpre
    obtain ⟨T, hT, hu⟩ := hpre
    have := (tyOf_spec hT).1
    rw [hu] at this
    obtain ⟨d, hd⟩ : ∃ d, Op.maxDepth = d + 1 := ⟨9999, rfl⟩
    simp [guard_bool, binOp, Op.equal, hd, Op.equalIn, run_underlying this]
  · simp only [RepV] at hx hy; subst hx hy
    refine still_lit ?_
    simp only [Option.map_eq_some_iff] at hpre
    obtain ⟨T, hT, hu⟩ := hpre
    have := (tyOf_spec hT).1
    rw [hu] at this
    obtain ⟨d, hd⟩ : ∃ d, Op.maxDepth = d + 1 := ⟨9999, rfl⟩
    simp [guard_bool, binOp, Op.equal, hd, Op.equalIn, run_underlying this]
  · rename_i xs ys
    simp only [RepV] at hx hy
    obtain ⟨vs, rfl, hx⟩ := hx
    obtain ⟨us, rfl, hy⟩ := hy
    split at hpre
    · rename_i n e _ _ _ hT
      split at hpre
      · rename_i k _ _ hE
        try simp only [hT, hE]
        refine still_lit ?_
        obtain ⟨l1, l2, i1, i2⟩ := hpre
        have hu := (tyOf_spec hT).1
        obtain ⟨he, i, hi, hs, _, _⟩ := tyOf_spec hE
        have lx := repL_ints i1 hx
        have ly := repL_ints i2 hy
        have lx' := RepL.length hx
        have ly' := RepL.length hy
        subst lx ly
        simp at lx' ly'
        simp only [Sem.run_bind, guard_arr _ t e n k ox oy _ _ hu he, Result.andThen_ok]
        simp [binOp, equal_ints t e n k i (intsOf xs) (intsOf ys) hu he hi hs (by omega) (by omega)]
      · exact absurd hpre (by simp [OR.bad])
    · exact absurd hpre (by simp [OR.bad])
  · rename_i xs ys
    simp only [RepV] at hx hy
    obtain ⟨vs, rfl, hx⟩ := hx
    obtain ⟨us, rfl, hy⟩ := hy
    split at hpre
    · rename_i n e _ _ _ hT
      split at hpre
      · rename_i k _ _ hE
        try simp only [hT, hE]
        refine still_lit ?_
        obtain ⟨l1, l2, i1, i2⟩ := hpre
        have hu := (tyOf_spec hT).1
        obtain ⟨he, i, hi, hs, _, _⟩ := tyOf_spec hE
        have lx := repL_ints i1 hx
        have ly := repL_ints i2 hy
        have lx' := RepL.length hx
        have ly' := RepL.length hy
        subst lx ly
        simp at lx' ly'
        simp only [Sem.run_bind, guard_arr _ t e n k ox oy _ _ hu he, Result.andThen_ok]
        simp [binOp, equal_ints t e n k i (intsOf xs) (intsOf ys) hu he hi hs (by omega) (by omega)]
      · exact absurd hpre (by simp [OR.bad])
    · exact absurd hpre (by simp [OR.bad])
  · exact absurd hpre (by simp [OR.bad])
theorem unF_still (op : UnOp) (x : PV) (vx : Value) (hpre : (unF op x L).pre) (hx : RepV X β w x vx) : Still P X β w L (Op.unary op vx) (unF op x L) := by
  unfold unF at hpre ⊢
  split at hpre <;> first | (exfalso; simp [OR.bad] at hpre; done) | skip
  all_goals
    simp only [RepV] at hx; subst hx
    refine still_lit ?_
    simp [Op.unary, Op.intArith, Op.intBits]
theorem slc_rep {x : PV} {v : Value} (hpre : (slc L x).1) (hH : RepH X β w L) (hx : RepV X β w x v) :
    ∃ a cap, v = .slice a (slc L x).2.1 cap ∧ (slc L x).2.1 ≤ cap ∧ ((slc L x).2.2 = [] ∨ ∃ b off, a = some ⟨b, off, none⟩ ∧ RepRow X β w b off (slc L x).2.2) := by
  unfold slc at hpre ⊢
  split
  · simp only [RepV] at hx; subst hx
    exact ⟨none, 0, rfl, Nat.le_refl _, .inl rfl⟩
  · simp only [RepV] at hx
    obtain ⟨a, cap, hv, hn, hc⟩ := hx
    refine ⟨a, cap, hv, hn, ?_⟩
    rcases hc with hc | ⟨b, off, ha, _, _, hr⟩
    · exact .inl hc
    · exact .inr ⟨b, off, ha, hr⟩
  · rename_i id off n sz
    simp only at hpre
    cases hL : L[id]? with
    | none => simp [hL] at hpre
    | some le =>
      cases le with
      | dead => simp [hL] at hpre
      | cells cs =>
        simp only [hL] at hpre ⊢
        simp only [RepV] at hx
        obtain ⟨hid, hb, hnil⟩ := hx
        rcases hH.ent id cs hL with ⟨h1, rfl⟩ | ⟨b, base, c, el, h1, h2, h3, h4⟩
        · obtain ⟨rfl, rfl, rfl⟩ := hnil h1
          exact ⟨none, 0, rfl, Nat.le_refl _, .inl (by simp)⟩
        · obtain ⟨cap, hv, hn, _⟩ := hb b base h1
          refine ⟨_, cap, hv, hn, .inr ⟨b, base + off, rfl, ?_⟩⟩
          rw [RepRow.iff] at h4 ⊢
          intro i p hp
          rw [List.getElem?_take] at hp
          split at hp
          · rw [List.getElem?_drop] at hp
            have := h4 (off + i) p hp
            rw [show base + off + i = base + (off + i) by omega]
            exact this
          · cases hp
  · rename_i hne1 hne2 hne3; exfalso; revert hpre; split
    · exact fun _ => hne1 rfl
    · exact fun _ => hne2 _ _ rfl
    · exact fun _ => hne3 _ _ _ _ rfl
    · exact id
theorem row_list {b off : Nat} {ps : List PV} (h : RepRow X β w b off ps) : ∃ vs : List Value, RepL X β w ps vs ∧ vs.length = ps.length ∧ (∀ (j : Nat) v, vs[j]? = some v → w.cell? ((⟨b, off, none⟩ : Addr).add j) = some v) ∧ (∀ v ∈ vs, v.oneCell' = true) := by
  induction ps generalizing off with
  | nil => exact ⟨[], by simp [RepL], rfl, by simp, by simp⟩
  | cons p ps ih =>
    simp only [RepRow] at h
    obtain ⟨⟨v, hv, ho, hr⟩, h2⟩ := h
    obtain ⟨vs, h3, h4, h5, h6⟩ := ih h2
    refine ⟨v :: vs, by simp only [RepL]; exact ⟨v, vs, rfl, hr, h3⟩, by simp [h4], fun j u hu => ?_, by simpa using ⟨ho, h6⟩⟩
    rw [Addr.add_lit]
    cases j with
    | zero => simp at hu; subst hu; simpa using hv
    | succ j =>
      simp at hu
      have := h5 j u hu
      rw [Addr.add_lit] at this
      rw [show off + (j + 1) = off + 1 + j by omega]; exact this
theorem slc_list {x : PV} {v : Value} (hpre : (slc L x).1) (hH : RepH X β w L) (hx : RepV X β w x v) :
    ∃ a cap, v = .slice a (slc L x).2.1 cap ∧ (slc L x).2.1 ≤ cap ∧ ∃ vs : List Value, RepL X β w (slc L x).2.2 vs ∧ vs.length = (slc L x).2.2.length ∧ (∀ v ∈ vs, v.oneCell' = true) ∧
      (vs = [] ∨ ∃ b, a = some b ∧ (∀ (j : Nat) u, vs[j]? = some u → w.cell? (b.add j) = some u)) := by
  obtain ⟨a, cap, hv, hn, hc⟩ := slc_rep hpre hH hx
  refine ⟨a, cap, hv, hn, ?_⟩
  rcases hc with hc | ⟨b, off, ha, hr⟩
  · rw [hc]
    exact ⟨[], by simp [RepL], rfl, by simp, .inl rfl⟩
  · obtain ⟨vs, h1, h2, h3, h4⟩ := row_list hr
    exact ⟨vs, h1, h2, h4, .inr ⟨_, ha, h3⟩⟩
theorem firstCells_run {size n : Nat} {a : Option Addr} {len cap : Nat} {vs : List Value} (hl : vs.length = n * size)
    (h : vs = [] ∨ ∃ b, a = some b ∧ (∀ (j : Nat) u, vs[j]? = some u → w.cell? (b.add j) = some u)) :
    (Builtin.firstCells size n (.slice a len cap)).run P w = .ok vs.toArray w := by
  rcases h with rfl | ⟨b, rfl, h⟩
  · cases a with
    | none => exact run_firstCells_none w size n len cap
    | some b => exact run_firstCells_some w size n b len cap [] hl (by simp)
  · exact run_firstCells_some w size n b len cap vs hl h
theorem repL_bytes : ∀ {ps : List PV} {vs : List Value}, (∀ p ∈ ps, isByte p) → RepL X β w ps vs → ∃ ns : List Int, vs = ns.map (Value.int .u8) ∧ ps.map byteOf = ns.map fun n => UInt8.ofNat n.toNat
  | [], vs, _, h => by simp [RepL] at h; exact ⟨[], by simp [h], by simp⟩
  | p :: r, vs, hi, h => by
    simp only [RepL] at h
    obtain ⟨v, r', rfl, hv, h2⟩ := h
    have hp := hi p (by simp)
    unfold isByte at hp
    split at hp
    · rename_i n
      simp only [RepV] at hv; subst hv
      obtain ⟨ns, h3, h4⟩ := repL_bytes (fun p hp => hi p (by simp [hp])) h2
      exact ⟨n :: ns, by simp [h3], by simp [h4, byteOf]⟩
    · exact hp.elim
theorem bytesToString_run {a : Option Addr} {n cap : Nat} {ns : List Int} (hl : ns.length = n) (h : ns.map (Value.int .u8) = [] ∨ ∃ b, a = some b ∧ (∀ (j : Nat) u, (ns.map (Value.int .u8))[j]? = some u → w.cell? (b.add j) = some u)) :
    (Conv.bytesToString (.slice a n cap)).run P w = .ok (.string ⟨(ns.map fun n => UInt8.ofNat n.toNat).toArray⟩) w := by
  have key : ∀ (ns : List Int) (s : ByteArray), ns.foldl (fun r n => r.push (UInt8.ofNat n.toNat)) s = ⟨s.data ++ (ns.map fun n => UInt8.ofNat n.toNat).toArray⟩ := by
    intro ns
    induction ns with
    | nil => intro s; simp
    | cons n ns ih => intro s; simp only [List.foldl_cons]; rw [ih]; simp [ByteArray.push]
  have he0 : ByteArray.empty.data = #[] := rfl
  rcases h with h | ⟨b, rfl, h⟩
  · have : ns = [] := by simpa using h
    subst this
    simp at hl; subst hl
    cases a with
    | none => simp [Conv.bytesToString]; rfl
    | some a =>
      rw [run_bytesToString w a 0 cap [] (by simp [loadCells, loadCellsFrom])]
      rfl
  · have hc := run_loadCells_list (P := P) w b (ns.map (Value.int .u8)) h
    simp only [List.length_map, hl] at hc
    rw [run_bytesToString w b n cap ns hc, key, he0]
    simp
def Goes (P : Program) (X : Nat → Prop) (β : List Base) (w : World) (L : LH) (draw : Bool) (m : Sem Value) (r : OR) : Prop :=
  ∃ v w' β', m.run P w = .ok v w' ∧ RepV X β' w' r.val v ∧ RepH X β' w' r.L ∧ Grow β β' w w' ∧ (draw = true → β' = β ∧ r.L = L)
theorem Still.goes {m : Sem Value} {r : OR} {draw : Bool} (h : Still P X β w L m r) (hH : RepH X β w L) : Goes P X β w L draw m r := by
  obtain ⟨v, h1, h2, h3⟩ := h
  exact ⟨v, w, β, h1, h2, by rw [h3]; exact hH, Grow.refl β w, fun _ => ⟨rfl, h3⟩⟩
theorem RepH.same {w' : World} (hH : RepH X β w L) (g : Grow β β w w') (hb : ∀ (k : Nat), k < w.heap.size → w'.heap[k]? = w.heap[k]?) : RepH X β w' L where
  len := hH.len
  inj := hH.inj
  lt := fun b hl => Nat.lt_of_lt_of_le (hH.lt b hl) g.size
  out := fun b hx => ⟨Nat.lt_of_lt_of_le (hH.out b hx).1 g.size, (hH.out b hx).2⟩
  ent := fun id cs hL => by
    rcases hH.ent id cs hL with h | ⟨b, base, c, el, h1, h2, h3, h4⟩
    · exact .inl h
    · refine .inr ⟨b, base, c, el, h1, ?_, h3, ?_⟩
      · rw [hb b (hH.lt b ⟨id, base, h1⟩)]; exact h2
      · rw [RepRow.iff] at h4 ⊢
        intro i p hp
        obtain ⟨v, hv, ho, hr⟩ := h4 i p hp
        refine ⟨v, ?_, ho, hr.grow g⟩
        rw [← hv]
        exact World.cell?_of_block (hb b (hH.lt b ⟨id, base, h1⟩))
theorem grow_drew : Grow β β w w.drew := ⟨rfl, rfl, rfl, Nat.le_refl _, fun _ _ _ => rfl, fun k c el fr h => ⟨c, fr, h, rfl⟩, fun _ h => .inl h, Nat.le_refl _, fun _ _ _ h _ => h⟩
theorem heap_old (o : Obj) {k : Nat} (h : k < w.heap.size) : (w.alloc o).heap[k]? = w.heap[k]? := heap_alloc_old w o k h
theorem grow_alloc (o : Obj) : Grow β β w (w.alloc o) :=
  ⟨rfl, rfl, rfl, by simp, fun k hk _ => heap_old o hk, fun k c el fr h => ⟨c, fr, by rw [heap_old o (Array.getElem?_eq_some_iff.1 h).1]; exact h, rfl⟩, fun _ h => .inl h, Nat.le_refl _, fun _ _ _ h _ => h⟩
theorem live_snoc {y : Base} {b : Nat} (h : Live (β ++ [y]) b) : Live β b ∨ ∃ base, y = .blk b base := by
  obtain ⟨id, base, h⟩ := h
  rw [List.getElem?_append] at h
  split at h
  · exact .inl ⟨id, base, h⟩
  · rw [List.getElem?_singleton] at h
    split at h
    · simp at h; exact .inr ⟨base, h⟩
    · cases h
theorem grow_alloc_id (o : Obj) (y : Base) (hy : ∀ b base, y = .blk b base → b = w.heap.size) : Grow β (β ++ [y]) w (w.alloc o) :=
  ⟨rfl, rfl, rfl, by simp, fun k hk _ => heap_old o hk, fun k c el fr h => ⟨c, fr, by rw [heap_old o (Array.getElem?_eq_some_iff.1 h).1]; exact h, rfl⟩,
    fun b hb => by
      rcases live_snoc hb with h | ⟨base, h⟩
      · exact .inl h
      · exact .inr (by rw [hy b base h]; exact Nat.le_refl _),
    by simp, fun id x hid hx _ => by rw [List.getElem?_append_left hid] at hx; exact hx⟩
def Holds (X : Nat → Prop) (β : List Base) (w : World) (c : Array Value) (cs : List PV) : Prop :=
  cs.length ≤ c.size ∧ ∀ (i : Nat) p, cs[i]? = some p → ∃ v, c[i]? = some v ∧ v.oneCell' = true ∧ RepV X β w p v
theorem Holds.grow {β' : List Base} {w' : World} {c : Array Value} {cs : List PV} (h : Holds X β w c cs) (g : Grow β β' w w') : Holds X β' w' c cs :=
  ⟨h.1, fun i p hp => by obtain ⟨v, h1, h2, h3⟩ := h.2 i p hp; exact ⟨v, h1, h2, h3.grow g⟩⟩
theorem Holds.row {c : Array Value} {cs : List PV} {el : TypeId} {fr : Nat × Nat} (h : Holds X β w c cs) {w' : World} {b : Nat} (hw : w'.heap[b]? = some (.cells c el fr)) {β' : List Base} (g : Grow β β' w w') : RepRow X β' w' b 0 cs := by
  rw [RepRow.iff]
  intro i p hp
  obtain ⟨v, h1, h2, h3⟩ := h.2 i p hp
  exact ⟨v, by rw [Nat.zero_add, cell_of_row w' b i c el fr hw]; exact h1, h2, h3.grow g⟩
theorem repH_alloc {c : Array Value} {cs : List PV} {el : TypeId} (hH : RepH X β w L) (h : Holds X β w c cs) :
    RepH X (β ++ [.blk w.heap.size 0]) (w.alloc (.cells c el)) (L ++ [.cells cs]) := by
  have g : Grow β (β ++ [.blk w.heap.size 0]) w (w.alloc (.cells c el)) := grow_alloc_id _ _ (fun b base e => by cases e; rfl)
  refine ⟨by simp [hH.len], ?_, ?_, ?_, ?_⟩
  · intro i j b x y hi hj
    rw [List.getElem?_append] at hi hj
    split at hi <;> split at hj
    · exact hH.inj i j b x y hi hj
    · rw [List.getElem?_singleton] at hj
      split at hj
      · simp at hj
        have := hH.lt b ⟨i, x, hi⟩
        omega
      · cases hj
    · rw [List.getElem?_singleton] at hi
      split at hi
      · simp at hi
        have := hH.lt b ⟨j, y, hj⟩
        omega
      · cases hi
    · rw [List.getElem?_singleton] at hi hj
      split at hi <;> split at hj <;> first | (cases hi; done) | (cases hj; done) | omega
  · intro b hb
    rcases live_snoc hb with h' | ⟨base, h'⟩
    · have := hH.lt b h'; simp; omega
    · cases h'; simp
  · intro b hx
    have := hH.out b hx
    refine ⟨by simp; omega, fun hl => ?_⟩
    rcases live_snoc hl with h' | ⟨base, h'⟩
    · exact this.2 h'
    · cases h'; omega
  · intro id ds hid
    rw [List.getElem?_append] at hid
    split at hid
    · rename_i hlt
      rcases hH.ent id ds hid with ⟨h1, h2⟩ | ⟨b, base, c', el', h1, h2, h3, h4⟩
      · exact .inl ⟨by rw [List.getElem?_append_left (by rw [hH.len]; exact hlt)]; exact h1, h2⟩
      · have hb := hH.lt b ⟨id, base, h1⟩
        refine .inr ⟨b, base, c', el', by rw [List.getElem?_append_left (by rw [hH.len]; exact hlt)]; exact h1, by rw [heap_old _ hb]; exact h2, h3, ?_⟩
        rw [RepRow.iff] at h4 ⊢
        intro i p hp
        obtain ⟨v, hv, ho, hr⟩ := h4 i p hp
        exact ⟨v, by rw [← hv]; exact World.cell?_of_block (heap_old _ hb), ho, hr.grow g⟩
    · rename_i hge
      rw [List.getElem?_singleton] at hid
      split at hid
      · simp at hid
        subst hid
        rename_i h0
        refine .inr ⟨w.heap.size, 0, c, el, ?_, heap_alloc_new w _, by have := h.1; omega, h.row (heap_alloc_new w _) g⟩
        rw [List.getElem?_append_right (by rw [hH.len]; omega)]
        rw [show id - β.length = 0 by rw [hH.len]; omega]
        rfl
      · cases hid
theorem repH_nil {sz : Nat} (hH : RepH X β w L) : RepH X (β ++ [.nil]) w (L ++ [.cells []]) := by
  have hg : ∀ (id b base : Nat), (β ++ [Base.nil])[id]? = some (.blk b base) → β[id]? = some (.blk b base) := by
    intro id b base h
    rw [List.getElem?_append] at h
    split at h
    · exact h
    · rw [List.getElem?_singleton] at h
      split at h <;> cases h
  have hl : ∀ b, Live (β ++ [Base.nil]) b → Live β b := fun b ⟨id, base, h⟩ => ⟨id, base, hg _ _ _ h⟩
  have g : Grow β (β ++ [.nil]) w w := ⟨rfl, rfl, rfl, Nat.le_refl _, fun _ _ _ => rfl, fun k c el fr h => ⟨c, fr, h, rfl⟩, fun b h => .inl (hl b h), by simp, fun id x hid hx _ => by rw [List.getElem?_append_left hid] at hx; exact hx⟩
  refine ⟨by simp [hH.len], fun i j b x y hi hj => hH.inj i j b x y (hg _ _ _ hi) (hg _ _ _ hj), fun b h => hH.lt b (hl b h), fun b hx => ⟨(hH.out b hx).1, fun h => (hH.out b hx).2 (hl b h)⟩, ?_⟩
  intro id ds hid
  rw [List.getElem?_append] at hid
  split at hid
  · rename_i hlt
    rcases hH.ent id ds hid with ⟨h1, h2⟩ | ⟨b, base, c', el', h1, h2, h3, h4⟩
    · exact .inl ⟨by rw [List.getElem?_append_left (by rw [hH.len]; exact hlt)]; exact h1, h2⟩
    · refine .inr ⟨b, base, c', el', by rw [List.getElem?_append_left (by rw [hH.len]; exact hlt)]; exact h1, h2, h3, ?_⟩
      rw [RepRow.iff] at h4 ⊢
      intro i p hp
      obtain ⟨v, hv, ho, hr⟩ := h4 i p hp
      exact ⟨v, hv, ho, hr.grow g⟩
  · rename_i hge
    rw [List.getElem?_singleton] at hid
    split at hid
    · simp at hid
      subst hid
      refine .inl ⟨?_, rfl⟩
      rw [List.getElem?_append_right (by rw [hH.len]; omega)]
      rw [show id - β.length = 0 by rw [hH.len]; omega]
      rfl
    · cases hid
theorem grow_nil : Grow β (β ++ [.nil]) w w :=
  ⟨rfl, rfl, rfl, Nat.le_refl _, fun _ _ _ => rfl, fun k c el fr h => ⟨c, fr, h, rfl⟩, fun b h => (live_snoc h).elim .inl (fun ⟨base, h⟩ => nomatch h), by simp, fun id x hid hx _ => by rw [List.getElem?_append_left hid] at hx; exact hx⟩
theorem fresh_goes {draw : Bool} {m : Sem Value} {c : Array Value} {cs : List PV} {el : TypeId} {n cap sz : Nat} {p : Prop} {w1 : World} (hH : RepH X β w L) (hw : w1 = w ∨ w1 = w.drew)
    (hrun : m.run P w = .ok (.slice (some ⟨w.heap.size, 0, none⟩) n cap) (w1.alloc (.cells c el))) (hn : n ≤ cap) (hc : cap * sz ≤ c.size) (h : Holds X β w c cs) :
    Goes P X β w L draw m ⟨p, (fresh draw n sz cs L).1, (fresh draw n sz cs L).2⟩ := by
  have g1 : Grow β β w w1 := by rcases hw with rfl | rfl; exact Grow.refl _ _; exact grow_drew
  have hb1 : ∀ (k : Nat), k < w.heap.size → w1.heap[k]? = w.heap[k]? := by rcases hw with rfl | rfl <;> exact fun _ _ => rfl
  have hs1 : w1.heap.size = w.heap.size := by rcases hw with rfl | rfl <;> rfl
  have hH1 := hH.same g1 hb1
  have h1 := h.grow g1
  cases draw with
  | false =>
    refine ⟨_, _, β ++ [.blk w1.heap.size 0], hrun, ?_, ?_, g1.trans (grow_alloc_id _ _ (fun b base e => by cases e; rfl)), fun e => by cases e⟩
    · simp only [fresh, RepV]
      refine ⟨by simp [hH.len], fun b base hb => ?_, fun hb => ?_⟩
      · rw [List.getElem?_append_right (by rw [hH.len]; exact Nat.le_refl _)] at hb
        simp [hH.len] at hb
        obtain ⟨rfl, rfl⟩ := hb
        exact ⟨cap, by rw [hs1], hn, c, el, _, heap_alloc_new w1 _, by omega⟩
      · rw [List.getElem?_append_right (by rw [hH.len]; exact Nat.le_refl _)] at hb
        simp [hH.len] at hb
    · exact repH_alloc hH1 h1
  | true =>
    refine ⟨_, _, β, hrun, ?_, ?_, g1.trans (grow_alloc _), fun _ => ⟨rfl, rfl⟩⟩
    · simp only [fresh, RepV]
      refine ⟨_, cap, rfl, hn, .inr ⟨w.heap.size, 0, rfl, fun hx => ?_, fun hl => ?_, ?_⟩⟩
      · have := (hH.out _ hx).1; omega
      · have := hH.lt _ hl; omega
      · rw [← hs1]; exact h1.row (heap_alloc_new w1 _) (grow_alloc _)
    · exact hH1.same (grow_alloc _) (fun k hk => heap_old _ hk)
end Go.Ab
namespace Go.Ab
open Go Go.RowKit
set_option linter.unusedVariables false
set_option linter.unusedSimpArgs false
variable {P : Program} {X : Nat → Prop} {β : List Base} {w : World} {L : LH}
theorem convF_goes {draw : Bool} (src dst : TypeId) (x : PV) (vx : Value) (hpre : (convF P src dst x L).pre) (hH : RepH X β w L) (hx : RepV X β w x vx) :
    Goes P X β w L draw (convert src dst vx) (convF P src dst x L) := by
  unfold convF at hpre ⊢
  split at hpre
  case h_2 => exact absurd hpre (by simp [OR.bad])
  rename_i S D hS hD
  obtain ⟨uS, _⟩ := tyOf_spec hS
  obtain ⟨uD, _⟩ := tyOf_spec hD
  split at hpre
  · rename_i k kk n hk
    simp only [RepV] at hx; subst hx
    rw [hk] at uD
    exact (still_lit (by simp [convert, run_underlying uS, run_underlying uD, Conv.intToInt])).goes hH
  · rename_i s h1 h2
    simp only [RepV] at hx; subst hx
    rw [h1] at uS; rw [h2] at uD
    exact (still_lit (by simp [convert, run_underlying uS, run_underlying uD])).goes hH
  · rename_i e h1 h2
    rw [h1] at uS; rw [h2] at uD
    split at hpre
    · rename_i hE
      try simp only [hE]
      obtain ⟨ue, _⟩ := tyOf_spec hE
      obtain ⟨p1, p2, p3⟩ := hpre
      obtain ⟨a, cap, rfl, hcap, vs, hr, hl, ho, hc⟩ := slc_list p1 hH hx
      obtain ⟨ns, rfl, hb⟩ := repL_bytes p3 hr
      refine (still_lit ?_).goes hH
      rw [run_convert_bytes_string w src dst e _ _ _ uS ue uD, bytesToString_run (by simp at hl; omega) hc, hb]
    · exact absurd hpre (by simp [OR.bad])
  · rename_i e s h1 h2
    rw [h1] at uS; rw [h2] at uD
    simp only [RepV] at hx; subst hx
    split at hpre
    · rename_i hE
      try simp only [hE]
      obtain ⟨ue, _⟩ := tyOf_spec hE
      have hr := run_bytes_of_string w src dst e s uS uD ue
      refine ⟨_, _, β, hr, ?_, ?_, grow_drew.trans (grow_alloc _), fun _ => ⟨rfl, rfl⟩⟩
      · simp only [RepV]
        refine ⟨_, _, rfl, grownCap_ge w s.size 0 e, .inr ⟨w.heap.size, 0, rfl, fun h => ?_, fun h => ?_, ?_⟩⟩
        · have := (hH.out _ h).1; omega
        · have := hH.lt _ h; omega
        · rw [RepRow.iff]
          intro i p hp
          have hi : i < s.data.toList.length := by
            have := (List.getElem?_eq_some_iff.1 hp).1
            simpa using this
          simp at hi
          refine ⟨.int .u8 (s.data[i]).toNat, ?_, rfl, ?_⟩
          · rw [show w.heap.size = w.drew.heap.size from rfl, World.cell?_alloc_mark]
            simp [bytesRow, Array.getElem?_append, hi]
          · simp [List.getElem?_eq_getElem, hi] at hp
            subst hp
            simp [bv, RepV]
      · exact (hH.same grow_drew (fun _ _ => rfl)).same (grow_alloc _) (fun k hk => heap_old _ hk)
    · exact absurd hpre (by simp [OR.bad])
  · exact absurd hpre (by simp [OR.bad])
theorem lenF_still (t ty : TypeId) (ts : Array TypeId) (x : PV) (vx : Value) (hpre : (lenF P t x L).pre) (hH : RepH X β w L) (hx : RepV X β w x vx) (ht : ts[0]? = some t) :
    Still P X β w L (Builtin.len_ ts ty #[vx]) (lenF P t x L) := by
  unfold lenF at hpre ⊢
  split at hpre
  case h_2 => exact absurd hpre (by simp [OR.bad])
  rename_i T hT
  obtain ⟨u, _⟩ := tyOf_spec hT
  split at hpre
  · rename_i s h1
    simp only [RepV] at hx; subst hx
    rw [h1] at u
    exact still_lit (by simp [Builtin.len_, ht, run_underlying u, goInt])
  · rename_i e a n c h1
    simp only [RepV] at hx; subst hx
    rw [h1] at u
    exact still_lit (by simp [Builtin.len_, ht, run_underlying u, goInt])
  · rename_i e n cs h1
    simp only [RepV] at hx
    obtain ⟨a, cap, rfl, _⟩ := hx
    rw [h1] at u
    exact still_lit (by simp [Builtin.len_, ht, run_underlying u, goInt])
  · rename_i e id off n sz h1
    rw [h1] at u
    split at hpre
    · rename_i cs hL
      try simp only [hL]
      have hsl : ∃ a cap, vx = .slice a n cap := by
        simp only [RepV] at hx
        rcases hH.ent id cs hL with ⟨h1, _⟩ | ⟨b, base, c, el, h1, _⟩
        · obtain ⟨rfl, rfl, _⟩ := hx.2.2 h1; exact ⟨_, _, rfl⟩
        · obtain ⟨cap, rfl, _⟩ := hx.2.1 b base h1; exact ⟨_, _, rfl⟩
      obtain ⟨a, cap, rfl⟩ := hsl
      exact still_lit (by simp [Builtin.len_, ht, run_underlying u, goInt])
    · exact absurd hpre (by simp [OR.bad])
  · rename_i n e h1
    rw [h1] at u
    exact still_lit (by simp [Builtin.len_, ht, run_underlying u, goInt])
  · exact absurd hpre (by simp [OR.bad])
theorem capF_still (t ty : TypeId) (ts : Array TypeId) (x : PV) (vx : Value) (hpre : (capF P t x L).pre) (hx : RepV X β w x vx) (ht : ts[0]? = some t) :
    Still P X β w L (Builtin.cap_ ts ty #[vx]) (capF P t x L) := by
  unfold capF at hpre ⊢
  split at hpre
  case h_2 => exact absurd hpre (by simp [OR.bad])
  rename_i T hT
  obtain ⟨u, _⟩ := tyOf_spec hT
  split at hpre
  · rename_i e a n c h1
    simp only [RepV] at hx; subst hx
    rw [h1] at u
    exact still_lit (by simp [Builtin.cap_, ht, run_underlying u, goInt])
  · rename_i n e h1
    rw [h1] at u
    exact still_lit (by simp [Builtin.cap_, ht, run_underlying u, goInt])
  · exact absurd hpre (by simp [OR.bad])
theorem rep_length (n : Nat) (z : Value) : (rep n z).length = n * z.cells.size := by
  induction n with
  | zero => simp [rep]
  | succ n ih => simp only [rep, List.replicate_succ, List.flatten_cons, List.length_append] at ih ⊢; rw [ih]; simp [Nat.add_mul]; omega
theorem rep_get (n : Nat) (z : Value) (i : Nat) (hi : i < n * z.cells.size) : (rep n z)[i]? = some (.lit (z.cells[i % z.cells.size]!)) := by
  induction n generalizing i with
  | zero => simp at hi
  | succ n ih =>
    have hp : 0 < z.cells.size := by
      rcases Nat.eq_zero_or_pos z.cells.size with h | h
      · rw [h] at hi; simp at hi
      · exact h
    simp only [rep, List.replicate_succ, List.flatten_cons] at ih ⊢
    rw [List.getElem?_append]
    split
    · rename_i h
      simp at h
      rw [Nat.mod_eq_of_lt h]
      simp [h]
    · rename_i h
      simp at h
      simp only [List.length_map, Array.length_toList]
      rw [ih (i - z.cells.size) (by rw [Nat.add_mul] at hi; omega)]
      have : i % z.cells.size = (i - z.cells.size) % z.cells.size := by
        rw [Nat.mod_eq_sub_mod h]
      rw [this]
theorem rep_holds (n m : Nat) (z : Value) (c : Array Value) (hc : n * z.cells.size ≤ c.size) (h1 : ∀ v ∈ z.cells.toList, v.oneCell' = true)
    (h : ∀ i, i < n * z.cells.size → c[i]? = some (z.cells[i % z.cells.size]!)) : Holds X β w c (rep n z) := by
  refine ⟨by rw [rep_length]; exact hc, fun i p hp => ?_⟩
  have hi : i < n * z.cells.size := by
    have := (List.getElem?_eq_some_iff.1 hp).1
    rwa [rep_length] at this
  have hpos : 0 < z.cells.size := by
    rcases Nat.eq_zero_or_pos z.cells.size with h | h
    · rw [h] at hi; simp at hi
    · exact h
  rw [rep_get n z i hi] at hp
  cases hp
  refine ⟨_, h i hi, ?_, by simp [RepV]⟩
  have hlt := Nat.mod_lt i hpos
  rw [getElem!_pos z.cells (i % z.cells.size) hlt]
  exact h1 _ (by simp)
theorem makeF_goes {draw : Bool} (t : TypeId) (l c : PV) (vl vc : Value) (hpre : (makeF P draw t l c L).pre) (hH : RepH X β w L) (hl : RepV X β w l vl) (hc : RepV X β w c vc) :
    Goes P X β w L draw (Instr.makeSlice t vl vc) (makeF P draw t l c L) := by
  unfold makeF at hpre ⊢
  split at hpre
  case h_2 => exact absurd hpre (by simp [OR.bad])
  rename_i e _ _ _ hT
  obtain ⟨u, _⟩ := tyOf_spec hT
  split at hpre
  case h_2 => exact absurd hpre (by simp [OR.bad])
  rename_i E kl l kc c hE
  try simp only [hE]
  obtain ⟨ue, i, hi, hs, hb, hz⟩ := tyOf_spec hE
  simp only [RepV] at hl hc; subst hl hc
  obtain ⟨p1, p2, p3, p4, p5, p6⟩ := hpre
  have hr := run_make (P := P) w t e i E.zero u hi hz kl kc l c p1 p2 (by rw [hb]; exact p3) p4
  have hlc : l.toNat ≤ c.toNat := Int.toNat_le_toNat p2
  refine fresh_goes hH (.inl rfl) hr hlc (by rw [size_madeCells, hs]; exact Nat.le_refl _) ?_
  refine rep_holds l.toNat l.toNat E.zero _ ?_ p6 ?_
  · rw [size_madeCells, p5, hs]; exact Nat.mul_le_mul_right _ hlc
  · intro j hj
    have hj' : j < c.toNat * i.size := by
      rw [p5] at hj; rw [hs]
      exact Nat.lt_of_lt_of_le hj (Nat.mul_le_mul_right _ hlc)
    simp [madeCells, hj']
end Go.Ab
namespace Go.Ab
open Go Go.RowKit
set_option linter.unusedVariables false
set_option linter.unusedSimpArgs false
variable {P : Program} {X : Nat → Prop} {β : List Base} {w : World} {L : LH}
def NewsOk (P : Program) (w : World) (i : TypeInfo) (z : Value) (t2 : TypeId) (vx : Value) (n : Nat) (new : List Value) : Prop :=
  (∃ k k' m, P.underlying t2 = some (.int k) ∧ vx = .int k' m ∧ 0 ≤ m ∧ m ≤ 9223372036854775807 ∧ m * i.bytes ≤ 281474976710656 ∧ n = m.toNat ∧ new.toArray = Builtin.zeroCells z.cells n ∧ (z.cells.size = i.size)) ∨
  (∃ d, P.underlying t2 = some d ∧ (∀ k, d ≠ .int k) ∧ Builtin.lenOf vx = pure n ∧ ∀ w', w' = w ∨ w' = w.drew → (Builtin.firstCells i.size n vx).run P w' = .ok new.toArray w')
theorem append_grow_run (t t2 ty e : TypeId) (i : TypeInfo) (z : Value) (ht : P.underlying t = some (.slice e)) (hi : P.info? e = some i) (hz : i.zero = some z) (hsz : 0 < i.size)
    (a : Option Addr) (sLen sCap : Nat) (olds : List Value) (holds : ∀ w', w' = w ∨ w' = w.drew → (Builtin.firstCells i.size sLen (.slice a sLen sCap)).run P w' = .ok olds.toArray w')
    (vx : Value) (n : Nat) (new : List Value) (hn : NewsOk P w i z t2 vx n new)
    (hcap : sLen ≤ sCap) (hg : sCap < sLen + n) (h63 : ((sLen + n : Nat) : Int) ≤ 9223372036854775807) (hfit : Builtin.nextslicecap (sLen + n) sCap * i.bytes ≤ 281474976710656) :
    (Builtin.append_ #[t, t2] ty #[.slice a sLen sCap, vx]).run P w =
      .ok (.slice (some ⟨w.heap.size, 0, none⟩) (sLen + n) (grownCap w (sLen + n) sCap e))
        (w.drew.alloc (.cells (olds.toArray ++ new.toArray ++ Builtin.zeroCells z.cells (grownCap w (sLen + n) sCap e - (sLen + n))) e)) := by
  have hg' : ¬ (sLen + n ≤ sCap) := by omega
  have h63' : ¬ (9223372036854775807 < ((sLen : Int) + (n : Int))) := by omega
  have h48' : ¬ (281474976710656 < Builtin.nextslicecap (sLen + n) sCap * i.bytes) := by omega
  have hfo := holds w.drew (.inr rfl)
  rcases hn with ⟨k, k', m, hu, rfl, m0, m63, m48, rfl, hnew, hzs⟩ | ⟨d, hu, hd, hlen, hf⟩
  · have hw : IntKind.i64.wrap m = m := by rw [IntKind.wrap_i64]; omega
    have m0' : ¬ m < 0 := by omega
    have m48' : ¬ (281474976710656 < m * (i.bytes : Int)) := by omega
    by_cases hz0 : m.toNat * i.size = 0
    · exfalso
      rcases Nat.mul_eq_zero.1 hz0 with h | h <;> omega
    · have h63'' : ¬ (9223372036854775807 < (sLen : Int) + max m 0) := by omega
      simp [Builtin.append_, run_underlying ht, run_underlying hu, sizeOf, typeInfo, zeroValue, hi, hz, asInt, asIntOf, hw, m0', m48', hg', h63', h63'', h48', Question.forced, hfo, hz0, newRow, grownCap, hnew]
  · have hf' := hf w.drew (.inr rfl)
    have hdm : (match d with | .int _ => true | _ => false) = false := by cases d <;> first | rfl | exact absurd rfl (hd _)
    simp [Builtin.append_, run_underlying ht, run_underlying hu, sizeOf, typeInfo, zeroValue, hi, hz, hdm, hlen, hg', h63', h48', Question.forced, hf', hfo, newRow, grownCap]
    congr 2
    apply Array.ext'
    simp [List.append_assoc]
theorem append_room_run (t t2 ty e : TypeId) (i : TypeInfo) (z : Value) (ht : P.underlying t = some (.slice e)) (hi : P.info? e = some i) (hz : i.zero = some z) (hsz : 0 < i.size)
    (g o sLen sCap : Nat) (cur : Array Value) (el : TypeId) (hgc : w.heap[g]? = some (.cells cur el (0, 0)))
    (vx : Value) (n : Nat) (new : List Value) (hl : new.length = n * i.size) (hn : NewsOk P w i z t2 vx n new) (h1 : ∀ u ∈ new, u.oneCell' = true)
    (hroom : sLen + n ≤ sCap) (hfit : o + sLen * i.size + new.length ≤ cur.size) :
    (Builtin.append_ #[t, t2] ty #[.slice (some ⟨g, o, none⟩) sLen sCap, vx]).run P w =
      .ok (.slice (some ⟨g, o, none⟩) (sLen + n) sCap) (w.setRow g (cur.toList.take (o + sLen * i.size) ++ new ++ cur.toList.drop (o + sLen * i.size + new.length)).toArray) := by
  have hst := run_storeCells_at P g (o + sLen * i.size) el new 0 cur w hgc (by simpa using hfit) h1
  simp only [Nat.add_zero] at hst
  rcases hn with ⟨k, k', m, hu, rfl, m0, m63, m48, rfl, hnew, hzs⟩ | ⟨d, hu, hd, hlen, hf⟩
  · have hw : IntKind.i64.wrap m = m := by rw [IntKind.wrap_i64]; omega
    have m0' : ¬ m < 0 := by omega
    have m48' : ¬ (281474976710656 < m * (i.bytes : Int)) := by omega
    by_cases hz0 : m.toNat * i.size = 0
    · have hm0 : m.toNat = 0 := by
        rcases Nat.mul_eq_zero.1 hz0 with h | h
        · exact h
        · omega
      have hne : new = [] := List.eq_nil_of_length_eq_zero (by rw [hl, hz0])
      subst hne
      rw [hm0] at hroom ⊢
      have hst' : (storeCells ⟨g, o + sLen * i.size, none⟩ [] 0).run P w = .ok () w := by simp [storeCells]
      rw [hst'] at hst
      have hst2 := (Result.ok.inj hst).2
      rw [← hst2]
      simp only [List.length_nil, Nat.add_zero] at hroom ⊢
      simp [Builtin.append_, run_underlying ht, run_underlying hu, sizeOf, typeInfo, hi, asInt, asIntOf, hw, m0', m48', hm0, hroom, Addr.add_lit, storeCells]
    · have hl' : (Builtin.zeroCells z.cells m.toNat).toList = new := by rw [← hnew]
      simp [Builtin.append_, run_underlying ht, run_underlying hu, sizeOf, typeInfo, zeroValue, hi, hz, asInt, asIntOf, hw, m0', m48', hroom, hz0, Addr.add_lit, hl', hst]
  · have hf' := hf w (.inl rfl)
    have hdm : (match d with | .int _ => true | _ => false) = false := by cases d <;> first | rfl | exact absurd rfl (hd _)
    simp [Builtin.append_, run_underlying ht, run_underlying hu, sizeOf, typeInfo, hi, hdm, hlen, hroom, hf', Addr.add_lit, hst]
theorem append_nil0_run (t t2 ty e : TypeId) (i : TypeInfo) (z : Value) (ht : P.underlying t = some (.slice e)) (hi : P.info? e = some i) (hz : i.zero = some z)
    (vx : Value) (hn : NewsOk P w i z t2 vx 0 []) :
    (Builtin.append_ #[t, t2] ty #[.slice none 0 0, vx]).run P w = .ok (.slice none 0 0) w := by
  rcases hn with ⟨k, k', m, hu, rfl, m0, m63, m48, hm0, hnew, hzs⟩ | ⟨d, hu, hd, hlen, hf⟩
  · have hw : IntKind.i64.wrap m = m := by rw [IntKind.wrap_i64]; omega
    have m0' : ¬ m < 0 := by omega
    have m48' : ¬ (281474976710656 < m * (i.bytes : Int)) := by omega
    obtain rfl : m = 0 := by omega
    simp [Builtin.append_, run_underlying ht, run_underlying hu, sizeOf, typeInfo, hi, asInt, asIntOf, hw]
  · have hf' := hf w (.inl rfl)
    have hdm : (match d with | .int _ => true | _ => false) = false := by cases d <;> first | rfl | exact absurd rfl (hd _)
    simp [Builtin.append_, run_underlying ht, run_underlying hu, sizeOf, typeInfo, hi, hdm, hlen, hf']
theorem bytes_repL (s : ByteArray) : RepL X β w (s.data.toList.map bv) (s.data.toList.map fun b => Value.int .u8 b.toNat) := by
  rw [RepL.iff]
  refine ⟨by simp, fun i p v hp hv => ?_⟩
  simp only [List.getElem?_map, Option.map_eq_some_iff] at hp hv
  obtain ⟨b, hb, rfl⟩ := hp
  obtain ⟨b', hb', rfl⟩ := hv
  rw [hb] at hb'; cases hb'
  simp [bv, RepV]
theorem news_ok {e : TypeId} {E : TI} {t2 : TypeId} {x : PV} {vx : Value} (hpre : (news P E t2 x L).1) (hE : tyOf P e = some E) (hH : RepH X β w L) (hx : RepV X β w x vx) :
    ∃ (i : TypeInfo) (new : List Value), P.info? e = some i ∧ i.size = E.size ∧ i.bytes = E.bytes ∧ i.zero = some E.zero ∧ NewsOk P w i E.zero t2 vx (news P E t2 x L).2.1 new ∧ new.length = (news P E t2 x L).2.1 * E.size ∧ (∀ u ∈ new, u.oneCell' = true) ∧ RepL X β w (news P E t2 x L).2.2 new := by
  obtain ⟨ue, i, hi, hs, hb, hz⟩ := tyOf_spec hE
  unfold news at hpre ⊢
  split at hpre
  · rename_i hT
    obtain ⟨u2, _⟩ := tyOf_spec hT
    split at hpre
    · rename_i k m
      try simp only [hT]
      simp only [RepV] at hx; subst hx
      obtain ⟨p1, p2, p3, p4, p5⟩ := hpre
      refine ⟨i, (Builtin.zeroCells E.zero.cells m.toNat).toList, hi, hs, hb, hz, .inl ⟨_, _, m, u2, rfl, p1, p2, by rw [hb]; exact p3, rfl, by simp, by rw [p4, hs]⟩, ?_, ?_, ?_⟩
      · simp [Builtin.zeroCells, p4]
      · intro u hu
        simp only [Builtin.zeroCells, Array.toList_map, List.mem_map, Array.toList_range, List.mem_range] at hu
        obtain ⟨j, hj, rfl⟩ := hu
        have hpos : 0 < E.zero.cells.size := by
          rcases Nat.eq_zero_or_pos E.zero.cells.size with h | h
          · rw [h] at hj; simp at hj
          · exact h
        have hlt := Nat.mod_lt j hpos
        rw [getElem!_pos E.zero.cells (j % E.zero.cells.size) hlt]
        exact p5 _ (by simp)
      · rw [RepL.iff]
        refine ⟨by rw [rep_length]; simp [Builtin.zeroCells], fun j p v hp hv => ?_⟩
        have hj : j < m.toNat * E.zero.cells.size := by
          have := (List.getElem?_eq_some_iff.1 hp).1
          rwa [rep_length] at this
        rw [rep_get _ _ _ hj] at hp
        cases hp
        simp [Builtin.zeroCells, hj] at hv
        simp [RepV, hv]
    · exact absurd hpre (by simp)
  · rename_i e2 _ _ _ hT
    obtain ⟨u2, _⟩ := tyOf_spec hT
    obtain ⟨p1, p2⟩ := hpre
    obtain ⟨a, cap, rfl, hcap, vs, hr, hl, ho, hc⟩ := slc_list p1 hH hx
    refine ⟨i, vs, hi, hs, hb, hz, .inr ⟨_, u2, by simp, rfl, fun w' hw' => ?_⟩, by rw [hl, p2], ho, hr⟩
    refine firstCells_run (by rw [hl, p2, hs]) ?_
    rcases hc with hc | ⟨b, ha, hc⟩
    · exact .inl hc
    · refine .inr ⟨b, ha, fun j u hu => ?_⟩
      rcases hw' with rfl | rfl
      · exact hc j u hu
      · simpa using hc j u hu
  · rename_i hT
    obtain ⟨u2, _⟩ := tyOf_spec hT
    split at hpre
    · rename_i s
      simp only [RepV] at hx; subst hx
      refine ⟨i, s.data.toList.map (fun b => Value.int .u8 b.toNat), hi, hs, hb, hz, .inr ⟨_, u2, by simp, rfl, fun w' _ => ?_⟩, ?_, ?_, bytes_repL s⟩
      · have : s.extract 0 s.size = s := by simp
        simp [Builtin.firstCells, this]
        rw [← Array.toList_map]
      · have : E.size = 1 := hpre
        rw [this]; simp
      · simp [Value.oneCell']
    · exact absurd hpre (by simp)
  · exact absurd hpre (by simp)
theorem holds_append {c : List Value} {rest : Array Value} {ps : List PV} (h : RepL X β w ps c) (h1 : ∀ u ∈ c, u.oneCell' = true) : Holds X β w (c.toArray ++ rest) ps := by
  rw [RepL.iff] at h
  refine ⟨by simp [h.1], fun i p hp => ?_⟩
  have hi : i < c.length := by rw [h.1]; exact (List.getElem?_eq_some_iff.1 hp).1
  refine ⟨c[i], ?_, h1 _ (by simp), h.2 i p _ hp (by simp [hi])⟩
  simp [Array.getElem?_append, hi]
theorem repH_kill (hH : RepH X β w L) (id : Nat) : RepH X (β.set id .dead) w (L.set id .dead) ∧ Grow β (β.set id .dead) w w := by
  have hg : ∀ (j b base : Nat), (β.set id .dead)[j]? = some (.blk b base) → β[j]? = some (.blk b base) := by
    intro j b base h
    rw [List.getElem?_set] at h
    split at h
    · split at h <;> cases h
    · exact h
  have hg' : ∀ (j : Nat) x, (β.set id .dead)[j]? = some x → x ≠ .dead → β[j]? = some x := by
    intro j x h hx
    rw [List.getElem?_set] at h
    split at h
    · split at h
      · cases h; exact absurd rfl hx
      · cases h
    · exact h
  have hl : ∀ b, Live (β.set id .dead) b → Live β b := fun b ⟨j, base, h⟩ => ⟨j, base, hg _ _ _ h⟩
  have g : Grow β (β.set id .dead) w w := ⟨rfl, rfl, rfl, Nat.le_refl _, fun _ _ _ => rfl, fun k c el fr h => ⟨c, fr, h, rfl⟩, fun b h => .inl (hl b h), by simp, fun j x _ hx hd => hg' j x hx hd⟩
  refine ⟨⟨by simp [hH.len], fun i j b x y hi hj => hH.inj i j b x y (hg _ _ _ hi) (hg _ _ _ hj), fun b h => hH.lt b (hl b h), fun b hx => ⟨(hH.out b hx).1, fun h => (hH.out b hx).2 (hl b h)⟩, ?_⟩, g⟩
  intro j ds hj
  rw [List.getElem?_set] at hj
  split at hj
  · split at hj <;> cases hj
  · rename_i hne
    have hb : ∀ x, β[j]? = some x → (β.set id .dead)[j]? = some x := fun x hx => by rw [List.getElem?_set_ne hne]; exact hx
    rcases hH.ent j ds hj with ⟨h1, h2⟩ | ⟨b, base, c', el', h1, h2, h3, h4⟩
    · exact .inl ⟨hb _ h1, h2⟩
    · refine .inr ⟨b, base, c', el', hb _ h1, h2, h3, ?_⟩
      rw [RepRow.iff] at h4 ⊢
      intro i p hp
      obtain ⟨v, hv, ho, hr⟩ := h4 i p hp
      exact ⟨v, hv, ho, hr.grow g⟩
theorem repH_set {id b base : Nat} {c c' : Array Value} {el : TypeId} {cs cs' : List PV} (hH : RepH X β w L) (hL : L[id]? = some (.cells cs)) (hb : β[id]? = some (.blk b base)) (hw : w.heap[b]? = some (.cells c el (0, 0)))
    (hs : c'.size = c.size) (h1 : base + cs'.length ≤ c.size) (h2 : ∀ (i : Nat) p, cs'[i]? = some p → ∃ v, c'[base + i]? = some v ∧ v.oneCell' = true ∧ RepV X β w p v) :
    RepH X β (w.setRow b c') (L.set id (.cells cs')) ∧ Grow β β w (w.setRow b c') := by
  have hlb : Live β b := ⟨id, base, hb⟩
  have g : Grow β β w (w.setRow b c') := by
    refine ⟨rfl, rfl, rfl, by simp, fun k hk hl => setRow_other w b k c' (fun e => hl (e ▸ hlb)), fun k d e fr h => ?_, fun _ h => .inl h, Nat.le_refl _, fun _ _ _ h _ => h⟩
    by_cases hk : k = b
    · subst hk
      rw [hw] at h; cases h
      exact ⟨c', _, setRow_heap w k c c' _ _ hw, hs⟩
    · exact ⟨d, fr, by rw [setRow_other w b k c' hk]; exact h, rfl⟩
  refine ⟨⟨by simp [hH.len], hH.inj, fun d hd => by simpa using hH.lt d hd, fun d hd => by simpa using hH.out d hd, ?_⟩, g⟩
  intro j ds hj
  by_cases hji : j = id
  · subst hji
    rw [List.getElem?_set_self (by exact (List.getElem?_eq_some_iff.1 hL).1)] at hj
    cases hj
    refine .inr ⟨b, base, c', el, hb, setRow_heap w b c c' _ _ hw, by omega, ?_⟩
    rw [RepRow.iff]
    intro i p hp
    obtain ⟨v, hv, ho, hr⟩ := h2 i p hp
    exact ⟨v, by rw [cell_of_row _ b _ c' el (0, 0) (setRow_heap w b c c' _ _ hw)]; exact hv, ho, hr.grow g⟩
  · rw [List.getElem?_set_ne (Ne.symm hji)] at hj
    rcases hH.ent j ds hj with h | ⟨b', base', c2, el', e1, e2, e3, e4⟩
    · exact .inl h
    · have hbb : b' ≠ b := fun e => hji (hH.inj j id b' base' base e1 (e ▸ hb))
      refine .inr ⟨b', base', c2, el', e1, by rw [setRow_other w b b' c' hbb]; exact e2, e3, ?_⟩
      rw [RepRow.iff] at e4 ⊢
      intro i p hp
      obtain ⟨v, hv, ho, hr⟩ := e4 i p hp
      exact ⟨v, by rw [← hv]; exact World.cell?_of_block (setRow_other w b b' c' hbb), ho, hr.grow g⟩
theorem appF_goes {draw : Bool} (t t2 ty : TypeId) (s x : PV) (vs vx : Value) (hpre : (appF P draw t t2 s x L).pre) (hH : RepH X β w L) (hs : RepV X β w s vs) (hx : RepV X β w x vx) :
    Goes P X β w L draw (Builtin.append_ #[t, t2] ty #[vs, vx]) (appF P draw t t2 s x L) := by
  unfold appF at hpre ⊢
  split at hpre
  case h_2 => exact absurd hpre (by simp [OR.bad])
  rename_i e _ _ _ hT
  obtain ⟨u, _⟩ := tyOf_spec hT
  split at hpre
  case h_2 => exact absurd hpre (by simp [OR.bad])
  rename_i E hE
  try simp only [hE]
  simp only at hpre ⊢
  split at hpre
  · -- nil
    simp only [RepV] at hs; subst hs
    obtain ⟨p0, pz, p1, p2, p3⟩ := hpre
    obtain ⟨i, new, hi, his, hib, hiz, hok, hl, h1, hr⟩ := news_ok p1 hE hH hx
    have hlr := RepL.length hr
    by_cases hn : (news P E t2 x L).2.1 = 0
    · have hnew : new = [] := List.eq_nil_of_length_eq_zero (by rw [hl, hn]; simp)
      subst hnew
      have hcs : (news P E t2 x L).2.2 = [] := List.eq_nil_of_length_eq_zero (by simpa using hlr.symm)
      rw [hn] at hok ⊢
      rw [hcs]
      have hrun := append_nil0_run (P := P) (w := w) t t2 ty e i E.zero u hi hiz vx hok
      cases draw with
      | false =>
        refine ⟨_, w, β ++ [.nil], hrun, ?_, repH_nil (sz := 0) hH, grow_nil, fun e => by cases e⟩
        simp only [fresh, RepV]
        refine ⟨by simp [hH.len], fun b base hb => ?_, fun _ => by simp⟩
        rw [List.getElem?_append_right (by rw [hH.len]; exact Nat.le_refl _)] at hb
        simp [hH.len] at hb
      | true =>
        refine ⟨_, w, β, hrun, ?_, hH, Grow.refl β w, fun _ => ⟨rfl, rfl⟩⟩
        simp only [fresh, RepV]
        exact ⟨none, 0, rfl, Nat.le_refl _, .inl rfl⟩
    · have hfit := growslice_fits (need := (news P E t2 x L).2.1) (old := 0) (bytes := E.bytes) (by omega) p2
      have hrun := append_grow_run (P := P) (w := w) t t2 ty e i E.zero u hi hiz (by rw [his]; exact p0) none 0 0 [] (fun w' _ => run_firstCells_none w' i.size 0 0 0) vx _ new hok (Nat.le_refl _) (by omega) (by omega) (by rw [hib]; simpa using hfit)
      simp only [Nat.zero_add] at hrun
      refine fresh_goes hH (.inr rfl) hrun (grownCap_ge w _ 0 e) ?_ ?_ (sz := E.size)
      · simp only [Array.size_append, List.size_toArray, List.length_nil, Nat.zero_add, size_zeroCells, hl]
        rw [pz, ← Nat.add_mul]
        have := grownCap_ge w (news P E t2 x L).2.1 0 e
        rw [show (news P E t2 x L).2.1 + (grownCap w (news P E t2 x L).2.1 0 e - (news P E t2 x L).2.1) = grownCap w (news P E t2 x L).2.1 0 e by omega]
        exact Nat.le_refl _
      · have : ([] : List Value).toArray ++ new.toArray = new.toArray := by simp
        rw [this]
        exact holds_append hr h1
  · rename_i id off n sz
    split at hpre
    · exact absurd hpre (by simp [OR.bad])
    · simp only at hpre ⊢
      obtain ⟨p0, pz, rfl, p4, p1, p2, p3⟩ := hpre
      obtain ⟨i, new, hi, his, hib, hiz, hok, hl, h1, hr⟩ := news_ok p1 hE hH hx
      have hlr := RepL.length hr
      obtain ⟨cs, hL, hle⟩ : ∃ cs, L[id]? = some (.cells cs) ∧ off + n * E.size ≤ cs.length := by
        unfold slc at p4
        simp only at p4
        split at p4
        · rename_i cs h; exact ⟨cs, h, p4⟩
        · exact absurd p4 (by simp)
      have hsl : (slc L (.own id off n E.size)).2.2 = (cs.drop off).take (n * E.size) := by simp [slc, hL]
      have hsl1 : (slc L (.own id off n E.size)).2.1 = n := by simp [slc, hL]
      obtain ⟨a, cap, hvs, hcap, olds, hro, hlo, h1o, hco⟩ := slc_list p4 hH hs
      rw [hsl1] at hvs hcap
      rw [hsl] at hro hlo
      have hlo' : olds.length = n * E.size := by rw [hlo]; simp; omega
      have hkill := repH_kill hH id
      have hkillL : kill L (.own id off n E.size) = L.set id .dead := rfl
      rw [hsl, hkillL]
      have hr' : RepL X (β.set id .dead) w ((cs.drop off).take (n * E.size) ++ (news P E t2 x L).2.2) (olds ++ new) :=
        repL_append (RepL.grow hkill.2 _ _ hro) (RepL.grow hkill.2 _ _ hr)
      have h1' : ∀ u ∈ olds ++ new, u.oneCell' = true := by
        intro u hu
        rcases List.mem_append.1 hu with h | h
        · exact h1o u h
        · exact h1 u h
      simp only [RepV] at hs
      obtain ⟨hid, hblk, hnil⟩ := hs
      have grows : ∀ (a : Option Addr) (cap : Nat), vs = .slice a n cap → n ≤ cap → cap < n + (news P E t2 x L).2.1 →
          (olds = [] ∨ ∃ b, a = some b ∧ ∀ (j : Nat) u, olds[j]? = some u → w.cell? (b.add j) = some u) →
          Goes P X β w L false (Builtin.append_ #[t, t2] ty #[vs, vx]) ⟨True, .own L.length 0 (n + (news P E t2 x L).2.1) E.size, L.set id .dead ++ [.cells ((cs.drop off).take (n * E.size) ++ (news P E t2 x L).2.2)]⟩ := by
        intro a cap hvs hcap hg hco
        subst hvs
        have hfit := growslice_fits (need := n + (news P E t2 x L).2.1) (old := cap) (bytes := E.bytes) hg p2
        have hrun := append_grow_run (P := P) (w := w) t t2 ty e i E.zero u hi hiz (by rw [his]; exact p0) a n cap olds (fun w' hw' => firstCells_run (by rw [hlo', his]) (by
          rcases hco with h | ⟨b, ha, h⟩
          · exact .inl h
          · refine .inr ⟨b, ha, fun j u hu => ?_⟩
            rcases hw' with rfl | rfl
            · exact h j u hu
            · simpa using h j u hu)) vx _ new hok hcap hg (by omega) (by rw [hib]; exact hfit)
        have hge := grownCap_ge w (n + (news P E t2 x L).2.1) cap e
        have hgo := fresh_goes (P := P) (X := X) (draw := false) (sz := E.size) (p := True) hkill.1 (.inr rfl) hrun hge (by
          simp only [Array.size_append, List.size_toArray, size_zeroCells, hl, hlo', pz, ← Nat.add_mul]
          rw [show n + (news P E t2 x L).2.1 + (grownCap w (n + (news P E t2 x L).2.1) cap e - (n + (news P E t2 x L).2.1)) = grownCap w (n + (news P E t2 x L).2.1) cap e by omega]
          exact Nat.le_refl _) (cs := (cs.drop off).take (n * E.size) ++ (news P E t2 x L).2.2) (by
          have : olds.toArray ++ new.toArray = (olds ++ new).toArray := by simp
          rw [this]
          exact holds_append hr' h1')
        obtain ⟨v, w', β', e1, e2, e3, e4, e5⟩ := hgo
        refine ⟨v, w', β', e1, ?_, ?_, hkill.2.trans e4, fun e => by cases e⟩
        · simpa [fresh] using e2
        · simpa [fresh] using e3
      rcases hH.ent id cs hL with ⟨hb, rfl⟩ | ⟨b, base, c, el, hb, hw, hfits, hrow⟩
      · obtain ⟨rfl, rfl, rfl⟩ := hnil hb
        have holds0 : olds = [] := by simpa using hlo'
        subst holds0
        by_cases hn : (news P E t2 x L).2.1 = 0
        · have hnew : new = [] := List.eq_nil_of_length_eq_zero (by rw [hl, hn]; simp)
          subst hnew
          have hcs : (news P E t2 x L).2.2 = [] := List.eq_nil_of_length_eq_zero (by simpa using hlr.symm)
          rw [hn] at hok ⊢
          rw [hcs]
          have hrun := append_nil0_run (P := P) (w := w) t t2 ty e i E.zero u hi hiz vx hok
          refine ⟨_, w, β.set id .dead ++ [.nil], hrun, ?_, by simpa using repH_nil (sz := 0) hkill.1, hkill.2.trans grow_nil, fun e => by cases e⟩
          simp only [RepV]
          refine ⟨by simp [hH.len], fun b base hb => ?_, fun _ => by simp⟩
          rw [List.getElem?_append_right (by simp [hH.len])] at hb
          simp [hH.len] at hb
        · obtain ⟨v, w', β', e1, e2, e3, e4, e5⟩ := grows none 0 rfl (Nat.le_refl _) (by omega) (.inl rfl)
          exact ⟨v, w', β', e1, e2, e3, e4, e5⟩
      · obtain ⟨cap', hvs', hcap', c2, el2, fr2, hw2, hsize⟩ := hblk b base hb
        rw [hw] at hw2; cases hw2
        subst hvs'
        cases hvs
        by_cases hroom : n + (news P E t2 x L).2.1 ≤ cap
        · -- in place
          have hm : (n + (news P E t2 x L).2.1) * E.size ≤ cap * E.size := Nat.mul_le_mul_right _ hroom
          rw [Nat.add_mul] at hm
          have hrun := append_room_run (P := P) (w := w) t t2 ty e i E.zero u hi hiz (by rw [his]; exact p0) b (base + off) n cap c el hw vx _ new (by rw [hl, his]) hok h1 hroom (by rw [his, hl]; omega)
          rw [his] at hrun
          let c' : Array Value := (c.toList.take (base + off + n * E.size) ++ new ++ c.toList.drop (base + off + n * E.size + new.length)).toArray
          have hc' : c'.size = c.size := by simp [c', hl]; omega
          have hcell : ∀ (j : Nat) p, ((cs.drop off).take (n * E.size) ++ (news P E t2 x L).2.2)[j]? = some p → ∃ v, c'[base + off + j]? = some v ∧ v.oneCell' = true ∧ RepV X β w p v := by
            intro j p hp
            rw [List.getElem?_append] at hp
            split at hp
            · rename_i hj
              have hj' : j < n * E.size := by simp at hj; omega
              rw [List.getElem?_take, if_pos hj', List.getElem?_drop] at hp
              obtain ⟨v, hv, ho, hr2⟩ := RepRow.iff.1 hrow (off + j) p hp
              refine ⟨v, ?_, ho, hr2⟩
              rw [show base + (off + j) = base + off + j by omega, cell_of_row w b _ c el (0, 0) hw] at hv
              have hlt : base + off + j < c.size := (Array.getElem?_eq_some_iff.1 hv).1
              simp only [c', List.getElem?_toArray]
              rw [List.append_assoc, List.getElem?_append_left (by simp; omega), List.getElem?_take, if_pos (by omega)]
              simpa using hv
            · rename_i hj
              have hlen : ((cs.drop off).take (n * E.size)).length = n * E.size := by simp; omega
              rw [hlen] at hp hj
              have hr3 := RepL.iff.1 hr
              have hjn : j - n * E.size < new.length := by rw [hr3.1]; exact (List.getElem?_eq_some_iff.1 hp).1
              refine ⟨new[j - n * E.size], ?_, h1 _ (by simp), hr3.2 _ p _ hp (by simp [hjn])⟩
              simp only [c', List.getElem?_toArray]
              rw [List.append_assoc, List.getElem?_append_right (by simp; omega)]
              rw [show base + off + j - (c.toList.take (base + off + n * E.size)).length = j - n * E.size by simp; omega]
              rw [List.getElem?_append_left hjn]
              simp [hjn]
          have hbl : Live β b := ⟨id, base, hb⟩
          have g : Grow β (β.set id .dead ++ [.blk b (base + off)]) w (w.setRow b c') := by
            refine ⟨rfl, rfl, rfl, by simp, fun k hk hl => setRow_other w b k c' (fun e => hl (e ▸ hbl)), fun k d e' fr h => ?_, fun d hd => ?_, by simp, fun j y hj hy hd => ?_⟩
            · by_cases hk : k = b
              · subst hk
                rw [hw] at h; cases h
                exact ⟨c', _, setRow_heap w k c c' _ _ hw, hc'⟩
              · exact ⟨d, fr, by rw [setRow_other w b k c' hk]; exact h, rfl⟩
            · rcases live_snoc hd with h | ⟨bs, h⟩
              · rcases hkill.2.live d h with h | h
                · exact .inl h
                · exact .inr h
              · cases h; exact .inl hbl
            · rw [List.getElem?_append_left (by simpa using hj)] at hy
              exact hkill.2.keep j y hj hy hd
          have hnl : ¬ Live (β.set id .dead) b := by
            rintro ⟨j, bs, hj⟩
            rw [List.getElem?_set] at hj
            split at hj
            · first | (split at hj <;> cases hj; done) | (cases hj; done)
            · rename_i hne
              exact hne (hH.inj j id b bs base hj hb).symm
          refine ⟨_, _, β.set id .dead ++ [.blk b (base + off)], hrun, ?_, ?_, g, fun e => by cases e⟩
          · simp only [RepV]
            refine ⟨by simp [hH.len], fun b' base' hb' => ?_, fun hb' => ?_⟩
            · rw [List.getElem?_append_right (by simp [hH.len])] at hb'
              simp [hH.len] at hb'
              obtain ⟨rfl, rfl⟩ := hb'
              refine ⟨cap, by simp, hroom, c', el, _, setRow_heap w b c c' _ _ hw, ?_⟩
              rw [hc']; omega
            · rw [List.getElem?_append_right (by simp [hH.len])] at hb'
              simp [hH.len] at hb'
          · refine ⟨by simp [hH.len], ?_, ?_, ?_, ?_⟩
            · intro j k d y z hj hk
              rw [List.getElem?_append] at hj hk
              split at hj <;> split at hk
              · exact hkill.1.inj j k d y z hj hk
              · rw [List.getElem?_singleton] at hk
                split at hk
                · simp at hk
                  exact absurd ⟨j, y, hk.1 ▸ hj⟩ hnl
                · cases hk
              · rw [List.getElem?_singleton] at hj
                split at hj
                · simp at hj
                  exact absurd ⟨k, z, hj.1 ▸ hk⟩ hnl
                · cases hj
              · rw [List.getElem?_singleton] at hj hk
                split at hj <;> split at hk <;> first | (cases hj; done) | (cases hk; done) | omega
            · intro d hd
              rcases live_snoc hd with h | ⟨bs, h⟩
              · simpa using hkill.1.lt d h
              · cases h; simpa using hH.lt b hbl
            · intro d hd
              refine ⟨by simpa using (hH.out d hd).1, fun hl => ?_⟩
              rcases live_snoc hl with h | ⟨bs, h⟩
              · exact (hkill.1.out d hd).2 h
              · cases h; exact (hH.out b hd).2 hbl
            · intro j ds hj
              rw [List.getElem?_append] at hj
              split at hj
              · rename_i hjl
                rcases hkill.1.ent j ds hj with ⟨e1, e2⟩ | ⟨b', base', c3, el', e1, e2, e3, e4⟩
                · exact .inl ⟨by rw [List.getElem?_append_left (by simp [hH.len]; simpa using hjl)]; exact e1, e2⟩
                · have hbb : b' ≠ b := fun e => hnl ⟨j, base', e ▸ e1⟩
                  refine .inr ⟨b', base', c3, el', by rw [List.getElem?_append_left (by simp [hH.len]; simpa using hjl)]; exact e1, by rw [setRow_other w b b' c' hbb]; exact e2, e3, ?_⟩
                  have hj2 : β[j]? = some (.blk b' base') := hkill.2.keep j _ (by rw [hH.len]; simpa using hjl) e1 (by simp)
                  have hj3 : L[j]? = some (.cells ds) := by
                    rw [List.getElem?_set] at hj
                    split at hj
                    · first | (split at hj <;> cases hj; done) | (cases hj; done)
                    · exact hj
                  rcases hH.ent j ds hj3 with ⟨e5, _⟩ | ⟨b5, base5, c5, el5, f1, f2, f3, f4⟩
                  · rw [hj2] at e5; cases e5
                  · rw [hj2] at f1; cases f1
                    rw [RepRow.iff] at f4 ⊢
                    intro k p hp
                    obtain ⟨v, hv, ho, hr2⟩ := f4 k p hp
                    exact ⟨v, by rw [← hv]; exact World.cell?_of_block (setRow_other w b b' c' hbb), ho, hr2.grow g⟩
              · rename_i hge
                rw [List.getElem?_singleton] at hj
                split at hj
                · rename_i h0
                  have hjL : j = L.length := by simp only [List.length_set] at hge h0; omega
                  subst hjL
                  simp at hj
                  subst hj
                  refine .inr ⟨b, base + off, c', el, ?_, setRow_heap w b c c' _ _ hw, ?_, ?_⟩
                  · rw [List.getElem?_append_right (by simp [hH.len])]
                    simp [hH.len]
                  · rw [hc']; simp only [List.length_append]
                    have h5 : ((cs.drop off).take (n * E.size)).length = n * E.size := by simp; omega
                    rw [h5, ← hlr, hl]; omega
                  · rw [RepRow.iff]
                    intro k p hp
                    obtain ⟨v, hv, ho, hr2⟩ := hcell k p hp
                    exact ⟨v, by rw [cell_of_row _ b _ c' el (0, 0) (setRow_heap w b c c' _ _ hw)]; exact hv, ho, hr2.grow g⟩
                · cases hj
        · obtain ⟨v, w', β', e1, e2, e3, e4, e5⟩ := grows _ cap rfl hcap (by omega) (by
            rcases hco with h | ⟨b2, ha, h⟩
            · exact .inl h
            · exact .inr ⟨b2, ha, h⟩)
          exact ⟨v, w', β', e1, e2, e3, e4, e5⟩
  · exact absurd hpre (by simp [OR.bad])
end Go.Ab
namespace Go.Ab
open Go Go.RowKit
set_option linter.unusedVariables false
set_option linter.unusedSimpArgs false
variable {P : Program} {X : Nat → Prop} {β : List Base} {w : World} {L : LH}
theorem repL_nth {ps : List PV} {vs : List Value} (h : RepL X β w ps vs) {i : Nat} {p : PV} (hp : ps[i]? = some p) : ∃ v, vs[i]? = some v ∧ RepV X β w p v := by
  rw [RepL.iff] at h
  have hi : i < vs.length := by rw [h.1]; exact (List.getElem?_eq_some_iff.1 hp).1
  exact ⟨vs[i], by simp [hi], h.2 i p _ hp (by simp [hi])⟩
theorem extractF_still (x : PV) (i : Nat) (vx : Value) (hpre : (extractF x i L).pre) (hx : RepV X β w x vx) : Still P X β w L (Instr.extract vx i) (extractF x i L) := by
  unfold extractF at hpre ⊢
  split at hpre
  · rename_i vs
    simp only [RepV] at hx
    obtain ⟨us, rfl, hr⟩ := hx
    split at hpre
    · rename_i p hp
      obtain ⟨v, hv, hr'⟩ := repL_nth hr hp
      try simp only [hp]
      exact ⟨v, by simp [Instr.extract, hv], hr', rfl⟩
    · exact absurd hpre (by simp [OR.bad])
  · exact absurd hpre (by simp [OR.bad])
theorem partF_run {t : TypeId} {T : TI} (hT : tyOf P t = some T) {cs : List PV} {vs : List Value} {off : Nat} (hpre : (partF T cs off).1) (h : RepL X β w cs vs) :
    ∃ v, (part t vs.toArray off).run P w = .ok v w ∧ RepV X β w (partF T cs off).2 v := by
  obtain ⟨u, i, hi, hs, _, _⟩ := tyOf_spec hT
  unfold partF at hpre ⊢
  split at hpre
  · rename_i ha
    simp only [ha, if_true]
    have hagg : (isAgg t).run P w = .ok true w := by
      unfold isAggD at ha
      split at ha
      · rename_i f hf; simp [isAgg, run_underlying u, hf]
      · rename_i n e hf; simp [isAgg, run_underlying u, hf]
      · cases ha
    have hL := RepL.length h
    refine ⟨.agg (vs.toArray.extract off (off + T.size)), ?_, ?_⟩
    · simp [part, hagg, sizeOf, typeInfo, hi, hs]
    · simp only [RepV]
      refine ⟨(vs.drop off).take T.size, ?_, ?_⟩
      · congr 1
        apply Array.ext'
        simp [List.extract]
      · rw [RepL.iff] at h ⊢
        refine ⟨by simp [h.1], fun j p v hp hv => ?_⟩
        rw [List.getElem?_take] at hp hv
        split at hp
        · rename_i hj
          rw [if_pos hj, List.getElem?_drop] at hv
          rw [List.getElem?_drop] at hp
          exact h.2 _ p v hp hv
        · cases hp
  · rename_i ha
    simp only [ha, if_false]
    have hagg : (isAgg t).run P w = .ok false w := by
      simp [isAgg, run_underlying u]
      cases hd : T.und <;> simp [hd, isAggD] at ha ⊢
    obtain ⟨v, hv, hr⟩ := repL_nth h (i := off) (p := cs[off]) (by simp [hpre])
    refine ⟨v, ?_, by simpa [List.getElem?_eq_getElem hpre] using hr⟩
    simp [part, hagg, hv]
theorem fieldF_still (t : TypeId) (x : PV) (f : Nat) (vx : Value) (hpre : (fieldF P t x f L).pre) (hx : RepV X β w x vx) : Still P X β w L (Instr.field t vx f) (fieldF P t x f L) := by
  unfold fieldF at hpre ⊢
  split at hpre
  case h_2 => exact absurd hpre (by simp [OR.bad])
  rename_i fs _ _ _ hT
  obtain ⟨u, _⟩ := tyOf_spec hT
  split at hpre
  case h_2 => exact absurd hpre (by simp [OR.bad])
  rename_i fd hf
  try simp only [hf]
  split at hpre
  case h_2 => exact absurd hpre (by simp [OR.bad])
  rename_i T hF
  try simp only [hF]
  split at hpre
  · rename_i cs
    simp only [RepV] at hx
    obtain ⟨vs, rfl, hr⟩ := hx
    obtain ⟨v, h1, h2⟩ := partF_run hF hpre hr
    exact ⟨v, by simp [Instr.field, run_underlying u, hf, asAgg, h1], h2, rfl⟩
  · exact absurd hpre (by simp [OR.bad])
theorem indexF_still (t : TypeId) (x i : PV) (vx vi : Value) (hpre : (indexF P t x i L).pre) (hx : RepV X β w x vx) (hi : RepV X β w i vi) : Still P X β w L (Instr.index t vx vi) (indexF P t x i L) := by
  unfold indexF at hpre ⊢
  split at hpre
  case h_2 => exact absurd hpre (by simp [OR.bad])
  rename_i k i
  simp only [RepV] at hi; subst hi
  split at hpre
  · rename_i hT
    obtain ⟨u, _⟩ := tyOf_spec hT
    split at hpre
    · rename_i s
      simp only [RepV] at hx; subst hx
      obtain ⟨p1, p2⟩ := hpre
      have hlt : i.toNat < s.data.size := by
        have : s.size = s.data.size := rfl
        omega
      have hg : s[i.toNat]? = some (s.data[i.toNat]) := by
        rw [getElem?_pos s i.toNat (show i.toNat < s.size from hlt)]; rfl
      refine ⟨.int .u8 (s.data[i.toNat]).toNat, ?_, ?_, rfl⟩
      · simp [Instr.index, asIntOf, run_underlying u, p1, hg]
      · simp [bv, RepV, Array.getElem?_eq_getElem hlt]
    · exact absurd hpre (by simp [OR.bad])
  · rename_i n e _ _ _ hT
    obtain ⟨u, _⟩ := tyOf_spec hT
    split at hpre
    · rename_i E cs hE
      try simp only [hE]
      obtain ⟨_, ii, hii, hs, _, _⟩ := tyOf_spec hE
      simp only [RepV] at hx
      obtain ⟨vs, rfl, hr⟩ := hx
      obtain ⟨p1, p2, p3⟩ := hpre
      obtain ⟨v, h1, h2⟩ := partF_run hE p3 hr
      refine ⟨v, ?_, h2, rfl⟩
      simp [Instr.index, asIntOf, run_underlying u, p1, p2, sizeOf, typeInfo, hii, hs, h1]
    · exact absurd hpre (by simp [OR.bad])
  · exact absurd hpre (by simp [OR.bad])
theorem loadPart {t : TypeId} {T : TI} (hT : tyOf P t = some T) {cs : List PV} {off b base : Nat} (hpre : (partF T cs off).1) (h : RepRow X β w b base cs) :
    ∃ v, (loadVar t ⟨b, base + off, none⟩).run P w = .ok v w ∧ RepV X β w (partF T cs off).2 v := by
  obtain ⟨u, i, hi, hs, _, _⟩ := tyOf_spec hT
  obtain ⟨vs, hr, hl, hc, ho⟩ := row_list h
  unfold partF at hpre ⊢
  split at hpre
  · rename_i ha
    simp only [ha, if_true]
    have hagg : (isAgg t).run P w = .ok true w := by
      unfold isAggD at ha
      split at ha
      · rename_i f hf; simp [isAgg, run_underlying u, hf]
      · rename_i n e hf; simp [isAgg, run_underlying u, hf]
      · cases ha
    have hld := run_loadCells_list (P := P) w ⟨b, base + off, none⟩ ((vs.drop off).take T.size) (fun j v hj => by
      rw [List.getElem?_take] at hj
      split at hj
      · rw [List.getElem?_drop] at hj
        have := hc (off + j) v hj
        rw [Addr.add_lit] at this ⊢
        rw [← this, show base + off + j = base + (off + j) by omega]
      · cases hj)
    have hlen : ((vs.drop off).take T.size).length = T.size := by simp; omega
    rw [hlen] at hld
    refine ⟨.agg ((vs.drop off).take T.size).toArray, ?_, ?_⟩
    · simp [loadVar, hagg, sizeOf, typeInfo, hi, hs, hld]
    · simp only [RepV]
      refine ⟨_, rfl, ?_⟩
      rw [RepL.iff] at hr ⊢
      refine ⟨by simp [hr.1], fun j p v hp hv => ?_⟩
      rw [List.getElem?_take] at hp hv
      split at hp
      · rename_i hj
        rw [if_pos hj, List.getElem?_drop] at hv
        rw [List.getElem?_drop] at hp
        exact hr.2 _ p v hp hv
      · cases hp
  · rename_i ha
    simp only [ha, if_false]
    have hagg : (isAgg t).run P w = .ok false w := by
      simp [isAgg, run_underlying u]
      cases hd : T.und <;> simp [hd, isAggD] at ha ⊢
    obtain ⟨v, hv, hr'⟩ := repL_nth hr (i := off) (p := cs[off]) (by simp [hpre])
    refine ⟨v, ?_, by simpa [List.getElem?_eq_getElem hpre] using hr'⟩
    have := hc off v hv
    rw [Addr.add_lit] at this
    simp [loadVar, hagg, load, Sem.run, this]
theorem loadF_still (t : TypeId) (a : PV) (va : Value) (hpre : (loadF P t a L).pre) (hH : RepH X β w L) (ha : RepV X β w a va) : Still P X β w L (Instr.loadAt t va) (loadF P t a L) := by
  unfold loadF at hpre ⊢
  split at hpre
  case h_2 => exact absurd hpre (by simp [OR.bad])
  rename_i T hT
  split at hpre
  · rename_i id off
    split at hpre
    · rename_i cs hL
      try simp only [hL]
      simp only [RepV] at ha
      rcases hH.ent id cs hL with ⟨h1, _⟩ | ⟨b, base, c, el, h1, h2, h3, h4⟩
      · exact absurd h1 ha.2.2
      · have := ha.2.1 b base h1
        subst this
        obtain ⟨v, e1, e2⟩ := loadPart hT hpre h4
        exact ⟨v, by simp [Instr.loadAt, Instr.sureAddr, e1], e2, rfl⟩
    · exact absurd hpre (by simp [OR.bad])
  · rename_i cs
    simp only [RepV] at ha
    obtain ⟨b, off, rfl, hc⟩ := ha
    have hr : RepRow X β w b off cs := by
      rcases hc with rfl | ⟨_, _, h⟩
      · simp [RepRow]
      · exact h
    obtain ⟨v, e1, e2⟩ := loadPart (off := 0) hT hpre hr
    exact ⟨v, by simpa [Instr.loadAt, Instr.sureAddr] using e1, e2, rfl⟩
  · exact absurd hpre (by simp [OR.bad])
theorem own_slice {id off n sz : Nat} {cs : List PV} {v : Value} (hH : RepH X β w L) (hL : L[id]? = some (.cells cs)) (h : RepV X β w (.own id off n sz) v) :
    (β[id]? = some .nil ∧ v = .slice none 0 0 ∧ n = 0 ∧ off = 0 ∧ cs = []) ∨ ∃ b base c el cap, β[id]? = some (.blk b base) ∧ v = .slice (some ⟨b, base + off, none⟩) n cap ∧ n ≤ cap ∧ w.heap[b]? = some (.cells c el (0, 0)) ∧ base + off + cap * sz ≤ c.size ∧ base + cs.length ≤ c.size ∧ RepRow X β w b base cs := by
  simp only [RepV] at h
  rcases hH.ent id cs hL with ⟨h1, h2⟩ | ⟨b, base, c, el, h1, h2, h3, h4⟩
  · obtain ⟨e1, e2, e3⟩ := h.2.2 h1
    exact .inl ⟨h1, e1, e2, e3, h2⟩
  · obtain ⟨cap, e1, e2, c', el', fr', e3, e4⟩ := h.2.1 b base h1
    rw [h2] at e3; cases e3
    exact .inr ⟨b, base, c, el, cap, h1, e1, e2, h2, e4, h3, h4⟩
theorem row_sub {b base : Nat} {cs : List PV} (h : RepRow X β w b base cs) (i n : Nat) : RepRow X β w b (base + i) ((cs.drop i).take n) := by
  rw [RepRow.iff] at h ⊢
  intro j p hp
  rw [List.getElem?_take] at hp
  split at hp
  · rw [List.getElem?_drop] at hp
    rw [show base + i + j = base + (i + j) by omega]
    exact h _ p hp
  · cases hp
theorem arrF_still (t : TypeId) (x : PV) (vx : Value) (hpre : (arrF P t x L).pre) (hx : RepV X β w x vx) : Still P X β w L (Instr.arrayAt t vx) (arrF P t x L) := by
  unfold arrF at hpre ⊢
  split at hpre
  case h_2 => exact absurd hpre (by simp [OR.bad])
  rename_i n e _ _ _ hT
  split at hpre
  case h_2 => exact absurd hpre (by simp [OR.bad])
  rename_i E m cs hE
  simp only [hT, hE] at hpre ⊢
  obtain ⟨h1, h2, h3, h4⟩ := hpre
  simp only [RepV] at hx
  obtain ⟨a, cap, rfl, _, hc⟩ := hx
  have hne : cs ≠ [] := by
    intro e; subst e
    have : 0 < m * E.size := Nat.mul_pos (by omega) h4
    simp at h3; omega
  rcases hc with hc | ⟨b, off, rfl, hX, hl, hr⟩
  · exact absurd hc hne
  · refine ⟨.pointer (some ⟨b, off, none⟩), ?_, ?_, rfl⟩
    · have hu := (tyOf_spec hT).1
      have hn : ¬ m < n := by omega
      simp [Instr.arrayAt, run_underlying hu, hn]
    · simp only [RepV]
      refine ⟨b, off, rfl, .inr ⟨hX, hl, ?_⟩⟩
      have := row_sub hr 0 (n * E.size)
      simpa using this
theorem elemAt_row {E : TI} {b base : Nat} {cs : List PV} (h : RepRow X β w b base cs) {i : Nat} (hi : i * E.size + E.size ≤ cs.length) : RepRow X β w b (base + i * E.size) (elemAt E cs i) := by
  unfold elemAt
  split
  · rename_i h1
    rw [h1] at hi ⊢
    have hlt : i < cs.length := by omega
    simp only [RepRow, and_true]
    obtain ⟨v, h2, h3, h4⟩ := RepRow.iff.1 h i cs[i] (by simp [hlt])
    refine ⟨v, by simpa using h2, h3, ?_⟩
    simpa [List.getElem?_eq_getElem hlt] using h4
  · exact row_sub h _ _
theorem indexAddrF_still (t : TypeId) (x i : PV) (vx vi : Value) (hpre : (indexAddrF P t x i L).pre) (hH : RepH X β w L) (hx : RepV X β w x vx) (hi : RepV X β w i vi) : Still P X β w L (Instr.indexAt t vx vi) (indexAddrF P t x i L) := by
  unfold indexAddrF at hpre ⊢
  split at hpre
  case h_2 => exact absurd hpre (by simp [OR.bad])
  rename_i k i
  simp only [RepV] at hi; subst hi
  split at hpre
  · rename_i e _ _ _ hT
    obtain ⟨u, _⟩ := tyOf_spec hT
    split at hpre
    · rename_i E n cs hE
      try simp only [hE]
      obtain ⟨_, ii, hii, hs, _, _⟩ := tyOf_spec hE
      obtain ⟨p1, p2, p3, p4⟩ := hpre
      simp only [RepV] at hx
      obtain ⟨a, cap, rfl, hcap, hc⟩ := hx
      have hin : i.toNat < n := by omega
      have hle : i.toNat * E.size + E.size ≤ cs.length := by
        rw [p3]
        have := Nat.mul_le_mul_right E.size hin
        rwa [Nat.succ_mul] at this
      by_cases h0 : cs = []
      · subst h0
        simp at hle; omega
      · rcases hc with hc | ⟨b, off, rfl, hX, hl, hr⟩
        · exact absurd hc h0
        · refine ⟨.pointer (some ⟨b, off + i.toNat * E.size, none⟩), ?_, ?_, rfl⟩
          · simp [Instr.indexAt, asIntOf, run_underlying u, p1, p2, sizeOf, typeInfo, hii, hs, Addr.add_lit]
          · simp only [RepV]
            exact ⟨b, _, rfl, .inr ⟨hX, hl, elemAt_row hr hle⟩⟩
    · rename_i E id off n sz hE
      try simp only [hE]
      obtain ⟨_, ii, hii, hs, _, _⟩ := tyOf_spec hE
      split at hpre
      · rename_i cs hL
        try simp only [hL]
        obtain ⟨p1, p2, p3⟩ := hpre
        have hid : id < β.length := by simp only [RepV] at hx; exact hx.1
        rcases own_slice hH hL hx with ⟨_, _, rfl, _⟩ | ⟨b, base, c, el, cap, h1, rfl, _⟩
        · simp at p2; omega
        · refine ⟨.pointer (some ⟨b, base + off + i.toNat * E.size, none⟩), ?_, ?_, rfl⟩
          · simp [Instr.indexAt, asIntOf, run_underlying u, p1, p2, sizeOf, typeInfo, hii, hs, Addr.add_lit]
          · simp only [RepV]
            refine ⟨hid, fun b' base' hb' => ?_, by rw [h1]; simp⟩
            rw [h1] at hb'; cases hb'
            rw [Nat.add_assoc]
      · exact absurd hpre (by simp [OR.bad])
    · exact absurd hpre (by simp [OR.bad])
  · rename_i n e _ _ _ hT
    obtain ⟨u, _⟩ := tyOf_spec hT
    split at hpre
    · rename_i E id off hE
      try simp only [hE]
      obtain ⟨_, ii, hii, hs, _, _⟩ := tyOf_spec hE
      split at hpre
      · rename_i cs hL
        try simp only [hL]
        obtain ⟨p1, p2⟩ := hpre
        simp only [RepV] at hx
        rcases hH.ent id cs hL with ⟨h1, _⟩ | ⟨b, base, c, el, h1, h2, h3, h4⟩
        · exact absurd h1 hx.2.2
        · have := hx.2.1 b base h1
          subst this
          refine ⟨.pointer (some ⟨b, base + off + i.toNat * E.size, none⟩), ?_, ?_, rfl⟩
          · simp [Instr.indexAt, Instr.sureAddr, asIntOf, run_underlying u, p1, p2, sizeOf, typeInfo, hii, hs, Addr.add_lit]
          · simp only [RepV]
            refine ⟨hx.1, fun b' base' hb' => ?_, hx.2.2⟩
            rw [h1] at hb'; cases hb'
            rw [Nat.add_assoc]
      · exact absurd hpre (by simp [OR.bad])
    · rename_i E cs hE
      try simp only [hE]
      obtain ⟨_, ii, hii, hs, _, _⟩ := tyOf_spec hE
      obtain ⟨p1, p2, p3, p4⟩ := hpre
      simp only [RepV] at hx
      obtain ⟨b, off, rfl, hc⟩ := hx
      have hin : i.toNat < n := by omega
      have hle : i.toNat * E.size + E.size ≤ cs.length := by
        rw [p3]
        have := Nat.mul_le_mul_right E.size hin
        rwa [Nat.succ_mul] at this
      rcases hc with rfl | ⟨hX, hl, hr⟩
      · simp at hle; omega
      · refine ⟨.pointer (some ⟨b, off + i.toNat * E.size, none⟩), ?_, ?_, rfl⟩
        · simp [Instr.indexAt, Instr.sureAddr, asIntOf, run_underlying u, p1, p2, sizeOf, typeInfo, hii, hs, Addr.add_lit]
        · simp only [RepV]
          exact ⟨b, _, rfl, .inr ⟨hX, hl, elemAt_row hr hle⟩⟩
    · exact absurd hpre (by simp [OR.bad])
  · exact absurd hpre (by simp [OR.bad])
end Go.Ab
namespace Go.Ab
open Go Go.RowKit
set_option linter.unusedVariables false
set_option linter.unusedSimpArgs false
variable {P : Program} {X : Nat → Prop} {β : List Base} {w : World} {L : LH}
def optInt (o : Option Value) (d : Int) : Option Int :=
  match o with
  | none => some d
  | some (.int _ n) => some n
  | _ => none
def RepO (X : Nat → Prop) (β : List Base) (w : World) : Option PV → Option Value → Prop
  | none, none => True
  | some p, some v => RepV X β w p v
  | _, _ => False
theorem ints_opt {o : Option PV} {ov : Option Value} {d n : Int} (h : RepO X β w o ov) (hn : ints? o d = some n) : optInt ov d = some n := by
  cases o with
  | none => cases ov with
    | none => simpa [ints?, optInt] using hn
    | some v => exact h.elim
  | some p => cases ov with
    | none => exact h.elim
    | some v =>
      simp only [RepO] at h
      unfold ints? at hn
      split at hn
      · rename_i h'; cases h'
      · rename_i h'
        cases h'
        simp only [RepV] at h; subst h
        simpa [optInt] using hn
      · cases hn
theorem sliceBounds_run (isSlice : Bool) (len cap : Nat) (lo hi : Option Value) {l h : Int} (hl : optInt lo 0 = some l) (hh : optInt hi len = some h) (h0 : 0 ≤ l) (h1 : l ≤ h) (h2 : h ≤ cap) :
    (Instr.sliceBounds isSlice len cap lo hi none).run P w = .ok (l.toNat, h.toNat, cap) w := by
  have hH : (match hi with | some v => Instr.sliceBound v cap (if isSlice then .sliceAcap else .sliceAlen) | none => pure len : Sem Nat).run P w = .ok h.toNat w := by
    cases hi with
    | none => simp [optInt] at hh; subst hh; simp
    | some v =>
      unfold optInt at hh
      split at hh
      · rename_i e; cases e
      · rename_i k n e; cases e; cases hh
        have : 0 ≤ h := by omega
        simp [Instr.sliceBound, asIntOf, this, h2]
      · cases hh
  have hLo : (match lo with | some v => Instr.sliceBound v h.toNat (if (none : Option Value).isSome then .slice3C else .sliceB) | none => pure 0 : Sem Nat).run P w = .ok l.toNat w := by
    cases lo with
    | none => simp [optInt] at hl; subst hl; simp
    | some v =>
      unfold optInt at hl
      split at hl
      · rename_i e; cases e
      · rename_i k n e; cases e; cases hl
        have h3 : l ≤ (h.toNat : Int) := by omega
        simp only [Instr.sliceBound, asIntOf]
        simp [h0]
        intro hlt
        exfalso
        omega
      · cases hl
  cases hi with
  | none =>
    cases lo with
    | none => simp [Instr.sliceBounds] at hH hLo ⊢; exact ⟨hLo, hH⟩
    | some v => simp [Instr.sliceBounds] at hH hLo ⊢; rw [hH]; simp [hLo]
  | some v' =>
    cases lo with
    | none => simp [Instr.sliceBounds] at hH hLo ⊢; simp [hH, hLo]
    | some v => simp [Instr.sliceBounds] at hH hLo ⊢; simp [hH, hLo]
theorem sliceF_still (t : TypeId) (x : PV) (lo hi mx : Option PV) (vx : Value) (vlo vhi vmx : Option Value) (hpre : (sliceF P t x lo hi mx L).pre) (hH : RepH X β w L) (hx : RepV X β w x vx)
    (hlo : RepO X β w lo vlo) (hhi : RepO X β w hi vhi) (hmx : RepO X β w mx vmx) : Still P X β w L (Instr.sliceAt t vx vlo vhi vmx) (sliceF P t x lo hi mx L) := by
  unfold sliceF at hpre ⊢
  split at hpre
  · rename_i e _ _ _ hT
    obtain ⟨u, _⟩ := tyOf_spec hT
    have hm : vmx = none := by cases vmx with | none => rfl | some v => exact hmx.elim
    subst hm
    have hsl : (Instr.sliceAt t vx vlo vhi none).run P w = (Instr.slice t vx vlo vhi none).run P w := by simp [Instr.sliceAt, run_underlying u]
    split at hpre
    · rename_i E hE
      try simp only [hE]
      simp only [RepV] at hx; subst hx
      split at hpre
      · rename_i l h hl hh
        try simp only [hl, hh]
        obtain ⟨rfl, rfl⟩ := hpre
        obtain ⟨_, ii, hii, hs, _, _⟩ := tyOf_spec hE
        refine still_lit ?_
        rw [hsl]
        simp [Instr.slice, run_underlying u, sliceBounds_run true 0 0 vlo vhi (ints_opt hlo hl) (ints_opt hhi hh) (Int.le_refl _) (Int.le_refl _) (Int.le_refl _), sizeOf, typeInfo, hii]
      · exact absurd hpre (by simp [OR.bad])
    · rename_i E n cs hE
      try simp only [hE]
      split at hpre
      · rename_i l h hl hh
        try simp only [hl, hh]
        obtain ⟨p1, p2, p3, p4⟩ := hpre
        obtain ⟨_, ii, hii, hs, _, _⟩ := tyOf_spec hE
        simp only [RepV] at hx
        obtain ⟨a, cap, rfl, hcap, hc⟩ := hx
        refine ⟨.slice (if cap = l.toNat then a else a.map (·.add (l.toNat * E.size))) (h.toNat - l.toNat) (cap - l.toNat), ?_, ?_, rfl⟩
        · rw [hsl]
          simp [Instr.slice, run_underlying u, sliceBounds_run true n cap vlo vhi (ints_opt hlo hl) (ints_opt hhi hh) p1 p2 (by omega), sizeOf, typeInfo, hii, hs]
        · simp only [RepV]
          refine ⟨_, _, by rw [show (h - l).toNat = h.toNat - l.toNat by omega], by omega, ?_⟩
          by_cases hlh : h.toNat - l.toNat = 0
          · left
            rw [show (h - l).toNat = 0 by omega]
            simp
          · rcases hc with rfl | ⟨b, off, rfl, hX, hl', hr⟩
            · left; simp
            · right
              rw [if_neg (by omega)]
              exact ⟨b, off + l.toNat * E.size, by simp [Addr.add_lit], hX, hl', row_sub hr _ _⟩
      · exact absurd hpre (by simp [OR.bad])
    · rename_i E id off n sz hE
      try simp only [hE]
      split at hpre
      · rename_i l h cs hl hh hL
        try simp only [hl, hh, hL]
        obtain ⟨p1, p2, p3, rfl, p5⟩ := hpre
        obtain ⟨_, ii, hii, hs, _, _⟩ := tyOf_spec hE
        have hid : id < β.length := by simp only [RepV] at hx; exact hx.1
        rcases own_slice hH hL hx with ⟨h1, rfl, rfl, rfl, rfl⟩ | ⟨b, base, c, el, cap, h1, rfl, hcap, h2, h3, h4, h5⟩
        · obtain rfl : l = 0 := by simp at p3; omega
          obtain rfl : h = 0 := by simp at p3; omega
          refine ⟨.slice none 0 0, ?_, ?_, rfl⟩
          · rw [hsl]
            simp [Instr.slice, run_underlying u, sliceBounds_run true 0 0 vlo vhi (ints_opt hlo hl) (ints_opt hhi hh) (Int.le_refl _) (Int.le_refl _) (Int.le_refl _), sizeOf, typeInfo, hii]
          · simp only [RepV]
            refine ⟨hid, fun b base hb => ?_, fun _ => by simp⟩
            rw [h1] at hb; cases hb
        · refine ⟨.slice (if cap = l.toNat then some ⟨b, base + off, none⟩ else (some (⟨b, base + off, none⟩ : Addr)).map (·.add (l.toNat * E.size))) (h.toNat - l.toNat) (cap - l.toNat), ?_, ?_, rfl⟩
          · rw [hsl]
            simp [Instr.slice, run_underlying u, sliceBounds_run true n cap vlo vhi (ints_opt hlo hl) (ints_opt hhi hh) p1 p2 (by omega), sizeOf, typeInfo, hii, hs]
          · simp only [RepV]
            refine ⟨hid, fun b' base' hb => ?_, fun hb => ?_⟩
            · rw [h1] at hb; cases hb
              refine ⟨cap - l.toNat, ?_, by omega, c, el, _, h2, ?_⟩
              · rw [show (h - l).toNat = h.toNat - l.toNat by omega]
                rcases p5 with rfl | p5
                · simp [Addr.add_lit]
                · rw [if_neg (by omega)]
                  simp [Addr.add_lit, Nat.add_assoc]
              · have : l.toNat * E.size + (cap - l.toNat) * E.size = cap * E.size := by rw [← Nat.add_mul]; congr 1; omega
                omega
            · rw [h1] at hb; cases hb
      · exact absurd hpre (by simp [OR.bad])
    · exact absurd hpre (by simp [OR.bad])
  · rename_i n e _ _ _ hT
    obtain ⟨u, _⟩ := tyOf_spec hT
    have hm : vmx = none := by cases vmx with | none => rfl | some v => exact hmx.elim
    subst hm
    split at hpre
    · rename_i E id off l h hE hl hh
      try simp only [hE, hl, hh]
      split at hpre
      · rename_i cs hL
        try simp only [hL]
        obtain ⟨p1, p2, p3, p5, p6⟩ := hpre
        obtain ⟨_, ii, hii, hs, _, _⟩ := tyOf_spec hE
        simp only [RepV] at hx
        rcases hH.ent id cs hL with ⟨h1, _⟩ | ⟨b, base, c, el, h1, h2, h3, h4⟩
        · exact absurd h1 hx.2.2
        · have := hx.2.1 b base h1
          subst this
          refine ⟨.slice (some (if n = l.toNat then ⟨b, base + off, none⟩ else (⟨b, base + off, none⟩ : Addr).add (l.toNat * E.size))) (h.toNat - l.toNat) (n - l.toNat), ?_, ?_, rfl⟩
          · simp [Instr.sliceAt, Instr.sureAddr, run_underlying u, sliceBounds_run false n n vlo vhi (ints_opt hlo hl) (ints_opt hhi hh) p1 p2 p3, sizeOf, typeInfo, hii, hs]
          · simp only [RepV]
            refine ⟨hx.1, fun b' base' hb => ?_, fun hb => ?_⟩
            · rw [h1] at hb; cases hb
              refine ⟨n - l.toNat, ?_, by omega, c, el, _, h2, ?_⟩
              · rw [show (h - l).toNat = h.toNat - l.toNat by omega]
                rcases p5 with rfl | p5
                · simp [Addr.add_lit]
                · rw [if_neg (by omega)]
                  simp [Addr.add_lit, Nat.add_assoc]
              · have : l.toNat * E.size + (n - l.toNat) * E.size = n * E.size := by rw [← Nat.add_mul]; congr 1; omega
                omega
            · rw [h1] at hb; cases hb
      · exact absurd hpre (by simp [OR.bad])
    · rename_i E cs l h hE hl hh
      try simp only [hE, hl, hh]
      obtain ⟨rfl, rfl, p3, p4, p5⟩ := hpre
      obtain ⟨_, ii, hii, hs, _, _⟩ := tyOf_spec hE
      simp only [RepV] at hx
      obtain ⟨b, off, rfl, hc⟩ := hx
      have hne : cs ≠ [] := by
        intro e0; subst e0
        have : 0 < n * E.size := Nat.mul_pos p3 p5
        simp at p4; omega
      have hn0 : ¬ n = 0 := by omega
      refine ⟨.slice (some ⟨b, off, none⟩) n n, ?_, ?_, rfl⟩
      · simp [Instr.sliceAt, Instr.sureAddr, run_underlying u, sliceBounds_run false n n vlo vhi (ints_opt hlo hl) (ints_opt hhi hh) (Int.le_refl _) (by omega) (Int.le_refl _), sizeOf, typeInfo, hii, hs, hn0, Addr.add_lit]
      · simp only [RepV]
        rcases hc with hc | ⟨h1, h2, h3⟩
        · exact absurd hc hne
        · exact ⟨_, n, rfl, Nat.le_refl _, .inr ⟨b, off, rfl, h1, h2, h3⟩⟩
    · exact absurd hpre (by simp [OR.bad])
  · rename_i hT
    obtain ⟨u, _⟩ := tyOf_spec hT
    have hm : vmx = none := by cases vmx with | none => rfl | some v => exact hmx.elim
    subst hm
    split at hpre
    · rename_i s
      simp only [RepV] at hx; subst hx
      split at hpre
      · rename_i l h hl hh
        try simp only [hl, hh]
        obtain ⟨p1, p2, p3⟩ := hpre
        refine still_lit ?_
        simp [Instr.sliceAt, Instr.slice, run_underlying u, sliceBounds_run false s.size s.size vlo vhi (ints_opt hlo hl) (ints_opt hhi hh) p1 p2 p3]
      · exact absurd hpre (by simp [OR.bad])
    · exact absurd hpre (by simp [OR.bad])
  · exact absurd hpre (by simp [OR.bad])
theorem splice_get {cs vs : List PV} {off : Nat} (h : off + vs.length ≤ cs.length) (j : Nat) : (splice cs off vs)[j]? = if off ≤ j ∧ j < off + vs.length then vs[j - off]? else cs[j]? := by
  have key : (cs.take off ++ vs ++ cs.drop (off + vs.length))[j]? = if off ≤ j ∧ j < off + vs.length then vs[j - off]? else cs[j]? := by
    rw [List.append_assoc, List.getElem?_append]
    simp only [List.length_take, Nat.min_eq_left (show off ≤ cs.length by omega)]
    split
    · rename_i h1
      rw [if_neg (by omega), List.getElem?_take, if_pos h1]
    · rename_i h1
      rw [List.getElem?_append]
      split
      · rename_i h2
        rw [if_pos (by omega)]
      · rename_i h2
        rw [if_neg (by omega), List.getElem?_drop]
        congr 1
        omega
  unfold splice
  split
  · rename_i v
    simp only [List.length_singleton] at h ⊢
    rw [List.getElem?_set]
    split
    · rename_i h1
      subst h1
      rw [if_pos (by omega), if_pos (by omega)]
      simp
    · rename_i h1
      rw [if_neg (by omega)]
  · exact key
theorem splice_length {cs vs : List PV} {off : Nat} (h : off + vs.length ≤ cs.length) : (splice cs off vs).length = cs.length := by
  unfold splice
  split
  · simp
  · simp; omega
theorem one_rep {p : PV} {v : Value} (h : RepV X β w p v) (h1 : PV.one p = true) : v.oneCell' = true := by
  cases p <;> simp [PV.one] at h1 <;> simp only [RepV] at h
  · subst h; exact h1
  · obtain ⟨a, cap, rfl, _⟩ := h; rfl
  · obtain ⟨b, off, rfl, _⟩ := h; rfl
  · obtain ⟨xs, ys, rfl, _⟩ := h; rfl
theorem ones_rep : ∀ {qs : List PV} {us : List Value}, (∀ q ∈ qs, PV.one q = true) → RepL X β w qs us → ∀ u ∈ us, u.oneCell' = true
  | [], us, _, h => by simp [RepL] at h; simp [h]
  | q :: qs, us, hq, h => by
    simp only [RepL] at h
    obtain ⟨u, r, rfl, e1, e2⟩ := h
    intro x hx
    rcases List.mem_cons.1 hx with rfl | hx
    · exact one_rep e1 (hq q (by simp))
    · exact ones_rep (fun q hq' => hq q (by simp [hq'])) e2 x hx
theorem lits_rep : ∀ (us : List Value), RepL X β w (us.map .lit) us
  | [] => by simp [RepL]
  | u :: us => by simp only [List.map_cons, RepL]; exact ⟨u, us, rfl, by simp [RepV], lits_rep us⟩
theorem cells_one {v : Value} (h : v.oneCell' = true) : v.cells = #[v] := by
  cases v <;> first | rfl | (simp [Value.oneCell'] at h)
theorem cells_rep {p : PV} {v : Value} (h : RepV X β w p v) (h1 : ∀ q ∈ p.cells, PV.one q = true) : RepL X β w p.cells v.cells.toList ∧ ∀ u ∈ v.cells.toList, u.oneCell' = true := by
  have key : RepL X β w p.cells v.cells.toList := by
    cases p with
    | agg cs =>
      simp only [RepV] at h
      obtain ⟨vs, rfl, hr⟩ := h
      simpa [PV.cells, Value.cells] using hr
    | lit u =>
      simp only [RepV] at h; subst h
      exact lits_rep _
    | ro n cs =>
      have := cells_one (one_rep h rfl)
      rw [this]
      simp only [PV.cells, RepL]
      exact ⟨v, [], rfl, h, rfl⟩
    | rptr cs =>
      have := cells_one (one_rep h rfl)
      rw [this]
      simp only [PV.cells, RepL]
      exact ⟨v, [], rfl, h, rfl⟩
    | fn f a b =>
      have := cells_one (one_rep h rfl)
      rw [this]
      simp only [PV.cells, RepL]
      exact ⟨v, [], rfl, h, rfl⟩
    | any => exact absurd (h1 .any (by simp [PV.cells])) (by simp [PV.one])
    | own a b c d => exact absurd (h1 (.own a b c d) (by simp [PV.cells])) (by simp [PV.one])
    | ptr a b => exact absurd (h1 (.ptr a b) (by simp [PV.cells])) (by simp [PV.one])
    | tup a => exact absurd (h1 (.tup a) (by simp [PV.cells])) (by simp [PV.one])
    | new a b c => exact absurd (h1 (.new a b c) (by simp [PV.cells])) (by simp [PV.one])
  exact ⟨key, ones_rep h1 key⟩
theorem holds_exact {c : List Value} {ps : List PV} (h : RepL X β w ps c) (h1 : ∀ u ∈ c, u.oneCell' = true) : Holds X β w c.toArray ps := by
  have := holds_append (rest := #[]) h h1
  simpa using this
theorem var_goes {m : Sem Value} {c : List Value} {cs : List PV} {el : TypeId} {p : Prop} (hH : RepH X β w L)
    (hrun : m.run P w = .ok (.pointer (some ⟨w.heap.size, 0, none⟩)) (w.alloc (.cells c.toArray el))) (h : RepL X β w cs c) (h1 : ∀ u ∈ c, u.oneCell' = true) :
    Goes P X β w L false m ⟨p, .ptr L.length 0, L ++ [.cells cs]⟩ := by
  refine ⟨_, _, β ++ [.blk w.heap.size 0], hrun, ?_, repH_alloc hH (holds_exact h h1), grow_alloc_id _ _ (fun b base e => by cases e; rfl), fun e => by cases e⟩
  simp only [RepV]
  refine ⟨by simp [hH.len], fun b base hb => ?_, fun hb => ?_⟩
  · rw [List.getElem?_append_right (by rw [hH.len]; exact Nat.le_refl _)] at hb
    simp [hH.len] at hb
    obtain ⟨rfl, rfl⟩ := hb
    rfl
  · rw [List.getElem?_append_right (by rw [hH.len]; exact Nat.le_refl _)] at hb
    simp [hH.len] at hb
theorem boxF_goes {draw : Bool} (el : TypeId) (x : PV) (vx : Value) (hpre : (boxF draw x L).pre) (hH : RepH X β w L) (hx : RepV X β w x vx) :
    Goes P X β w L draw (Instr.box el vx) (boxF draw x L) := by
  unfold boxF at hpre ⊢
  split at hpre
  · have h1 : ∀ q ∈ x.cells, PV.one q = true := by simpa using hpre
    obtain ⟨h2, h3⟩ := cells_rep hx h1
    exact var_goes (c := vx.cells.toList) (el := el) hH (by simp [Instr.box, newVar, newRow]) h2 h3
  · exact absurd hpre (by simp [OR.bad])
theorem allocF_goes {draw : Bool} (t : TypeId) (hpre : (allocF P draw t L).pre) (hH : RepH X β w L) :
    Goes P X β w L draw (Instr.alloc t true (.tuple #[])) (allocF P draw t L) := by
  unfold allocF at hpre ⊢
  split at hpre
  · rename_i T hT
    obtain ⟨_, i, hi, _, _, hz⟩ := tyOf_spec hT
    exact var_goes (c := T.zero.cells.toList) (el := t) hH (by simp [Instr.alloc, zeroValue, typeInfo, hi, hz, newVar, newRow]) (lits_rep _) hpre
  · exact absurd hpre (by simp [OR.bad])
theorem storeF_runs {draw : Bool} (t : TypeId) (a x : PV) (va vx : Value) (hpre : (storeF P draw t a x L).pre) (hH : RepH X β w L) (ha : RepV X β w a va) (hx : RepV X β w x vx) :
    ∃ w', (Instr.storeAt t va vx).run P w = .ok () w' ∧ RepH X β w' (storeF P draw t a x L).L ∧ Grow β β w w' ∧ (storeF P draw t a x L).val = .lit undef ∧ draw = false := by
  unfold storeF at hpre ⊢
  split at hpre
  case h_2 => exact absurd hpre (by simp [OR.bad])
  rename_i T hT
  obtain ⟨_, i, hi, hs, _, _⟩ := tyOf_spec hT
  split at hpre
  · rename_i id off
    split at hpre
    · rename_i cs hL
      try simp only [hL]
      obtain ⟨p1, p2, p3⟩ := hpre
      have h1 : ∀ q ∈ x.cells, PV.one q = true := by simpa using p3
      obtain ⟨h2, h3⟩ := cells_rep hx h1
      have h4 := RepL.length h2
      simp only [RepV] at ha
      rcases hH.ent id cs hL with ⟨e1, _⟩ | ⟨b, base, c, el, e1, e2, e3, e4⟩
      · exact absurd e1 ha.2.2
      · have := ha.2.1 b base e1
        subst this
        have hl : vx.cells.toList.length = T.size := by rw [h4, p1]
        have hst := run_storeCells_at P b (base + off) el vx.cells.toList 0 c w e2 (by rw [hl]; omega) h3
        simp only [Nat.add_zero] at hst
        refine ⟨w.setRow b (c.toList.take (base + off) ++ vx.cells.toList ++ c.toList.drop (base + off + vx.cells.toList.length)).toArray, ?_, ?_⟩
        rotate_left
        · have := repH_set (c' := (c.toList.take (base + off) ++ vx.cells.toList ++ c.toList.drop (base + off + vx.cells.toList.length)).toArray) (cs' := splice cs off x.cells) hH hL e1 e2
            (by simp at hl ⊢; omega) (by rw [splice_length (by omega)]; exact e3) (fun j p hp => by
              rw [splice_get (by omega)] at hp
              simp only [List.getElem?_toArray]
              rw [List.append_assoc]
              split at hp
              · rename_i hj
                obtain ⟨v, hv, hr⟩ := repL_nth h2 hp
                refine ⟨v, ?_, h3 v (List.mem_of_getElem? hv), hr⟩
                rw [List.getElem?_append_right (by simp; omega)]
                rw [show base + j - (c.toList.take (base + off)).length = j - off by simp; omega]
                rw [List.getElem?_append_left (by rw [h4]; omega)]
                exact hv
              · rename_i hj
                obtain ⟨v, hv, ho, hr⟩ := RepRow.iff.1 e4 j p hp
                rw [cell_of_row w b _ c el (0, 0) e2] at hv
                have hlt : base + j < c.size := (Array.getElem?_eq_some_iff.1 hv).1
                refine ⟨v, ?_, ho, hr⟩
                rw [List.getElem?_append]
                simp only [List.length_take, Array.length_toList, Nat.min_eq_left (show base + off ≤ c.size by omega)]
                split
                · rename_i hj2
                  rw [List.getElem?_take, if_pos hj2]
                  simpa using hv
                · rename_i hj2
                  rw [List.getElem?_append_right (by rw [h4]; omega), List.getElem?_drop]
                  have h4' : vx.cells.size = x.cells.length := by rw [← h4]; simp
                  have hq : ∀ q, q = base + j → c.toList[q]? = some v := fun q e => by subst e; simpa using hv
                  refine hq _ ?_
                  simp only [Array.length_toList]
                  omega)
          exact ⟨this.1, this.2, by simp, by simp⟩
        · have hsz : vx.cells.size = i.size := by rw [hs, ← hl]; simp
          simp [Instr.storeAt, Instr.sureAddr, storeVar, sizeOf, typeInfo, hi, hsz, hst]
    · exact absurd hpre (by simp [OR.bad])
  · exact absurd hpre (by simp [OR.bad])
theorem fillA_rep {size : Nat} {place : Nat → Option Nat} {place' : Nat → Option (Nat × Nat)} (hpl : ∀ i, place' i = (place i).map fun o => (o, size)) :
    ∀ (parts : List (Nat × PV)) (vals : List (Nat × Value)) (cs : List PV) (c : List Value) (r : List PV), fillA size place cs parts = some r →
      vals.length = parts.length → (∀ (j : Nat) i p, parts[j]? = some (i, p) → ∃ v, vals[j]? = some (i, v) ∧ RepV X β w p v) → (∀ (j : Nat) i p, parts[j]? = some (i, p) → ∀ q ∈ p.cells, PV.one q = true) → RepL X β w cs c →
      ∃ c', Instr.fill place' c.toArray vals = some c'.toArray ∧ RepL X β w r c'
  | [], vals, cs, c, r, h, hlen, hv, ho, hc => by
    simp [fillA] at h
    subst h
    have : vals = [] := List.eq_nil_of_length_eq_zero (by simpa using hlen)
    subst this
    exact ⟨c, by simp [Instr.fill], hc⟩
  | (i, p) :: rest, vals, cs, c, r, h, hlen, hv, ho, hc => by
    obtain ⟨v, hv0, hr0⟩ := hv 0 i p (by simp)
    cases vals with
    | nil => simp at hlen
    | cons x vals =>
      simp at hv0
      subst hv0
      unfold fillA at h
      split at h
      · rename_i off hoff
        split at h
        · rename_i hsz
          obtain ⟨e1, e2⟩ := hsz
          have hone := ho 0 i p (by simp)
          obtain ⟨e3, e4⟩ := cells_rep hr0 hone
          have e5 := RepL.length e3
          have e6 := RepL.length hc
          have e7 : v.cells.size = size := by rw [← e1, ← e5]; simp
          let c2 : List Value := c.take off ++ v.cells.toList ++ c.drop (off + v.cells.toList.length)
          have hz : (v.cells.zipIdx.foldl (fun cs (x : Value × Nat) => cs.setIfInBounds (off + x.2) x.1) c.toArray) = c2.toArray := by
            have gen : ∀ (us : List Value) (k : Nat) (d : List Value), off + k + us.length ≤ d.length →
                ((us.zipIdx k).foldl (fun (cs : Array Value) (x : Value × Nat) => cs.setIfInBounds (off + x.2) x.1) d.toArray) = (d.take (off + k) ++ us ++ d.drop (off + k + us.length)).toArray := by
              intro us
              induction us with
              | nil => intro k d _; simp
              | cons u us ih =>
                intro k d hd
                simp only [List.zipIdx_cons, List.foldl_cons]
                have : d.toArray.setIfInBounds (off + k) u = (d.set (off + k) u).toArray := by simp
                rw [this, ih (k + 1) _ (by simp at hd ⊢; omega)]
                congr 1
                have hk : off + k < d.length := by simp at hd; omega
                apply List.ext_getElem?
                intro j
                simp only [List.append_assoc]
                simp only [List.getElem?_append, List.length_take, List.length_set, List.getElem?_take, List.getElem?_set, List.getElem?_drop, List.length_cons, List.getElem?_cons]
                simp at hd
                rw [Nat.min_eq_left (by omega), Nat.min_eq_left (by omega)]
                by_cases h1 : j < off + k
                · rw [if_pos (by omega), if_pos (by omega), if_neg (by omega), if_pos h1, if_pos h1]
                · by_cases h2 : j = off + k
                  · subst h2
                    simp [hk]
                  · by_cases h3 : j - (off + (k + 1)) < us.length
                    · rw [if_neg (by omega), if_pos h3, if_neg h1, if_pos (by omega), if_neg (by omega)]
                      rw [show j - (off + (k + 1)) = j - (off + k) - 1 by omega]
                    · rw [if_neg (by omega), if_neg h3, if_neg h1, if_neg (by omega), if_neg (by omega)]
                      congr 1
                      omega
            have := gen v.cells.toList 0 c (by rw [e5, e1]; omega)
            simp only [Nat.add_zero] at this
            rw [← this, ← Array.foldl_toList, Array.toList_zipIdx]
          have hr2 : RepL X β w (splice cs off p.cells) c2 := by
            rw [RepL.iff]
            have hcl : c2.length = c.length := by simp [c2]; simp at e5; omega
            refine ⟨by rw [hcl, splice_length (by omega), e6], fun j q u hq hu => ?_⟩
            rw [splice_get (by omega)] at hq
            simp only [c2, List.append_assoc] at hu
            rw [List.getElem?_append] at hu
            simp only [List.length_take, Nat.min_eq_left (show off ≤ c.length by omega)] at hu
            split at hq
            · rename_i hj
              rw [if_neg (by omega), List.getElem?_append_left (by rw [e5]; omega)] at hu
              exact (RepL.iff.1 e3).2 _ q u hq hu
            · rename_i hj
              split at hu
              · rename_i hj2
                rw [List.getElem?_take, if_pos hj2] at hu
                exact (RepL.iff.1 hc).2 _ q u hq hu
              · rename_i hj2
                rw [List.getElem?_append_right (by rw [e5]; omega), List.getElem?_drop] at hu
                rw [show off + v.cells.toList.length + (j - off - v.cells.toList.length) = j by rw [e5]; omega] at hu
                exact (RepL.iff.1 hc).2 _ q u hq hu
          obtain ⟨c', h1, h2⟩ := fillA_rep hpl rest vals _ c2 r h (by simpa using hlen) (fun j i q hq => by simpa using hv (j + 1) i q (by simpa using hq)) (fun j i q hq => ho (j + 1) i q (by simpa using hq)) hr2
          refine ⟨c', ?_, h2⟩
          simp only [Instr.fill, hpl, hoff, Option.map_some, e7]
          rw [if_neg (by simp; omega)]
          rw [← h1]
          congr 1
        · cases h
      · cases h
theorem buildSliceF_goes {draw : Bool} (t : TypeId) (len : Nat) (parts : List (Nat × PV)) (vals : Array (Nat × Value)) (hpre : (buildSliceF P draw t len parts L).pre) (hH : RepH X β w L)
    (hlen : vals.size = parts.length) (hv : ∀ (j : Nat) i p, parts[j]? = some (i, p) → ∃ v, vals[j]? = some (i, v) ∧ RepV X β w p v) :
    Goes P X β w L draw (Instr.buildSlice t len vals) (buildSliceF P draw t len parts L) := by
  unfold buildSliceF at hpre ⊢
  split at hpre
  case h_2 => exact absurd hpre (by simp [OR.bad])
  rename_i e _ _ _ hT
  obtain ⟨u, _⟩ := tyOf_spec hT
  split at hpre
  case h_2 => exact absurd hpre (by simp [OR.bad])
  rename_i E hE
  try simp only [hE]
  split at hpre
  case h_2 => exact absurd hpre (by simp [OR.bad])
  rename_i cs hcs
  try simp only [hcs]
  obtain ⟨_, i, hi, hs, _, hz⟩ := tyOf_spec hE
  obtain ⟨p1, p2, p3, p4, p5, p6⟩ := hpre
  let c0 : List Value := ((Array.range (len * E.size)).map (E.zero.cells[· % E.zero.cells.size]!)).toList
  have hc0 : RepL X β w (rep len E.zero) c0 := by
    rw [RepL.iff]
    refine ⟨by rw [rep_length]; simp [c0, p3], fun j p v hp hv => ?_⟩
    have hj : j < len * E.zero.cells.size := by
      have := (List.getElem?_eq_some_iff.1 hp).1
      rwa [rep_length] at this
    rw [rep_get _ _ _ hj] at hp
    cases hp
    rw [p3] at hj
    simp [c0, hj, p3] at hv
    simp [RepV, hv, p3]
  obtain ⟨c', h1, h2⟩ := fillA_rep (X := X) (β := β) (w := w) (place' := fun i => some (i * E.size, E.size)) (fun i => rfl) parts vals.toList (rep len E.zero) c0 cs hcs (by simpa using hlen)
    (fun j i p hp => by obtain ⟨v, h3, h4⟩ := hv j i p hp; exact ⟨v, by simpa using h3, h4⟩)
    (fun j i p hp q hq => by
      have := List.all_eq_true.1 p5 (i, p) (List.mem_of_getElem? hp)
      exact List.all_eq_true.1 this q hq) hc0
  have hones : ∀ u ∈ c', u.oneCell' = true := ones_rep (fun q hq => List.all_eq_true.1 p6 q hq) h2
  have hlc : c'.length = len * E.size := by
    have e1 := RepL.length h2
    have gen : ∀ (parts : List (Nat × PV)) (a r : List PV), fillA E.size (fun i => some (i * E.size)) a parts = some r → r.length = a.length := by
      intro parts
      induction parts with
      | nil => intro a r h; simp [fillA] at h; simp [h]
      | cons x parts ih =>
        intro a r h
        obtain ⟨i, p⟩ := x
        simp only [fillA] at h
        split at h
        · rename_i h3
          rw [ih _ _ h, splice_length (by omega)]
        · cases h
    rw [e1, gen _ _ _ hcs, rep_length, p3]
  have hrun : (Instr.buildSlice t len vals).run P w = .ok (.slice (some ⟨w.heap.size, 0, none⟩) len len) (w.alloc (.cells c'.toArray e)) := by
    have hsm : ¬ (16777216 < len * E.size) := by omega
    have hne : ¬ (len * E.size = 0) := by omega
    have h0 : c0.toArray = (Array.range (len * E.size)).map (E.zero.cells[· % E.zero.cells.size]!) := by simp only [c0, Array.toArray_toList]
    rw [h0] at h1
    have hne' : ¬ (len = 0 ∨ E.size = 0) := by
      rintro (h | h) <;> (rw [h] at hne; simp at hne)
    simp [Instr.buildSlice, run_underlying u, sizeOf, typeInfo, hi, hs, hsm, hne', zeroValue, hz, h1, newRow]
    intro h
    exact absurd h hne
  refine fresh_goes hH (.inl rfl) hrun (Nat.le_refl _) (by simp [hlc]) (holds_exact h2 hones)
theorem copyF_goes {draw : Bool} (t t2 ty : TypeId) (d s : PV) (vd vs : Value) (hpre : (copyF P draw t d s L).pre) (hH : RepH X β w L) (hd : RepV X β w d vd) (hs : RepV X β w s vs) :
    Goes P X β w L draw (Builtin.copy_ #[t, t2] ty #[vd, vs]) (copyF P draw t d s L) := by
  unfold copyF at hpre ⊢
  split at hpre
  case h_2 => exact absurd hpre (by simp [OR.bad])
  rename_i e _ _ _ hT
  obtain ⟨u, _⟩ := tyOf_spec hT
  split at hpre
  case h_2 => exact absurd hpre (by simp [OR.bad])
  rename_i E id off n sz hE
  try simp only [hE]
  split at hpre
  case h_2 => exact absurd hpre (by simp [OR.bad])
  rename_i cs hL
  try simp only [hL]
  obtain ⟨_, i, hi, hsz, _, hz⟩ := tyOf_spec hE
  simp only at hpre ⊢
  obtain ⟨p1, rfl, p3, p4⟩ := hpre
  obtain ⟨a, cap, rfl, hcap, us, hr, hl, ho, hc⟩ := slc_list p1 hH hs
  let m := min (slc L s).2.1 n
  have hm1 : m * E.size ≤ (slc L s).2.1 * E.size := Nat.mul_le_mul_right _ (Nat.min_le_left _ _)
  have hm2 : m * E.size ≤ n * E.size := Nat.mul_le_mul_right _ (Nat.min_le_right _ _)
  have hfc : (Builtin.firstCells E.size m (.slice a (slc L s).2.1 cap)).run P w = .ok (us.take (m * E.size)).toArray w := by
    refine firstCells_run (by simp; omega) ?_
    rcases hc with rfl | ⟨b, ha, h⟩
    · left; simp
    · right
      refine ⟨b, ha, fun j u hu => ?_⟩
      rw [List.getElem?_take] at hu
      split at hu
      · exact h j u hu
      · cases hu
  rcases own_slice hH hL hd with ⟨h1, rfl, rfl, rfl, rfl⟩ | ⟨b, base, c, el, cap', h1, rfl, hcap', h2, h3, h4, h5⟩
  · have hm0 : m = 0 := by simp [m]
    refine ⟨.int .i64 0, w, β, ?_, by simp [RepV], ?_, Grow.refl β w, fun e => by cases e⟩
    · have hfc' := hfc
      rw [hm0] at hfc'
      simp [Builtin.copy_, run_underlying u, Builtin.lenOf, sizeOf, typeInfo, hi, hsz, hfc', goInt]
    · have hmin : min (slc L s).2.1 0 = 0 := by simp
      have hset : L.set id (.cells (([] : List PV).take 0 ++ (slc L s).2.2.take (min (slc L s).2.1 0 * E.size) ++ ([] : List PV).drop (0 + min (slc L s).2.1 0 * E.size))) = L := by
        simp only [hmin, Nat.zero_mul, List.take_zero, List.nil_append, List.drop_nil, List.append_nil]
        apply List.ext_getElem?
        intro j
        rw [List.getElem?_set]
        split
        · rename_i h; subst h
          rw [if_pos (List.getElem?_eq_some_iff.1 hL).1, hL]
        · rfl
      rw [hset]; exact hH
  · have hul : (us.take (m * E.size)).length = m * E.size := by simp; omega
    have hst := run_storeCells_at P b (base + off) el (us.take (m * E.size)) 0 c w h2 (by rw [hul]; omega) (fun v hv => ho v (List.mem_of_mem_take hv))
    simp only [Nat.add_zero] at hst
    refine ⟨.int .i64 m, w.setRow b (c.toList.take (base + off) ++ us.take (m * E.size) ++ c.toList.drop (base + off + (us.take (m * E.size)).length)).toArray, β, ?_, by simp [RepV, m], ?_⟩
    · have hfc' := hfc
      simp [Builtin.copy_, run_underlying u, Builtin.lenOf, sizeOf, typeInfo, hi, hsz, goInt]
      have hmm : Nat.min (slc L s).2.1 n = m := rfl
      rw [hmm, hfc]
      simp only [Result.andThen_ok, hst]
      simp
    · have hlen : (cs.take off ++ (slc L s).2.2.take (m * E.size) ++ cs.drop (off + m * E.size)).length = cs.length := by simp; omega
      have := repH_set (c' := (c.toList.take (base + off) ++ us.take (m * E.size) ++ c.toList.drop (base + off + (us.take (m * E.size)).length)).toArray)
        (cs' := cs.take off ++ (slc L s).2.2.take (m * E.size) ++ cs.drop (off + m * E.size)) hH hL h1 h2 (by simp at hul ⊢; omega) (by rw [hlen]; exact h4) (fun j p hp => by
          rw [hul]
          simp only [List.getElem?_toArray]
          rw [List.append_assoc] at hp ⊢
          rw [List.getElem?_append] at hp ⊢
          simp only [List.length_take, Array.length_toList, Nat.min_eq_left (show base + off ≤ c.size by omega), Nat.min_eq_left (show off ≤ cs.length by omega)] at hp ⊢
          by_cases hj : j < off
          · rw [if_pos hj, List.getElem?_take, if_pos hj] at hp
            rw [if_pos (by omega), List.getElem?_take, if_pos (by omega)]
            obtain ⟨v, hv, ho', hr'⟩ := RepRow.iff.1 h5 j p hp
            rw [cell_of_row w b _ c el (0, 0) h2] at hv
            exact ⟨v, by simpa using hv, ho', hr'⟩
          · rw [if_neg hj, List.getElem?_append] at hp
            rw [if_neg (by omega), List.getElem?_append]
            have hsl : ((slc L s).2.2.take (m * E.size)).length = m * E.size := by simp; omega
            rw [hsl] at hp
            rw [hul]
            by_cases hj2 : j - off < m * E.size
            · rw [if_pos hj2, List.getElem?_take, if_pos hj2] at hp
              rw [if_pos (by omega), List.getElem?_take, if_pos (by omega)]
              rw [show base + j - (base + off) = j - off by omega]
              obtain ⟨v, hv, hr'⟩ := repL_nth hr hp
              exact ⟨v, hv, ho v (List.mem_of_getElem? hv), hr'⟩
            · rw [if_neg hj2, List.getElem?_drop] at hp
              rw [if_neg (by omega), List.getElem?_drop]
              rw [show off + m * E.size + (j - off - m * E.size) = j by omega] at hp
              rw [show base + off + m * E.size + (base + j - (base + off) - m * E.size) = base + j by omega]
              obtain ⟨v, hv, ho', hr'⟩ := RepRow.iff.1 h5 j p hp
              rw [cell_of_row w b _ c el (0, 0) h2] at hv
              exact ⟨v, by simpa using hv, ho', hr'⟩)
      exact ⟨this.1, this.2, fun e => by cases e⟩
end Go.Ab
namespace Go.Ab
open Go Go.RowKit
set_option linter.unusedVariables false
set_option linter.unusedSimpArgs false
variable {P : Program} {X : Nat → Prop} {β : List Base} {w : World} {L : LH}
def fillB (place : Nat → Option (Nat × Nat)) (cs : List PV) : List (Nat × PV) → Option (List PV)
  | [] => some cs
  | (i, p) :: r => match place i with
    | some (off, size) => if p.cells.length = size ∧ off + size ≤ cs.length then fillB place (splice cs off p.cells) r else none
    | none => none
def placesF (P : Program) : List Field → List (Option (Nat × Nat))
  | [] => []
  | f :: r => ((tyOf P f.type).map fun T => (f.offset, T.size)) :: placesF P r
def zeroCells (z : Value) : List PV := z.cells.toList.map PV.lit
def buildF (P : Program) (t : TypeId) (parts : List (Nat × PV)) (L : LH) : OR :=
  match tyOf P t with
  | some ⟨.array n e, _, _, z⟩ => match tyOf P e with
    | some E => match fillB (fun i => some (i * E.size, E.size)) (zeroCells z) parts with
      | some cs => ⟨parts.all (fun x => x.2.cells.all PV.one) = true, .agg cs, L⟩
      | none => .bad
    | none => .bad
  | some ⟨.struct fs, _, _, z⟩ => bif (placesF P fs.toList).all Option.isSome then match fillB (fun i => ((placesF P fs.toList)[i]?).join) (zeroCells z) parts with
      | some cs => ⟨parts.all (fun x => x.2.cells.all PV.one) = true, .agg cs, L⟩
      | none => .bad
    else .bad
  | _ => .bad
def fieldAddrF (P : Program) (t : TypeId) (a : PV) (f : Nat) (L : LH) : OR :=
  match tyOf P t with
  | some ⟨.struct fs, _, _, _⟩ => match fs[f]? with
    | some fd => match tyOf P fd.type, a with
      | some T, .ptr id off => match L[id]? with
        | some (.cells _) => ⟨0 < T.size, .ptr id (off + fd.offset), L⟩
        | _ => .bad
      | some T, .rptr cs => ⟨fd.offset + T.size ≤ cs.length ∧ 0 < T.size, .rptr ((cs.drop fd.offset).take T.size), L⟩
      | _, _ => .bad
    | none => .bad
  | _ => .bad
theorem fillB_rep {place : Nat → Option (Nat × Nat)} :
    ∀ (parts : List (Nat × PV)) (vals : List (Nat × Value)) (cs : List PV) (c : List Value) (r : List PV), fillB place cs parts = some r →
      vals.length = parts.length → (∀ (j : Nat) i p, parts[j]? = some (i, p) → ∃ v, vals[j]? = some (i, v) ∧ RepV X β w p v) → (∀ (j : Nat) i p, parts[j]? = some (i, p) → ∀ q ∈ p.cells, PV.one q = true) → RepL X β w cs c →
      ∃ c', Instr.fill place c.toArray vals = some c'.toArray ∧ RepL X β w r c'
  | [], vals, cs, c, r, h, hlen, hv, ho, hc => by
    simp [fillB] at h
    subst h
    have : vals = [] := List.eq_nil_of_length_eq_zero (by simpa using hlen)
    subst this
    exact ⟨c, by simp [Instr.fill], hc⟩
  | (i, p) :: rest, vals, cs, c, r, h, hlen, hv, ho, hc => by
    obtain ⟨v, hv0, hr0⟩ := hv 0 i p (by simp)
    cases vals with
    | nil => simp at hlen
    | cons x vals =>
      simp at hv0
      subst hv0
      unfold fillB at h
      split at h
      · rename_i off size hoff
        split at h
        · rename_i hsz
          obtain ⟨e1, e2⟩ := hsz
          have hone := ho 0 i p (by simp)
          obtain ⟨e3, e4⟩ := cells_rep hr0 hone
          have e5 := RepL.length e3
          have e6 := RepL.length hc
          have e7 : v.cells.size = size := by rw [← e1, ← e5]; simp
          let c2 : List Value := c.take off ++ v.cells.toList ++ c.drop (off + v.cells.toList.length)
          have hz : (v.cells.zipIdx.foldl (fun cs (x : Value × Nat) => cs.setIfInBounds (off + x.2) x.1) c.toArray) = c2.toArray := by
            have gen : ∀ (us : List Value) (k : Nat) (d : List Value), off + k + us.length ≤ d.length →
                ((us.zipIdx k).foldl (fun (cs : Array Value) (x : Value × Nat) => cs.setIfInBounds (off + x.2) x.1) d.toArray) = (d.take (off + k) ++ us ++ d.drop (off + k + us.length)).toArray := by
              intro us
              induction us with
              | nil => intro k d _; simp
              | cons u us ih =>
                intro k d hd
                simp only [List.zipIdx_cons, List.foldl_cons]
                have : d.toArray.setIfInBounds (off + k) u = (d.set (off + k) u).toArray := by simp
                rw [this, ih (k + 1) _ (by simp at hd ⊢; omega)]
                congr 1
                have hk : off + k < d.length := by simp at hd; omega
                apply List.ext_getElem?
                intro j
                simp only [List.append_assoc]
                simp only [List.getElem?_append, List.length_take, List.length_set, List.getElem?_take, List.getElem?_set, List.getElem?_drop, List.length_cons, List.getElem?_cons]
                simp at hd
                rw [Nat.min_eq_left (by omega), Nat.min_eq_left (by omega)]
                by_cases h1 : j < off + k
                · rw [if_pos (by omega), if_pos (by omega), if_neg (by omega), if_pos h1, if_pos h1]
                · by_cases h2 : j = off + k
                  · subst h2
                    simp [hk]
                  · by_cases h3 : j - (off + (k + 1)) < us.length
                    · rw [if_neg (by omega), if_pos h3, if_neg h1, if_pos (by omega), if_neg (by omega)]
                      rw [show j - (off + (k + 1)) = j - (off + k) - 1 by omega]
                    · rw [if_neg (by omega), if_neg h3, if_neg h1, if_neg (by omega), if_neg (by omega)]
                      congr 1
                      omega
            have := gen v.cells.toList 0 c (by rw [e5, e1]; omega)
            simp only [Nat.add_zero] at this
            rw [← this, ← Array.foldl_toList, Array.toList_zipIdx]
          have hr2 : RepL X β w (splice cs off p.cells) c2 := by
            rw [RepL.iff]
            have hcl : c2.length = c.length := by simp [c2]; simp at e5; omega
            refine ⟨by rw [hcl, splice_length (by omega), e6], fun j q u hq hu => ?_⟩
            rw [splice_get (by omega)] at hq
            simp only [c2, List.append_assoc] at hu
            rw [List.getElem?_append] at hu
            simp only [List.length_take, Nat.min_eq_left (show off ≤ c.length by omega)] at hu
            split at hq
            · rename_i hj
              rw [if_neg (by omega), List.getElem?_append_left (by rw [e5]; omega)] at hu
              exact (RepL.iff.1 e3).2 _ q u hq hu
            · rename_i hj
              split at hu
              · rename_i hj2
                rw [List.getElem?_take, if_pos hj2] at hu
                exact (RepL.iff.1 hc).2 _ q u hq hu
              · rename_i hj2
                rw [List.getElem?_append_right (by rw [e5]; omega), List.getElem?_drop] at hu
                rw [show off + v.cells.toList.length + (j - off - v.cells.toList.length) = j by rw [e5]; omega] at hu
                exact (RepL.iff.1 hc).2 _ q u hq hu
          obtain ⟨c', h1, h2⟩ := fillB_rep rest vals _ c2 r h (by simpa using hlen) (fun j i q hq => by simpa using hv (j + 1) i q (by simpa using hq)) (fun j i q hq => ho (j + 1) i q (by simpa using hq)) hr2
          refine ⟨c', ?_, h2⟩
          simp only [Instr.fill, hoff, e7]
          rw [if_neg (by simp; omega)]
          rw [← h1]
          congr 1
        · cases h
      · cases h
theorem zeroCells_rep (z : Value) : RepL X β w (zeroCells z) z.cells.toList := by
  rw [RepL.iff]
  refine ⟨by simp [zeroCells], fun i p v hp hv => ?_⟩
  simp only [zeroCells, List.getElem?_map, Option.map_eq_some_iff] at hp
  obtain ⟨u, hu, rfl⟩ := hp
  rw [hv] at hu; cases hu
  simp [RepV]
theorem placesF_run {fs : List Field} (h : (placesF P fs).all Option.isSome = true) : (fs.mapM fun f => do pure (f.offset, ← sizeOf f.type) : Sem (List (Nat × Nat))).run P w = .ok ((placesF P fs).filterMap id) w := by
  induction fs with
  | nil => simp [placesF]
  | cons f r ih =>
    simp only [placesF, List.all_cons, Bool.and_eq_true] at h
    cases hT : tyOf P f.type with
    | none => simp [hT] at h
    | some T =>
      obtain ⟨_, i, hi, hs, _, _⟩ := tyOf_spec hT
      have hsz : (sizeOf f.type).run P w = .ok T.size w := by simp [sizeOf, typeInfo, hi, hs]
      rw [List.mapM_cons]
      simp only [Sem.run_bind, hsz, Result.andThen_ok, Sem.run_pure, ih h.2]
      simp [placesF, hT]
theorem filterMap_id_get {α : Type} : ∀ (l : List (Option α)) (h : l.all Option.isSome = true) (i : Nat), (l.filterMap id)[i]? = (l[i]?).join
  | [], _, i => by simp
  | none :: l, h, i => by simp at h
  | some a :: l, h, i => by
    simp only [List.all_cons, Option.isSome_some, Bool.true_and] at h
    cases i with
    | zero => simp
    | succ i => simpa using filterMap_id_get l h i
theorem buildF_still (t : TypeId) (parts : List (Nat × PV)) (vals : Array (Nat × Value)) (hpre : (buildF P t parts L).pre)
    (hlen : vals.size = parts.length) (hv : ∀ (j : Nat) i p, parts[j]? = some (i, p) → ∃ v, vals[j]? = some (i, v) ∧ RepV X β w p v) :
    Still P X β w L (Instr.build t vals) (buildF P t parts L) := by
  unfold buildF at hpre ⊢
  split at hpre
  · rename_i n e _ _ z hT
    obtain ⟨u, it, hit, _, _, hzt⟩ := tyOf_spec hT
    split at hpre
    case h_2 => exact absurd hpre (by simp [OR.bad])
    rename_i E hE
    try simp only [hE]
    obtain ⟨_, i, hi, hs, _, hz⟩ := tyOf_spec hE
    split at hpre
    case h_2 => exact absurd hpre (by simp [OR.bad])
    rename_i cs hcs
    try simp only [hcs]
    obtain ⟨c', h1, h2⟩ := fillB_rep (X := X) (β := β) (w := w) parts vals.toList (zeroCells z) z.cells.toList cs hcs (by simpa using hlen)
      (fun j i p hp => by obtain ⟨v, h3, h4⟩ := hv j i p hp; exact ⟨v, by simpa using h3, h4⟩)
      (fun j i p hp q hq => by
        have := List.all_eq_true.1 hpre (i, p) (List.mem_of_getElem? hp)
        exact List.all_eq_true.1 this q hq) (zeroCells_rep z)
    refine ⟨.agg c'.toArray, ?_, ?_, rfl⟩
    · simp only [Array.toArray_toList] at h1
      simp [Instr.build, run_underlying u, sizeOf, typeInfo, hi, hs, zeroValue, hit, hzt, h1]
    · simp only [RepV]
      exact ⟨c', rfl, h2⟩
  · rename_i fs _ _ z hT
    obtain ⟨u, it, hit, _, _, hzt⟩ := tyOf_spec hT
    cases hall : (placesF P fs.toList).all Option.isSome with
    | false => rw [hall] at hpre; simp only [cond_false] at hpre; exact absurd hpre (by simp [OR.bad])
    | true =>
      rw [hall] at hpre
      simp only [cond_true] at hpre ⊢
      split at hpre
      case h_2 => exact absurd hpre (by simp [OR.bad])
      rename_i cs hcs
      try simp only [hcs]
      obtain ⟨c', h1, h2⟩ := fillB_rep (X := X) (β := β) (w := w) parts vals.toList (zeroCells z) z.cells.toList cs hcs (by simpa using hlen)
        (fun j i p hp => by obtain ⟨v, h3, h4⟩ := hv j i p hp; exact ⟨v, by simpa using h3, h4⟩)
        (fun j i p hp q hq => by
          have := List.all_eq_true.1 hpre (i, p) (List.mem_of_getElem? hp)
          exact List.all_eq_true.1 this q hq) (zeroCells_rep z)
      refine ⟨.agg c'.toArray, ?_, ?_, rfl⟩
      · simp only [Array.toArray_toList] at h1
        have hm : (fs.mapM fun f => do pure (f.offset, ← sizeOf f.type) : Sem (Array (Nat × Nat))).run P w = .ok ((placesF P fs.toList).filterMap id).toArray w := by
          rw [Array.mapM_eq_mapM_toList, Sem.run_map, placesF_run hall]
          rfl
        have hg : (fun (x : Nat) => (((placesF P fs.toList).filterMap id).toArray[x]? : Option (Nat × Nat))) = fun (i : Nat) => ((placesF P fs.toList)[i]?).join := by
          funext i
          rw [List.getElem?_toArray, filterMap_id_get _ hall]
        have hz : (zeroValue t).run P w = .ok z w := by simp [zeroValue, typeInfo, hit, hzt]
        unfold Instr.build
        simp only [Sem.run_bind, hz, Result.andThen_ok, run_underlying u, hm, hg, h1, Sem.run_pure]
      · simp only [RepV]
        exact ⟨c', rfl, h2⟩
  · exact absurd hpre (by simp [OR.bad])
theorem fieldAddrF_still (t : TypeId) (a : PV) (f : Nat) (va : Value) (hpre : (fieldAddrF P t a f L).pre) (hH : RepH X β w L) (ha : RepV X β w a va) : Still P X β w L (Instr.fieldAt t va f) (fieldAddrF P t a f L) := by
  unfold fieldAddrF at hpre ⊢
  split at hpre
  case h_2 => exact absurd hpre (by simp [OR.bad])
  rename_i fs _ _ _ hT
  obtain ⟨u, _⟩ := tyOf_spec hT
  split at hpre
  case h_2 => exact absurd hpre (by simp [OR.bad])
  rename_i fd hf
  try simp only [hf]
  split at hpre
  · rename_i T id off hF
    try simp only [hF]
    split at hpre
    case h_2 => exact absurd hpre (by simp [OR.bad])
    rename_i cs hL
    try simp only [hL]
    obtain ⟨_, i, hi, hs, _, _⟩ := tyOf_spec hF
    simp only [RepV] at ha
    rcases hH.ent id cs hL with ⟨e1, _⟩ | ⟨b, base, c, el, e1, e2, e3, e4⟩
    · exact absurd e1 ha.2.2
    · have := ha.2.1 b base e1
      subst this
      have h0 : ¬ T.size = 0 := by simp only at hpre; omega
      refine ⟨.pointer (some ⟨b, base + off + fd.offset, none⟩), ?_, ?_, rfl⟩
      · simp [Instr.fieldAt, run_underlying u, hf, Instr.sureAddr, fieldPlace, sizeOf, typeInfo, hi, hs, h0, Addr.add_lit]
      · simp only [RepV]
        refine ⟨ha.1, fun b' base' hb' => ?_, ha.2.2⟩
        rw [e1] at hb'; cases hb'
        rw [Nat.add_assoc]
  · rename_i T cs hF
    try simp only [hF]
    obtain ⟨_, i, hi, hs, _, _⟩ := tyOf_spec hF
    obtain ⟨p1, p2⟩ := hpre
    have h0 : ¬ T.size = 0 := by omega
    simp only [RepV] at ha
    obtain ⟨b, off, rfl, hc⟩ := ha
    rcases hc with rfl | ⟨hX, hl, hr⟩
    · simp at p1; omega
    · refine ⟨.pointer (some ⟨b, off + fd.offset, none⟩), ?_, ?_, rfl⟩
      · simp [Instr.fieldAt, run_underlying u, hf, Instr.sureAddr, fieldPlace, sizeOf, typeInfo, hi, hs, h0, Addr.add_lit]
      · simp only [RepV]
        exact ⟨b, _, rfl, .inr ⟨hX, hl, row_sub hr _ _⟩⟩
  · exact absurd hpre (by simp [OR.bad])
end Go.Ab
namespace Go.Ab
open Go Go.RowKit
set_option linter.unusedVariables false
set_option linter.unusedSimpArgs false
mutual
def closed : PV → Bool
  | .any => true
  | .lit _ => true
  | .ro _ cs => closedL cs
  | .own _ _ _ _ => false
  | .ptr _ _ => false
  | .rptr cs => closedL cs
  | .agg cs => closedL cs
  | .tup cs => closedL cs
  | .fn _ a b => closedL a && closedL b
  | .new _ _ _ => false
def closedL : List PV → Bool
  | [] => true
  | p :: r => closed p && closedL r
end
mutual
def flat : PV → Bool
  | .any => true
  | .lit _ => true
  | .agg cs => flatL cs
  | .tup cs => flatL cs
  | .new _ _ cs => flatL cs
  | _ => false
def flatL : List PV → Bool
  | [] => true
  | p :: r => flat p && flatL r
end
theorem closedL_iff {ps : List PV} : closedL ps = true ↔ ∀ p ∈ ps, closed p = true := by
  induction ps with
  | nil => simp [closedL]
  | cons p ps ih => simp [closedL, ih]
theorem flatL_iff {ps : List PV} : flatL ps = true ↔ ∀ p ∈ ps, flat p = true := by
  induction ps with
  | nil => simp [flatL]
  | cons p ps ih => simp [flatL, ih]
variable {P : Program} {X : Nat → Prop} {β : List Base} {w : World} {L : LH}
mutual
theorem RepV.anti {X1 X2 : Nat → Prop} {β1 β2 : List Base} (hX : ∀ b, X2 b ∨ Live β2 b → X1 b ∨ Live β1 b) : ∀ (p : PV) (v : Value), closed p = true → RepV X1 β1 w p v → RepV X2 β2 w p v
  | .any, _, _, _ => by simp [RepV]
  | .lit v0, v, _, h => by simpa [RepV] using h
  | .ro n cells, v, hc, h => by
    simp only [RepV] at h ⊢
    obtain ⟨a, cap, hv, hn, hcs⟩ := h
    refine ⟨a, cap, hv, hn, ?_⟩
    rcases hcs with hcs | ⟨b, off, ha, hx, hl, hr⟩
    · exact .inl hcs
    · have hnot : ¬ (X2 b ∨ Live β2 b) := fun h => by rcases hX b h with h | h; exact hx h; exact hl h
      exact .inr ⟨b, off, ha, fun h => hnot (.inl h), fun h => hnot (.inr h), RepRow.anti hX b cells off hc hr⟩
  | .own _ _ _ _, v, hc, h => by simp [closed] at hc
  | .ptr _ _, v, hc, h => by simp [closed] at hc
  | .rptr cells, v, hc, h => by
    simp only [RepV] at h ⊢
    obtain ⟨b, off, hv, hcs⟩ := h
    refine ⟨b, off, hv, ?_⟩
    rcases hcs with hcs | ⟨hx, hl, hr⟩
    · exact .inl hcs
    · have hnot : ¬ (X2 b ∨ Live β2 b) := fun h => by rcases hX b h with h | h; exact hx h; exact hl h
      exact .inr ⟨fun h => hnot (.inl h), fun h => hnot (.inr h), RepRow.anti hX b cells off hc hr⟩
  | .agg cells, v, hc, h => by
    simp only [RepV] at h ⊢
    obtain ⟨vs, hv, hr⟩ := h
    exact ⟨vs, hv, RepL.anti hX cells vs hc hr⟩
  | .tup cells, v, hc, h => by
    simp only [RepV] at h ⊢
    obtain ⟨vs, hv, hr⟩ := h
    exact ⟨vs, hv, RepL.anti hX cells vs hc hr⟩
  | .fn f first captured, v, hc, h => by
    simp only [closed, Bool.and_eq_true] at hc
    simp only [RepV] at h ⊢
    obtain ⟨xs, ys, hv, hx, hy⟩ := h
    exact ⟨xs, ys, hv, RepL.anti hX first xs hc.1 hx, RepL.anti hX captured ys hc.2 hy⟩
  | .new _ _ _, v, hc, h => by simp [closed] at hc
theorem RepRow.anti {X1 X2 : Nat → Prop} {β1 β2 : List Base} (hX : ∀ b, X2 b ∨ Live β2 b → X1 b ∨ Live β1 b) (b : Nat) : ∀ (ps : List PV) (off : Nat), closedL ps = true → RepRow X1 β1 w b off ps → RepRow X2 β2 w b off ps
  | [], _, _, _ => by simp [RepRow]
  | p :: ps, off, hc, h => by
    simp only [closedL, Bool.and_eq_true] at hc
    simp only [RepRow] at h ⊢
    obtain ⟨⟨v, hv, ho, hr⟩, h2⟩ := h
    exact ⟨⟨v, hv, ho, RepV.anti hX p v hc.1 hr⟩, RepRow.anti hX b ps (off + 1) hc.2 h2⟩
theorem RepL.anti {X1 X2 : Nat → Prop} {β1 β2 : List Base} (hX : ∀ b, X2 b ∨ Live β2 b → X1 b ∨ Live β1 b) : ∀ (ps : List PV) (vs : List Value), closedL ps = true → RepL X1 β1 w ps vs → RepL X2 β2 w ps vs
  | [], vs, _, h => by simpa [RepL] using h
  | p :: ps, vs, hc, h => by
    simp only [closedL, Bool.and_eq_true] at hc
    simp only [RepL] at h ⊢
    obtain ⟨v, r, hv, h1, h2⟩ := h
    exact ⟨v, r, hv, RepV.anti hX p v hc.1 h1, RepL.anti hX ps r hc.2 h2⟩
end
mutual
theorem RepV.flat {X1 X2 : Nat → Prop} {β1 β2 : List Base} : ∀ (p : PV) (v : Value), flat p = true → RepV X1 β1 w p v → RepV X2 β2 w p v
  | .any, _, _, _ => by simp [RepV]
  | .lit v0, v, _, h => by simpa [RepV] using h
  | .ro _ _, v, hc, h => by simp [Ab.flat] at hc
  | .own _ _ _ _, v, hc, h => by simp [Ab.flat] at hc
  | .ptr _ _, v, hc, h => by simp [Ab.flat] at hc
  | .rptr _, v, hc, h => by simp [Ab.flat] at hc
  | .agg cells, v, hc, h => by
    simp only [Ab.flat] at hc
    simp only [RepV] at h ⊢
    obtain ⟨vs, hv, hr⟩ := h
    exact ⟨vs, hv, RepL.flat cells vs hc hr⟩
  | .tup cells, v, hc, h => by
    simp only [Ab.flat] at hc
    simp only [RepV] at h ⊢
    obtain ⟨vs, hv, hr⟩ := h
    exact ⟨vs, hv, RepL.flat cells vs hc hr⟩
  | .fn _ _ _, v, hc, h => by simp [Ab.flat] at hc
  | .new _ _ _, v, hc, h => by simp [RepV] at h
theorem RepL.flat {X1 X2 : Nat → Prop} {β1 β2 : List Base} : ∀ (ps : List PV) (vs : List Value), flatL ps = true → RepL X1 β1 w ps vs → RepL X2 β2 w ps vs
  | [], vs, _, h => by simpa [RepL] using h
  | p :: ps, vs, hc, h => by
    simp only [flatL, Bool.and_eq_true] at hc
    simp only [RepL] at h ⊢
    obtain ⟨v, r, hv, h1, h2⟩ := h
    exact ⟨v, r, hv, RepV.flat p v hc.1 h1, RepL.flat ps r hc.2 h2⟩
end
theorem RepRow.flat {X1 X2 : Nat → Prop} {β1 β2 : List Base} {b off : Nat} {ps : List PV} (hf : flatL ps = true) (h : RepRow X1 β1 w b off ps) : RepRow X2 β2 w b off ps := by
  rw [RepRow.iff] at h ⊢
  intro i p hp
  obtain ⟨v, h1, h2, h3⟩ := h i p hp
  exact ⟨v, h1, h2, RepV.flat p v (flatL_iff.1 hf p (List.mem_of_getElem? hp)) h3⟩
def dro (L : LH) : Nat → PV → PV
  | 0, p => p
  | n + 1, .own id off k sz => .ro k ((slc L (.own id off k sz)).2.2.map (dro L n))
  | n + 1, .agg cs => .agg (cs.map (dro L n))
  | _, .ptr id off => match L[id]? with
    | some (.cells cs) => .rptr (cs.drop off)
    | _ => .ptr id off
  | _, p => p
def droOk (L : LH) : Nat → PV → Prop
  | 0, _ => True
  | n + 1, .own id off k sz => (slc L (.own id off k sz)).1 ∧ ∀ q ∈ (slc L (.own id off k sz)).2.2, droOk L n q
  | n + 1, .agg cs => ∀ q ∈ cs, droOk L n q
  | _, _ => True
theorem dro_rep {X2 : Nat → Prop} (hH : RepH X β w L) (hX : ∀ b, X2 b → X b ∨ (Live β b ∧ False)) : ∀ (n : Nat) (p : PV) (v : Value), RepV X β w p v → droOk L n p → closed (dro L n p) = true → RepV X2 [] w (dro L n p) v
  | 0, p, v, h, _, hc => by
    simp only [dro] at hc ⊢
    exact RepV.anti (fun b hb => by rcases hb with hb | ⟨i, x, hb⟩; rcases hX b hb with h | h; exact .inl h; exact h.2.elim; simp at hb) p v hc h
  | n + 1, p, v, h, hok, hc => by
    have base : closed p = true → RepV X2 [] w p v := fun hc => RepV.anti (fun b hb => by rcases hb with hb | ⟨i, x, hb⟩; rcases hX b hb with h | h; exact .inl h; exact h.2.elim; simp at hb) p v hc h
    cases p with
    | own id off k sz =>
      simp only [dro, droOk, closed] at hok hc ⊢
      obtain ⟨a, cap, hv, hn, hcs⟩ := slc_rep hok.1 hH h
      have hk : (slc L (.own id off k sz)).2.1 = k := by
        have := hok.1
        simp only [slc] at this ⊢
        split at this
        · rename_i cs hL; simp [hL]
        · exact this.elim
      rw [hk] at hv hn
      simp only [RepV]
      refine ⟨a, cap, hv, hn, ?_⟩
      rcases hcs with hcs | ⟨b, o, ha, hr⟩
      · left; rw [hcs]; rfl
      · by_cases he : (slc L (.own id off k sz)).2.2 = []
        · left; rw [he]; rfl
        · right
          have hlive : Live β b := by
            have := hok.1
            simp only [slc] at this
            split at this
            · rename_i cs hL
              rcases own_slice hH hL h with ⟨_, e, _⟩ | ⟨b', base', c, el, cap', e1, e2, _⟩
              · rw [hv] at e; cases e; cases ha
              · rw [hv, ha] at e2; cases e2; exact ⟨id, base', e1⟩
            · exact this.elim
          refine ⟨b, o, ha, fun hx => ?_, fun ⟨i, x, hb⟩ => by simp at hb, ?_⟩
          · rcases hX b hx with h | h
            · exact (hH.out b h).2 hlive
            · exact h.2
          · rw [RepRow.iff] at hr ⊢
            intro i q hq
            rw [List.getElem?_map, Option.map_eq_some_iff] at hq
            obtain ⟨q', hq', rfl⟩ := hq
            obtain ⟨u, e1, e2, e3⟩ := hr i q' hq'
            have hm := List.mem_of_getElem? hq'
            exact ⟨u, e1, e2, dro_rep hH hX n q' u e3 (hok.2 q' hm) (closedL_iff.1 hc _ (List.mem_map_of_mem hm))⟩
    | agg cs =>
      simp only [dro, droOk, closed] at hok hc ⊢
      simp only [RepV] at h ⊢
      obtain ⟨vs, hv, hr⟩ := h
      refine ⟨vs, hv, ?_⟩
      rw [RepL.iff] at hr ⊢
      refine ⟨by simp [hr.1], fun i q u hq hu => ?_⟩
      rw [List.getElem?_map, Option.map_eq_some_iff] at hq
      obtain ⟨q', hq', rfl⟩ := hq
      have hm := List.mem_of_getElem? hq'
      exact dro_rep hH hX n q' u (hr.2 i q' u hq' hu) (hok q' hm) (closedL_iff.1 hc _ (List.mem_map_of_mem hm))
    | ptr id off =>
      simp only [dro] at hc ⊢
      split at hc
      · rename_i cs hL
        simp only [RepV] at h
        rcases hH.ent id cs hL with ⟨h1, _⟩ | ⟨b, base', c, el, h1, h2, h3, h4⟩
        · exact absurd h1 h.2.2
        · have := h.2.1 b base' h1
          subst this
          simp only [RepV]
          refine ⟨b, base' + off, rfl, .inr ⟨fun hx => ?_, fun ⟨i, x, hb⟩ => by simp at hb, ?_⟩⟩
          · rcases hX b hx with h | h
            · exact (hH.out b h).2 ⟨id, base', h1⟩
            · exact h.2
          · have hr : RepRow X β w b (base' + off) (cs.drop off) := by
              have := row_sub h4 off cs.length
              rwa [List.take_of_length_le (by simp)] at this
            exact RepRow.anti (fun b hb => by rcases hb with hb | ⟨i, x, hb⟩; rcases hX b hb with h | h; exact .inl h; exact h.2.elim; simp at hb) b _ _ hc hr
      · simp [closed] at hc
    | any => simpa [dro] using base rfl
    | lit u => simpa [dro] using base rfl
    | ro k cs => simp only [dro] at hc ⊢; exact base hc
    | rptr cs => simp only [dro] at hc ⊢; exact base hc
    | tup cs => simp only [dro] at hc ⊢; exact base hc
    | fn f a b => simp only [dro] at hc ⊢; exact base hc
    | new a b c => simp [dro, closed] at hc
def NewRow (X : Nat → Prop) (w w' : World) (n sz : Nat) (cs : List PV) (v : Value) : Prop :=
  (v = .slice none 0 0 ∧ n = 0 ∧ cs = []) ∨
  ∃ b off cap c el, v = .slice (some ⟨b, off, none⟩) n cap ∧ n ≤ cap ∧ w.heap.size ≤ b ∧ w'.heap[b]? = some (.cells c el (0, 0)) ∧ off + cap * sz ≤ c.size ∧ off + cs.length ≤ c.size ∧
    closedL cs = true ∧ RepRow (fun x => X x ∨ x = b) [] w' b off cs
def blockOf : Value → Nat → Prop
  | .slice (some a) _ _, b => b = a.block
  | _, _ => False
def RepR (X : Nat → Prop) (w w' : World) : PV → Value → Prop
  | .new n sz cs, v => NewRow X w w' n sz cs v
  | .tup (.new n sz cs :: rs), v => ∃ v0 vs, v = .tuple (v0 :: vs).toArray ∧ NewRow X w w' n sz cs v0 ∧ closedL rs = true ∧ RepL (fun x => X x ∨ blockOf v0 x) [] w' rs vs
  | p, v => closed p = true ∧ RepV X [] w' p v
theorem closed_lits : ∀ (l : List Value), closedL (l.map .lit) = true
  | [] => rfl
  | v :: l => by simp [closedL, closed, closed_lits l]
theorem Globs.anti {X1 X2 : Nat → Prop} {β1 β2 : List Base} (hX : ∀ b, X2 b ∨ Live β2 b → X1 b ∨ Live β1 b) (h : Globs X1 β1 w) : Globs X2 β2 w := fun g =>
  RepV.anti hX _ _ (by simp only [closed, closed_lits]) (h g)
structure PureOk (P : Program) (f : FuncId) (S : List PV → Prop × PV) : Prop where
  run : ∀ args, (S args).1 → closedL args = true → ∀ (X : Nat → Prop) (w : World) (vs : List Value), (∀ b, X b → b < w.heap.size) → RepL X [] w args vs → Globs X [] w →
    Calls P f vs.toArray w fun e w' => ∃ v, e = .returned v ∧ Grow [] [] w w' ∧ RepR X w w' (S args).2 v
  call : (∃ args, (S args).1) → ∀ (vs : Array Value) (w : World), (callFunc f vs).run P w = .ok (.enter f vs) w
structure ExtOk (P : Program) (f : FuncId) (S : List PV → Prop × PV) : Prop where
  run : ∀ args, (S args).1 → ∀ (X : Nat → Prop) (β : List Base) (w : World) (vs : List Value), RepL X β w args vs →
    ∃ v, (callFunc f vs.toArray).run P w = .ok (.value v) w ∧ RepV X β w (S args).2 v
structure StOk (P : Program) (f : FuncId) (T : List PV → LH → OR) : Prop where
  run : ∀ args L, (T args L).pre → ∀ (X : Nat → Prop) (β : List Base) (w : World) (vs : List Value), RepL X β w args vs → RepH X β w L → Globs X β w →
    Calls P f vs.toArray w fun e w' => ∃ v β', e = .returned v ∧ RepV X β' w' (T args L).val v ∧ RepH X β' w' (T args L).L ∧ Grow β β' w w'
  call : (∃ args L, (T args L).pre) → ∀ (vs : Array Value) (w : World), (callFunc f vs).run P w = .ok (.enter f vs) w
inductive Entry where
  | none
  | pure (S : List PV → Prop × PV)
  | ext (S : List PV → Prop × PV)
  | st (T : List PV → LH → OR)
structure Con where
  tab : FuncId → Entry
  pin : Nat := 0
def borrow (L : LH) (p : PV) : PV := bif closed p then p else dro L 4 p
def borrowOk (L : LH) (p : PV) : Prop := closed p = true ∨ (droOk L 4 p ∧ closed (dro L 4 p) = true)
theorem borrow_rep {p : PV} {v : Value} (hH : RepH X β w L) (h : RepV X β w p v) (hok : borrowOk L p) : RepV X [] w (borrow L p) v ∧ closed (borrow L p) = true := by
  unfold borrow
  cases hc : closed p with
  | true =>
    refine ⟨?_, by simpa using hc⟩
    simp only [cond_true]
    exact RepV.anti (fun b hb => by rcases hb with hb | ⟨i, x, hb⟩; exact .inl hb; simp at hb) p v hc h
  | false =>
    rcases hok with hok | ⟨hok, hc2⟩
    · rw [hc] at hok; cases hok
    · exact ⟨dro_rep hH (fun b hb => .inl hb) 4 p v h hok hc2, hc2⟩
theorem borrow_plain {Y : Nat → Prop} {p : PV} {v : Value} (hc : closed p = true) (h : RepV X β w p v) (hY : ∀ b, Y b → X b ∨ Live β b) : RepV Y [] w (borrow L p) v ∧ closed (borrow L p) = true := by
  unfold borrow
  rw [hc]
  simp only [cond_true]
  exact ⟨RepV.anti (fun b hb => by rcases hb with hb | ⟨i, x, hb⟩; exact hY b hb; simp at hb) p v hc h, hc⟩
def adopt (draw : Bool) (p : PV) (L : LH) : PV × LH :=
  match p with
  | .new n sz cs => fresh draw n sz cs L
  | .tup (.new n sz cs :: rs) => (.tup ((fresh draw n sz cs L).1 :: rs), (fresh draw n sz cs L).2)
  | p => (p, L)
def pureF (S : List PV → Prop × PV) (draw : Bool) (args : List PV) (L : LH) : OR :=
  ⟨(S (args.map (borrow L))).1 ∧ (∀ p ∈ args, borrowOk L p) ∧ (closedL args = true ∨ flat (S (args.map (borrow L))).2 = true), (adopt draw (S (args.map (borrow L))).2 L).1, (adopt draw (S (args.map (borrow L))).2 L).2⟩
def callF (Γ : Con) (draw : Bool) (g : FuncId) (args : List PV) (L : LH) : OR :=
  match Γ.tab g with
  | .none => .bad
  | .pure S => pureF S draw args L
  | .ext S => ⟨(S args).1, (S args).2, L⟩
  | .st T => bif draw then .bad else T args L
def convG (P : Program) (draw : Bool) (src dst : TypeId) (x : PV) (L : LH) : OR :=
  match draw, x with
  | false, .own id off n sz => match tyOf P src, tyOf P dst with
    | some ⟨.slice _, _, _, _⟩, some ⟨.slice e, _, _, _⟩ => match tyOf P e with
      | some ⟨.int .u8, 1, _, _⟩ => ⟨src = dst ∧ 0 < n ∧ sz = 1 ∧ (slc L (.own id off n sz)).1 ∧ closedL (slc L (.own id off n sz)).2.2 = true, .ro n (slc L (.own id off n sz)).2.2, L.set id .dead⟩
      | _ => .bad
    | _, _ => convF P src dst (.own id off n sz) L
  | _, x => convF P src dst x L
theorem convG_draw {src dst : TypeId} {x : PV} : convG P true src dst x L = convF P src dst x L := rfl
theorem convG_eq {draw : Bool} {src dst : TypeId} {x : PV} (h : (convF P src dst x L).pre) : convG P draw src dst x L = convF P src dst x L := by
  unfold convG
  split
  case h_2 => rfl
  split
  case h_2 => rfl
  rename_i hS hD
  unfold convF at h
  simp only [hS, hD] at h
  exact h.elim
theorem convG_goes {draw : Bool} (src dst : TypeId) (x : PV) (vx : Value) (hpre : (convG P draw src dst x L).pre) (hH : RepH X β w L) (hx : RepV X β w x vx) :
    Goes P X β w L draw (convert src dst vx) (convG P draw src dst x L) := by
  unfold convG at hpre ⊢
  split at hpre
  case h_2 => exact convF_goes src dst x vx hpre hH hx
  rename_i id off n sz
  split at hpre
  case h_2 => exact convF_goes src dst _ vx hpre hH hx
  rename_i e0 _ _ _ e _ _ _ hS hD
  try simp only [hS, hD] at hpre ⊢
  split at hpre
  case h_2 => exact absurd hpre (by simp [OR.bad])
  rename_i _ _ hE
  try simp only [hE] at hpre ⊢
  obtain ⟨rfl, hn, rfl, hok, hcl⟩ := hpre
  obtain ⟨uS, _⟩ := tyOf_spec hS
  have uD := hD
  rw [hS] at hD
  cases hD
  obtain ⟨ue, _⟩ := tyOf_spec hE
  obtain ⟨cs, hL, hle⟩ : ∃ cs, L[id]? = some (.cells cs) ∧ off + n * 1 ≤ cs.length := by
    have := hok
    unfold slc at this
    simp only at this
    split at this
    · rename_i cs h; exact ⟨cs, h, this⟩
    · exact this.elim
  have hsl : (slc L (.own id off n 1)).2.2 = (cs.drop off).take (n * 1) := by simp [slc, hL]
  rw [hsl] at hcl ⊢
  rcases own_slice hH hL hx with ⟨_, _, h3, _⟩ | ⟨b, base, c, el, cap, h1, rfl, hcap, h2, h3, h4, h5⟩
  · omega
  have hlb : Live β b := ⟨id, base, h1⟩
  have hrun : (convert src src (.slice (some ⟨b, base + off, none⟩) n cap)).run P w = .ok (.slice (some ⟨b, base + off, none⟩) n cap) (w.freeze ⟨b, c.size, none⟩ 1) := by
    have hsh : w.shape? b = some (el, c.size) := by unfold World.shape?; rw [h2]
    simp [convert, run_underlying uS, run_underlying ue, markStringish, hsh]
  have hbs : b < w.heap.size := hH.lt b hlb
  have hb' : (w.freeze ⟨b, c.size, none⟩ 1).heap[b]? = some (.cells c el (c.size, c.size + 1)) := by
    unfold World.freeze
    rw [if_neg (by decide)]
    simp only [Array.getElem?_modify, if_true, h2, Option.map_some]
    rfl
  have ho' : ∀ k, k ≠ b → (w.freeze ⟨b, c.size, none⟩ 1).heap[k]? = w.heap[k]? := by
    intro k hk
    unfold World.freeze
    rw [if_neg (by decide)]
    simp only [Array.getElem?_modify, if_neg (Ne.symm hk)]
  have hs' : (w.freeze ⟨b, c.size, none⟩ 1).heap.size = w.heap.size := by
    unfold World.freeze
    rw [if_neg (by decide)]
    simp
  have hos : (w.freeze ⟨b, c.size, none⟩ 1).os = w.os ∧ (w.freeze ⟨b, c.size, none⟩ 1).tape = w.tape ∧ (w.freeze ⟨b, c.size, none⟩ 1).output = w.output := by
    unfold World.freeze
    rw [if_neg (by decide)]
    exact ⟨rfl, rfl, rfl⟩
  generalize w.freeze ⟨b, c.size, none⟩ 1 = w' at hrun hb' ho' hs' hos
  have hcell : ∀ a : Addr, w'.cell? a = w.cell? a := by
    intro a
    unfold World.cell?
    by_cases h : a.block = b
    · rw [h, hb', h2]
    · rw [ho' _ h]
  obtain ⟨hk, g0⟩ := repH_kill hH id
  have hnl : ¬ Live (β.set id .dead) b := by
    rintro ⟨j, y, hj⟩
    rw [List.getElem?_set] at hj
    split at hj
    · split at hj <;> cases hj
    · rename_i hne
      exact hne (hH.inj j id b y base hj h1).symm
  have g : Grow β (β.set id .dead) w w' := by
    refine ⟨hos.1, hos.2.1, hos.2.2, by rw [hs']; exact Nat.le_refl _, fun k hk2 hl => ho' k (fun e => hl (e ▸ hlb)), fun k d e2 fr h => ?_, fun x hx2 => g0.live x hx2, g0.len, g0.keep⟩
    by_cases hkb : k = b
    · subst hkb
      rw [h2] at h; cases h
      exact ⟨c, _, hb', rfl⟩
    · exact ⟨d, fr, by rw [ho' k hkb]; exact h, rfl⟩
  refine ⟨_, w', β.set id .dead, hrun, ?_, ?_, g, fun h => by cases h⟩
  · simp only [RepV]
    refine ⟨_, cap, rfl, hcap, .inr ⟨b, base + off, rfl, fun hx2 => (hH.out b hx2).2 hlb, hnl, ?_⟩⟩
    have hr := row_sub h5 off (n * 1)
    rw [RepRow.iff] at hr ⊢
    intro i p hp
    obtain ⟨v, hv, ho, hrv⟩ := hr i p hp
    exact ⟨v, by rw [hcell]; exact hv, ho, hrv.grow g⟩
  · refine ⟨hk.len, hk.inj, fun x hx2 => by rw [hs']; exact hk.lt x hx2, fun x hx2 => by rw [hs']; exact hk.out x hx2, fun j ds hj => ?_⟩
    have hj0 := hj
    rw [List.getElem?_set] at hj
    split at hj
    · split at hj <;> cases hj
    · rename_i hne
      rcases hH.ent j ds hj with ⟨e1, e2⟩ | ⟨b', base', c2, el', e1, e2, e3, e4⟩
      · exact .inl ⟨by rw [List.getElem?_set_ne hne]; exact e1, e2⟩
      · have hbb : b' ≠ b := fun e => hne (hH.inj j id b' base' base e1 (e ▸ h1)).symm
        refine .inr ⟨b', base', c2, el', by rw [List.getElem?_set_ne hne]; exact e1, by rw [ho' b' hbb]; exact e2, e3, ?_⟩
        rw [RepRow.iff] at e4 ⊢
        intro i p hp
        obtain ⟨v, hv, ho, hrv⟩ := e4 i p hp
        exact ⟨v, by rw [hcell]; exact hv, ho, hrv.grow g⟩
def minF (x y : PV) (L : LH) : OR :=
  match x, y with
  | .lit (.int k a), .lit (.int _ b) => ⟨True, .lit (.int k (if b < a then b else a)), L⟩
  | _, _ => .bad
def maxF (x y : PV) (L : LH) : OR :=
  match x, y with
  | .lit (.int k a), .lit (.int _ b) => ⟨True, .lit (.int k (if a < b then b else a)), L⟩
  | _, _ => .bad
set_option backward.match.sparseCases false in
def opF (P : Program) (Γ : Con) (draw : Bool) (ρ : Operand → PV) (L : LH) (op : Op) : OR :=
  match op with
  | .move x => ⟨True, ρ x, L⟩
  | .assign x => ⟨True, ρ x, L⟩
  | .alloc t => allocF P draw t L
  | .box _ x => boxF draw (ρ x) L
  | .buildSlice t len parts => buildSliceF P draw t len (parts.toList.map fun x => (x.1, ρ x.2)) L
  | .build t parts => buildF P t (parts.toList.map fun x => (x.1, ρ x.2)) L
  | .fieldAddr t x f => fieldAddrF P t (ρ x) f L
  | .load t a => loadF P t (ρ a) L
  | .store t a x => storeF P draw t (ρ a) (ρ x) L
  | .nilCheck x => match ρ x with
    | .rptr cs => ⟨True, .rptr cs, L⟩
    | .ptr id off => match L[id]? with
      | some (.cells _) => ⟨True, .ptr id off, L⟩
      | _ => .bad
    | _ => .bad
  | .binOp op t x y _ => binF P op t (ρ x) (ρ y) L
  | .unOp op _ x => unF op (ρ x) L
  | .convert src dst x => convG P draw src dst (ρ x) L
  | .makeSlice t l c => makeF P draw t (ρ l) (ρ c) L
  | .slice t x lo hi mx => sliceF P t (ρ x) (lo.map ρ) (hi.map ρ) (mx.map ρ) L
  | .indexAddr t x i => indexAddrF P t (ρ x) (ρ i) L
  | .index t x i => indexF P t (ρ x) (ρ i) L
  | .field t x f => fieldF P t (ρ x) f L
  | .extract x i => extractF (ρ x) i L
  | .sliceToArrayPointer t x => arrF P t (ρ x) L
  | .call c => match c.callee, c.args.toList, c.argTypes.toList with
    | .builtin .len, [x], [t] => lenF P t (ρ x) L
    | .builtin .cap, [x], [t] => capF P t (ρ x) L
    | .builtin .min, [x, y], [_t, _t2] => minF (ρ x) (ρ y) L
    | .builtin .max, [x, y], [_t, _t2] => maxF (ρ x) (ρ y) L
    | .builtin .append, [s, x], [t, t2] => appF P draw t t2 (ρ s) (ρ x) L
    | .builtin .copy, [d, s], [t, t2] => copyF P draw t (ρ d) (ρ s) L
    | .value (.func g), _, _ => callF Γ draw g (c.args.toList.map ρ) L
    | _, _, _ => .bad
  | _ => .bad
end Go.Ab
namespace Go.Ab
open Go Go.RowKit
set_option linter.unusedVariables false
set_option linter.unusedSimpArgs false
variable {P : Program} {Γ : Con} {X : Nat → Prop} {β : List Base} {w : World} {L : LH} {N : Nat}
theorem grow_of_nil {w' : World} (g : Grow [] [] w w') : Grow β β w w' :=
  ⟨g.os, g.tape, g.output, g.size, fun k hk _ => g.block k hk (fun ⟨i, x, h⟩ => by simp at h), g.shape, fun _ h => .inl h, Nat.le_refl _, fun _ _ _ h _ => h⟩
theorem same_of_nil {w' : World} (g : Grow [] [] w w') : ∀ k, k < w.heap.size → w'.heap[k]? = w.heap[k]? := fun k hk => g.block k hk (fun ⟨i, x, h⟩ => by simp at h)
theorem repL_borrow {ps : List PV} {vs : List Value} (hH : RepH X β w L) (h : RepL X β w ps vs) (hok : ∀ p ∈ ps, borrowOk L p) : RepL X [] w (ps.map (borrow L)) vs ∧ closedL (ps.map (borrow L)) = true := by
  rw [RepL.iff] at h
  constructor
  · rw [RepL.iff]
    refine ⟨by simp [h.1], fun i p v hp hv => ?_⟩
    rw [List.getElem?_map, Option.map_eq_some_iff] at hp
    obtain ⟨q, hq, rfl⟩ := hp
    exact (borrow_rep hH (h.2 i q v hq hv) (hok q (List.mem_of_getElem? hq))).1
  · rw [closedL_iff]
    intro p hp
    rw [List.mem_map] at hp
    obtain ⟨q, hq, rfl⟩ := hp
    obtain ⟨i, hi⟩ := List.getElem?_of_mem hq
    have hlt : i < vs.length := by rw [h.1]; exact (List.getElem?_eq_some_iff.1 hi).1
    exact (borrow_rep hH (h.2 i q vs[i] hi (by simp [hlt])) (hok q hq)).2
theorem repL_plain {Y : Nat → Prop} {ps : List PV} {vs : List Value} (hc : closedL ps = true) (h : RepL X β w ps vs) (hY : ∀ b, Y b → X b ∨ Live β b) : RepL Y [] w (ps.map (borrow L)) vs := by
  rw [closedL_iff] at hc
  rw [RepL.iff] at h ⊢
  refine ⟨by simp [h.1], fun i p v hp hv => ?_⟩
  rw [List.getElem?_map, Option.map_eq_some_iff] at hp
  obtain ⟨q, hq, rfl⟩ := hp
  exact (borrow_plain (hc q (List.mem_of_getElem? hq)) (h.2 i q v hq hv) hY).1
theorem live_nil {b : Nat} : ¬ Live [] b := fun ⟨i, x, h⟩ => by simp at h
theorem newRow_adopt {draw : Bool} {Y : Nat → Prop} {w' : World} {n sz : Nat} {cs : List PV} {v : Value} (hH : RepH X β w L) (g : Grow [] [] w w') (h : NewRow Y w w' n sz cs v) (hY : (∀ b, X b ∨ Live β b → Y b) ∨ flatL cs = true) :
    ∃ β', RepV X β' w' (fresh draw n sz cs L).1 v ∧ RepH X β' w' (fresh draw n sz cs L).2 ∧ Grow β β' w w' ∧ (draw = true → β' = β ∧ (fresh draw n sz cs L).2 = L) ∧ (∀ b, Live β' b → Live β b ∨ blockOf v b) := by
  have hH' := hH.same (grow_of_nil g) (same_of_nil g)
  rcases h with ⟨rfl, rfl, rfl⟩ | ⟨b, off, cap, c, el, rfl, hn, hb, hw, hcap, hoff, hcl, hr⟩
  · cases draw with
    | false =>
      refine ⟨β ++ [.nil], ?_, repH_nil (sz := 0) hH', (grow_of_nil g).trans grow_nil, (fun e => by cases e), fun b hb => ?_⟩
      · simp only [fresh, RepV]
        refine ⟨by simp [hH.len], fun b base hb => ?_, fun _ => by simp⟩
        rw [List.getElem?_append_right (by rw [hH.len]; exact Nat.le_refl _)] at hb
        simp [hH.len] at hb
      · rcases live_snoc hb with h | ⟨_, h⟩
        · exact .inl h
        · cases h
    | true =>
      refine ⟨β, ?_, hH', grow_of_nil g, fun _ => ⟨rfl, rfl⟩, fun b hb => .inl hb⟩
      simp only [fresh, RepV]
      exact ⟨none, 0, rfl, Nat.le_refl _, .inl rfl⟩
  · have hnX : ¬ X b := fun hx => by have := (hH.out b hx).1; omega
    have hnl : ¬ Live β b := fun hl => by have := hH.lt b hl; omega
    cases draw with
    | true =>
      refine ⟨β, ?_, hH', grow_of_nil g, fun _ => ⟨rfl, rfl⟩, fun b hb => .inl hb⟩
      simp only [fresh, RepV]
      refine ⟨_, cap, rfl, hn, .inr ⟨b, off, rfl, hnX, hnl, ?_⟩⟩
      rcases hY with hY | hY
      · exact RepRow.anti (fun x hx => .inl (.inl (hY x hx))) b cs off hcl hr
      · exact RepRow.flat hY hr
    | false =>
      have g2 : Grow β (β ++ [.blk b off]) w w' := by
        have g1 := grow_of_nil (β := β) g
        refine ⟨g1.os, g1.tape, g1.output, g1.size, g1.block, g1.shape, fun d hd => ?_, by simp, fun id x hid hx _ => by rw [List.getElem?_append_left hid] at hx; exact hx⟩
        rcases live_snoc hd with h | ⟨base, h⟩
        · exact .inl h
        · cases h; exact .inr hb
      have hrow : RepRow X (β ++ [.blk b off]) w' b off cs := by
        rcases hY with hY | hY
        · refine RepRow.anti (fun x hx => ?_) b cs off hcl hr
          rcases hx with hx | hx
          · exact .inl (.inl (hY x (.inl hx)))
          · rcases live_snoc hx with h | ⟨base, h⟩
            · exact .inl (.inl (hY x (.inr h)))
            · cases h; exact .inl (.inr rfl)
        · exact RepRow.flat hY hr
      refine ⟨β ++ [.blk b off], ?_, ?_, g2, (fun e => by cases e), fun d hd => ?_⟩
      · simp only [fresh, RepV]
        refine ⟨by simp [hH.len], fun b' base' hb' => ?_, fun hb' => ?_⟩
        · rw [List.getElem?_append_right (by rw [hH.len]; exact Nat.le_refl _)] at hb'
          simp [hH.len] at hb'
          obtain ⟨rfl, rfl⟩ := hb'
          exact ⟨cap, rfl, hn, c, el, _, hw, by omega⟩
        · rw [List.getElem?_append_right (by rw [hH.len]; exact Nat.le_refl _)] at hb'
          simp [hH.len] at hb'
      · refine ⟨by simp [fresh, hH.len], ?_, ?_, ?_, ?_⟩
        · intro i j d x y hi hj
          rw [List.getElem?_append] at hi hj
          split at hi <;> split at hj
          · exact hH.inj i j d x y hi hj
          · rw [List.getElem?_singleton] at hj
            split at hj
            · simp at hj
              exact absurd ⟨i, x, hj.1 ▸ hi⟩ hnl
            · cases hj
          · rw [List.getElem?_singleton] at hi
            split at hi
            · simp at hi
              exact absurd ⟨j, y, hi.1 ▸ hj⟩ hnl
            · cases hi
          · rw [List.getElem?_singleton] at hi hj
            split at hi <;> split at hj <;> first | (cases hi; done) | (cases hj; done) | omega
        · intro d hd
          rcases live_snoc hd with h | ⟨base, h⟩
          · exact hH'.lt d h
          · cases h; exact (Array.getElem?_eq_some_iff.1 hw).1
        · intro d hd
          refine ⟨(hH'.out d hd).1, fun hl => ?_⟩
          rcases live_snoc hl with h | ⟨base, h⟩
          · exact (hH.out d hd).2 h
          · cases h; exact hnX hd
        · intro id ds hid
          simp only [fresh] at hid
          rw [if_neg (by simp)] at hid
          rw [List.getElem?_append] at hid
          split at hid
          · rename_i hlt
            rcases hH'.ent id ds hid with ⟨e1, e2⟩ | ⟨b', base', c', el', e1, e2, e3, e4⟩
            · exact .inl ⟨by rw [List.getElem?_append_left (by rw [hH.len]; exact hlt)]; exact e1, e2⟩
            · refine .inr ⟨b', base', c', el', by rw [List.getElem?_append_left (by rw [hH.len]; exact hlt)]; exact e1, e2, e3, ?_⟩
              rcases hH.ent id ds hid with ⟨f1, _⟩ | ⟨b5, base5, c5, el5, f1, f2, f3, f4⟩
              · rw [e1] at f1; cases f1
              · rw [e1] at f1; cases f1
                rw [RepRow.iff] at f4 ⊢
                intro k p hp
                obtain ⟨u, hu, ho, hr2⟩ := f4 k p hp
                exact ⟨u, by rw [← hu]; exact World.cell?_of_block (same_of_nil g b' (hH.lt b' ⟨id, base', e1⟩)), ho, hr2.grow g2⟩
          · rename_i hge
            rw [List.getElem?_singleton] at hid
            split at hid
            · simp at hid
              subst hid
              refine .inr ⟨b, off, c, el, ?_, hw, hoff, hrow⟩
              rw [List.getElem?_append_right (by rw [hH.len]; omega)]
              rw [show id - β.length = 0 by rw [hH.len]; omega]
              rfl
            · cases hid
      · rcases live_snoc hd with h | ⟨base, h⟩
        · exact .inl h
        · cases h; exact .inr rfl
theorem adopt_rep {draw : Bool} {Y : Nat → Prop} {w' : World} {r : PV} {v : Value} (hH : RepH X β w L) (g : Grow [] [] w w') (h : RepR Y w w' r v) (hY : (∀ b, X b ∨ Live β b → Y b) ∨ flat r = true) :
    ∃ β', RepV X β' w' (adopt draw r L).1 v ∧ RepH X β' w' (adopt draw r L).2 ∧ Grow β β' w w' ∧ (draw = true → β' = β ∧ (adopt draw r L).2 = L) := by
  have plain : closed r = true → RepV Y [] w' r v → ∃ β', RepV X β' w' r v ∧ RepH X β' w' L ∧ Grow β β' w w' ∧ (draw = true → β' = β ∧ L = L) := by
    intro hc hr
    refine ⟨β, ?_, hH.same (grow_of_nil g) (same_of_nil g), grow_of_nil g, fun _ => ⟨rfl, rfl⟩⟩
    rcases hY with hY | hY
    · exact RepV.anti (fun b hb => .inl (hY b hb)) r v hc hr
    · exact RepV.flat r v hY hr
  unfold adopt
  split
  · rename_i n sz cs
    simp only [RepR] at h
    obtain ⟨β', h1, h2, h3, h4, _⟩ := newRow_adopt (draw := draw) hH g h (hY.imp id (fun hf => by simpa [flat] using hf))
    exact ⟨β', h1, h2, h3, h4⟩
  · rename_i n sz cs rs
    simp only [RepR] at h
    obtain ⟨v0, vs, rfl, h0, hcl, hrs⟩ := h
    obtain ⟨β', h1, h2, h3, h4, h5⟩ := newRow_adopt (draw := draw) hH g h0 (hY.imp id (fun hf => by simp [flat, flatL] at hf; exact hf.1))
    refine ⟨β', ?_, h2, h3, h4⟩
    simp only [RepV, RepL]
    refine ⟨v0 :: vs, rfl, v0, vs, rfl, h1, ?_⟩
    rcases hY with hY | hY
    · refine RepL.anti (fun b hb => ?_) rs vs hcl hrs
      left
      rcases hb with hb | hb
      · exact .inl (hY b (.inl hb))
      · rcases h5 b hb with h | h
        · exact .inl (hY b (.inr h))
        · exact .inr h
    · simp [flat, flatL] at hY
      exact RepL.flat rs vs hY.2 hrs
  · rename_i hne1 hne2
    have : closed r = true ∧ RepV Y [] w' r v := by
      unfold RepR at h
      split at h
      · exact absurd rfl (hne1 _ _ _)
      · exact absurd rfl (hne2 _ _ _ _)
      · exact h
    exact plain this.1 this.2
def EntryOk (P : Program) (f : FuncId) : Entry → Prop
  | .none => True
  | .pure S => PureOk P f S
  | .ext S => ExtOk P f S
  | .st T => StOk P f T
def GammaOk (P : Program) (Γ : Con) : Prop := ∀ f, EntryOk P f (Γ.tab f)
def OpGoes (P : Program) (X : Nat → Prop) (β : List Base) (w : World) (L : LH) (draw : Bool) (o : Oper) (a : Act) (r : OR) : Prop :=
  ∀ (next : Act → World → Prop) (Q : Exit → Act → World → Prop),
    (∀ v w' β', RepV X β' w' r.val v → RepH X β' w' r.L → Grow β β' w w' → (draw = true → β' = β ∧ r.L = L) → next (a.put o.dst v) w') → o.wp P a w next Q
theorem Goes.op {draw : Bool} {o : Oper} {a : Act} {m : Sem Value} {r : OR} (h : Goes P X β w L draw m r) (hx : (execOp a.eval o).run P w = (do pure (.value (← m)) : Sem Next).run P w) : OpGoes P X β w L draw o a r := by
  intro next Q hn
  obtain ⟨v, w', β', h1, h2, h3, h4, h5⟩ := h
  unfold Oper.wp
  rw [hx]
  simp only [Sem.run_bind, h1, Result.andThen_ok, Sem.run_pure, Oper.upon]
  exact hn v w' β' h2 h3 h4 h5
theorem repL_args {env : List (Nat × PV)} {a : Act} (hA : RepA N X β w env a) (xs : List Operand) : RepL X β w (xs.map (evalIn env)) (xs.map a.eval) := by
  induction xs with
  | nil => simp [RepL]
  | cons x xs ih => simp only [List.map_cons, RepL]; exact ⟨_, _, rfl, hA.eval x, ih⟩
theorem repO_map {env : List (Nat × PV)} {a : Act} (hA : RepA N X β w env a) (x : Option Operand) : RepO X β w (x.map (evalIn env)) (x.map a.eval) := by
  cases x with
  | none => trivial
  | some x => exact hA.eval x
theorem still_same {p : PV} {v : Value} (h : RepV X β w p v) : Still P X β w L (pure v) ⟨True, p, L⟩ := ⟨v, rfl, h, rfl⟩
theorem minF_still (ts : Array TypeId) (ty : TypeId) (x y : PV) {vx vy : Value} (hpre : (minF x y L).pre) (hx : RepV X β w x vx) (hy : RepV X β w y vy) :
    Still P X β w L (Builtin.min_ ts ty #[vx, vy]) (minF x y L) := by
  unfold minF at hpre ⊢
  split at hpre
  · simp only [RepV] at hx hy; subst hx; subst hy
    exact still_lit (by simp [Builtin.min_, Builtin.min2])
  · exact absurd hpre (by simp [OR.bad])
theorem maxF_still (ts : Array TypeId) (ty : TypeId) (x y : PV) {vx vy : Value} (hpre : (maxF x y L).pre) (hx : RepV X β w x vx) (hy : RepV X β w y vy) :
    Still P X β w L (Builtin.max_ ts ty #[vx, vy]) (maxF x y L) := by
  unfold maxF at hpre ⊢
  split at hpre
  · simp only [RepV] at hx hy; subst hx; subst hy
    exact still_lit (by simp [Builtin.max_, Builtin.max2])
  · exact absurd hpre (by simp [OR.bad])
theorem op_sound (hΓ : GammaOk P Γ) {draw : Bool} {o : Oper} {env : List (Nat × PV)} {a : Act} (hA : RepA N X β w env a) (hH : RepH X β w L) (hpre : (opF P Γ draw (evalIn env) L o.op).pre) :
    OpGoes P X β w L draw o a (opF P Γ draw (evalIn env) L o.op) := by
  obtain ⟨dst, op, type, pos, after, guard⟩ := o
  cases op <;> simp only [opF] at hpre ⊢ <;> first | (exfalso; simp [OR.bad] at hpre; done) | skip
  case move x => exact Goes.op (Still.goes (still_same (hA.eval x)) hH) (by simp [execOp])
  case assign x => exact Goes.op (Still.goes (still_same (hA.eval x)) hH) (by simp [execOp])
  case alloc t => exact Goes.op (allocF_goes t hpre hH) rfl
  case box el x => exact Goes.op (boxF_goes el _ _ hpre hH (hA.eval x)) rfl
  case buildSlice t len parts =>
    have hgo := buildSliceF_goes (P := P) (X := X) (β := β) (w := w) (draw := draw) t len _ (parts.map fun (i, x) => (i, a.eval x)) hpre hH (by simp) (fun j i p hp => ?_)
    · exact Goes.op hgo (by unfold execOp; rfl)
    rw [List.getElem?_map, Option.map_eq_some_iff] at hp
    obtain ⟨⟨i', x⟩, hq, he⟩ := hp
    cases he
    exact ⟨a.eval x, by simp only [Array.getElem?_map]; rw [Array.getElem?_toList] at hq; rw [hq]; rfl, hA.eval x⟩
  case build t parts =>
    have hst := buildF_still (P := P) (X := X) (β := β) (w := w) t _ (parts.map fun (i, x) => (i, a.eval x)) hpre (by simp) (fun j i p hp => ?_)
    · exact Goes.op (hst.goes hH) (by unfold execOp; rfl)
    rw [List.getElem?_map, Option.map_eq_some_iff] at hp
    obtain ⟨⟨i', x⟩, hq, he⟩ := hp
    cases he
    exact ⟨a.eval x, by simp only [Array.getElem?_map]; rw [Array.getElem?_toList] at hq; rw [hq]; rfl, hA.eval x⟩
  case fieldAddr t x f => exact Goes.op ((fieldAddrF_still t _ f _ hpre hH (hA.eval x)).goes hH) rfl
  case load t x => exact Goes.op ((loadF_still t _ _ hpre hH (hA.eval x)).goes hH) rfl
  case store t p x =>
    obtain ⟨w', h1, h2, h3, h4, h5⟩ := storeF_runs t _ _ _ _ hpre hH (hA.eval p) (hA.eval x)
    intro next Q hn
    unfold Oper.wp
    have hx : (execOp a.eval { dst, op := .store t p x, type, pos, after, guard }).run P w = .ok .skip w' := by
      simp [execOp, h1]
    rw [hx]
    simp only [Oper.upon]
    exact hn _ w' β (by rw [h4]; simp [RepV]) h2 h3 (fun e => by rw [h5] at e; cases e)
  case nilCheck x =>
    have hx := hA.eval x
    split at hpre
    · rename_i cs hcs
      try simp only [hcs]
      rw [hcs] at hx
      have hx' := hx
      simp only [RepV] at hx
      obtain ⟨b, off, hv, _⟩ := hx
      refine Goes.op (Still.goes (still_same hx') hH) ?_
      simp [execOp, hv]
    · rename_i id off hcs
      try simp only [hcs]
      rw [hcs] at hx
      split at hpre
      · rename_i cs hL
        try simp only [hL]
        have hx' := hx
        simp only [RepV] at hx
        rcases hH.ent id cs hL with ⟨h1, _⟩ | ⟨b, base, c, el, h1, _⟩
        · exact absurd h1 hx.2.2
        · have hv := hx.2.1 b base h1
          refine Goes.op (Still.goes (still_same hx') hH) ?_
          simp [execOp, hv]
      · exact absurd hpre (by simp [OR.bad])
    · exact absurd hpre (by simp [OR.bad])
  case binOp op t x y yt => exact Goes.op ((binF_still op t x y _ _ _ _ hpre (hA.eval x) (hA.eval y)).goes hH) rfl
  case unOp op t x => exact Goes.op ((unF_still op _ _ hpre (hA.eval x)).goes hH) rfl
  case convert src dst' x => exact Goes.op (convG_goes src dst' _ _ hpre hH (hA.eval x)) rfl
  case makeSlice t l c => exact Goes.op (makeF_goes t _ _ _ _ hpre hH (hA.eval l) (hA.eval c)) rfl
  case slice t x lo hi mx => exact Goes.op ((sliceF_still t _ _ _ _ _ _ _ _ hpre hH (hA.eval x) (repO_map hA lo) (repO_map hA hi) (repO_map hA mx)).goes hH) rfl
  case indexAddr t x i => exact Goes.op ((indexAddrF_still t _ _ _ _ hpre hH (hA.eval x) (hA.eval i)).goes hH) rfl
  case index t x i => exact Goes.op ((indexF_still t _ _ _ _ hpre (hA.eval x) (hA.eval i)).goes hH) rfl
  case field t x f => exact Goes.op ((fieldF_still t _ f _ hpre (hA.eval x)).goes hH) rfl
  case sliceToArrayPointer t x => exact Goes.op ((arrF_still t _ _ hpre (hA.eval x)).goes hH) rfl
  case extract x i => exact Goes.op ((extractF_still _ i _ hpre (hA.eval x)).goes hH) rfl
  case call c =>
    obtain ⟨callee, ⟨args⟩, ⟨argTypes⟩⟩ := c
    simp only at hpre ⊢
    split at hpre
    · rename_i x t
      exact Goes.op ((lenF_still t type #[t] _ _ hpre hH (hA.eval x) rfl).goes hH) (by simp [execOp, resolve, invoke, builtin])
    · rename_i x t
      exact Goes.op ((capF_still t type #[t] _ _ hpre (hA.eval x) rfl).goes hH) (by simp [execOp, resolve, invoke, builtin])
    · rename_i x y t t2
      exact Goes.op ((minF_still #[t, t2] type _ _ hpre (hA.eval x) (hA.eval y)).goes hH) (by simp [execOp, resolve, invoke, builtin])
    · rename_i x y t t2
      exact Goes.op ((maxF_still #[t, t2] type _ _ hpre (hA.eval x) (hA.eval y)).goes hH) (by simp [execOp, resolve, invoke, builtin])
    · rename_i s x t t2
      exact Goes.op (appF_goes t t2 type _ _ _ _ hpre hH (hA.eval s) (hA.eval x)) (by simp [execOp, resolve, invoke, builtin])
    · rename_i d s t t2
      exact Goes.op (copyF_goes t t2 type _ _ _ _ hpre hH (hA.eval d) (hA.eval s)) (by simp [execOp, resolve, invoke, builtin])
    · skip
      rename_i g
      simp only [callF] at hpre ⊢
      have hok := hΓ g
      cases hE : Γ.tab g with
      | none => rw [hE] at hpre; exact absurd hpre (by simp [OR.bad])
      | ext S =>
        rw [hE] at hpre hok
        simp only at hpre ⊢
        intro next Q hn
        obtain ⟨v, h1, h2⟩ := hok.run _ hpre X β w _ (repL_args hA args)
        have hx : (execOp a.eval { dst, op := .call ⟨.value (.func g), ⟨args⟩, ⟨argTypes⟩⟩, type, pos, after, guard }).run P w = .ok (.value v) w := by
          simp [execOp, resolve, Deferred.ofValue, Act.eval, invoke, h1]
        unfold Oper.wp
        rw [hx]
        simp only [Oper.upon]
        exact hn v w β h2 hH (Grow.refl β w) (fun _ => ⟨rfl, rfl⟩)
      | st T =>
        rw [hE] at hpre hok
        simp only at hpre ⊢
        cases draw with
        | true => simp only [cond_true] at hpre; exact absurd hpre (by simp [OR.bad])
        | false =>
          simp only [cond_false] at hpre ⊢
          intro next Q hn
          have hcall := hok.call ⟨_, _, hpre⟩ (args.map a.eval).toArray w
          have hx : (execOp a.eval { dst, op := .call ⟨.value (.func g), ⟨args⟩, ⟨argTypes⟩⟩, type, pos, after, guard }).run P w = .ok (.enter g (args.map a.eval).toArray) w := by
            simp [execOp, resolve, Deferred.ofValue, Act.eval, invoke, hcall]
          unfold Oper.wp
          rw [hx]
          simp only [Oper.upon]
          refine (hok.run _ _ hpre X β w _ (repL_args hA args) hH hA.glob).mono fun e w' ⟨v, β', he, h1, h2, h3⟩ => ?_
          subst he
          exact hn v w' β' h1 h2 h3 (fun e => by cases e)
      | pure S =>
        rw [hE] at hpre hok
        simp only at hpre ⊢
        intro next Q hn
        simp only [pureF] at hpre hn
        obtain ⟨p1, p2, p3⟩ := hpre
        have hargs := repL_args hA args
        obtain ⟨hb1, hb2⟩ := repL_borrow hH hargs p2
        have hcall := hok.call ⟨_, p1⟩ (args.map a.eval).toArray w
        have hx : (execOp a.eval { dst, op := .call ⟨.value (.func g), ⟨args⟩, ⟨argTypes⟩⟩, type, pos, after, guard }).run P w = .ok (.enter g (args.map a.eval).toArray) w := by
          simp [execOp, resolve, Deferred.ofValue, Act.eval, invoke, hcall]
        unfold Oper.wp
        rw [hx]
        simp only [Oper.upon]
        rcases p3 with p3 | p3
        · let Y : Nat → Prop := fun b => X b ∨ Live β b
          have hY : RepL Y [] w ((args.map (evalIn env)).map (borrow L)) (args.map a.eval) := repL_plain p3 hargs (fun b hb => hb)
          have hrun := hok.run _ p1 hb2 Y w _ (fun b hb => by rcases hb with hb | hb; exact (hH.out b hb).1; exact hH.lt b hb) hY (hA.glob.anti fun b hb => by rcases hb with hb | ⟨i, x, hb⟩; exact hb; simp at hb)
          refine hrun.mono fun e w' ⟨v, he, hg, hr⟩ => ?_
          subst he
          obtain ⟨β', h1, h2, h3, h4⟩ := adopt_rep (draw := draw) (Y := Y) hH hg hr (.inl fun b hb => hb)
          exact hn v w' β' h1 h2 h3 h4
        · have hrun := hok.run _ p1 hb2 X w _ (fun b hb => (hH.out b hb).1) hb1 (hA.glob.anti fun b hb => by rcases hb with hb | ⟨i, x, hb⟩; exact .inl hb; simp at hb)
          refine hrun.mono fun e w' ⟨v, he, hg, hr⟩ => ?_
          subst he
          obtain ⟨β', h1, h2, h3, h4⟩ := adopt_rep (draw := draw) (Y := X) hH hg hr (.inr p3)
          exact hn v w' β' h1 h2 h3 h4
    · exact absurd hpre (by simp [OR.bad])
end Go.Ab
namespace Go.Ab
open Go Go.RowKit
set_option linter.unusedVariables false
set_option linter.unusedSimpArgs false
abbrev Env := List (Nat × PV)
variable {P : Program} {Γ : Con} {X : Nat → Prop} {β : List Base} {w : World} {L : LH} {N : Nat}
def GuardIs (all : List Oper) (env : Env) (o : Oper) (b : Bool) : Prop :=
  (o.guard = none ∧ b = true) ∨
  ∃ j want d, o.guard = some (j, want) ∧ (all[j]?).bind (·.dst) = some d ∧
    ((∃ x, lookup env d = .lit (.bool x) ∧ b = (x == want)) ∨ (∃ vs, lookup env d = .lit (.tuple vs) ∧ b = false))
def stepV (P : Program) (Γ : Con) (draw : Bool) (all : List Oper) (o : Oper) (env : Env) (L : LH) (v : PV) (L' : LH) : Prop :=
  (GuardIs all env o true ∧ ((∃ c a b t, o.op = .pick c a b ∧ evalIn env c = .lit (.bool t) ∧ v = (if t then evalIn env a else evalIn env b) ∧ L' = L) ∨
      ((opF P Γ draw (evalIn env) L o.op).pre ∧ v = (opF P Γ draw (evalIn env) L o.op).val ∧ L' = (opF P Γ draw (evalIn env) L o.op).L))) ∨
  (GuardIs all env o false ∧ v = .lit undef ∧ L' = L)
theorem guard_wanted {all : List Oper} {env : Env} {o : Oper} {b : Bool} {a : Act} (hA : RepA N X β w env a) (h : GuardIs all env o b) : Region.wanted o (yielded all.toArray a.tmps) = b := by
  rcases h with ⟨h1, h2⟩ | ⟨j, want, d, h1, h2, h3⟩
  · simp [Region.wanted, h1, h2]
  · have h2' : (all.toArray[j]?).bind (·.dst) = some d := by simpa using h2
    have hs := hA.slot d
    rcases h3 with ⟨x, h3, h4⟩ | ⟨vs, h3, h4⟩
    · rw [h3] at hs
      simp only [RepV] at hs
      have : a.tmps[d]? = some (.bool x) := by
        cases hd : a.tmps[d]? with
        | none => simp [hd, undef] at hs
        | some u => simp [hd] at hs; rw [hs]
      simp only [Region.wanted, h1, yielded, h2', Option.bind_some, this]
      rw [h4]; cases x <;> cases want <;> rfl
    · rw [h3] at hs
      simp only [RepV] at hs
      simp only [Region.wanted, h1, yielded, h2', Option.bind_some]
      cases hd : a.tmps[d]? with
      | none => simp [h4]
      | some u =>
        simp [hd] at hs
        subst hs
        simp [h4]
theorem step_sound (hΓ : GammaOk P Γ) {draw : Bool} {all : List Oper} {o : Oper} {env : Env} {v : PV} {L' : LH} {a : Act} {Q : Exit → Act → World → Prop} {K : Act → World → Prop}
    (h : stepV P Γ draw all o env L v L') (hA : RepA N X β w env a) (hH : RepH X β w L) (hd : ∀ d, o.dst = some d → d < N)
    (hK : ∀ a' w' β', RepA N X β' w' (putIn env o.dst v) a' → RepH X β' w' L' → Grow β β' w w' → (draw = true → β' = β ∧ L' = L) → K a' w') :
    if Region.wanted o (yielded all.toArray a.tmps) then o.wp P a w K Q else K (a.put o.dst undef) w := by
  rcases h with ⟨hg, h⟩ | ⟨hg, rfl, rfl⟩
  · rw [guard_wanted hA hg]
    simp only [if_true]
    rcases h with ⟨c, x, y, t, hop, hc, rfl, rfl⟩ | ⟨hpre, rfl, rfl⟩
    · have hcv := hA.eval c
      rw [hc] at hcv
      simp only [RepV] at hcv
      have hx : (execOp a.eval o).run P w = .ok (.value (if t then a.eval x else a.eval y)) w := by
        simp [execOp, hop, hcv, asBool]
      unfold Oper.wp
      rw [hx]
      simp only [Oper.upon]
      refine hK _ w β (hA.put hd ?_) hH (Grow.refl β w) (fun _ => ⟨rfl, rfl⟩)
      cases t
      · simpa using hA.eval y
      · simpa using hA.eval x
    · exact op_sound hΓ hA hH hpre K Q (fun u w' β' h1 h2 h3 h4 => hK _ w' β' ((hA.grow h3).put hd h1) h2 h3 h4)
  · rw [guard_wanted hA hg]
    simp only [Bool.false_eq_true, if_false]
    exact hK _ w β (hA.put hd (by simp [RepV])) hH (Grow.refl β w) (fun _ => ⟨rfl, rfl⟩)
def TRun (P : Program) (Γ : Con) (draw : Bool) (all : List Oper) : List Oper → Env → LH → Env → LH → Prop
  | [], env, L, env', L' => env' = env ∧ L' = L
  | o :: r, env, L, env', L' => ∃ v L1, stepV P Γ draw all o env L v L1 ∧ TRun P Γ draw all r (putIn env o.dst v) L1 env' L'
def reads (all : List Oper) (o : Oper) : List Nat :=
  (o.op.operands.toList.filterMap fun | .tmp t => some t | _ => none) ++ (match o.guard with | some (j, _) => ((all[j]?).bind (·.dst)).toList | none => [])
theorem evalIn_congr {env env' : Env} {o : Op} (h : ∀ t ∈ (o.operands.toList.filterMap fun | .tmp t => some t | _ => none), lookup env t = lookup env' t) : ∀ x ∈ o.operands, evalIn env x = evalIn env' x := by
  intro x hx
  cases x with
  | tmp t => exact h t (List.mem_filterMap.2 ⟨.tmp t, by simpa using hx, rfl⟩)
  | const v => rfl
  | global g => rfl
  | func f => rfl
theorem opF_congr {draw : Bool} {ρ ρ' : Operand → PV} (op : Op) (h : ∀ x ∈ op.operands, ρ x = ρ' x) : opF P Γ draw ρ L op = opF P Γ draw ρ' L op := by
  cases op <;> simp only [Op.operands] at h <;> simp only [opF] <;> try (simp_all; done)
  case buildSlice t len parts =>
    congr 1
    apply List.map_congr_left
    intro x hx
    have := h x.2 (by simp; exact ⟨x.1, by simpa using hx⟩)
    rw [this]
  case build t parts =>
    congr 1
    apply List.map_congr_left
    intro x hx
    have := h x.2 (by simp; exact ⟨x.1, by simpa using hx⟩)
    rw [this]
  case slice t x lo hi mx => cases lo <;> cases hi <;> cases mx <;> simp_all
  case call c =>
    obtain ⟨callee, ⟨args⟩, ⟨argTypes⟩⟩ := c
    simp only [Call.operands] at h
    have ha : ∀ x ∈ args, ρ x = ρ' x := fun x hx => h x (by simp [hx])
    simp only
    split
    · simp_all
    · simp_all
    · simp_all
    · simp_all
    · simp_all
    · simp_all
    · rw [List.map_congr_left ha]
    · rfl
theorem stepV_congr {draw : Bool} {all : List Oper} {o : Oper} {env env' : Env} {v : PV} {L' : LH} (h : ∀ t ∈ reads all o, lookup env t = lookup env' t) (hs : stepV P Γ draw all o env L v L') : stepV P Γ draw all o env' L v L' := by
  have hop : ∀ x ∈ o.op.operands, evalIn env x = evalIn env' x := evalIn_congr (fun t ht => h t (List.mem_append_left _ ht))
  have hg : ∀ b, GuardIs all env o b → GuardIs all env' o b := by
    rintro b (h1 | ⟨j, want, d, h1, h2, h3⟩)
    · exact .inl h1
    · have hd : lookup env d = lookup env' d := h d (List.mem_append_right _ (by simp [h1, h2]))
      rw [hd] at h3
      exact .inr ⟨j, want, d, h1, h2, h3⟩
  rcases hs with ⟨h1, h2⟩ | ⟨h1, h2, h3⟩
  · refine .inl ⟨hg _ h1, ?_⟩
    rcases h2 with ⟨c, a, b, t, h2, h3, h4, h5⟩ | ⟨h2, h3, h4⟩
    · left
      have hc := hop c (by simp [h2, Op.operands])
      have ha := hop a (by simp [h2, Op.operands])
      have hb := hop b (by simp [h2, Op.operands])
      exact ⟨c, a, b, t, h2, by rw [← hc]; exact h3, by rw [← ha, ← hb]; exact h4, h5⟩
    · right
      rw [opF_congr o.op hop] at h2 h3 h4
      exact ⟨h2, h3, h4⟩
  · exact .inr ⟨hg _ h1, h2, h3⟩
def bound (ops : List Oper) (i j : Nat) : Bool :=
  match ops[i]? with
  | some o => o.after.toList.any fun e => Region.binds .any e && e.on == j
  | none => false
def drawOk (ops : List Oper) : Bool :=
  (List.range ops.length).all fun i => match ops[i]? with
    | none => true
    | some o =>
      (o.after.toList.all fun e => !Region.binds .any e || decide (e.on < i)) &&
      (List.range ops.length).all fun j => match ops[j]? with
        | none => true
        | some q => match q.dst with
          | none => true
          | some d =>
            (if (reads ops o).contains d then (if j < i then bound ops i j else if i < j then bound ops j i else false) else true) &&
            (decide (i = j) || o.dst != some d)
theorem drawOk_spec {ops : List Oper} (h : drawOk ops = true) :
    (∀ (i : Nat) (o : Oper), ops[i]? = some o → ∀ e ∈ o.after.toList, Region.binds .any e = true → e.on < i) ∧
    (∀ (i : Nat) (o : Oper) (j : Nat) (q : Oper) (d : Nat), ops[i]? = some o → ops[j]? = some q → q.dst = some d → d ∈ reads ops o → (j < i ∧ bound ops i j = true) ∨ (i < j ∧ bound ops j i = true)) ∧
    (∀ (i : Nat) (o : Oper) (j : Nat) (q : Oper) (d : Nat), ops[i]? = some o → ops[j]? = some q → q.dst = some d → o.dst = some d → i = j) := by
  unfold drawOk at h
  rw [List.all_eq_true] at h
  have base : ∀ (i : Nat) (o : Oper), ops[i]? = some o → (o.after.toList.all fun e => !Region.binds .any e || decide (e.on < i)) = true ∧ ∀ (j : Nat) (q : Oper) (d : Nat), ops[j]? = some q → q.dst = some d →
      ((if (reads ops o).contains d then (if j < i then bound ops i j else if i < j then bound ops j i else false) else true) = true ∧ (i = j ∨ o.dst ≠ some d)) := by
    intro i o ho
    have hi := h i (by simp; exact (List.getElem?_eq_some_iff.1 ho).1)
    rw [ho] at hi
    simp only [Bool.and_eq_true] at hi
    refine ⟨hi.1, fun j q d hq hd => ?_⟩
    have hj := List.all_eq_true.1 hi.2 j (by simp; exact (List.getElem?_eq_some_iff.1 hq).1)
    rw [hq] at hj
    simp only [hd, Bool.and_eq_true, Bool.or_eq_true, decide_eq_true_eq, bne_iff_ne] at hj
    exact hj
  refine ⟨fun i o ho e he hb => ?_, fun i o j q d ho hq hd hr => ?_, fun i o j q d ho hq hd hod => ?_⟩
  · have := List.all_eq_true.1 (base i o ho).1 e he
    simpa [hb] using this
  · have := ((base i o ho).2 j q d hq hd).1
    rw [if_pos (by simpa using hr)] at this
    split at this
    · exact .inl ⟨‹_›, this⟩
    · split at this
      · exact .inr ⟨‹_›, this⟩
      · cases this
  · rcases ((base i o ho).2 j q d hq hd).2 with h | h
    · exact h
    · exact absurd hod h
end Go.Ab
