import Derived.Calls
import Derived.Orders
import Derived.Below
import Derived.Laws.AppendOwn
import Derived.Laws.CopyRow
import Derived.ChangeKeysEq
import Derived.Laws.MakeOwn
import Derived.Laws.BytesString
import Derived.Laws.IdiomStrings
namespace Go.Ab
open Go
def glv : Nat → List Value
  | _ => []
end Go.Ab
namespace Go.Ab
open Go Go.RowKit
set_option linter.unusedVariables false
set_option linter.unusedSimpArgs false
inductive PV where
  | any
  | lit (v : Value)
  | ro (n : Nat) (cells : List PV)
  | own (id off n sz : Nat)
  | ptr (id off : Nat)
  | rptr (cells : List PV)
  | agg (cells : List PV)
  | tup (vs : List PV)
  | fn (f : Fn) (first captured : List PV)
  | new (n sz : Nat) (cells : List PV)
inductive Base where
  | dead
  | nil
  | blk (b base : Nat)
def Live (β : List Base) (b : Nat) : Prop := ∃ (id base : Nat), β[id]? = some (.blk b base)
mutual
def RepV (X : Nat → Prop) (β : List Base) (w : World) : PV → Value → Prop
  | .any, _ => True
  | .lit v0, v => v = v0
  | .ro n cells, v => ∃ a cap, v = .slice a n cap ∧ n ≤ cap ∧
      (cells = [] ∨ ∃ b off, a = some ⟨b, off, none⟩ ∧ ¬ X b ∧ ¬ Live β b ∧ RepRow X β w b off cells)
  | .own id off n sz, v => id < β.length ∧ (∀ b base, β[id]? = some (.blk b base) →
      ∃ cap, v = .slice (some ⟨b, base + off, none⟩) n cap ∧ n ≤ cap ∧ ∃ c el fr, w.heap[b]? = some (.cells c el fr) ∧ base + off + cap * sz ≤ c.size) ∧
      (β[id]? = some .nil → v = .slice none 0 0 ∧ n = 0 ∧ off = 0)
  | .ptr id off, v => id < β.length ∧ (∀ b base, β[id]? = some (.blk b base) → v = .pointer (some ⟨b, base + off, none⟩)) ∧ β[id]? ≠ some .nil
  | .rptr cells, v => ∃ b off, v = .pointer (some ⟨b, off, none⟩) ∧ (cells = [] ∨ (¬ X b ∧ ¬ Live β b ∧ RepRow X β w b off cells))
  | .agg cells, v => ∃ vs : List Value, v = .agg vs.toArray ∧ RepL X β w cells vs
  | .tup ps, v => ∃ vs : List Value, v = .tuple vs.toArray ∧ RepL X β w ps vs
  | .fn f first captured, v => ∃ xs ys : List Value, v = .func f xs.toArray ys.toArray ∧ RepL X β w first xs ∧ RepL X β w captured ys
  | .new _ _ _, _ => False
def RepRow (X : Nat → Prop) (β : List Base) (w : World) (b : Nat) : Nat → List PV → Prop
  | _, [] => True
  | off, p :: ps => (∃ v, w.cell? ⟨b, off, none⟩ = some v ∧ v.oneCell' = true ∧ RepV X β w p v) ∧ RepRow X β w b (off + 1) ps
def RepL (X : Nat → Prop) (β : List Base) (w : World) : List PV → List Value → Prop
  | [], vs => vs = []
  | p :: ps, vs => ∃ v r, vs = v :: r ∧ RepV X β w p v ∧ RepL X β w ps r
end
inductive LE where
  | dead
  | cells (cs : List PV)
abbrev LH := List LE
structure RepH (X : Nat → Prop) (β : List Base) (w : World) (L : LH) : Prop where
  len : β.length = L.length
  inj : ∀ (i j b x y : Nat), β[i]? = some (.blk b x) → β[j]? = some (.blk b y) → i = j
  lt : ∀ b, Live β b → b < w.heap.size
  out : ∀ b, X b → b < w.heap.size ∧ ¬ Live β b
  ent : ∀ (id : Nat) cs, L[id]? = some (.cells cs) → (β[id]? = some .nil ∧ cs = []) ∨ ∃ b base c el, β[id]? = some (.blk b base) ∧ w.heap[b]? = some (.cells c el (0, 0)) ∧ base + cs.length ≤ c.size ∧ RepRow X β w b base cs
structure Grow (β β' : List Base) (w w' : World) : Prop where
  os : w'.os = w.os
  tape : w'.tape = w.tape
  output : w'.output = w.output
  size : w.heap.size ≤ w'.heap.size
  block : ∀ k, k < w.heap.size → ¬ Live β k → w'.heap[k]? = w.heap[k]?
  shape : ∀ (k : Nat) c el fr, w.heap[k]? = some (.cells c el fr) → ∃ c' fr', w'.heap[k]? = some (.cells c' el fr') ∧ c'.size = c.size
  live : ∀ b, Live β' b → Live β b ∨ w.heap.size ≤ b
  len : β.length ≤ β'.length
  keep : ∀ (id : Nat) x, id < β.length → β'[id]? = some x → x ≠ .dead → β[id]? = some x
theorem Grow.refl (β : List Base) (w : World) : Grow β β w w :=
  ⟨rfl, rfl, rfl, Nat.le_refl _, fun _ _ _ => rfl, fun k c el fr h => ⟨c, fr, h, rfl⟩, fun _ h => .inl h, Nat.le_refl _, fun _ _ _ h _ => h⟩
theorem Grow.trans {β β' β'' : List Base} {w w' w'' : World} (h : Grow β β' w w') (k : Grow β' β'' w' w'') : Grow β β'' w w'' where
  os := k.os.trans h.os
  tape := k.tape.trans h.tape
  output := k.output.trans h.output
  size := Nat.le_trans h.size k.size
  block := fun i hi hl => (k.block i (Nat.lt_of_lt_of_le hi h.size) (fun hb => by rcases h.live i hb with x | x; exact hl x; omega)).trans (h.block i hi hl)
  shape := fun i c el fr hi => by
    obtain ⟨c', fr', h1, h2⟩ := h.shape i c el fr hi
    obtain ⟨c'', fr'', h3, h4⟩ := k.shape i c' el fr' h1
    exact ⟨c'', fr'', h3, h4.trans h2⟩
  live := fun b hb => by
    rcases k.live b hb with x | x
    · exact h.live b x
    · exact .inr (Nat.le_trans h.size x)
  len := Nat.le_trans h.len k.len
  keep := fun id x hid hx hd => h.keep id x hid (k.keep id x (Nat.lt_of_lt_of_le hid h.len) hx hd) hd
theorem cell_lt {w : World} {a : Addr} {v : Value} (h : w.cell? a = some v) : a.block < w.heap.size := World.block_lt_of_cell? w a h
theorem Grow.notLive {β β' : List Base} {w w' : World} (g : Grow β β' w w') {b : Nat} (hb : b < w.heap.size) (h : ¬ Live β b) : ¬ Live β' b := fun x => by
  rcases g.live b x with y | y
  · exact h y
  · omega
mutual
theorem RepV.grow {X : Nat → Prop} {β β' : List Base} {w w' : World} (g : Grow β β' w w') : ∀ (p : PV) (v : Value), RepV X β w p v → RepV X β' w' p v
  | .any, _, _ => by simp [RepV]
  | .lit v0, v, h => by simpa [RepV] using h
  | .ro n cells, v, h => by
    simp only [RepV] at h ⊢
    obtain ⟨a, cap, hv, hn, hc⟩ := h
    refine ⟨a, cap, hv, hn, ?_⟩
    cases cells with
    | nil => exact .inl rfl
    | cons p ps =>
      rcases hc with hc | ⟨b, off, ha, hx, hl, hr⟩
      · cases hc
      · have hb : b < w.heap.size := by
          simp only [RepRow] at hr
          obtain ⟨⟨v, hv, _⟩, _⟩ := hr
          exact cell_lt hv
        exact .inr ⟨b, off, ha, hx, g.notLive hb hl, RepRow.grow g b hl (p :: ps) off hr⟩
  | .own id off n sz, v, h => by
    simp only [RepV] at h ⊢
    refine ⟨Nat.lt_of_lt_of_le h.1 g.len, fun b base hb => ?_, fun hb => h.2.2 (g.keep id _ h.1 hb (by simp))⟩
    obtain ⟨cap, hv, hn, c, el, fr, hc, hs⟩ := h.2.1 b base (g.keep id _ h.1 hb (by simp))
    obtain ⟨c', fr', h1, h2⟩ := g.shape b c el fr hc
    exact ⟨cap, hv, hn, c', el, fr', h1, by omega⟩
  | .ptr id off, v, h => by
    simp only [RepV] at h ⊢
    exact ⟨Nat.lt_of_lt_of_le h.1 g.len, fun b base hb => h.2.1 b base (g.keep id _ h.1 hb (by simp)), fun hb => h.2.2 (g.keep id _ h.1 hb (by simp))⟩
  | .rptr cells, v, h => by
    simp only [RepV] at h ⊢
    obtain ⟨b, off, hv, hc⟩ := h
    refine ⟨b, off, hv, ?_⟩
    cases cells with
    | nil => exact .inl rfl
    | cons p ps =>
      rcases hc with hc | ⟨hx, hl, hr⟩
      · cases hc
      · have hb : b < w.heap.size := by
          simp only [RepRow] at hr
          obtain ⟨⟨v, hv, _⟩, _⟩ := hr
          exact cell_lt hv
        exact .inr ⟨hx, g.notLive hb hl, RepRow.grow g b hl (p :: ps) off hr⟩
  | .agg cells, v, h => by
    simp only [RepV] at h ⊢
    obtain ⟨vs, hv, hr⟩ := h
    exact ⟨vs, hv, RepL.grow g cells vs hr⟩
  | .tup cells, v, h => by
    simp only [RepV] at h ⊢
    obtain ⟨vs, hv, hr⟩ := h
    exact ⟨vs, hv, RepL.grow g cells vs hr⟩
  | .fn f first captured, v, h => by
    simp only [RepV] at h ⊢
    obtain ⟨xs, ys, hv, hx, hy⟩ := h
    exact ⟨xs, ys, hv, RepL.grow g first xs hx, RepL.grow g captured ys hy⟩
  | .new _ _ _, v, h => by simp [RepV] at h
theorem RepRow.grow {X : Nat → Prop} {β β' : List Base} {w w' : World} (g : Grow β β' w w') (b : Nat) (hl : ¬ Live β b) : ∀ (ps : List PV) (off : Nat), RepRow X β w b off ps → RepRow X β' w' b off ps
  | [], _, _ => by simp [RepRow]
  | p :: ps, off, h => by
    simp only [RepRow] at h ⊢
    obtain ⟨⟨v, hv, ho, hr⟩, h2⟩ := h
    refine ⟨⟨v, ?_, ho, RepV.grow g p v hr⟩, RepRow.grow g b hl ps (off + 1) h2⟩
    rw [← hv]
    exact World.cell?_of_block (g.block b (cell_lt hv) hl)
theorem RepL.grow {X : Nat → Prop} {β β' : List Base} {w w' : World} (g : Grow β β' w w') : ∀ (ps : List PV) (vs : List Value), RepL X β w ps vs → RepL X β' w' ps vs
  | [], vs, h => by simpa [RepL] using h
  | p :: ps, vs, h => by
    simp only [RepL] at h ⊢
    obtain ⟨v, r, hv, h1, h2⟩ := h
    exact ⟨v, r, hv, RepV.grow g p v h1, RepL.grow g ps r h2⟩
end
theorem RepRow.iff {X : Nat → Prop} {β : List Base} {w : World} {b : Nat} : ∀ {ps : List PV} {off : Nat}, RepRow X β w b off ps ↔
    ∀ (i : Nat) p, ps[i]? = some p → ∃ v, w.cell? ⟨b, off + i, none⟩ = some v ∧ v.oneCell' = true ∧ RepV X β w p v
  | [], off => by simp [RepRow]
  | p :: ps, off => by
    simp only [RepRow]
    rw [RepRow.iff (ps := ps) (off := off + 1)]
    constructor
    · rintro ⟨h1, h2⟩ i q hq
      cases i with
      | zero => simp at hq; subst hq; simpa using h1
      | succ i => simp at hq; have := h2 i q hq; rw [show off + (i + 1) = off + 1 + i by omega]; exact this
    · intro h
      refine ⟨by simpa using h 0 p (by simp), fun i q hq => ?_⟩
      have := h (i + 1) q (by simpa using hq)
      rw [show off + 1 + i = off + (i + 1) by omega]; exact this
theorem RepL.length {X : Nat → Prop} {β : List Base} {w : World} : ∀ {ps : List PV} {vs : List Value}, RepL X β w ps vs → vs.length = ps.length
  | [], vs, h => by simp [RepL] at h; simp [h]
  | p :: ps, vs, h => by
    simp only [RepL] at h
    obtain ⟨v, r, rfl, _, h2⟩ := h
    simp [RepL.length h2]
theorem RepL.iff {X : Nat → Prop} {β : List Base} {w : World} : ∀ {ps : List PV} {vs : List Value}, RepL X β w ps vs ↔
    vs.length = ps.length ∧ ∀ (i : Nat) p v, ps[i]? = some p → vs[i]? = some v → RepV X β w p v
  | [], vs => by simp [RepL]
  | p :: ps, vs => by
    simp only [RepL]
    constructor
    · rintro ⟨v, r, rfl, h1, h2⟩
      rw [RepL.iff] at h2
      refine ⟨by simp [h2.1], fun i q u hq hu => ?_⟩
      cases i with
      | zero => simp at hq hu; subst hq hu; exact h1
      | succ i => simp at hq hu; exact h2.2 i q u hq hu
    · rintro ⟨hl, h⟩
      cases vs with
      | nil => simp at hl
      | cons v r =>
        refine ⟨v, r, rfl, h 0 p v (by simp) (by simp), ?_⟩
        rw [RepL.iff]
        exact ⟨by simpa using hl, fun i q u hq hu => h (i + 1) q u (by simpa using hq) (by simpa using hu)⟩
theorem repL_append {X : Nat → Prop} {β : List Base} {w : World} {ps qs : List PV} {vs us : List Value} (h : RepL X β w ps vs) (k : RepL X β w qs us) : RepL X β w (ps ++ qs) (vs ++ us) := by
  induction ps generalizing vs with
  | nil => simp [RepL] at h; subst h; simpa using k
  | cons p ps ih =>
    simp only [RepL] at h
    obtain ⟨v, r, rfl, h1, h2⟩ := h
    simp only [List.cons_append, RepL]
    exact ⟨v, r ++ us, rfl, h1, ih h2⟩
def lookup : List (Nat × PV) → Nat → PV
  | [], _ => .any
  | (i, p) :: r, t => bif i == t then p else lookup r t
structure St where
  env : List (Nat × PV)
  L : LH
def evalIn (env : List (Nat × PV)) : Operand → PV
  | .tmp t => lookup env t
  | .const v => .lit v
  | .global g => .rptr ((glv g).map .lit)
  | .func f => .fn (.func f) [] []
def putIn (env : List (Nat × PV)) (dst : Option Nat) (p : PV) : List (Nat × PV) :=
  match dst with
  | some d => (d, p) :: env
  | none => env
def Globs (X : Nat → Prop) (β : List Base) (w : World) : Prop := ∀ g, RepV X β w (.rptr ((glv g).map .lit)) (.pointer (some ⟨g, 0, none⟩))
theorem Globs.grow {X : Nat → Prop} {β β' : List Base} {w w' : World} (h : Globs X β w) (g : Grow β β' w w') : Globs X β' w' := fun k => RepV.grow g _ _ (h k)
structure RepA (N : Nat) (X : Nat → Prop) (β : List Base) (w : World) (env : List (Nat × PV)) (a : Act) : Prop where
  size : a.tmps.size = N
  defers : a.defers = []
  slot : ∀ t, RepV X β w (lookup env t) (a.tmps.getD t undef)
  glob : Globs X β w
theorem RepA.eval {N : Nat} {X : Nat → Prop} {β : List Base} {w : World} {env : List (Nat × PV)} {a : Act} (h : RepA N X β w env a) (x : Operand) : RepV X β w (evalIn env x) (a.eval x) := by
  cases x with
  | tmp t => exact h.slot t
  | const v => simp [evalIn, Act.eval, RepV]
  | global g => exact h.glob g
  | func f => simp only [evalIn, Act.eval, RepV, RepL]; exact ⟨[], [], rfl, rfl, rfl⟩
theorem RepA.grow {N : Nat} {X : Nat → Prop} {β β' : List Base} {w w' : World} {env : List (Nat × PV)} {a : Act} (h : RepA N X β w env a) (g : Grow β β' w w') : RepA N X β' w' env a :=
  ⟨h.size, h.defers, fun t => RepV.grow g _ _ (h.slot t), h.glob.grow g⟩
theorem RepA.put {N : Nat} {X : Nat → Prop} {β : List Base} {w : World} {env : List (Nat × PV)} {a : Act} (h : RepA N X β w env a) {dst : Option Nat} (hd : ∀ d, dst = some d → d < N) {p : PV} {v : Value} (hv : RepV X β w p v) :
    RepA N X β w (putIn env dst p) (a.put dst v) := by
  cases dst with
  | none => exact h
  | some d =>
    have hlt : d < a.tmps.size := by rw [h.size]; exact hd d rfl
    refine ⟨by simp [Act.put, h.size], h.defers, fun t => ?_, h.glob⟩
    simp only [putIn, lookup, Act.put]
    by_cases ht : d = t
    · subst ht
      rw [show (d == d) = true from beq_self_eq_true d]
      simp only [cond_true]
      have : ((a.tmps.setIfInBounds d v).getD d undef) = v := by simp [hlt]
      rw [this]; exact hv
    · have hb : (d == t) = false := by
        cases hh : (d == t)
        · rfl
        · exact absurd (eq_of_beq hh) ht
      rw [hb]
      simp only [cond_false]
      have : ((a.tmps.setIfInBounds d v).getD t undef) = a.tmps.getD t undef := by simp [Array.getElem?_setIfInBounds_ne ht]
      rw [this]; exact h.slot t
end Go.Ab
namespace Go.Ab
open Go Go.RowKit
set_option linter.unusedVariables false
set_option linter.unusedSimpArgs false
structure TI where
  und : TypeDesc
  size : Nat
  bytes : Nat
  zero : Value
def tyOf (P : Program) (t : TypeId) : Option TI :=
  match P.underlying t, P.info? t with
  | some d, some i => i.zero.map fun z => ⟨d, i.size, i.bytes, z⟩
  | _, _ => none
structure OR where
  pre : Prop
  val : PV
  L : LH
def OR.bad : OR := ⟨False, .any, []⟩
def PV.cells : PV → List PV
  | .agg cs => cs
  | .lit v => v.cells.toList.map .lit
  | p => [p]
def PV.one : PV → Bool
  | .lit v => v.oneCell'
  | .ro _ _ | .rptr _ | .fn _ _ _ => true
  | _ => false
def isByte : PV → Prop
  | .lit (.int .u8 _) => True
  | _ => False
def byteOf : PV → UInt8
  | .lit (.int .u8 n) => UInt8.ofNat n.toNat
  | _ => 0
def bv (b : UInt8) : PV := .lit (.int .u8 b.toNat)
def isAggD : TypeDesc → Bool
  | .struct _ => true
  | .array _ _ => true
  | _ => false
def slc (L : LH) : PV → Prop × Nat × List PV
  | .lit (.slice none 0 0) => (True, 0, [])
  | .ro n cs => (True, n, cs)
  | .own id off n sz => match L[id]? with
    | some (.cells cs) => (off + n * sz ≤ cs.length, n, (cs.drop off).take (n * sz))
    | _ => (False, 0, [])
  | _ => (False, 0, [])
def binInt (op : BinOp) (k : IntKind) (a b : Int) : Prop × Value :=
  match op with
  | .add => (True, .int k (k.wrap (a + b)))
  | .sub => (True, .int k (k.wrap (a - b)))
  | .mul => (True, .int k (k.wrap (a * b)))
  | .quo => (b ≠ 0, .int k (k.wrap (a.tdiv b)))
  | .rem => (b ≠ 0, .int k (a.tmod b))
  | .and => (True, .int k (k.wrap (BitVec.ofInt k.bits a &&& BitVec.ofInt k.bits b).toNat))
  | .or => (True, .int k (k.wrap (BitVec.ofInt k.bits a ||| BitVec.ofInt k.bits b).toNat))
  | .xor => (True, .int k (k.wrap (BitVec.ofInt k.bits a ^^^ BitVec.ofInt k.bits b).toNat))
  | .andNot => (True, .int k (k.wrap (BitVec.ofInt k.bits a &&& ~~~ BitVec.ofInt k.bits b).toNat))
  | .eql => (True, .bool (a == b))
  | .neq => (True, .bool (a != b))
  | .lss => (True, .bool (decide (a < b)))
  | .leq => (True, .bool (decide (a ≤ b)))
  | .gtr => (True, .bool (decide (a > b)))
  | .geq => (True, .bool (decide (a ≥ b)))
  | _ => (False, .bool false)
def binStr (op : BinOp) (a b : ByteArray) : Prop × Value :=
  match op with
  | .add => (((a.size + b.size : Nat) : Int) ≤ IntKind.i64.max, .string (a ++ b))
  | .eql => (True, .bool (a.toList == b.toList))
  | .neq => (True, .bool (!(a.toList == b.toList)))
  | .lss => (True, .bool (Op.bytesLess a.toList b.toList))
  | .leq => (True, .bool (Op.bytesLess a.toList b.toList || a.toList == b.toList))
  | .gtr => (True, .bool (!(Op.bytesLess a.toList b.toList || a.toList == b.toList)))
  | .geq => (True, .bool (!(Op.bytesLess a.toList b.toList)))
  | _ => (False, .bool false)
def isInts (k : IntKind) : List PV → Prop
  | [] => True
  | .lit (.int k' _) :: r => k' = k ∧ isInts k r
  | _ => False
def intsOf : List PV → List Int
  | [] => []
  | .lit (.int _ n) :: r => n :: intsOf r
  | _ => []
def binF (P : Program) (op : BinOp) (t : TypeId) (x y : PV) (L : LH) : OR :=
  match op, x, y with
  | .shl, .lit (.int k a), .lit (.int _ b) => ⟨0 ≤ b, .lit (.int k (k.wrap (a * 2 ^ (min b.toNat k.bits)))), L⟩
  | .shr, .lit (.int k a), .lit (.int _ b) => ⟨0 ≤ b, .lit (.int k (a.fdiv (2 ^ (min b.toNat k.bits)))), L⟩
  | op, .lit (.int k a), .lit (.int k' b) => ⟨k = k' ∧ (binInt op k a b).1, .lit (binInt op k a b).2, L⟩
  | op, .lit (.string a), .lit (.string b) => ⟨(binStr op a b).1, .lit (binStr op a b).2, L⟩
  | .eql, .lit (.bool a), .lit (.bool b) => ⟨(tyOf P t).map (·.und) = some .bool, .lit (.bool (a == b)), L⟩
  | .neq, .lit (.bool a), .lit (.bool b) => ⟨(tyOf P t).map (·.und) = some .bool, .lit (.bool (!(a == b))), L⟩
  | .eql, .agg xs, .agg ys => match tyOf P t with
    | some ⟨.array n e, _, _, _⟩ => match tyOf P e with
      | some ⟨.int k, 1, _, _⟩ => ⟨xs.length = n ∧ ys.length = n ∧ isInts k xs ∧ isInts k ys, .lit (.bool (intsOf xs == intsOf ys)), L⟩
      | _ => .bad
    | _ => .bad
  | .neq, .agg xs, .agg ys => match tyOf P t with
    | some ⟨.array n e, _, _, _⟩ => match tyOf P e with
      | some ⟨.int k, 1, _, _⟩ => ⟨xs.length = n ∧ ys.length = n ∧ isInts k xs ∧ isInts k ys, .lit (.bool (!(intsOf xs == intsOf ys))), L⟩
      | _ => .bad
    | _ => .bad
  | _, _, _ => .bad
def unF (op : UnOp) (x : PV) (L : LH) : OR :=
  match op, x with
  | .neg, .lit (.int k n) => ⟨True, .lit (.int k (k.wrap (0 - n))), L⟩
  | .xor, .lit (.int k n) => ⟨True, .lit (.int k (k.wrap (BitVec.ofInt k.bits (if k.signed then -1 else k.max) ^^^ BitVec.ofInt k.bits n).toNat)), L⟩
  | .not, .lit (.bool b) => ⟨True, .lit (.bool !b), L⟩
  | _, _ => .bad
def convF (P : Program) (src dst : TypeId) (x : PV) (L : LH) : OR :=
  match tyOf P src, tyOf P dst with
  | some S, some D => match S.und, D.und, x with
    | _, .int k, .lit (.int _ n) => ⟨True, .lit (.int k (k.wrap n)), L⟩
    | .string, .string, .lit (.string s) => ⟨True, .lit (.string s), L⟩
    | .slice e, .string, x => match tyOf P e with
      | some ⟨.int .u8, 1, _, _⟩ => ⟨(slc L x).1 ∧ (slc L x).2.2.length = (slc L x).2.1 ∧ (∀ p ∈ (slc L x).2.2, isByte p), .lit (.string ⟨((slc L x).2.2.map byteOf).toArray⟩), L⟩
      | _ => .bad
    | .string, .slice e, .lit (.string s) => match tyOf P e with
      | some ⟨.int .u8, 1, _, _⟩ => ⟨True, .ro s.size (s.data.toList.map bv), L⟩
      | _ => .bad
    | _, _, _ => .bad
  | _, _ => .bad
def lenF (P : Program) (t : TypeId) (x : PV) (L : LH) : OR :=
  match tyOf P t with
  | some T => match T.und, x with
    | .string, .lit (.string s) => ⟨True, .lit (.int .i64 s.size), L⟩
    | .slice _, .lit (.slice _ n _) => ⟨True, .lit (.int .i64 n), L⟩
    | .slice _, .ro n _ => ⟨True, .lit (.int .i64 n), L⟩
    | .slice _, .own id _ n _ => match L[id]? with
      | some (.cells _) => ⟨True, .lit (.int .i64 n), L⟩
      | _ => .bad
    | .array n _, _ => ⟨True, .lit (.int .i64 n), L⟩
    | _, _ => .bad
  | none => .bad
def capF (P : Program) (t : TypeId) (x : PV) (L : LH) : OR :=
  match tyOf P t with
  | some T => match T.und, x with
    | .slice _, .lit (.slice _ _ c) => ⟨True, .lit (.int .i64 c), L⟩
    | .array n _, _ => ⟨True, .lit (.int .i64 n), L⟩
    | _, _ => .bad
  | none => .bad
def fresh (draw : Bool) (n sz : Nat) (cells : List PV) (L : LH) : PV × LH :=
  if draw then (.ro n cells, L) else (.own L.length 0 n sz, L ++ [.cells cells])
def rep (n : Nat) (z : Value) : List PV := (List.replicate n (z.cells.toList.map PV.lit)).flatten
def makeF (P : Program) (draw : Bool) (t : TypeId) (l c : PV) (L : LH) : OR :=
  match tyOf P t with
  | some ⟨.slice e, _, _, _⟩ => match tyOf P e, l, c with
    | some E, .lit (.int _ l), .lit (.int _ c) =>
      ⟨0 ≤ l ∧ l ≤ c ∧ E.bytes * c ≤ 281474976710656 ∧ c ≤ 9223372036854775807 ∧ E.zero.cells.size = E.size ∧ (∀ v ∈ E.zero.cells.toList, v.oneCell' = true), (fresh draw l.toNat E.size (rep l.toNat E.zero) L).1, (fresh draw l.toNat E.size (rep l.toNat E.zero) L).2⟩
    | _, _, _ => .bad
  | _ => .bad
def news (P : Program) (E : TI) (t2 : TypeId) (x : PV) (L : LH) : Prop × Nat × List PV :=
  match tyOf P t2 with
  | some ⟨.int _, _, _, _⟩ => match x with
    | .lit (.int _ m) => (0 ≤ m ∧ m ≤ 9223372036854775807 ∧ m * E.bytes ≤ 281474976710656 ∧ E.zero.cells.size = E.size ∧ (∀ v ∈ E.zero.cells.toList, v.oneCell' = true), m.toNat, rep m.toNat E.zero)
    | _ => (False, 0, [])
  | some ⟨.slice _, _, _, _⟩ => ((slc L x).1 ∧ (slc L x).2.2.length = (slc L x).2.1 * E.size, (slc L x).2)
  | some ⟨.string, _, _, _⟩ => match x with
    | .lit (.string s) => (E.size = 1, s.size, s.data.toList.map bv)
    | _ => (False, 0, [])
  | _ => (False, 0, [])
def kill (L : LH) (x : PV) : LH :=
  match x with
  | .own id _ _ _ => L.set id .dead
  | _ => L
def appF (P : Program) (draw : Bool) (t t2 : TypeId) (s x : PV) (L : LH) : OR :=
  match tyOf P t with
  | some ⟨.slice e, _, _, _⟩ => match tyOf P e with
    | some E =>
      let N := news P E t2 x L
      match s with
      | .lit (.slice none 0 0) => let f := fresh draw N.2.1 E.size N.2.2 L
        ⟨0 < E.size ∧ E.zero.cells.size = E.size ∧ N.1 ∧ N.2.1 * E.bytes ≤ 140737488355328 ∧ N.2.1 ≤ 4611686018427387904, f.1, f.2⟩
      | .own id off n sz => match draw with
        | true => .bad
        | false =>
          ⟨0 < E.size ∧ E.zero.cells.size = E.size ∧ sz = E.size ∧ (slc L s).1 ∧ N.1 ∧ (n + N.2.1) * E.bytes ≤ 140737488355328 ∧ n + N.2.1 ≤ 4611686018427387904,
            .own L.length 0 (n + N.2.1) E.size, kill L s ++ [.cells ((slc L s).2.2 ++ N.2.2)]⟩
      | _ => .bad
    | none => .bad
  | _ => .bad
def ints? : Option PV → Int → Option Int
  | none, d => some d
  | some (.lit (.int _ n)), _ => some n
  | _, _ => none
def sliceF (P : Program) (t : TypeId) (x : PV) (lo hi mx : Option PV) (L : LH) : OR :=
  match tyOf P t, mx with
  | some ⟨.slice e, _, _, _⟩, none => match tyOf P e, x with
    | some E, .lit (.slice none 0 0) => match ints? lo 0, ints? hi 0 with
      | some l, some h => ⟨l = 0 ∧ h = 0, .lit (.slice none 0 0), L⟩
      | _, _ => .bad
    | some E, .ro n cs => match ints? lo 0, ints? hi n with
      | some l, some h => ⟨0 ≤ l ∧ l ≤ h ∧ h ≤ n ∧ cs.length = n * E.size, .ro (h - l).toNat ((cs.drop (l.toNat * E.size)).take ((h - l).toNat * E.size)), L⟩
      | _, _ => .bad
    | some E, .own id off n sz => match ints? lo 0, ints? hi n, L[id]? with
      | some l, some h, some (.cells _) => ⟨0 ≤ l ∧ l ≤ h ∧ h ≤ n ∧ sz = E.size ∧ (l = 0 ∨ l < h), .own id (off + l.toNat * E.size) (h - l).toNat sz, L⟩
      | _, _, _ => .bad
    | _, _ => .bad
  | some ⟨.array n e, _, _, _⟩, none => match tyOf P e, x, ints? lo 0, ints? hi n with
    | some E, .ptr id off, some l, some h => match L[id]? with
      | some (.cells cs) => ⟨0 ≤ l ∧ l ≤ h ∧ h ≤ n ∧ (l = 0 ∨ l < h) ∧ off + n * E.size ≤ cs.length, .own id (off + l.toNat * E.size) (h - l).toNat E.size, L⟩
      | _ => .bad
    | some E, .rptr cs, some l, some h => ⟨l = 0 ∧ h = n ∧ 0 < n ∧ cs.length = n * E.size ∧ 0 < E.size, .ro n cs, L⟩
    | _, _, _, _ => .bad
  | some ⟨.string, _, _, _⟩, none => match x with
    | .lit (.string s) => match ints? lo 0, ints? hi s.size with
      | some l, some h => ⟨0 ≤ l ∧ l ≤ h ∧ h ≤ s.size, .lit (.string (s.extract l.toNat h.toNat)), L⟩
      | _, _ => .bad
    | _ => .bad
  | _, _ => .bad
def elemAt (E : TI) (cs : List PV) (i : Nat) : List PV :=
  if E.size = 1 then [cs.getD i (.lit E.zero)] else (cs.drop (i * E.size)).take E.size
def indexAddrF (P : Program) (t : TypeId) (x i : PV) (L : LH) : OR :=
  match i with
  | .lit (.int _ i) => match tyOf P t with
    | some ⟨.slice e, _, _, _⟩ => match tyOf P e, x with
      | some E, .ro n cs => ⟨0 ≤ i ∧ i < n ∧ cs.length = n * E.size ∧ 0 < E.size, .rptr (elemAt E cs i.toNat), L⟩
      | some E, .own id off n sz => match L[id]? with
        | some (.cells _) => ⟨0 ≤ i ∧ i < n ∧ sz = E.size, .ptr id (off + i.toNat * E.size), L⟩
        | _ => .bad
      | _, _ => .bad
    | some ⟨.array n e, _, _, _⟩ => match tyOf P e, x with
      | some E, .ptr id off => match L[id]? with
        | some (.cells _) => ⟨0 ≤ i ∧ i < n, .ptr id (off + i.toNat * E.size), L⟩
        | _ => .bad
      | some E, .rptr cs => ⟨0 ≤ i ∧ i < n ∧ cs.length = n * E.size ∧ 0 < E.size, .rptr (elemAt E cs i.toNat), L⟩
      | _, _ => .bad
    | _ => .bad
  | _ => .bad
def partF (T : TI) (cs : List PV) (off : Nat) : Prop × PV :=
  if isAggD T.und then (off + T.size ≤ cs.length, .agg ((cs.drop off).take T.size))
  else (off < cs.length, cs.getD off (.lit T.zero))
def loadF (P : Program) (t : TypeId) (a : PV) (L : LH) : OR :=
  match tyOf P t with
  | some T => match a with
    | .ptr id off => match L[id]? with
      | some (.cells cs) => ⟨(partF T cs off).1, (partF T cs off).2, L⟩
      | _ => .bad
    | .rptr cs => ⟨(partF T cs 0).1, (partF T cs 0).2, L⟩
    | _ => .bad
  | none => .bad
def splice (cs : List PV) (off : Nat) (vs : List PV) : List PV :=
  match vs with
  | [v] => cs.set off v
  | vs => cs.take off ++ vs ++ cs.drop (off + vs.length)
def storeF (P : Program) (draw : Bool) (t : TypeId) (a v : PV) (L : LH) : OR :=
  match tyOf P t, draw with
  | some T, false => match a with
    | .ptr id off => match L[id]? with
      | some (.cells cs) => ⟨v.cells.length = T.size ∧ off + T.size ≤ cs.length ∧ v.cells.all PV.one = true, .lit undef, L.set id (.cells (splice cs off v.cells))⟩
      | _ => .bad
    | _ => .bad
  | _, _ => .bad
def boxF (draw : Bool) (v : PV) (L : LH) : OR :=
  match draw with
  | false => ⟨v.cells.all PV.one = true, .ptr L.length 0, L ++ [.cells v.cells]⟩
  | true => .bad
def allocF (P : Program) (draw : Bool) (t : TypeId) (L : LH) : OR :=
  match tyOf P t, draw with
  | some T, false => ⟨(∀ v ∈ T.zero.cells.toList, v.oneCell' = true), .ptr L.length 0, L ++ [.cells (T.zero.cells.toList.map .lit)]⟩
  | _, _ => .bad
def fillA (size : Nat) (place : Nat → Option Nat) (cs : List PV) : List (Nat × PV) → Option (List PV)
  | [] => some cs
  | (i, p) :: r => match place i with
    | some off => if p.cells.length = size ∧ off + size ≤ cs.length then fillA size place (splice cs off p.cells) r else none
    | none => none
def buildSliceF (P : Program) (draw : Bool) (t : TypeId) (len : Nat) (parts : List (Nat × PV)) (L : LH) : OR :=
  match tyOf P t with
  | some ⟨.slice e, _, _, _⟩ => match tyOf P e with
    | some E => match fillA E.size (fun i => some (i * E.size)) (rep len E.zero) parts with
      | some cs => ⟨len * E.size ≤ 16777216 ∧ 0 < len * E.size ∧ E.zero.cells.size = E.size ∧ (∀ v ∈ E.zero.cells.toList, v.oneCell' = true) ∧ parts.all (fun x => x.2.cells.all PV.one) = true ∧ cs.all PV.one = true, (fresh draw len E.size cs L).1, (fresh draw len E.size cs L).2⟩
      | none => .bad
    | none => .bad
  | _ => .bad
def fieldF (P : Program) (t : TypeId) (x : PV) (f : Nat) (L : LH) : OR :=
  match tyOf P t with
  | some ⟨.struct fs, _, _, _⟩ => match fs[f]? with
    | some fd => match tyOf P fd.type with
      | some T => match x with
        | .agg cs => ⟨(partF T cs fd.offset).1, (partF T cs fd.offset).2, L⟩
        | _ => .bad
      | none => .bad
    | none => .bad
  | _ => .bad
def indexF (P : Program) (t : TypeId) (x i : PV) (L : LH) : OR :=
  match i with
  | .lit (.int _ i) => match tyOf P t with
    | some ⟨.string, _, _, _⟩ => match x with
      | .lit (.string s) => ⟨0 ≤ i ∧ i < s.size, bv (s.data.toList.getD i.toNat 0), L⟩
      | _ => .bad
    | some ⟨.array n e, _, _, _⟩ => match tyOf P e, x with
      | some E, .agg cs => ⟨0 ≤ i ∧ i < n ∧ (partF E cs (i.toNat * E.size)).1, (partF E cs (i.toNat * E.size)).2, L⟩
      | _, _ => .bad
    | _ => .bad
  | _ => .bad
def extractF (x : PV) (i : Nat) (L : LH) : OR :=
  match x with
  | .tup vs => match vs[i]? with
    | some p => ⟨True, p, L⟩
    | none => .bad
  | _ => .bad
def arrF (P : Program) (t : TypeId) (x : PV) (L : LH) : OR :=
  match tyOf P t with
  | some ⟨.array n e, _, _, _⟩ => match tyOf P e, x with
    | some E, .ro m cs => ⟨n ≤ m ∧ 0 < n ∧ cs.length = m * E.size ∧ 0 < E.size, .rptr (cs.take (n * E.size)), L⟩
    | _, _ => .bad
  | _ => .bad
def copyF (P : Program) (draw : Bool) (t : TypeId) (d s : PV) (L : LH) : OR :=
  match tyOf P t with
  | some ⟨.slice e, _, _, _⟩ => match tyOf P e, d, draw with
    | some E, .own id off n sz, false => match L[id]? with
      | some (.cells cs) =>
        let m := min (slc L s).2.1 n
        ⟨(slc L s).1 ∧ sz = E.size ∧ (slc L s).2.2.length = (slc L s).2.1 * E.size ∧ off + n * sz ≤ cs.length,
          .lit (.int .i64 m), L.set id (.cells (cs.take off ++ (slc L s).2.2.take (m * E.size) ++ cs.drop (off + m * E.size)))⟩
      | _ => .bad
    | _, _, _ => .bad
  | _ => .bad
end Go.Ab
namespace Go.Ab
open Go Go.RowKit
set_option linter.unusedVariables false
set_option linter.unusedSimpArgs false
variable {P : Program} {X : Nat → Prop} {β : List Base} {w : World} {L : LH}
theorem tyOf_spec {t : TypeId} {T : TI} (h : tyOf P t = some T) : P.underlying t = some T.und ∧ ∃ i, P.info? t = some i ∧ i.size = T.size ∧ i.bytes = T.bytes ∧ i.zero = some T.zero := by
  unfold tyOf at h
  split at h
  · rename_i d i hd hi
    cases hz : i.zero with
    | none => simp [hz] at h
    | some z =>
      simp [hz] at h
      subst h
      exact ⟨hd, i, hi, rfl, rfl, hz⟩
  · cases h
def Still (P : Program) (X : Nat → Prop) (β : List Base) (w : World) (L : LH) (m : Sem Value) (r : OR) : Prop :=
  ∃ v, m.run P w = .ok v w ∧ RepV X β w r.val v ∧ r.L = L
theorem still_lit {m : Sem Value} {v : Value} (h : m.run P w = .ok v w) {p : Prop} : Still P X β w L m ⟨p, .lit v, L⟩ :=
  ⟨v, h, by simp [RepV], rfl⟩
theorem binInt_run (op : BinOp) (t : TypeId) (k : IntKind) (a b : Int) (h : (binInt op k a b).1) (h1 : op ≠ .shl) (h2 : op ≠ .shr) :
    (binOp op t (.int k a) (.int k b)).run P w = .ok (binInt op k a b).2 w := by
  cases op <;> simp [binInt] at h ⊢ <;> first | contradiction | (simp [binOp, Op.intArith, Op.intBits, Op.intCmp]; done) | (simp [binOp, Op.intDiv, h]; done)
theorem binStr_run (op : BinOp) (t : TypeId) (a b : ByteArray) (h : (binStr op a b).1) :
    (binOp op t (.string a) (.string b)).run P w = .ok (binStr op a b).2 w := by
  cases op <;> simp [binStr] at h ⊢ <;> first | contradiction | (simp [binOp, Op.stringOp]; done) | skip
  simp [binOp, Op.stringOp]
  exact h
theorem repL_ints {k : IntKind} : ∀ {ps : List PV} {vs : List Value}, isInts k ps → RepL X β w ps vs → vs = (intsOf ps).map (Value.int k)
  | [], vs, _, h => by simp [RepL] at h; simp [h, intsOf]
  | .lit (.int k' n) :: r, vs, hi, h => by
    simp only [RepL, RepV] at h
    obtain ⟨v, r', rfl, rfl, h2⟩ := h
    simp only [isInts] at hi
    simp [intsOf, hi.1, repL_ints hi.2 h2]
theorem guard_int (op : BinOp) (t : TypeId) (x y : Operand) (k k' : IntKind) (a b : Int) : (eqGuard op t x y (.int k a) (.int k' b)).run P w = .ok () w := by
  cases op <;> simp [eqGuard]
theorem guard_str (op : BinOp) (t : TypeId) (x y : Operand) (a b : ByteArray) : (eqGuard op t x y (.string a) (.string b)).run P w = .ok () w := by
  cases op <;> simp [eqGuard]
theorem guard_bool (op : BinOp) (t : TypeId) (x y : Operand) (a b : Bool) : (eqGuard op t x y (.bool a) (.bool b)).run P w = .ok () w := by
  cases op <;> simp [eqGuard]
theorem guard_arr (op : BinOp) (t e : TypeId) (n : Nat) (k : IntKind) (x y : Operand) (xs ys : Array Value) (ht : P.underlying t = some (.array n e)) (he : P.underlying e = some (.int k)) :
    (eqGuard op t x y (.agg xs) (.agg ys)).run P w = .ok () w := by
  have hd : ∃ d, P.depth = d + 2 := ⟨2 * (P.types.size + Made.depth), rfl⟩
  obtain ⟨d, hd⟩ := hd
  have hg : P.eqGuardType P.depth t = false := by rw [hd]; simp [Program.eqGuardType, ht, he]
  cases op <;> simp [eqGuard, program, Sem.run, hg]
theorem equal_ints (t e : TypeId) (n : Nat) (k : IntKind) (i : TypeInfo) (as bs : List Int) (ht : P.underlying t = some (.array n e)) (he : P.underlying e = some (.int k)) (hi : P.info? e = some i) (h1 : i.size = 1)
    (ha : as.length = n) (hb : bs.length = n) :
    (Op.equal t (.agg (as.map (Value.int k)).toArray) (.agg (bs.map (Value.int k)).toArray)).run P w = .ok (as == bs) w := by
  unfold Op.equal
  obtain ⟨d, hd⟩ : ∃ d, Op.maxDepth = d + 1 + 1 := ⟨9998, rfl⟩
  rw [hd, run_equalIn_array w (d + 1) _ _ ht hi]
  have hc : P.cellsOf e = 1 := by simp [Program.cellsOf, hi, h1]
  rw [hc]
  have key : ∀ (m : Nat) (is : List Nat), (∀ j ∈ is, j < n) → (Op.eqItems (d + 1) e 1 (as.map (Value.int k)).toArray (bs.map (Value.int k)).toArray is).run P w = .ok (is.all fun j => as.getD j 0 == bs.getD j 0) w := by
    intro m is
    induction is with
    | nil => intro _; simp [Op.eqItems]
    | cons j is ih =>
      intro hj
      have hjn := hj j (by simp)
      have pa : (part e (as.map (Value.int k)).toArray (j * 1)).run P w = .ok (.int k (as.getD j 0)) w := by
        simp [part, isAgg, run_underlying he, List.getElem?_eq_getElem (show j < as.length by omega)]
      have pb : (part e (bs.map (Value.int k)).toArray (j * 1)).run P w = .ok (.int k (bs.getD j 0)) w := by
        simp [part, isAgg, run_underlying he, List.getElem?_eq_getElem (show j < bs.length by omega)]
      have pe : (Op.equalIn (d + 1) e (.int k (as.getD j 0)) (.int k (bs.getD j 0))).run P w = .ok (as.getD j 0 == bs.getD j 0) w := by
        simp [Op.equalIn, run_underlying he]
      simp only [Op.eqItems, Sem.run_bind, pa, pb, pe, Result.andThen_ok, List.all_cons]
      cases hq : (as.getD j 0 == bs.getD j 0)
      · simp
      · simp; exact ih (fun q hq => hj q (by simp [hq]))
  rw [key 0 (List.range n) (fun j hj => by simpa using hj)]
  congr 1
  rw [Bool.eq_iff_iff]
  simp only [List.all_eq_true, List.mem_range, beq_iff_eq]
  constructor
  · intro h
    apply List.ext_getElem (by omega)
    intro j h1 h2
    have := h j (by omega)
    simpa [List.getD, List.getElem?_eq_getElem h1, List.getElem?_eq_getElem h2] using this
  · rintro rfl j _
    rfl
theorem binF_still (op : BinOp) (t : TypeId) (ox oy : Operand) (x y : PV) (vx vy : Value) (hpre : (binF P op t x y L).pre) (hx : RepV X β w x vx) (hy : RepV X β w y vy) :
    Still P X β w L (do eqGuard op t ox oy vx vy; binOp op t vx vy) (binF P op t x y L) := by
  unfold binF at hpre ⊢
  split at hpre
  · simp only [RepV] at hx hy; subst hx hy
    refine still_lit ?_
    simp only [Sem.run_bind, guard_int, Result.andThen_ok]
    have : ¬ _ < _ := Int.not_lt.2 hpre
    simp [binOp, Op.shift, this]
  · simp only [RepV] at hx hy; subst hx hy
    refine still_lit ?_
    simp only [Sem.run_bind, guard_int, Result.andThen_ok]
    have : ¬ _ < _ := Int.not_lt.2 hpre
    simp [binOp, Op.shift, this]
  · rename_i k a k' b h1 h2
    simp only [RepV] at hx hy; subst hx hy
    obtain ⟨rfl, hpre⟩ := hpre
    have h1' : op ≠ BinOp.shl := fun e => by subst e; simp [binInt] at hpre
    have h2' : op ≠ BinOp.shr := fun e => by subst e; simp [binInt] at hpre
    refine still_lit ?_
    simp only [Sem.run_bind, guard_int, Result.andThen_ok, binInt_run op t k a b hpre h1' h2']
  · rename_i a b
    simp only [RepV] at hx hy; subst hx hy
    refine still_lit ?_
    simp only [Sem.run_bind, guard_str, Result.andThen_ok, binStr_run op t a b hpre]
  · simp only [RepV] at hx hy; subst hx hy
    refine still_lit ?_
    simp only [Option.map_eq_some_iff] at hpre
    obtain ⟨T, hT, hu⟩ := hpre
    have := (tyOf_spec hT).1
    rw [hu] at this
    obtain ⟨d, hd⟩ : ∃ d, Op.maxDepth = d + 1 := ⟨9999, rfl⟩
    simp [guard_bool, binOp, Op.equal, hd, Op.equalIn, run_underlying this]
  · simp only [RepV] at hx hy; subst hx hy
    refine still_lit ?_
    simp only [Option.map_eq_some_iff] at hpre
    obtain ⟨T, hT, hu⟩ := hpre
    have := (tyOf_spec hT).1
    rw [hu] at this
    obtain ⟨d, hd⟩ : ∃ d, Op.maxDepth = d + 1 := ⟨9999, rfl⟩
    simp [guard_bool, binOp, Op.equal, hd, Op.equalIn, run_underlying this]
  · rename_i xs ys
    simp only [RepV] at hx hy
    obtain ⟨vs, rfl, hx⟩ := hx
    obtain ⟨us, rfl, hy⟩ := hy
    split at hpre
    · rename_i n e _ _ _ hT
      split at hpre
      · rename_i k _ _ hE
        try simp only [hT, hE]
        refine still_lit ?_
        obtain ⟨l1, l2, i1, i2⟩ := hpre
        have hu := (tyOf_spec hT).1
        obtain ⟨he, i, hi, hs, _, _⟩ := tyOf_spec hE
        have lx := repL_ints i1 hx
        have ly := repL_ints i2 hy
        have lx' := RepL.length hx
        have ly' := RepL.length hy
        subst lx ly
        simp at lx' ly'
        simp only [Sem.run_bind, guard_arr _ t e n k ox oy _ _ hu he, Result.andThen_ok]
        simp [binOp, equal_ints t e n k i (intsOf xs) (intsOf ys) hu he hi hs (by omega) (by omega)]
      · exact absurd hpre (by simp [OR.bad])
    · exact absurd hpre (by simp [OR.bad])
  · rename_i xs ys
    simp only [RepV] at hx hy
    obtain ⟨vs, rfl, hx⟩ := hx
    obtain ⟨us, rfl, hy⟩ := hy
    split at hpre
    · rename_i n e _ _ _ hT
      split at hpre
      · rename_i k _ _ hE
        try simp only [hT, hE]
        refine still_lit ?_
        obtain ⟨l1, l2, i1, i2⟩ := hpre
        have hu := (tyOf_spec hT).1
        obtain ⟨he, i, hi, hs, _, _⟩ := tyOf_spec hE
        have lx := repL_ints i1 hx
        have ly := repL_ints i2 hy
        have lx' := RepL.length hx
        have ly' := RepL.length hy
        subst lx ly
        simp at lx' ly'
        simp only [Sem.run_bind, guard_arr _ t e n k ox oy _ _ hu he, Result.andThen_ok]
        simp [binOp, equal_ints t e n k i (intsOf xs) (intsOf ys) hu he hi hs (by omega) (by omega)]
      · exact absurd hpre (by simp [OR.bad])
    · exact absurd hpre (by simp [OR.bad])
  · exact absurd hpre (by simp [OR.bad])
theorem unF_still (op : UnOp) (x : PV) (vx : Value) (hpre : (unF op x L).pre) (hx : RepV X β w x vx) : Still P X β w L (Op.unary op vx) (unF op x L) := by
  unfold unF at hpre ⊢
  split at hpre <;> first | (exfalso; simp [OR.bad] at hpre; done) | skip
  all_goals
    simp only [RepV] at hx; subst hx
    refine still_lit ?_
    simp [Op.unary, Op.intArith, Op.intBits]
theorem slc_rep {x : PV} {v : Value} (hpre : (slc L x).1) (hH : RepH X β w L) (hx : RepV X β w x v) :
    ∃ a cap, v = .slice a (slc L x).2.1 cap ∧ (slc L x).2.1 ≤ cap ∧ ((slc L x).2.2 = [] ∨ ∃ b off, a = some ⟨b, off, none⟩ ∧ RepRow X β w b off (slc L x).2.2) := by
  unfold slc at hpre ⊢
  split
  · simp only [RepV] at hx; subst hx
    exact ⟨none, 0, rfl, Nat.le_refl _, .inl rfl⟩
  · simp only [RepV] at hx
    obtain ⟨a, cap, hv, hn, hc⟩ := hx
    refine ⟨a, cap, hv, hn, ?_⟩
    rcases hc with hc | ⟨b, off, ha, _, _, hr⟩
    · exact .inl hc
    · exact .inr ⟨b, off, ha, hr⟩
  · rename_i id off n sz
    simp only at hpre
    cases hL : L[id]? with
    | none => simp [hL] at hpre
    | some le =>
      cases le with
      | dead => simp [hL] at hpre
      | cells cs =>
        simp only [hL] at hpre ⊢
        simp only [RepV] at hx
        obtain ⟨hid, hb, hnil⟩ := hx
        rcases hH.ent id cs hL with ⟨h1, rfl⟩ | ⟨b, base, c, el, h1, h2, h3, h4⟩
        · obtain ⟨rfl, rfl, rfl⟩ := hnil h1
          exact ⟨none, 0, rfl, Nat.le_refl _, .inl (by simp)⟩
        · obtain ⟨cap, hv, hn, _⟩ := hb b base h1
          refine ⟨_, cap, hv, hn, .inr ⟨b, base + off, rfl, ?_⟩⟩
          rw [RepRow.iff] at h4 ⊢
          intro i p hp
          rw [List.getElem?_take] at hp
          split at hp
          · rw [List.getElem?_drop] at hp
            have := h4 (off + i) p hp
            rw [show base + off + i = base + (off + i) by omega]
            exact this
          · cases hp
  · rename_i hne1 hne2 hne3; exfalso; revert hpre; split
    · exact fun _ => hne1 rfl
    · exact fun _ => hne2 _ _ rfl
    · exact fun _ => hne3 _ _ _ _ rfl
    · exact id
theorem row_list {b off : Nat} {ps : List PV} (h : RepRow X β w b off ps) : ∃ vs : List Value, RepL X β w ps vs ∧ vs.length = ps.length ∧ (∀ (j : Nat) v, vs[j]? = some v → w.cell? ((⟨b, off, none⟩ : Addr).add j) = some v) ∧ (∀ v ∈ vs, v.oneCell' = true) := by
  induction ps generalizing off with
  | nil => exact ⟨[], by simp [RepL], rfl, by simp, by simp⟩
  | cons p ps ih =>
    simp only [RepRow] at h
    obtain ⟨⟨v, hv, ho, hr⟩, h2⟩ := h
    obtain ⟨vs, h3, h4, h5, h6⟩ := ih h2
    refine ⟨v :: vs, by simp only [RepL]; exact ⟨v, vs, rfl, hr, h3⟩, by simp [h4], fun j u hu => ?_, by simpa using ⟨ho, h6⟩⟩
    rw [Addr.add_lit]
    cases j with
    | zero => simp at hu; subst hu; simpa using hv
    | succ j =>
      simp at hu
      have := h5 j u hu
      rw [Addr.add_lit] at this
      rw [show off + (j + 1) = off + 1 + j by omega]; exact this
theorem slc_list {x : PV} {v : Value} (hpre : (slc L x).1) (hH : RepH X β w L) (hx : RepV X β w x v) :
    ∃ a cap, v = .slice a (slc L x).2.1 cap ∧ (slc L x).2.1 ≤ cap ∧ ∃ vs : List Value, RepL X β w (slc L x).2.2 vs ∧ vs.length = (slc L x).2.2.length ∧ (∀ v ∈ vs, v.oneCell' = true) ∧
      (vs = [] ∨ ∃ b, a = some b ∧ (∀ (j : Nat) u, vs[j]? = some u → w.cell? (b.add j) = some u)) := by
  obtain ⟨a, cap, hv, hn, hc⟩ := slc_rep hpre hH hx
  refine ⟨a, cap, hv, hn, ?_⟩
  rcases hc with hc | ⟨b, off, ha, hr⟩
  · rw [hc]
    exact ⟨[], by simp [RepL], rfl, by simp, .inl rfl⟩
  · obtain ⟨vs, h1, h2, h3, h4⟩ := row_list hr
    exact ⟨vs, h1, h2, h4, .inr ⟨_, ha, h3⟩⟩
theorem firstCells_run {size n : Nat} {a : Option Addr} {len cap : Nat} {vs : List Value} (hl : vs.length = n * size)
    (h : vs = [] ∨ ∃ b, a = some b ∧ (∀ (j : Nat) u, vs[j]? = some u → w.cell? (b.add j) = some u)) :
    (Builtin.firstCells size n (.slice a len cap)).run P w = .ok vs.toArray w := by
  rcases h with rfl | ⟨b, rfl, h⟩
  · cases a with
    | none => exact run_firstCells_none w size n len cap
    | some b => exact run_firstCells_some w size n b len cap [] hl (by simp)
  · exact run_firstCells_some w size n b len cap vs hl h
theorem repL_bytes : ∀ {ps : List PV} {vs : List Value}, (∀ p ∈ ps, isByte p) → RepL X β w ps vs → ∃ ns : List Int, vs = ns.map (Value.int .u8) ∧ ps.map byteOf = ns.map fun n => UInt8.ofNat n.toNat
  | [], vs, _, h => by simp [RepL] at h; exact ⟨[], by simp [h], by simp⟩
  | p :: r, vs, hi, h => by
    simp only [RepL] at h
    obtain ⟨v, r', rfl, hv, h2⟩ := h
    have hp := hi p (by simp)
    unfold isByte at hp
    split at hp
    · rename_i n
      simp only [RepV] at hv; subst hv
      obtain ⟨ns, h3, h4⟩ := repL_bytes (fun p hp => hi p (by simp [hp])) h2
      exact ⟨n :: ns, by simp [h3], by simp [h4, byteOf]⟩
    · exact hp.elim
theorem bytesToString_run {a : Option Addr} {n cap : Nat} {ns : List Int} (hl : ns.length = n) (h : ns.map (Value.int .u8) = [] ∨ ∃ b, a = some b ∧ (∀ (j : Nat) u, (ns.map (Value.int .u8))[j]? = some u → w.cell? (b.add j) = some u)) :
    (Conv.bytesToString (.slice a n cap)).run P w = .ok (.string ⟨(ns.map fun n => UInt8.ofNat n.toNat).toArray⟩) w := by
  have key : ∀ (ns : List Int) (s : ByteArray), ns.foldl (fun r n => r.push (UInt8.ofNat n.toNat)) s = ⟨s.data ++ (ns.map fun n => UInt8.ofNat n.toNat).toArray⟩ := by
    intro ns
    induction ns with
    | nil => intro s; simp
    | cons n ns ih => intro s; simp only [List.foldl_cons]; rw [ih]; simp [ByteArray.push]
  have he0 : ByteArray.empty.data = #[] := rfl
  rcases h with h | ⟨b, rfl, h⟩
  · have : ns = [] := by simpa using h
    subst this
    simp at hl; subst hl
    cases a with
    | none => simp [Conv.bytesToString]; rfl
    | some a =>
      rw [run_bytesToString w a 0 cap [] (by simp [loadCells, loadCellsFrom])]
      rfl
  · have hc := run_loadCells_list (P := P) w b (ns.map (Value.int .u8)) h
    simp only [List.length_map, hl] at hc
    rw [run_bytesToString w b n cap ns hc, key, he0]
    simp
def Goes (P : Program) (X : Nat → Prop) (β : List Base) (w : World) (L : LH) (draw : Bool) (m : Sem Value) (r : OR) : Prop :=
  ∃ v w' β', m.run P w = .ok v w' ∧ RepV X β' w' r.val v ∧ RepH X β' w' r.L ∧ Grow β β' w w' ∧ (draw = true → β' = β ∧ r.L = L)
theorem Still.goes {m : Sem Value} {r : OR} {draw : Bool} (h : Still P X β w L m r) (hH : RepH X β w L) : Goes P X β w L draw m r := by
  obtain ⟨v, h1, h2, h3⟩ := h
  exact ⟨v, w, β, h1, h2, by rw [h3]; exact hH, Grow.refl β w, fun _ => ⟨rfl, h3⟩⟩
theorem RepH.same {w' : World} (hH : RepH X β w L) (g : Grow β β w w') (hb : ∀ (k : Nat), k < w.heap.size → w'.heap[k]? = w.heap[k]?) : RepH X β w' L where
  len := hH.len
  inj := hH.inj
  lt := fun b hl => Nat.lt_of_lt_of_le (hH.lt b hl) g.size
  out := fun b hx => ⟨Nat.lt_of_lt_of_le (hH.out b hx).1 g.size, (hH.out b hx).2⟩
  ent := fun id cs hL => by
    rcases hH.ent id cs hL with h | ⟨b, base, c, el, h1, h2, h3, h4⟩
    · exact .inl h
    · refine .inr ⟨b, base, c, el, h1, ?_, h3, ?_⟩
      · rw [hb b (hH.lt b ⟨id, base, h1⟩)]; exact h2
      · rw [RepRow.iff] at h4 ⊢
        intro i p hp
        obtain ⟨v, hv, ho, hr⟩ := h4 i p hp
        refine ⟨v, ?_, ho, hr.grow g⟩
        rw [← hv]
        exact World.cell?_of_block (hb b (hH.lt b ⟨id, base, h1⟩))
theorem grow_drew : Grow β β w w.drew := ⟨rfl, rfl, rfl, Nat.le_refl _, fun _ _ _ => rfl, fun k c el fr h => ⟨c, fr, h, rfl⟩, fun _ h => .inl h, Nat.le_refl _, fun _ _ _ h _ => h⟩
theorem heap_old (o : Obj) {k : Nat} (h : k < w.heap.size) : (w.alloc o).heap[k]? = w.heap[k]? := heap_alloc_old w o k h
theorem grow_alloc (o : Obj) : Grow β β w (w.alloc o) :=
  ⟨rfl, rfl, rfl, by simp, fun k hk _ => heap_old o hk, fun k c el fr h => ⟨c, fr, by rw [heap_old o (Array.getElem?_eq_some_iff.1 h).1]; exact h, rfl⟩, fun _ h => .inl h, Nat.le_refl _, fun _ _ _ h _ => h⟩
theorem live_snoc {y : Base} {b : Nat} (h : Live (β ++ [y]) b) : Live β b ∨ ∃ base, y = .blk b base := by
  obtain ⟨id, base, h⟩ := h
  rw [List.getElem?_append] at h
  split at h
  · exact .inl ⟨id, base, h⟩
  · rw [List.getElem?_singleton] at h
    split at h
    · simp at h; exact .inr ⟨base, h⟩
    · cases h
theorem grow_alloc_id (o : Obj) (y : Base) (hy : ∀ b base, y = .blk b base → b = w.heap.size) : Grow β (β ++ [y]) w (w.alloc o) :=
  ⟨rfl, rfl, rfl, by simp, fun k hk _ => heap_old o hk, fun k c el fr h => ⟨c, fr, by rw [heap_old o (Array.getElem?_eq_some_iff.1 h).1]; exact h, rfl⟩,
    fun b hb => by
      rcases live_snoc hb with h | ⟨base, h⟩
      · exact .inl h
      · exact .inr (by rw [hy b base h]; exact Nat.le_refl _),
    by simp, fun id x hid hx _ => by rw [List.getElem?_append_left hid] at hx; exact hx⟩
def Holds (X : Nat → Prop) (β : List Base) (w : World) (c : Array Value) (cs : List PV) : Prop :=
  cs.length ≤ c.size ∧ ∀ (i : Nat) p, cs[i]? = some p → ∃ v, c[i]? = some v ∧ v.oneCell' = true ∧ RepV X β w p v
theorem Holds.grow {β' : List Base} {w' : World} {c : Array Value} {cs : List PV} (h : Holds X β w c cs) (g : Grow β β' w w') : Holds X β' w' c cs :=
  ⟨h.1, fun i p hp => by obtain ⟨v, h1, h2, h3⟩ := h.2 i p hp; exact ⟨v, h1, h2, h3.grow g⟩⟩
theorem Holds.row {c : Array Value} {cs : List PV} {el : TypeId} {fr : Nat × Nat} (h : Holds X β w c cs) {w' : World} {b : Nat} (hw : w'.heap[b]? = some (.cells c el fr)) {β' : List Base} (g : Grow β β' w w') : RepRow X β' w' b 0 cs := by
  rw [RepRow.iff]
  intro i p hp
  obtain ⟨v, h1, h2, h3⟩ := h.2 i p hp
  exact ⟨v, by rw [Nat.zero_add, cell_of_row w' b i c el fr hw]; exact h1, h2, h3.grow g⟩
theorem repH_alloc {c : Array Value} {cs : List PV} {el : TypeId} (hH : RepH X β w L) (h : Holds X β w c cs) :
    RepH X (β ++ [.blk w.heap.size 0]) (w.alloc (.cells c el)) (L ++ [.cells cs]) := by
  have g : Grow β (β ++ [.blk w.heap.size 0]) w (w.alloc (.cells c el)) := grow_alloc_id _ _ (fun b base e => by cases e; rfl)
  refine ⟨by simp [hH.len], ?_, ?_, ?_, ?_⟩
  · intro i j b x y hi hj
    rw [List.getElem?_append] at hi hj
    split at hi <;> split at hj
    · exact hH.inj i j b x y hi hj
    · rw [List.getElem?_singleton] at hj
      split at hj
      · simp at hj
        have := hH.lt b ⟨i, x, hi⟩
        omega
      · cases hj
    · rw [List.getElem?_singleton] at hi
      split at hi
      · simp at hi
        have := hH.lt b ⟨j, y, hj⟩
        omega
      · cases hi
    · rw [List.getElem?_singleton] at hi hj
      split at hi <;> split at hj <;> first | (cases hi; done) | (cases hj; done) | omega
  · intro b hb
    rcases live_snoc hb with h' | ⟨base, h'⟩
    · have := hH.lt b h'; simp; omega
    · cases h'; simp
  · intro b hx
    have := hH.out b hx
    refine ⟨by simp; omega, fun hl => ?_⟩
    rcases live_snoc hl with h' | ⟨base, h'⟩
    · exact this.2 h'
    · cases h'; omega
  · intro id ds hid
    rw [List.getElem?_append] at hid
    split at hid
    · rename_i hlt
      rcases hH.ent id ds hid with ⟨h1, h2⟩ | ⟨b, base, c', el', h1, h2, h3, h4⟩
      · exact .inl ⟨by rw [List.getElem?_append_left (by rw [hH.len]; exact hlt)]; exact h1, h2⟩
      · have hb := hH.lt b ⟨id, base, h1⟩
        refine .inr ⟨b, base, c', el', by rw [List.getElem?_append_left (by rw [hH.len]; exact hlt)]; exact h1, by rw [heap_old _ hb]; exact h2, h3, ?_⟩
        rw [RepRow.iff] at h4 ⊢
        intro i p hp
        obtain ⟨v, hv, ho, hr⟩ := h4 i p hp
        exact ⟨v, by rw [← hv]; exact World.cell?_of_block (heap_old _ hb), ho, hr.grow g⟩
    · rename_i hge
      rw [List.getElem?_singleton] at hid
      split at hid
      · simp at hid
        subst hid
        rename_i h0
        refine .inr ⟨w.heap.size, 0, c, el, ?_, heap_alloc_new w _, by have := h.1; omega, h.row (heap_alloc_new w _) g⟩
        rw [List.getElem?_append_right (by rw [hH.len]; omega)]
        rw [show id - β.length = 0 by rw [hH.len]; omega]
        rfl
      · cases hid
theorem repH_nil {sz : Nat} (hH : RepH X β w L) : RepH X (β ++ [.nil]) w (L ++ [.cells []]) := by
  have hg : ∀ (id b base : Nat), (β ++ [Base.nil])[id]? = some (.blk b base) → β[id]? = some (.blk b base) := by
    intro id b base h
    rw [List.getElem?_append] at h
    split at h
    · exact h
    · rw [List.getElem?_singleton] at h
      split at h <;> cases h
  have hl : ∀ b, Live (β ++ [Base.nil]) b → Live β b := fun b ⟨id, base, h⟩ => ⟨id, base, hg _ _ _ h⟩
  have g : Grow β (β ++ [.nil]) w w := ⟨rfl, rfl, rfl, Nat.le_refl _, fun _ _ _ => rfl, fun k c el fr h => ⟨c, fr, h, rfl⟩, fun b h => .inl (hl b h), by simp, fun id x hid hx _ => by rw [List.getElem?_append_left hid] at hx; exact hx⟩
  refine ⟨by simp [hH.len], fun i j b x y hi hj => hH.inj i j b x y (hg _ _ _ hi) (hg _ _ _ hj), fun b h => hH.lt b (hl b h), fun b hx => ⟨(hH.out b hx).1, fun h => (hH.out b hx).2 (hl b h)⟩, ?_⟩
  intro id ds hid
  rw [List.getElem?_append] at hid
  split at hid
  · rename_i hlt
    rcases hH.ent id ds hid with ⟨h1, h2⟩ | ⟨b, base, c', el', h1, h2, h3, h4⟩
    · exact .inl ⟨by rw [List.getElem?_append_left (by rw [hH.len]; exact hlt)]; exact h1, h2⟩
    · refine .inr ⟨b, base, c', el', by rw [List.getElem?_append_left (by rw [hH.len]; exact hlt)]; exact h1, h2, h3, ?_⟩
      rw [RepRow.iff] at h4 ⊢
      intro i p hp
      obtain ⟨v, hv, ho, hr⟩ := h4 i p hp
      exact ⟨v, hv, ho, hr.grow g⟩
  · rename_i hge
    rw [List.getElem?_singleton] at hid
    split at hid
    · simp at hid
      subst hid
      refine .inl ⟨?_, rfl⟩
      rw [List.getElem?_append_right (by rw [hH.len]; omega)]
      rw [show id - β.length = 0 by rw [hH.len]; omega]
      rfl
    · cases hid
theorem grow_nil : Grow β (β ++ [.nil]) w w :=
  ⟨rfl, rfl, rfl, Nat.le_refl _, fun _ _ _ => rfl, fun k c el fr h => ⟨c, fr, h, rfl⟩, fun b h => (live_snoc h).elim .inl (fun ⟨base, h⟩ => nomatch h), by simp, fun id x hid hx _ => by rw [List.getElem?_append_left hid] at hx; exact hx⟩
theorem fresh_goes {draw : Bool} {m : Sem Value} {c : Array Value} {cs : List PV} {el : TypeId} {n cap sz : Nat} {p : Prop} {w1 : World} (hH : RepH X β w L) (hw : w1 = w ∨ w1 = w.drew)
    (hrun : m.run P w = .ok (.slice (some ⟨w.heap.size, 0, none⟩) n cap) (w1.alloc (.cells c el))) (hn : n ≤ cap) (hc : cap * sz ≤ c.size) (h : Holds X β w c cs) :
    Goes P X β w L draw m ⟨p, (fresh draw n sz cs L).1, (fresh draw n sz cs L).2⟩ := by
  have g1 : Grow β β w w1 := by rcases hw with rfl | rfl; exact Grow.refl _ _; exact grow_drew
  have hb1 : ∀ (k : Nat), k < w.heap.size → w1.heap[k]? = w.heap[k]? := by rcases hw with rfl | rfl <;> exact fun _ _ => rfl
  have hs1 : w1.heap.size = w.heap.size := by rcases hw with rfl | rfl <;> rfl
  have hH1 := hH.same g1 hb1
  have h1 := h.grow g1
  cases draw with
  | false =>
    refine ⟨_, _, β ++ [.blk w1.heap.size 0], hrun, ?_, ?_, g1.trans (grow_alloc_id _ _ (fun b base e => by cases e; rfl)), fun e => by cases e⟩
    · simp only [fresh, RepV]
      refine ⟨by simp [hH.len], fun b base hb => ?_, fun hb => ?_⟩
      · rw [List.getElem?_append_right (by rw [hH.len]; exact Nat.le_refl _)] at hb
        simp [hH.len] at hb
        obtain ⟨rfl, rfl⟩ := hb
        exact ⟨cap, by rw [hs1], hn, c, el, _, heap_alloc_new w1 _, by omega⟩
      · rw [List.getElem?_append_right (by rw [hH.len]; exact Nat.le_refl _)] at hb
        simp [hH.len] at hb
    · exact repH_alloc hH1 h1
  | true =>
    refine ⟨_, _, β, hrun, ?_, ?_, g1.trans (grow_alloc _), fun _ => ⟨rfl, rfl⟩⟩
    · simp only [fresh, RepV]
      refine ⟨_, cap, rfl, hn, .inr ⟨w.heap.size, 0, rfl, fun hx => ?_, fun hl => ?_, ?_⟩⟩
      · have := (hH.out _ hx).1; omega
      · have := hH.lt _ hl; omega
      · rw [← hs1]; exact h1.row (heap_alloc_new w1 _) (grow_alloc _)
    · exact hH1.same (grow_alloc _) (fun k hk => heap_old _ hk)
end Go.Ab
