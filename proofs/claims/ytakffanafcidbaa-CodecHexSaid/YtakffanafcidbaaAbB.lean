import Derived.Test.YtakffanafcidbaaAbA
namespace Go.Ab
open Go Go.RowKit
set_option linter.unusedVariables false
set_option linter.unusedSimpArgs false

structure TI where
  und : TypeDesc
  size : Nat
  bytes : Nat
  zero : Value

/-- What the operations ask of a type. -/
def tyOf (P : Program) (t : TypeId) : Option TI :=
  match P.underlying t, P.info? t with
  | some d, some i => i.zero.map fun z => ⟨d, i.size, i.bytes, z⟩
  | _, _ => none

structure OR where
  pre : Prop
  val : PV
  L : LH

def OR.bad : OR := ⟨False, .any, []⟩

def PV.cells : PV → List PV
  | .agg cs => cs
  | .lit v => v.cells.toList.map .lit
  | p => [p]

def PV.one : PV → Bool
  | .lit v => v.oneCell'
  | .ro _ _ | .rptr _ | .fn _ _ _ => true
  | _ => false

def litInt : PV → Option Int
  | .lit (.int _ n) => some n
  | _ => none

def isByte : PV → Prop
  | .lit (.int .u8 _) => True
  | _ => False
def byteOf : PV → UInt8
  | .lit (.int .u8 n) => UInt8.ofNat n.toNat
  | _ => 0
def bv (b : UInt8) : PV := .lit (.int .u8 b.toNat)

def isAggD : TypeDesc → Bool
  | .struct _ => true
  | .array _ _ => true
  | _ => false

/-- A slice's elements: condition, length, cells. -/
def slc (L : LH) : PV → Prop × Nat × List PV
  | .lit (.slice none 0 0) => (True, 0, [])
  | .ro n cs => (True, n, cs)
  | .own id off n sz => match L[id]? with
    | some (.cells cs) => (off + n * sz ≤ cs.length, n, (cs.drop off).take (n * sz))
    | _ => (False, 0, [])
  | _ => (False, 0, [])

def binInt (op : BinOp) (k : IntKind) (a b : Int) : Prop × Value :=
  match op with
  | .add => (True, .int k (k.wrap (a + b)))
  | .sub => (True, .int k (k.wrap (a - b)))
  | .mul => (True, .int k (k.wrap (a * b)))
  | .quo => (b ≠ 0, .int k (k.wrap (a.tdiv b)))
  | .rem => (b ≠ 0, .int k (a.tmod b))
  | .and => (True, .int k (k.wrap (BitVec.ofInt k.bits a &&& BitVec.ofInt k.bits b).toNat))
  | .or => (True, .int k (k.wrap (BitVec.ofInt k.bits a ||| BitVec.ofInt k.bits b).toNat))
  | .xor => (True, .int k (k.wrap (BitVec.ofInt k.bits a ^^^ BitVec.ofInt k.bits b).toNat))
  | .andNot => (True, .int k (k.wrap (BitVec.ofInt k.bits a &&& ~~~ BitVec.ofInt k.bits b).toNat))
  | .eql => (True, .bool (a == b))
  | .neq => (True, .bool (a != b))
  | .lss => (True, .bool (decide (a < b)))
  | .leq => (True, .bool (decide (a ≤ b)))
  | .gtr => (True, .bool (decide (a > b)))
  | .geq => (True, .bool (decide (a ≥ b)))
  | _ => (False, .bool false)

def binStr (op : BinOp) (a b : ByteArray) : Prop × Value :=
  match op with
  | .add => (((a.size + b.size : Nat) : Int) ≤ IntKind.i64.max, .string (a ++ b))
  | .eql => (True, .bool (a.toList == b.toList))
  | .neq => (True, .bool (!(a.toList == b.toList)))
  | .lss => (True, .bool (Op.bytesLess a.toList b.toList))
  | .leq => (True, .bool (Op.bytesLess a.toList b.toList || a.toList == b.toList))
  | .gtr => (True, .bool (!(Op.bytesLess a.toList b.toList || a.toList == b.toList)))
  | .geq => (True, .bool (!(Op.bytesLess a.toList b.toList)))
  | _ => (False, .bool false)

/-- The numbers of a row of numbers of one kind. -/
def isInts (k : IntKind) : List PV → Prop
  | [] => True
  | .lit (.int k' _) :: r => k' = k ∧ isInts k r
  | _ => False
def intsOf : List PV → List Int
  | [] => []
  | .lit (.int _ n) :: r => n :: intsOf r
  | _ => []

def binF (P : Program) (op : BinOp) (t : TypeId) (x y : PV) (L : LH) : OR :=
  match op, x, y with
  | .shl, .lit (.int k a), .lit (.int _ b) => ⟨0 ≤ b, .lit (.int k (k.wrap (a * 2 ^ (min b.toNat k.bits)))), L⟩
  | .shr, .lit (.int k a), .lit (.int _ b) => ⟨0 ≤ b, .lit (.int k (a.fdiv (2 ^ (min b.toNat k.bits)))), L⟩
  | op, .lit (.int k a), .lit (.int k' b) => ⟨k = k' ∧ (binInt op k a b).1, .lit (binInt op k a b).2, L⟩
  | op, .lit (.string a), .lit (.string b) => ⟨(binStr op a b).1, .lit (binStr op a b).2, L⟩
  | .eql, .lit (.bool a), .lit (.bool b) => ⟨(tyOf P t).map (·.und) = some .bool, .lit (.bool (a == b)), L⟩
  | .neq, .lit (.bool a), .lit (.bool b) => ⟨(tyOf P t).map (·.und) = some .bool, .lit (.bool (!(a == b))), L⟩
  | .eql, .agg xs, .agg ys => match tyOf P t with
    | some ⟨.array n e, _, _, _⟩ => match tyOf P e with
      | some ⟨.int k, 1, _, _⟩ => ⟨xs.length = n ∧ ys.length = n ∧ isInts k xs ∧ isInts k ys, .lit (.bool (intsOf xs == intsOf ys)), L⟩
      | _ => .bad
    | _ => .bad
  | .neq, .agg xs, .agg ys => match tyOf P t with
    | some ⟨.array n e, _, _, _⟩ => match tyOf P e with
      | some ⟨.int k, 1, _, _⟩ => ⟨xs.length = n ∧ ys.length = n ∧ isInts k xs ∧ isInts k ys, .lit (.bool (!(intsOf xs == intsOf ys))), L⟩
      | _ => .bad
    | _ => .bad
  | _, _, _ => .bad

def unF (op : UnOp) (x : PV) (L : LH) : OR :=
  match op, x with
  | .neg, .lit (.int k n) => ⟨True, .lit (.int k (k.wrap (0 - n))), L⟩
  | .xor, .lit (.int k n) => ⟨True, .lit (.int k (k.wrap (BitVec.ofInt k.bits (if k.signed then -1 else k.max) ^^^ BitVec.ofInt k.bits n).toNat)), L⟩
  | .not, .lit (.bool b) => ⟨True, .lit (.bool !b), L⟩
  | _, _ => .bad

def convF (P : Program) (src dst : TypeId) (x : PV) (L : LH) : OR :=
  match tyOf P src, tyOf P dst with
  | some S, some D => match S.und, D.und, x with
    | _, .int k, .lit (.int _ n) => ⟨True, .lit (.int k (k.wrap n)), L⟩
    | .string, .string, .lit (.string s) => ⟨True, .lit (.string s), L⟩
    | .slice e, .string, x => match tyOf P e with
      | some ⟨.int .u8, 1, _, _⟩ => ⟨(slc L x).1 ∧ (slc L x).2.2.length = (slc L x).2.1 ∧ (∀ p ∈ (slc L x).2.2, isByte p), .lit (.string ⟨((slc L x).2.2.map byteOf).toArray⟩), L⟩
      | _ => .bad
    | .string, .slice e, .lit (.string s) => match tyOf P e with
      | some ⟨.int .u8, 1, _, _⟩ => ⟨True, .ro s.size (s.data.toList.map bv), L⟩
      | _ => .bad
    | _, _, _ => .bad
  | _, _ => .bad

def lenF (P : Program) (t : TypeId) (x : PV) (L : LH) : OR :=
  match tyOf P t with
  | some T => match T.und, x with
    | .string, .lit (.string s) => ⟨True, .lit (.int .i64 s.size), L⟩
    | .slice _, .lit (.slice _ n _) => ⟨True, .lit (.int .i64 n), L⟩
    | .slice _, .ro n _ => ⟨True, .lit (.int .i64 n), L⟩
    | .slice _, .own id _ n _ => match L[id]? with
      | some (.cells _) => ⟨True, .lit (.int .i64 n), L⟩
      | _ => .bad
    | .array n _, _ => ⟨True, .lit (.int .i64 n), L⟩
    | _, _ => .bad
  | none => .bad

def capF (P : Program) (t : TypeId) (x : PV) (L : LH) : OR :=
  match tyOf P t with
  | some T => match T.und, x with
    | .slice _, .lit (.slice _ _ c) => ⟨True, .lit (.int .i64 c), L⟩
    | .array n _, _ => ⟨True, .lit (.int .i64 n), L⟩
    | _, _ => .bad
  | none => .bad

/-- A new row: the call's own, or, where the order is drawn, one that is only read. -/
def fresh (draw : Bool) (n sz : Nat) (cells : List PV) (L : LH) : PV × LH :=
  if draw then (.ro n cells, L) else (.own L.length 0 n sz, L ++ [.cells cells])

def rep (n : Nat) (z : Value) : List PV := (List.replicate n (z.cells.toList.map PV.lit)).flatten

def makeF (P : Program) (draw : Bool) (t : TypeId) (l c : PV) (L : LH) : OR :=
  match tyOf P t with
  | some ⟨.slice e, _, _, _⟩ => match tyOf P e, l, c with
    | some E, .lit (.int _ l), .lit (.int _ c) =>
      ⟨0 ≤ l ∧ l ≤ c ∧ E.bytes * c ≤ 281474976710656 ∧ c ≤ 9223372036854775807 ∧ E.zero.cells.size = E.size ∧ (∀ v ∈ E.zero.cells.toList, v.oneCell' = true), (fresh draw l.toNat E.size (rep l.toNat E.zero) L).1, (fresh draw l.toNat E.size (rep l.toNat E.zero) L).2⟩
    | _, _, _ => .bad
  | _ => .bad

/-- What an append puts behind: condition, number of elements, cells. -/
def news (P : Program) (E : TI) (t2 : TypeId) (x : PV) (L : LH) : Prop × Nat × List PV :=
  match tyOf P t2 with
  | some ⟨.int _, _, _, _⟩ => match x with
    | .lit (.int _ m) => (0 ≤ m ∧ m ≤ 9223372036854775807 ∧ m * E.bytes ≤ 281474976710656 ∧ E.zero.cells.size = E.size ∧ (∀ v ∈ E.zero.cells.toList, v.oneCell' = true), m.toNat, rep m.toNat E.zero)
    | _ => (False, 0, [])
  | some ⟨.slice _, _, _, _⟩ => ((slc L x).1 ∧ (slc L x).2.2.length = (slc L x).2.1 * E.size, (slc L x).2)
  | some ⟨.string, _, _, _⟩ => match x with
    | .lit (.string s) => (E.size = 1, s.size, s.data.toList.map bv)
    | _ => (False, 0, [])
  | _ => (False, 0, [])

def kill (L : LH) (x : PV) : LH :=
  match x with
  | .own id _ _ _ => L.set id .dead
  | _ => L

def appF (P : Program) (draw : Bool) (t t2 : TypeId) (s x : PV) (L : LH) : OR :=
  match tyOf P t with
  | some ⟨.slice e, _, _, _⟩ => match tyOf P e with
    | some E =>
      let N := news P E t2 x L
      match s with
      | .lit (.slice none 0 0) => let f := fresh draw N.2.1 E.size N.2.2 L
        ⟨0 < E.size ∧ E.zero.cells.size = E.size ∧ N.1 ∧ N.2.1 * E.bytes ≤ 140737488355328 ∧ N.2.1 ≤ 4611686018427387904, f.1, f.2⟩
      | .own id off n sz => match draw with
        | true => .bad
        | false =>
          ⟨0 < E.size ∧ E.zero.cells.size = E.size ∧ sz = E.size ∧ (slc L s).1 ∧ N.1 ∧ (n + N.2.1) * E.bytes ≤ 140737488355328 ∧ n + N.2.1 ≤ 4611686018427387904,
            .own L.length 0 (n + N.2.1) E.size, kill L s ++ [.cells ((slc L s).2.2 ++ N.2.2)]⟩
      | _ => .bad
    | none => .bad
  | _ => .bad

def ints? : Option PV → Int → Option Int
  | none, d => some d
  | some (.lit (.int _ n)), _ => some n
  | _, _ => none

def sliceF (P : Program) (t : TypeId) (x : PV) (lo hi mx : Option PV) (L : LH) : OR :=
  match tyOf P t, mx with
  | some ⟨.slice e, _, _, _⟩, none => match tyOf P e, x with
    | some E, .lit (.slice none 0 0) => match ints? lo 0, ints? hi 0 with
      | some l, some h => ⟨l = 0 ∧ h = 0, .lit (.slice none 0 0), L⟩
      | _, _ => .bad
    | some E, .ro n cs => match ints? lo 0, ints? hi n with
      | some l, some h => ⟨0 ≤ l ∧ l ≤ h ∧ h ≤ n ∧ cs.length = n * E.size, .ro (h - l).toNat ((cs.drop (l.toNat * E.size)).take ((h - l).toNat * E.size)), L⟩
      | _, _ => .bad
    | some E, .own id off n sz => match ints? lo 0, ints? hi n, L[id]? with
      | some l, some h, some (.cells _) => ⟨0 ≤ l ∧ l ≤ h ∧ h ≤ n ∧ sz = E.size ∧ (l = 0 ∨ l < h), .own id (off + l.toNat * E.size) (h - l).toNat sz, L⟩
      | _, _, _ => .bad
    | _, _ => .bad
  | some ⟨.array n e, _, _, _⟩, none => match tyOf P e, x, ints? lo 0, ints? hi n with
    | some E, .ptr id off, some l, some h => match L[id]? with
      | some (.cells cs) => ⟨0 ≤ l ∧ l ≤ h ∧ h ≤ n ∧ (l = 0 ∨ l < h) ∧ off + n * E.size ≤ cs.length, .own id (off + l.toNat * E.size) (h - l).toNat E.size, L⟩
      | _ => .bad
    | _, _, _, _ => .bad
  | some ⟨.string, _, _, _⟩, none => match x with
    | .lit (.string s) => match ints? lo 0, ints? hi s.size with
      | some l, some h => ⟨0 ≤ l ∧ l ≤ h ∧ h ≤ s.size, .lit (.string (s.extract l.toNat h.toNat)), L⟩
      | _, _ => .bad
    | _ => .bad
  | _, _ => .bad

def elemAt (E : TI) (cs : List PV) (i : Nat) : List PV :=
  if E.size = 1 then [cs.getD i (.lit E.zero)] else (cs.drop (i * E.size)).take E.size

def indexAddrF (P : Program) (t : TypeId) (x i : PV) (L : LH) : OR :=
  match i with
  | .lit (.int _ i) => match tyOf P t with
    | some ⟨.slice e, _, _, _⟩ => match tyOf P e, x with
      | some E, .ro n cs => ⟨0 ≤ i ∧ i < n ∧ cs.length = n * E.size ∧ 0 < E.size, .rptr (elemAt E cs i.toNat), L⟩
      | some E, .own id off n sz => match L[id]? with
        | some (.cells _) => ⟨0 ≤ i ∧ i < n ∧ sz = E.size, .ptr id (off + i.toNat * E.size), L⟩
        | _ => .bad
      | _, _ => .bad
    | some ⟨.array n e, _, _, _⟩ => match tyOf P e, x with
      | some E, .ptr id off => match L[id]? with
        | some (.cells _) => ⟨0 ≤ i ∧ i < n, .ptr id (off + i.toNat * E.size), L⟩
        | _ => .bad
      | some E, .rptr cs => ⟨0 ≤ i ∧ i < n ∧ cs.length = n * E.size ∧ 0 < E.size, .rptr (elemAt E cs i.toNat), L⟩
      | _, _ => .bad
    | _ => .bad
  | _ => .bad

/-- What stands at a place: one cell, or a part of a struct or an array. -/
def partF (T : TI) (cs : List PV) (off : Nat) : Prop × PV :=
  if isAggD T.und then (off + T.size ≤ cs.length, .agg ((cs.drop off).take T.size))
  else (off < cs.length, cs.getD off (.lit T.zero))

def loadF (P : Program) (t : TypeId) (a : PV) (L : LH) : OR :=
  match tyOf P t with
  | some T => match a with
    | .ptr id off => match L[id]? with
      | some (.cells cs) => ⟨(partF T cs off).1, (partF T cs off).2, L⟩
      | _ => .bad
    | .rptr cs => ⟨(partF T cs 0).1, (partF T cs 0).2, L⟩
    | _ => .bad
  | none => .bad

def splice (cs : List PV) (off : Nat) (vs : List PV) : List PV :=
  match vs with
  | [v] => cs.set off v
  | vs => cs.take off ++ vs ++ cs.drop (off + vs.length)

def storeF (P : Program) (draw : Bool) (t : TypeId) (a v : PV) (L : LH) : OR :=
  match tyOf P t, draw with
  | some T, false => match a with
    | .ptr id off => match L[id]? with
      | some (.cells cs) => ⟨v.cells.length = T.size ∧ off + T.size ≤ cs.length ∧ v.cells.all PV.one = true, .lit undef, L.set id (.cells (splice cs off v.cells))⟩
      | _ => .bad
    | _ => .bad
  | _, _ => .bad

def boxF (draw : Bool) (v : PV) (L : LH) : OR :=
  match draw with
  | false => ⟨v.cells.all PV.one = true, .ptr L.length 0, L ++ [.cells v.cells]⟩
  | true => .bad

def allocF (P : Program) (draw : Bool) (t : TypeId) (L : LH) : OR :=
  match tyOf P t, draw with
  | some T, false => ⟨(∀ v ∈ T.zero.cells.toList, v.oneCell' = true), .ptr L.length 0, L ++ [.cells (T.zero.cells.toList.map .lit)]⟩
  | _, _ => .bad

def fillA (size : Nat) (place : Nat → Option Nat) (cs : List PV) : List (Nat × PV) → Option (List PV)
  | [] => some cs
  | (i, p) :: r => match place i with
    | some off => if p.cells.length = size ∧ off + size ≤ cs.length then fillA size place (splice cs off p.cells) r else none
    | none => none

def buildSliceF (P : Program) (draw : Bool) (t : TypeId) (len : Nat) (parts : List (Nat × PV)) (L : LH) : OR :=
  match tyOf P t with
  | some ⟨.slice e, _, _, _⟩ => match tyOf P e with
    | some E => match fillA E.size (fun i => some (i * E.size)) (rep len E.zero) parts with
      | some cs => ⟨len * E.size ≤ 16777216 ∧ 0 < len * E.size ∧ E.zero.cells.size = E.size ∧ (∀ v ∈ E.zero.cells.toList, v.oneCell' = true) ∧ parts.all (fun x => x.2.cells.all PV.one) = true ∧ cs.all PV.one = true, (fresh draw len E.size cs L).1, (fresh draw len E.size cs L).2⟩
      | none => .bad
    | none => .bad
  | _ => .bad

def fieldF (P : Program) (t : TypeId) (x : PV) (f : Nat) (L : LH) : OR :=
  match tyOf P t with
  | some ⟨.struct fs, _, _, _⟩ => match fs[f]? with
    | some fd => match tyOf P fd.type with
      | some T => match x with
        | .agg cs => ⟨(partF T cs fd.offset).1, (partF T cs fd.offset).2, L⟩
        | _ => .bad
      | none => .bad
    | none => .bad
  | _ => .bad

def indexF (P : Program) (t : TypeId) (x i : PV) (L : LH) : OR :=
  match i with
  | .lit (.int _ i) => match tyOf P t with
    | some ⟨.string, _, _, _⟩ => match x with
      | .lit (.string s) => ⟨0 ≤ i ∧ i < s.size, bv (s.data.toList.getD i.toNat 0), L⟩
      | _ => .bad
    | some ⟨.array n e, _, _, _⟩ => match tyOf P e, x with
      | some E, .agg cs => ⟨0 ≤ i ∧ i < n ∧ (partF E cs (i.toNat * E.size)).1, (partF E cs (i.toNat * E.size)).2, L⟩
      | _, _ => .bad
    | _ => .bad
  | _ => .bad

def extractF (x : PV) (i : Nat) (L : LH) : OR :=
  match x with
  | .tup vs => match vs[i]? with
    | some p => ⟨True, p, L⟩
    | none => .bad
  | _ => .bad

def copyF (P : Program) (draw : Bool) (t : TypeId) (d s : PV) (L : LH) : OR :=
  match tyOf P t with
  | some ⟨.slice e, _, _, _⟩ => match tyOf P e, d, draw with
    | some E, .own id off n sz, false => match L[id]? with
      | some (.cells cs) =>
        let m := min (slc L s).2.1 n
        ⟨(slc L s).1 ∧ sz = E.size ∧ (slc L s).2.2.length = (slc L s).2.1 * E.size ∧ off + n * sz ≤ cs.length,
          .lit (.int .i64 m), L.set id (.cells (cs.take off ++ (slc L s).2.2.take (m * E.size) ++ cs.drop (off + m * E.size)))⟩
      | _ => .bad
    | _, _, _ => .bad
  | _ => .bad

end Go.Ab
