import Derived.Test.YtaofjdaclnagnaaME
import Derived.Test.YtaofjdaclnagnaaMC
namespace Go.Ab
open Go Go.RowKit
set_option linter.unusedVariables false
set_option linter.unusedSimpArgs false
variable {P : Program} {Γ : Con} {L L' : LH} {env : Env}
abbrev W := BitVec 32
def uw (x : W) : PV := .lit (.int .u32 (x.toNat : Int))
def wOf : PV → W
  | .lit (.int _ z) => BitVec.ofInt 32 z
  | _ => 0
theorem wOf_uw (x : W) : wOf (uw x) = x := by
  simp only [wOf, uw, BitVec.ofInt_natCast, BitVec.ofNat_toNat, BitVec.setWidth_eq]
theorem closed_uw (x : W) : closed (uw x) = true := rfl
theorem flat_uw (x : W) : flat (uw x) = true := rfl
section
variable {t : TypeId} {a b : W}
theorem wrapW (z : Int) : IntKind.u32.wrap z = z % 4294967296 := by simp [IntKind.wrap, IntKind.bits, IntKind.signed]
theorem bitsW (a : W) : BitVec.ofInt IntKind.u32.bits (a.toNat : Int) = a := by
  show BitVec.ofInt 32 (a.toNat : Int) = a
  rw [BitVec.ofInt_natCast, BitVec.ofNat_toNat, BitVec.setWidth_eq]
theorem ltW (a : W) : a.toNat < 4294967296 := a.isLt
theorem wrapW_nat (n : W) : IntKind.u32.wrap (n.toNat : Int) = n.toNat := by
  have := ltW n
  rw [wrapW]; omega
theorem or_uw : binF P .or t (uw a) (uw b) L = ⟨True, uw (a ||| b), L⟩ := by
  simp only [uw, binF_or, OR.mk.injEq, PV.lit.injEq, Value.int.injEq, true_and, and_true]
  rw [bitsW, bitsW]; exact wrapW_nat (a ||| b)
theorem not_uw : unF .xor (uw a) L = ⟨True, uw (~~~ a), L⟩ := by
  simp only [uw, unF, OR.mk.injEq, PV.lit.injEq, Value.int.injEq, true_and, and_true]
  have e : (BitVec.ofInt IntKind.u32.bits (if IntKind.u32.signed = true then -1 else IntKind.u32.max) ^^^ BitVec.ofInt IntKind.u32.bits (a.toNat : Int)).toNat = (~~~ a).toNat := by
    show (BitVec.ofInt 32 (if IntKind.u32.signed = true then -1 else IntKind.u32.max) ^^^ BitVec.ofInt 32 (a.toNat : Int)).toNat = _
    have hm : BitVec.ofInt 32 (if IntKind.u32.signed = true then -1 else IntKind.u32.max) = BitVec.allOnes 32 := by decide
    rw [hm, BitVec.allOnes_xor, BitVec.ofInt_natCast, BitVec.ofNat_toNat, BitVec.setWidth_eq]
  rw [e]
  exact wrapW_nat (~~~ a)
theorem shl_uwz {k : IntKind} {z : Int} : binF P .shl t (uw a) (.lit (.int k z)) L = ⟨0 ≤ z, uw (a <<< z.toNat), L⟩ := by
  simp only [uw, binF_shl, IntKind.bits, wrapW, OR.mk.injEq, PV.lit.injEq, Value.int.injEq, true_and, and_true]
  rw [BitVec.toNat_shiftLeft, Nat.shiftLeft_eq]
  have e : (a.toNat : Int) * 2 ^ min z.toNat 32 = ((a.toNat * 2 ^ min z.toNat 32 : Nat) : Int) := by simp
  rw [e]
  have h : a.toNat * 2 ^ min z.toNat 32 % 2 ^ 32 = a.toNat * 2 ^ z.toNat % 2 ^ 32 := by
    by_cases hb : z.toNat ≤ 32
    · rw [Nat.min_eq_left hb]
    · rw [Nat.min_eq_right (by omega)]
      have h2 : z.toNat = 32 + (z.toNat - 32) := by omega
      rw [h2, Nat.pow_add, ← Nat.mul_assoc, Nat.mul_mod_left, Nat.mul_right_comm, Nat.mul_mod_left]
  have e32 : (2 : Nat) ^ 32 = 4294967296 := by decide
  rw [← h, e32]
  omega
theorem shl_uw {n : Nat} : binF P .shl t (uw a) (ul n) L = ⟨True, uw (a <<< (n % 18446744073709551616)), L⟩ := by
  have := shl_uwz (P := P) (L := L) (t := t) (a := a) (k := .u64) (z := ((n % 18446744073709551616 : Nat) : Int))
  rw [show ul n = .lit (.int .u64 ((n % 18446744073709551616 : Nat) : Int)) from rfl, this]
  simp only [Int.toNat_natCast, OR.mk.injEq, and_true, eq_iff_iff, iff_true]
  omega
def bw (x : UInt8) : W := BitVec.ofNat 32 x.toNat
def wb (x : W) : UInt8 := UInt8.ofNat x.toNat
theorem conv_bw {s d s1 b1 s2 b2 : Nat} {z1 z2 : Value} {x : UInt8} (h1 : tyOf P s = some ⟨.int .u8, s1, b1, z1⟩) (h2 : tyOf P d = some ⟨.int .u32, s2, b2, z2⟩) : convF P s d (bv x) L = ⟨True, uw (bw x), L⟩ := by
  rw [bv, conv_int h1 h2]
  simp only [uw, bw, OR.mk.injEq, PV.lit.injEq, Value.int.injEq, true_and, and_true, wrapW, BitVec.toNat_ofNat]
  have := x.toNat_lt
  omega
theorem conv_nat {s d s1 b1 s2 b2 : Nat} {z1 z2 : Value} {n : Nat} (h1 : tyOf P s = some ⟨.int .i64, s1, b1, z1⟩) (h2 : tyOf P d = some ⟨.int .u64, s2, b2, z2⟩) : convF P s d (.lit (.int .i64 (n : Int))) L = ⟨True, ul n, L⟩ := by
  rw [conv_int h1 h2]
  simp only [ul, OR.mk.injEq, PV.lit.injEq, Value.int.injEq, true_and, and_true, wrapU]
  omega
end
def wr (l : List W) : List PV := l.map uw
theorem closedL_wr (l : List W) : closedL (wr l) = true := by
  rw [closedL_iff]; intro p hp; simp only [wr, List.mem_map] at hp; obtain ⟨i, _, rfl⟩ := hp; rfl
theorem flatL_wr (l : List W) : flatL (wr l) = true := by
  rw [flatL_iff]; intro p hp; simp only [wr, List.mem_map] at hp; obtain ⟨i, _, rfl⟩ := hp; rfl
theorem isInts_bs (l : List UInt8) : isInts .u8 (l.map bv) := by
  induction l with
  | nil => trivial
  | cons i l ih => exact ⟨rfl, ih⟩
theorem eql_bs {n t e s1 b1 b2 : Nat} {z1 z2 : Value} (l : List UInt8) (hl : l.length = n) (ht : tyOf P t = some ⟨.array n e, s1, b1, z1⟩) (he : tyOf P e = some ⟨.int .u8, 1, b2, z2⟩) :
    binF P .eql t (.agg (l.map bv)) (.agg (l.map bv)) L = ⟨True, .lit (.bool true), L⟩ := by
  simp only [binF, ht, he, List.length_map, hl, isInts_bs, and_self, beq_self_eq_true]
structure S8 where
  a : W
  b : W
  c : W
  d : W
  e : W
  f : W
  g : W
  h : W
def S8.l (s : S8) : List W := [s.a, s.b, s.c, s.d, s.e, s.f, s.g, s.h]
def sv (s : S8) : PV := .agg (wr s.l)
def isS (p : PV) : Prop := ∃ s, p = sv s
def sOf : PV → S8
  | .agg [a, b, c, d, e, f, g, h] => ⟨wOf a, wOf b, wOf c, wOf d, wOf e, wOf f, wOf g, wOf h⟩
  | _ => ⟨0, 0, 0, 0, 0, 0, 0, 0⟩
theorem isS_sv (s : S8) : isS (sv s) ↔ True := by simp only [iff_true]; exact ⟨s, rfl⟩
theorem sOf_sv (s : S8) : sOf (sv s) = s := by
  simp only [sOf, sv, wr, S8.l, List.map_cons, List.map_nil, wOf_uw]
theorem closed_sv (s : S8) : closed (sv s) = true := closedL_wr _
def kk : List W := [0x428a2f98, 0x71374491, 0xb5c0fbcf, 0xe9b5dba5, 0x3956c25b, 0x59f111f1, 0x923f82a4, 0xab1c5ed5,
  0xd807aa98, 0x12835b01, 0x243185be, 0x550c7dc3, 0x72be5d74, 0x80deb1fe, 0x9bdc06a7, 0xc19bf174,
  0xe49b69c1, 0xefbe4786, 0x0fc19dc6, 0x240ca1cc, 0x2de92c6f, 0x4a7484aa, 0x5cb0a9dc, 0x76f988da,
  0x983e5152, 0xa831c66d, 0xb00327c8, 0xbf597fc7, 0xc6e00bf3, 0xd5a79147, 0x06ca6351, 0x14292967,
  0x27b70a85, 0x2e1b2138, 0x4d2c6dfc, 0x53380d13, 0x650a7354, 0x766a0abb, 0x81c2c92e, 0x92722c85,
  0xa2bfe8a1, 0xa81a664b, 0xc24b8b70, 0xc76c51a3, 0xd192e819, 0xd6990624, 0xf40e3585, 0x106aa070,
  0x19a4c116, 0x1e376c08, 0x2748774c, 0x34b0bcb5, 0x391c0cb3, 0x4ed8aa4a, 0x5b9cca4f, 0x682e6ff3,
  0x748f82ee, 0x78a5636f, 0x84c87814, 0x8cc70208, 0x90befffa, 0xa4506ceb, 0xbef9a3f7, 0xc67178f2]
def init8 : S8 := ⟨0x6a09e667, 0xbb67ae85, 0x3c6ef372, 0xa54ff53a, 0x510e527f, 0x9b05688c, 0x1f83d9ab, 0x5be0cd19⟩
def rotr (x : W) (n : Nat) : W := x <<< (32 - n) ||| x >>> n
def word (b : List UInt8) (i : Nat) : W := bw (b.getD (4 * i) 0) <<< 24 ||| bw (b.getD (4 * i + 1) 0) <<< 16 ||| bw (b.getD (4 * i + 2) 0) <<< 8 ||| bw (b.getD (4 * i + 3) 0)
def fill {α : Type} (n : Nat) (z : α) (f : Nat → α) (i : Nat) : List α := (List.range n).map fun j => if j < i then f j else z
theorem len_fill {α : Type} (n : Nat) (z : α) (f : Nat → α) (i : Nat) : (fill n z f i).length = n := by simp [fill]
theorem fill_zero {α : Type} (n : Nat) (z : α) (f : Nat → α) : List.replicate n z = fill n z f 0 := by
  apply List.ext_getElem (by simp [fill])
  intro k h1 h2
  simp [fill]
theorem fill_set {α : Type} {n i : Nat} {z : α} {f : Nat → α} (h : i < n) : (fill n z f i).set i (f i) = fill n z f (i + 1) := by
  apply List.ext_getElem (by simp [fill])
  intro k h1 h2
  have hk : k < n := by simpa [fill] using h2
  rw [List.getElem_set]
  split
  · rename_i e; subst e
    simp [fill]
  · rename_i e
    simp only [fill, List.getElem_map, List.getElem_range]
    by_cases c : k < i
    · rw [if_pos c, if_pos (by omega)]
    · rw [if_neg c, if_neg (by omega)]
theorem fill_all {α : Type} (n : Nat) (z : α) (f : Nat → α) : fill n z f n = (List.range n).map f := by
  apply List.map_congr_left
  intro j hj
  rw [if_pos (by simpa using hj)]
def sig0 (x : W) : W := rotr x 7 ^^^ rotr x 18 ^^^ x >>> 3
def sig1 (x : W) : W := rotr x 17 ^^^ rotr x 19 ^^^ x >>> 10
def ext (l : List W) : Nat → List W
  | 0 => l
  | t + 1 => (ext l t).set (16 + t) ((ext l t).getD t 0 + sig0 ((ext l t).getD (t + 1) 0) + (ext l t).getD (t + 9) 0 + sig1 ((ext l t).getD (t + 14) 0))
def sched (b : List UInt8) : List W := ext (fill 64 0 (word b) 16) 48
def rnd (k w : W) (s : S8) : S8 :=
  let t1 := s.h + (rotr s.e 6 ^^^ rotr s.e 11 ^^^ rotr s.e 25) + (s.e &&& s.f ^^^ ~~~ s.e &&& s.g) + k + w
  let t2 := (rotr s.a 2 ^^^ rotr s.a 13 ^^^ rotr s.a 22) + (s.a &&& s.b ^^^ s.a &&& s.c ^^^ s.b &&& s.c)
  ⟨t1 + t2, s.a, s.b, s.c, s.d + t1, s.e, s.f, s.g⟩
def rnds (w : List W) (s : S8) : Nat → S8
  | 0 => s
  | t + 1 => rnd (kk.getD t 0) (w.getD t 0) (rnds w s t)
def add8 (s r : S8) : S8 := ⟨s.a + r.a, s.b + r.b, s.c + r.c, s.d + r.d, s.e + r.e, s.f + r.f, s.g + r.g, s.h + r.h⟩
def compress (s : S8) (b : List UInt8) : S8 := add8 s (rnds (sched b) s 64)
def absorb : Nat → S8 → List UInt8 → S8
  | 0, s, _ => s
  | n + 1, s, b => absorb n (compress s (b.take 64)) (b.drop 64)
def dbyte (s : S8) (i : Nat) : UInt8 := wb (s.l.getD (i / 4) 0 >>> (8 * (3 - i % 4)))
def dig (s : S8) : List UInt8 := (List.range 32).map (dbyte s)
def be8 (n : Nat) : List UInt8 := (List.range 8).map fun i => UInt8.ofNat (n / 2 ^ (8 * (7 - i)))
def padz (n : Nat) : Nat := (55 + (64 - n % 64)) % 64
def pad (n : Nat) : List UInt8 := 128 :: List.replicate (padz n) 0 ++ be8 (8 * n % 18446744073709551616)
def msg (b : List UInt8) : List UInt8 := b ++ pad b.length
def sum (b : List UInt8) : List UInt8 := dig (absorb ((msg b).length / 64) init8 (msg b))
def sGrow : List PV → Prop × PV
  | [.lit (.slice none 0 0), .lit (.int .i64 n)] => (0 ≤ n ∧ n ≤ 140737488355328, .new 0 1 [])
  | _ => (False, .any)
end Go.Ab
namespace Go.Ab
open Go Go.RowKit
set_option linter.unusedVariables false
set_option linter.unusedSimpArgs false
theorem splice_all {cs vs : List PV} (h : cs.length = vs.length) : splice cs 0 vs = vs := by
  unfold splice
  split
  · rename_i v
    match cs, h with
    | [c], _ => rfl
  · rw [List.take_zero, List.nil_append, Nat.zero_add, List.drop_eq_nil_of_le (by omega), List.append_nil]
theorem splice_b {a b : List UInt8} (h : a.length = b.length) : splice (a.map bv) 0 (b.map bv) = b.map bv := splice_all (by simpa using h)
theorem take_bs {l : List UInt8} {n : Nat} (h : l.length ≤ n) : (l.map bv).take n = l.map bv := List.take_of_length_le (by simpa using h)
theorem bs_congr {a b : List UInt8} (h : a = b) : a.map bv = b.map bv := by rw [h]
theorem ge0 (n : Nat) : (0 ≤ (n : Int)) = True := by simp
def byB (b : List UInt8) : Nat → List W
  | 0 => List.replicate 64 0
  | i + 1 => (byB b i).set (i / 4) ((byB b i).getD (i / 4) 0 <<< 8 ||| bw (b.getD i 0))
theorem four (x0 x1 x2 x3 : UInt8) : (((((0 : W) <<< 8 ||| bw x0) <<< 8 ||| bw x1) <<< 8 ||| bw x2) <<< 8 ||| bw x3) = bw x0 <<< 24 ||| bw x1 <<< 16 ||| bw x2 <<< 8 ||| bw x3 := by
  simp only [BitVec.shiftLeft_or_distrib, ← BitVec.shiftLeft_add, Nat.reduceAdd]
  have e : ∀ x : W, (0 : W) <<< 32 ||| x = x := fun x => by
    rw [show (0 : W) <<< 32 = 0#32 by decide, BitVec.zero_or]
  rw [e]
end Go.Ab
namespace Go.Ab
open Go Go.RowKit
set_option linter.unusedVariables false
set_option linter.unusedSimpArgs false
end Go.Ab
namespace Go.Ab
open Go Go.RowKit
set_option linter.unusedVariables false
set_option linter.unusedSimpArgs false
def mix {α : Type} (n : Nat) (g f : Nat → α) (i : Nat) : List α := (List.range n).map fun j => if j < i then f j else g j
def addI (s r : S8) (i : Nat) : List W := mix 8 (fun j => s.l.getD j 0) (fun j => s.l.getD j 0 + r.l.getD j 0) i
end Go.Ab
namespace Go.Ab
set_option linter.unusedVariables false
set_option linter.unusedSimpArgs false
def padI (n i : Nat) : List UInt8 := 128 :: List.replicate (padz n) 0 ++ (be8 (8 * n % 18446744073709551616)).take i
attribute [irreducible] padI sched rnds ext fill byB mix addI compress absorb dig sum pad msg padz be8 dbyte word
end Go.Ab
