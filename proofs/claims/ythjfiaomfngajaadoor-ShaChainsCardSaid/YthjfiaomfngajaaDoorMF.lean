import Derived.Test.YthjfiaomfngajaaDoorME
import Derived.Test.YthjfiaomfngajaaDoorMC
namespace Go.Ab
open Go Go.RowKit
set_option linter.unusedVariables false
set_option linter.unusedSimpArgs false
variable {P : Program} {Γ : Con} {L L' : LH} {env : Env}
abbrev W := BitVec 32
def uw (x : W) : PV := .lit (.int .u32 (x.toNat : Int))
def wOf : PV → W
  | .lit (.int _ z) => BitVec.ofInt 32 z
  | _ => 0
def isW32 (p : PV) : Prop := ∃ x, p = uw x
theorem isW32_uw (x : W) : isW32 (uw x) ↔ True := by simp only [iff_true]; exact ⟨x, rfl⟩
theorem wOf_uw (x : W) : wOf (uw x) = x := by
  simp only [wOf, uw, BitVec.ofInt_natCast, BitVec.ofNat_toNat, BitVec.setWidth_eq]
theorem cells_uw (x : W) : (uw x).cells = [uw x] := rfl
theorem one_uw (x : W) : (uw x).one = true := rfl
theorem closed_uw (x : W) : closed (uw x) = true := rfl
theorem flat_uw (x : W) : flat (uw x) = true := rfl
theorem lit_uw0 : PV.lit (.int .u32 0) = uw 0 := rfl
section
variable {t : TypeId} {a b : W}
theorem wrapW (z : Int) : IntKind.u32.wrap z = z % 4294967296 := by simp [IntKind.wrap, IntKind.bits, IntKind.signed]
theorem bitsW (a : W) : BitVec.ofInt IntKind.u32.bits (a.toNat : Int) = a := by
  show BitVec.ofInt 32 (a.toNat : Int) = a
  rw [BitVec.ofInt_natCast, BitVec.ofNat_toNat, BitVec.setWidth_eq]
theorem ltW (a : W) : a.toNat < 4294967296 := a.isLt
theorem add_uw : binF P .add t (uw a) (uw b) L = ⟨True, uw (a + b), L⟩ := by
  simp only [uw, binF_add, wrapW, OR.mk.injEq, PV.lit.injEq, Value.int.injEq, true_and, and_true, BitVec.toNat_add]; omega
theorem wrapW_nat (n : W) : IntKind.u32.wrap (n.toNat : Int) = n.toNat := by
  have := ltW n
  rw [wrapW]; omega
theorem and_uw : binF P .and t (uw a) (uw b) L = ⟨True, uw (a &&& b), L⟩ := by
  simp only [uw, binF_and, OR.mk.injEq, PV.lit.injEq, Value.int.injEq, true_and, and_true]
  rw [bitsW, bitsW]; exact wrapW_nat (a &&& b)
theorem or_uw : binF P .or t (uw a) (uw b) L = ⟨True, uw (a ||| b), L⟩ := by
  simp only [uw, binF_or, OR.mk.injEq, PV.lit.injEq, Value.int.injEq, true_and, and_true]
  rw [bitsW, bitsW]; exact wrapW_nat (a ||| b)
theorem xor_uw : binF P .xor t (uw a) (uw b) L = ⟨True, uw (a ^^^ b), L⟩ := by
  simp only [uw, binF_xor, OR.mk.injEq, PV.lit.injEq, Value.int.injEq, true_and, and_true]
  rw [bitsW, bitsW]; exact wrapW_nat (a ^^^ b)
theorem not_uw : unF .xor (uw a) L = ⟨True, uw (~~~ a), L⟩ := by
  simp only [uw, unF, OR.mk.injEq, PV.lit.injEq, Value.int.injEq, true_and, and_true]
  have e : (BitVec.ofInt IntKind.u32.bits (if IntKind.u32.signed = true then -1 else IntKind.u32.max) ^^^ BitVec.ofInt IntKind.u32.bits (a.toNat : Int)).toNat = (~~~ a).toNat := by
    show (BitVec.ofInt 32 (if IntKind.u32.signed = true then -1 else IntKind.u32.max) ^^^ BitVec.ofInt 32 (a.toNat : Int)).toNat = _
    have hm : BitVec.ofInt 32 (if IntKind.u32.signed = true then -1 else IntKind.u32.max) = BitVec.allOnes 32 := by decide
    rw [hm, BitVec.allOnes_xor, BitVec.ofInt_natCast, BitVec.ofNat_toNat, BitVec.setWidth_eq]
  rw [e]
  exact wrapW_nat (~~~ a)
theorem shl_uwz {k : IntKind} {z : Int} : binF P .shl t (uw a) (.lit (.int k z)) L = ⟨0 ≤ z, uw (a <<< z.toNat), L⟩ := by
  simp only [uw, binF_shl, IntKind.bits, wrapW, OR.mk.injEq, PV.lit.injEq, Value.int.injEq, true_and, and_true]
  rw [BitVec.toNat_shiftLeft, Nat.shiftLeft_eq]
  have e : (a.toNat : Int) * 2 ^ min z.toNat 32 = ((a.toNat * 2 ^ min z.toNat 32 : Nat) : Int) := by simp
  rw [e]
  have h : a.toNat * 2 ^ min z.toNat 32 % 2 ^ 32 = a.toNat * 2 ^ z.toNat % 2 ^ 32 := by
    by_cases hb : z.toNat ≤ 32
    · rw [Nat.min_eq_left hb]
    · rw [Nat.min_eq_right (by omega)]
      have h2 : z.toNat = 32 + (z.toNat - 32) := by omega
      rw [h2, Nat.pow_add, ← Nat.mul_assoc, Nat.mul_mod_left, Nat.mul_right_comm, Nat.mul_mod_left]
  have e32 : (2 : Nat) ^ 32 = 4294967296 := by decide
  rw [← h, e32]
  omega
theorem shl_uw {n : Nat} : binF P .shl t (uw a) (ul n) L = ⟨True, uw (a <<< (n % 18446744073709551616)), L⟩ := by
  have := shl_uwz (P := P) (L := L) (t := t) (a := a) (k := .u64) (z := ((n % 18446744073709551616 : Nat) : Int))
  rw [show ul n = .lit (.int .u64 ((n % 18446744073709551616 : Nat) : Int)) from rfl, this]
  simp only [Int.toNat_natCast, OR.mk.injEq, and_true, eq_iff_iff, iff_true]
  omega
theorem shr_uwz {k : IntKind} {z : Int} : binF P .shr t (uw a) (.lit (.int k z)) L = ⟨0 ≤ z, uw (a >>> z.toNat), L⟩ := by
  simp only [uw, binF_shr, IntKind.bits, OR.mk.injEq, PV.lit.injEq, Value.int.injEq, true_and, and_true]
  rw [BitVec.toNat_ushiftRight, Nat.shiftRight_eq_div_pow]
  have e : (2 : Int) ^ min z.toNat 32 = ((2 ^ min z.toNat 32 : Nat) : Int) := by simp
  rw [e, Int.fdiv_eq_ediv_of_nonneg _ (Int.natCast_nonneg _), ← Int.natCast_ediv]
  congr 1
  by_cases h : z.toNat ≤ 32
  · rw [Nat.min_eq_left h]
  · have hlt := ltW a
    rw [Nat.min_eq_right (by omega)]
    rw [Nat.div_eq_of_lt (by have : (2 : Nat) ^ 32 = 4294967296 := by decide
                             omega), Nat.div_eq_of_lt]
    exact Nat.lt_of_lt_of_le hlt (Nat.le_trans (show 4294967296 ≤ 2 ^ 32 by decide) (Nat.pow_le_pow_right (by decide) (by omega)))
theorem shr_uw {n : Nat} : binF P .shr t (uw a) (ul n) L = ⟨True, uw (a >>> (n % 18446744073709551616)), L⟩ := by
  have := shr_uwz (P := P) (L := L) (t := t) (a := a) (k := .u64) (z := ((n % 18446744073709551616 : Nat) : Int))
  rw [show ul n = .lit (.int .u64 ((n % 18446744073709551616 : Nat) : Int)) from rfl, this]
  simp only [Int.toNat_natCast, OR.mk.injEq, and_true, eq_iff_iff, iff_true]
  omega
def bw (x : UInt8) : W := BitVec.ofNat 32 x.toNat
def wb (x : W) : UInt8 := UInt8.ofNat x.toNat
theorem conv_bw {s d s1 b1 s2 b2 : Nat} {z1 z2 : Value} {x : UInt8} (h1 : tyOf P s = some ⟨.int .u8, s1, b1, z1⟩) (h2 : tyOf P d = some ⟨.int .u32, s2, b2, z2⟩) : convF P s d (bv x) L = ⟨True, uw (bw x), L⟩ := by
  rw [bv, conv_int h1 h2]
  simp only [uw, bw, OR.mk.injEq, PV.lit.injEq, Value.int.injEq, true_and, and_true, wrapW, BitVec.toNat_ofNat]
  have := x.toNat_lt
  omega
theorem conv_wb {s d s1 b1 s2 b2 : Nat} {z1 z2 : Value} {x : W} (h1 : tyOf P s = some ⟨.int .u32, s1, b1, z1⟩) (h2 : tyOf P d = some ⟨.int .u8, s2, b2, z2⟩) : convF P s d (uw x) L = ⟨True, bv (wb x), L⟩ := by
  rw [uw, conv_int h1 h2]
  simp only [bv, wb, OR.mk.injEq, PV.lit.injEq, Value.int.injEq, true_and, and_true, UInt8.toNat_ofNat']
  simp [IntKind.wrap, IntKind.bits, IntKind.signed]
theorem conv_nat {s d s1 b1 s2 b2 : Nat} {z1 z2 : Value} {n : Nat} (h1 : tyOf P s = some ⟨.int .i64, s1, b1, z1⟩) (h2 : tyOf P d = some ⟨.int .u64, s2, b2, z2⟩) : convF P s d (.lit (.int .i64 (n : Int))) L = ⟨True, ul n, L⟩ := by
  rw [conv_int h1 h2]
  simp only [ul, OR.mk.injEq, PV.lit.injEq, Value.int.injEq, true_and, and_true, wrapU]
  omega
theorem conv_neg {s d s1 b1 s2 b2 : Nat} {z1 z2 : Value} {n : Nat} (h1 : tyOf P s = some ⟨.int .i64, s1, b1, z1⟩) (h2 : tyOf P d = some ⟨.int .u64, s2, b2, z2⟩) (h : n ≤ 18446744073709551616) : convF P s d (.lit (.int .i64 (-(n : Int)))) L = ⟨True, ul (18446744073709551616 - n), L⟩ := by
  rw [conv_int h1 h2]
  simp only [ul, OR.mk.injEq, PV.lit.injEq, Value.int.injEq, true_and, and_true, wrapU]
  omega
theorem rem_ul64 {n : Nat} : binF P .rem t (ul n) (ul 64) L = ⟨True, ul (n % 64), L⟩ := by
  simp only [ul, binF_rem, OR.mk.injEq, PV.lit.injEq, Value.int.injEq, true_and, and_true]
  refine ⟨by simp, ?_⟩
  have : (((n % 18446744073709551616 : Nat) : Int)).tmod ((64 % 18446744073709551616 : Nat) : Int) = ((n % 18446744073709551616 % 64 : Nat) : Int) := (Int.ofNat_tmod _ 64).symm
  rw [this]
  omega
end
def wr (l : List W) : List PV := l.map uw
theorem len_wr (l : List W) : (wr l).length = l.length := by simp [wr]
theorem closedL_wr (l : List W) : closedL (wr l) = true := by
  rw [closedL_iff]; intro p hp; simp only [wr, List.mem_map] at hp; obtain ⟨i, _, rfl⟩ := hp; rfl
theorem flatL_wr (l : List W) : flatL (wr l) = true := by
  rw [flatL_iff]; intro p hp; simp only [wr, List.mem_map] at hp; obtain ⟨i, _, rfl⟩ := hp; rfl
theorem one_wr (l : List W) : (wr l).all PV.one = true := by
  rw [List.all_eq_true]; intro p hp; simp only [wr, List.mem_map] at hp; obtain ⟨i, _, rfl⟩ := hp; rfl
theorem getD_wr (l : List W) (i : Nat) : (wr l).getD i (.lit (.int .u32 0)) = uw (l.getD i 0) := by
  simp only [wr, List.getD_eq_getElem?_getD, List.getElem?_map]
  cases l[i]? <;> rfl
theorem set_wr (l : List W) (i : Nat) (x : W) : (wr l).set i (uw x) = wr (l.set i x) := (List.map_set ..).symm
theorem take_wr {l : List W} {n : Nat} (h : l.length ≤ n) : (wr l).take n = wr l := List.take_of_length_le (by rw [len_wr]; exact h)
theorem isInts_wr (l : List W) : isInts .u32 (wr l) := by
  induction l with
  | nil => trivial
  | cons i l ih => exact ⟨rfl, ih⟩
theorem isInts_bs (l : List UInt8) : isInts .u8 (l.map bv) := by
  induction l with
  | nil => trivial
  | cons i l ih => exact ⟨rfl, ih⟩
theorem eql_wr {n t e s1 b1 b2 : Nat} {z1 z2 : Value} (l : List W) (hl : l.length = n) (ht : tyOf P t = some ⟨.array n e, s1, b1, z1⟩) (he : tyOf P e = some ⟨.int .u32, 1, b2, z2⟩) :
    binF P .eql t (.agg (wr l)) (.agg (wr l)) L = ⟨True, .lit (.bool true), L⟩ := by
  simp only [binF, ht, he, len_wr, hl, isInts_wr, and_self, beq_self_eq_true]
theorem eql_bs {n t e s1 b1 b2 : Nat} {z1 z2 : Value} (l : List UInt8) (hl : l.length = n) (ht : tyOf P t = some ⟨.array n e, s1, b1, z1⟩) (he : tyOf P e = some ⟨.int .u8, 1, b2, z2⟩) :
    binF P .eql t (.agg (l.map bv)) (.agg (l.map bv)) L = ⟨True, .lit (.bool true), L⟩ := by
  simp only [binF, ht, he, List.length_map, hl, isInts_bs, and_self, beq_self_eq_true]
theorem tdiv4 (m : Nat) : (m : Int).tdiv 4 = ((m / 4 : Nat) : Int) := (Int.ofNat_tdiv m 4).symm
theorem tmod4 (m : Nat) : (m : Int).tmod 4 = ((m % 4 : Nat) : Int) := (Int.ofNat_tmod m 4).symm
theorem mul4 (m : Nat) : 4 * (m : Int) = ((4 * m : Nat) : Int) := by omega
theorem xor_bv {t : TypeId} (a b : UInt8) : binF P .xor t (bv a) (bv b) L = ⟨True, bv (a ^^^ b), L⟩ := by
  simp only [bv, binF_xor, OR.mk.injEq, PV.lit.injEq, Value.int.injEq, true_and, and_true]
  have e : ∀ x : UInt8, BitVec.ofInt IntKind.u8.bits (x.toNat : Int) = x.toBitVec := by
    intro x
    show BitVec.ofInt 8 (x.toNat : Int) = x.toBitVec
    rw [BitVec.ofInt_natCast]
    exact BitVec.eq_of_toNat_eq (by simp)
  rw [e, e]
  show IntKind.u8.wrap ((a ^^^ b).toNat : Int) = _
  have := (a ^^^ b).toNat_lt
  generalize (a ^^^ b).toNat = n at *
  simp only [IntKind.wrap, IntKind.bits, IntKind.signed]
  simp
  omega
structure S8 where
  a : W
  b : W
  c : W
  d : W
  e : W
  f : W
  g : W
  h : W
def S8.l (s : S8) : List W := [s.a, s.b, s.c, s.d, s.e, s.f, s.g, s.h]
def sv (s : S8) : PV := .agg (wr s.l)
def isS (p : PV) : Prop := ∃ s, p = sv s
def sOf : PV → S8
  | .agg [a, b, c, d, e, f, g, h] => ⟨wOf a, wOf b, wOf c, wOf d, wOf e, wOf f, wOf g, wOf h⟩
  | _ => ⟨0, 0, 0, 0, 0, 0, 0, 0⟩
theorem isS_sv (s : S8) : isS (sv s) ↔ True := by simp only [iff_true]; exact ⟨s, rfl⟩
theorem sOf_sv (s : S8) : sOf (sv s) = s := by
  simp only [sOf, sv, wr, S8.l, List.map_cons, List.map_nil, wOf_uw]
theorem closed_sv (s : S8) : closed (sv s) = true := closedL_wr _
theorem cells_sv (s : S8) : (sv s).cells = wr s.l := rfl
theorem len_l (s : S8) : s.l.length = 8 := by simp [S8.l]
theorem agg_sv (s : S8) : PV.agg (wr s.l) = sv s := rfl
def kk : List W := [0x428a2f98, 0x71374491, 0xb5c0fbcf, 0xe9b5dba5, 0x3956c25b, 0x59f111f1, 0x923f82a4, 0xab1c5ed5,
  0xd807aa98, 0x12835b01, 0x243185be, 0x550c7dc3, 0x72be5d74, 0x80deb1fe, 0x9bdc06a7, 0xc19bf174,
  0xe49b69c1, 0xefbe4786, 0x0fc19dc6, 0x240ca1cc, 0x2de92c6f, 0x4a7484aa, 0x5cb0a9dc, 0x76f988da,
  0x983e5152, 0xa831c66d, 0xb00327c8, 0xbf597fc7, 0xc6e00bf3, 0xd5a79147, 0x06ca6351, 0x14292967,
  0x27b70a85, 0x2e1b2138, 0x4d2c6dfc, 0x53380d13, 0x650a7354, 0x766a0abb, 0x81c2c92e, 0x92722c85,
  0xa2bfe8a1, 0xa81a664b, 0xc24b8b70, 0xc76c51a3, 0xd192e819, 0xd6990624, 0xf40e3585, 0x106aa070,
  0x19a4c116, 0x1e376c08, 0x2748774c, 0x34b0bcb5, 0x391c0cb3, 0x4ed8aa4a, 0x5b9cca4f, 0x682e6ff3,
  0x748f82ee, 0x78a5636f, 0x84c87814, 0x8cc70208, 0x90befffa, 0xa4506ceb, 0xbef9a3f7, 0xc67178f2]
theorem len_kk : kk.length = 64 := by simp [kk]
def init8 : S8 := ⟨0x6a09e667, 0xbb67ae85, 0x3c6ef372, 0xa54ff53a, 0x510e527f, 0x9b05688c, 0x1f83d9ab, 0x5be0cd19⟩
def rotr (x : W) (n : Nat) : W := x <<< (32 - n) ||| x >>> n
def word (b : List UInt8) (i : Nat) : W := bw (b.getD (4 * i) 0) <<< 24 ||| bw (b.getD (4 * i + 1) 0) <<< 16 ||| bw (b.getD (4 * i + 2) 0) <<< 8 ||| bw (b.getD (4 * i + 3) 0)
def fill {α : Type} (n : Nat) (z : α) (f : Nat → α) (i : Nat) : List α := (List.range n).map fun j => if j < i then f j else z
theorem len_fill {α : Type} (n : Nat) (z : α) (f : Nat → α) (i : Nat) : (fill n z f i).length = n := by simp [fill]
theorem fill_zero {α : Type} (n : Nat) (z : α) (f : Nat → α) : List.replicate n z = fill n z f 0 := by
  apply List.ext_getElem (by simp [fill])
  intro k h1 h2
  simp [fill]
theorem fill_set {α : Type} {n i : Nat} {z : α} {f : Nat → α} (h : i < n) : (fill n z f i).set i (f i) = fill n z f (i + 1) := by
  apply List.ext_getElem (by simp [fill])
  intro k h1 h2
  have hk : k < n := by simpa [fill] using h2
  rw [List.getElem_set]
  split
  · rename_i e; subst e
    simp [fill]
  · rename_i e
    simp only [fill, List.getElem_map, List.getElem_range]
    by_cases c : k < i
    · rw [if_pos c, if_pos (by omega)]
    · rw [if_neg c, if_neg (by omega)]
theorem fill_get {α : Type} {n i j : Nat} {z : α} {f : Nat → α} (h : j < n) (d : α) : (fill n z f i).getD j d = if j < i then f j else z := by
  simp [fill, List.getD_eq_getElem?_getD, h]
theorem fill_all {α : Type} (n : Nat) (z : α) (f : Nat → α) : fill n z f n = (List.range n).map f := by
  apply List.map_congr_left
  intro j hj
  rw [if_pos (by simpa using hj)]
def sig0 (x : W) : W := rotr x 7 ^^^ rotr x 18 ^^^ x >>> 3
def sig1 (x : W) : W := rotr x 17 ^^^ rotr x 19 ^^^ x >>> 10
def ext (l : List W) : Nat → List W
  | 0 => l
  | t + 1 => (ext l t).set (16 + t) ((ext l t).getD t 0 + sig0 ((ext l t).getD (t + 1) 0) + (ext l t).getD (t + 9) 0 + sig1 ((ext l t).getD (t + 14) 0))
theorem len_ext (l : List W) : ∀ t, (ext l t).length = l.length
  | 0 => rfl
  | t + 1 => by simp [ext, len_ext l t]
def sched (b : List UInt8) : List W := ext (fill 64 0 (word b) 16) 48
theorem len_sched (b : List UInt8) : (sched b).length = 64 := by simp [sched, len_ext, len_fill]
def rnd (k w : W) (s : S8) : S8 :=
  let t1 := s.h + (rotr s.e 6 ^^^ rotr s.e 11 ^^^ rotr s.e 25) + (s.e &&& s.f ^^^ ~~~ s.e &&& s.g) + k + w
  let t2 := (rotr s.a 2 ^^^ rotr s.a 13 ^^^ rotr s.a 22) + (s.a &&& s.b ^^^ s.a &&& s.c ^^^ s.b &&& s.c)
  ⟨t1 + t2, s.a, s.b, s.c, s.d + t1, s.e, s.f, s.g⟩
def rnds (w : List W) (s : S8) : Nat → S8
  | 0 => s
  | t + 1 => rnd (kk.getD t 0) (w.getD t 0) (rnds w s t)
def add8 (s r : S8) : S8 := ⟨s.a + r.a, s.b + r.b, s.c + r.c, s.d + r.d, s.e + r.e, s.f + r.f, s.g + r.g, s.h + r.h⟩
def compress (s : S8) (b : List UInt8) : S8 := add8 s (rnds (sched b) s 64)
def absorb : Nat → S8 → List UInt8 → S8
  | 0, s, _ => s
  | n + 1, s, b => absorb n (compress s (b.take 64)) (b.drop 64)
theorem absorb_split : ∀ (p q : Nat) (s : S8) (b : List UInt8), absorb (p + q) s b = absorb q (absorb p s b) (b.drop (64 * p))
  | 0, q, s, b => by simp [absorb]
  | p + 1, q, s, b => by
    rw [show p + 1 + q = (p + q) + 1 by omega, absorb, absorb_split p q, absorb, List.drop_drop, show 64 + 64 * p = 64 * (p + 1) by omega]
theorem absorb_take : ∀ (p : Nat) (s : S8) (b : List UInt8) (m : Nat), 64 * p ≤ m → absorb p s (b.take m) = absorb p s b
  | 0, s, b, m, _ => rfl
  | p + 1, s, b, m, h => by
    rw [absorb, absorb, List.take_take, List.drop_take, Nat.min_eq_left (by omega), absorb_take p _ _ _ (by omega)]
theorem absorb_succ (p : Nat) (s : S8) (b : List UInt8) : absorb (p + 1) s b = compress (absorb p s b) ((b.drop (64 * p)).take 64) := by
  rw [absorb_split]; rfl
def dbyte (s : S8) (i : Nat) : UInt8 := wb (s.l.getD (i / 4) 0 >>> (8 * (3 - i % 4)))
def dig (s : S8) : List UInt8 := (List.range 32).map (dbyte s)
theorem len_dig (s : S8) : (dig s).length = 32 := by simp [dig]
def be8 (n : Nat) : List UInt8 := (List.range 8).map fun i => UInt8.ofNat (n / 2 ^ (8 * (7 - i)))
def padz (n : Nat) : Nat := (55 + (64 - n % 64)) % 64
def pad (n : Nat) : List UInt8 := 128 :: List.replicate (padz n) 0 ++ be8 (8 * n % 18446744073709551616)
theorem len_pad (n : Nat) : (pad n).length = 9 + padz n := by simp [pad, be8]; omega
theorem padz_lt (n : Nat) : padz n < 64 := Nat.mod_lt _ (by decide)
theorem pad_fits (n : Nat) : (n + (pad n).length) % 64 = 0 := by rw [len_pad]; unfold padz; omega
def msg (b : List UInt8) : List UInt8 := b ++ pad b.length
theorem len_msg (b : List UInt8) : (msg b).length % 64 = 0 := by rw [msg, List.length_append]; exact pad_fits _
def sum (b : List UInt8) : List UInt8 := dig (absorb ((msg b).length / 64) init8 (msg b))
theorem len_sum (b : List UInt8) : (sum b).length = 32 := len_dig _
theorem sum_split (b : List UInt8) : absorb ((b.drop (b.length - b.length % 64) ++ pad b.length).length / 64) (absorb (b.length / 64) init8 (b.take (b.length - b.length % 64))) (b.drop (b.length - b.length % 64) ++ pad b.length) = absorb ((msg b).length / 64) init8 (msg b) := by
  have h1 : b.length - b.length % 64 = 64 * (b.length / 64) := by omega
  have h2 := pad_fits b.length
  have h3 : (msg b).length / 64 = b.length / 64 + (b.drop (b.length - b.length % 64) ++ pad b.length).length / 64 := by
    rw [msg, List.length_append, List.length_append, List.length_drop]
    generalize (pad b.length).length = m at *
    omega
  have h4 : b.take (b.length - b.length % 64) = (msg b).take (b.length - b.length % 64) := by
    rw [msg, List.take_append_of_le_length (by omega)]
  have h5 : b.drop (b.length - b.length % 64) ++ pad b.length = (msg b).drop (64 * (b.length / 64)) := by
    rw [← h1, msg, List.drop_append_of_le_length (by omega)]
  rw [h3, absorb_split, h4, absorb_take _ _ _ _ (by omega), h5]
def sRotL : List PV → Prop × PV
  | [x, .lit (.int .i64 n)] => (isW32 x ∧ -31 ≤ n ∧ n ≤ -1, uw (rotr (wOf x) (-n).toNat))
  | _ => (False, .any)
def sRotr : List PV → Prop × PV
  | [x, .lit (.int .i64 n)] => (isW32 x ∧ 1 ≤ n ∧ n ≤ 31, uw (rotr (wOf x) n.toNat))
  | _ => (False, .any)
def sSched : List PV → Prop × PV
  | [.agg cs] => (isB 64 cs, .agg (wr (sched (bytesOf cs))))
  | _ => (False, .any)
def sCompress : List PV → Prop × PV
  | [s, .agg cs] => (isS s ∧ isB 64 cs, sv (compress (sOf s) (bytesOf cs)))
  | _ => (False, .any)
def sInitial : List PV → Prop × PV
  | [] => (True, sv init8)
  | _ => (False, .any)
def sConstants : List PV → Prop × PV
  | [] => (True, .agg (wr kk))
  | _ => (False, .any)
def sDigest : List PV → Prop × PV
  | [s] => (isS s, .agg ((dig (sOf s)).map bv))
  | _ => (False, .any)
def sPad : List PV → Prop × PV
  | [x] => (isul x, newB (pad (ulv x)))
  | _ => (False, .any)
def sCompAll : List PV → Prop × PV
  | [s, .ro n cs] => (isS s ∧ isB n cs ∧ n % 64 = 0 ∧ n ≤ 70368744177664, sv (absorb (n / 64) (sOf s) (bytesOf cs)))
  | _ => (False, .any)
def sSum : List PV → Prop × PV
  | [.ro n cs] => (isB n cs ∧ n ≤ 35184372088832, .agg ((sum (bytesOf cs)).map bv))
  | _ => (False, .any)
def sGrow : List PV → Prop × PV
  | [.lit (.slice none 0 0), .lit (.int .i64 n)] => (0 ≤ n ∧ n ≤ 70368744177664, .new 0 1 [])
  | _ => (False, .any)
end Go.Ab
namespace Go.Ab
open Go Go.RowKit
set_option linter.unusedVariables false
set_option linter.unusedSimpArgs false
theorem splice_all {cs vs : List PV} (h : cs.length = vs.length) : splice cs 0 vs = vs := by
  unfold splice
  split
  · rename_i v
    match cs, h with
    | [c], _ => rfl
  · rw [List.take_zero, List.nil_append, Nat.zero_add, List.drop_eq_nil_of_le (by omega), List.append_nil]
theorem splice_w {a b : List W} (h : a.length = b.length) : splice (wr a) 0 (wr b) = wr b := splice_all (by rw [len_wr, len_wr, h])
theorem splice_b {a b : List UInt8} (h : a.length = b.length) : splice (a.map bv) 0 (b.map bv) = b.map bv := splice_all (by simpa using h)
theorem take_bs {l : List UInt8} {n : Nat} (h : l.length ≤ n) : (l.map bv).take n = l.map bv := List.take_of_length_le (by simpa using h)
theorem wr_congr {a b : List W} (h : a = b) : wr a = wr b := by rw [h]
theorem bs_congr {a b : List UInt8} (h : a = b) : a.map bv = b.map bv := by rw [h]
theorem isW_out {p : PV} (h : isW32 p) : ∃ x, p = uw x := h
theorem isS_out {p : PV} (h : isS p) : ∃ s, p = sv s := h
theorem ge0 (n : Nat) : (0 ≤ (n : Int)) = True := by simp
theorem rot_mask {m : Nat} (h1 : 1 ≤ m) (h2 : m ≤ 31) : (18446744073709551616 - m) &&& 31 = 32 - m := by
  rw [show (31 : Nat) = 2 ^ 5 - 1 by decide, Nat.and_two_pow_sub_one_eq_mod]
  omega
theorem rot_rest {m : Nat} (h1 : 1 ≤ m) (h2 : m ≤ 31) : (32 + (18446744073709551616 - (32 - m))) % 18446744073709551616 = m := by omega
theorem rot_less {m : Nat} (h1 : 1 ≤ m) (h2 : m ≤ 31) : (32 - m) % 18446744073709551616 = 32 - m := by omega
def byB (b : List UInt8) : Nat → List W
  | 0 => List.replicate 64 0
  | i + 1 => (byB b i).set (i / 4) ((byB b i).getD (i / 4) 0 <<< 8 ||| bw (b.getD i 0))
theorem len_byB (b : List UInt8) : ∀ i, (byB b i).length = 64
  | 0 => by simp [byB]
  | i + 1 => by simp [byB, len_byB b i]
theorem four (x0 x1 x2 x3 : UInt8) : (((((0 : W) <<< 8 ||| bw x0) <<< 8 ||| bw x1) <<< 8 ||| bw x2) <<< 8 ||| bw x3) = bw x0 <<< 24 ||| bw x1 <<< 16 ||| bw x2 <<< 8 ||| bw x3 := by
  simp only [BitVec.shiftLeft_or_distrib, ← BitVec.shiftLeft_add, Nat.reduceAdd]
  have e : ∀ x : W, (0 : W) <<< 32 ||| x = x := fun x => by
    rw [show (0 : W) <<< 32 = 0#32 by decide, BitVec.zero_or]
  rw [e]
theorem getD_set_self {α : Type} {l : List α} {i : Nat} {x d : α} (h : i < l.length) : (l.set i x).getD i d = x := by
  simp [List.getD_eq_getElem?_getD, h]
theorem byB_word (b : List UInt8) : ∀ t, t ≤ 16 → byB b (4 * t) = fill 64 0 (word b) t
  | 0, _ => fill_zero ..
  | t + 1, h => by
    have ih := byB_word b t (by omega)
    have hl : t < (fill (64 : Nat) (0 : W) (word b) t).length := by rw [len_fill]; omega
    have g0 : (fill (64 : Nat) (0 : W) (word b) t).getD t 0 = 0 := by rw [fill_get (by omega), if_neg (by omega)]
    rw [show 4 * (t + 1) = 4 * t + 3 + 1 by omega, byB, show 4 * t + 3 = 4 * t + 2 + 1 by omega, byB, show 4 * t + 2 = 4 * t + 1 + 1 by omega, byB, byB, ih]
    rw [show 4 * t / 4 = t by omega, show (4 * t + 1) / 4 = t by omega, show (4 * t + 1 + 1) / 4 = t by omega, show (4 * t + 1 + 1 + 1) / 4 = t by omega]
    simp only [List.set_set, g0]
    rw [getD_set_self hl, getD_set_self hl, getD_set_self hl, four]
    exact fill_set (by omega)
end Go.Ab
namespace Go.Ab
open Go Go.RowKit
set_option linter.unusedVariables false
set_option linter.unusedSimpArgs false
theorem index_bs {P : Program} {L : LH} {n t e b1 b2 s1 : Nat} {z1 : Value} {k : IntKind} {l : List UInt8} {i : Int} (h1 : tyOf P t = some ⟨.array n e, s1, b1, z1⟩) (h2 : tyOf P e = some ⟨.int .u8, 1, b2, .int .u8 0⟩) :
    indexF P t (.agg (l.map bv)) (.lit (.int k i)) L = ⟨0 ≤ i ∧ i < n ∧ i.toNat < l.length, bv (l.getD i.toNat 0), L⟩ := by
  simp only [indexF, h1, h2, partF, isAggD, Bool.false_eq_true, if_false, List.length_map, Nat.mul_one, getD_bv]
theorem index_wr {P : Program} {L : LH} {n t e b1 b2 s1 : Nat} {z1 : Value} {k : IntKind} {l : List W} {i : Int} (h1 : tyOf P t = some ⟨.array n e, s1, b1, z1⟩) (h2 : tyOf P e = some ⟨.int .u32, 1, b2, .int .u32 0⟩) :
    indexF P t (.agg (wr l)) (.lit (.int k i)) L = ⟨0 ≤ i ∧ i < n ∧ i.toNat < l.length, uw (l.getD i.toNat 0), L⟩ := by
  simp only [indexF, h1, h2, partF, isAggD, Bool.false_eq_true, if_false, len_wr, Nat.mul_one, getD_wr]
end Go.Ab
namespace Go.Ab
open Go Go.RowKit
set_option linter.unusedVariables false
set_option linter.unusedSimpArgs false
theorem fill_words : ∀ (l : List W) (done zs : List PV), zs.length = l.length → fillB (fun i => some (i * 1, 1)) (done ++ zs) ((List.range' done.length l.length).zip (wr l)) = some (done ++ wr l)
  | [], done, zs, h => by
    have : zs = [] := List.length_eq_zero_iff.1 h
    subst this; rfl
  | a :: l, done, z :: zs, h => by
    have ih := fill_words l (done ++ [uw a]) zs (by simpa using h)
    rw [List.length_append, List.length_singleton] at ih
    show fillB _ _ ((done.length, uw a) :: (List.range' (done.length + 1) l.length).zip (wr l)) = _
    unfold fillB
    simp only [cells_uw, List.length_cons, List.length_nil, Nat.mul_one, List.length_append]
    rw [if_pos ⟨trivial, by omega⟩]
    have e : splice (done ++ z :: zs) done.length [uw a] = done ++ [uw a] ++ zs := by
      show (done ++ z :: zs).set done.length (uw a) = _
      rw [List.set_append_right _ _ (Nat.le_refl _), Nat.sub_self, List.set_cons_zero, List.append_assoc]
      rfl
    rw [e]
    have ih' : fillB (fun i => some (i * 1, 1)) (done ++ [uw a] ++ zs) ((List.range' (done.length + 1) l.length).zip (wr l)) = some (done ++ [uw a] ++ wr l) := ih
    simp only [Nat.mul_one] at ih'
    rw [ih', List.append_assoc]
    rfl
theorem zip_one : ∀ (n k : Nat) (l : List W), ((List.range' k n).zip (wr l)).all (fun x => x.2.cells.all PV.one) = true
  | 0, k, l => by simp
  | n + 1, k, [] => by simp [wr]
  | n + 1, k, a :: l => by
    rw [List.range'_succ, show wr (a :: l) = uw a :: wr l from rfl, List.zip_cons_cons, List.all_cons, zip_one n (k + 1) l]
    rfl
theorem buildW {P : Program} {L : LH} {t e n s1 b1 : Nat} {z : Value} {E : TI} {l : List W} {parts : List (Nat × PV)} (ht : tyOf P t = some ⟨.array n e, s1, b1, z⟩) (he : tyOf P e = some E) (hE : E.size = 1) (hz : (z.cells.toList.map PV.lit).length = l.length) (hp : parts = (List.range' 0 l.length).zip (wr l)) :
    buildF P t parts L = ⟨True, .agg (wr l), L⟩ := by
  subst hp
  have h1 := fill_words l [] (zeroCells z) hz
  simp only [List.nil_append, List.length_nil] at h1
  simp only [buildF, ht, he, hE, h1, zip_one]
def mix {α : Type} (n : Nat) (g f : Nat → α) (i : Nat) : List α := (List.range n).map fun j => if j < i then f j else g j
theorem len_mix {α : Type} (n : Nat) (g f : Nat → α) (i : Nat) : (mix n g f i).length = n := by simp [mix]
theorem mix_set {α : Type} {n i : Nat} {g f : Nat → α} (h : i < n) : (mix n g f i).set i (f i) = mix n g f (i + 1) := by
  apply List.ext_getElem (by simp [mix])
  intro k h1 h2
  have hk : k < n := by simpa [mix] using h2
  rw [List.getElem_set]
  split
  · rename_i e; subst e
    simp [mix]
  · rename_i e
    simp only [mix, List.getElem_map, List.getElem_range]
    by_cases c : k < i
    · rw [if_pos c, if_pos (by omega)]
    · rw [if_neg c, if_neg (by omega)]
theorem mix_get {α : Type} {n i : Nat} {g f : Nat → α} (h : i < n) (d : α) : (mix n g f i).getD i d = g i := by
  simp [mix, List.getD_eq_getElem?_getD, h]
def addI (s r : S8) (i : Nat) : List W := mix 8 (fun j => s.l.getD j 0) (fun j => s.l.getD j 0 + r.l.getD j 0) i
theorem len_addI (s r : S8) (i : Nat) : (addI s r i).length = 8 := len_mix ..
theorem addI_zero (s r : S8) : s.l = addI s r 0 := rfl
theorem addI_set {s r : S8} {i : Nat} (h : i < 8) : (addI s r i).set i ((addI s r i).getD i 0 + r.l.getD i 0) = addI s r (i + 1) := by
  have e : (addI s r i).getD i 0 = s.l.getD i 0 := mix_get h 0
  rw [e]
  exact mix_set h
theorem lg0 (s : S8) : s.l.getD 0 0 = s.a := rfl
theorem lg1 (s : S8) : s.l.getD 1 0 = s.b := rfl
theorem lg2 (s : S8) : s.l.getD 2 0 = s.c := rfl
theorem lg3 (s : S8) : s.l.getD 3 0 = s.d := rfl
theorem lg4 (s : S8) : s.l.getD 4 0 = s.e := rfl
theorem lg5 (s : S8) : s.l.getD 5 0 = s.f := rfl
theorem lg6 (s : S8) : s.l.getD 6 0 = s.g := rfl
theorem lg7 (s : S8) : s.l.getD 7 0 = s.h := rfl
end Go.Ab
namespace Go.Ab
set_option linter.unusedVariables false
set_option linter.unusedSimpArgs false
theorem ext_zero (l : List W) : ext l 0 = l := rfl
theorem ext_succ (l : List W) (t : Nat) : (ext l t).set (16 + t) ((ext l t).getD t 0 + sig0 ((ext l t).getD (t + 1) 0) + (ext l t).getD (t + 9) 0 + sig1 ((ext l t).getD (t + 14) 0)) = ext l (t + 1) := rfl
theorem sched_def (b : List UInt8) : ext (fill 64 0 (word b) 16) 48 = sched b := rfl
theorem byB_zero (b : List UInt8) : byB b 0 = List.replicate 64 0 := rfl
theorem byB_succ (b : List UInt8) (i : Nat) : (byB b i).set (i / 4) ((byB b i).getD (i / 4) 0 <<< 8 ||| bw (b.getD i 0)) = byB b (i + 1) := rfl
theorem rnds_zero (w : List W) (s : S8) : rnds w s 0 = s := rfl
theorem rnds_succ (w : List W) (s : S8) (t : Nat) : rnds w s (t + 1) = rnd (kk.getD t 0) (w.getD t 0) (rnds w s t) := rfl
theorem compress_def (s : S8) (b : List UInt8) : add8 s (rnds (sched b) s 64) = compress s b := rfl
theorem compress_agg (s : S8) (b : List UInt8) : PV.agg (wr (addI s (rnds (sched b) s 64) 8)) = sv (compress s b) := rfl
theorem absorb_zero (s : S8) (b : List UInt8) : absorb 0 s b = s := rfl
theorem tn1 (n : Nat) : ((n : Int) + 1).toNat = n + 1 := by omega
theorem tn2 (n : Nat) : ((n : Int) + 2).toNat = n + 2 := by omega
theorem tn3 (n : Nat) : ((n : Int) + 3).toNat = n + 3 := by omega
def padI (n i : Nat) : List UInt8 := 128 :: List.replicate (padz n) 0 ++ (be8 (8 * n % 18446744073709551616)).take i
theorem len_be8 (n : Nat) : (be8 n).length = 8 := by simp [be8]
theorem padz_eq (n : Nat) : padz n = (55 + (64 - n % 64)) % 64 := rfl
theorem len_padI (n i : Nat) : (padI n i).length = 1 + padz n + min i 8 := by
  simp [padI, len_be8]; omega
theorem padI_zero (n : Nat) : (List.replicate (1 + padz n) (0 : UInt8)).set 0 128 = padI n 0 := by
  rw [Nat.add_comm, List.replicate_succ]; simp [padI]
theorem padI_zero2 (n : Nat) : 128 :: List.replicate (padz n) 0 = padI n 0 := by simp [padI]
theorem padI_step {n i : Nat} (h : i < 8) : padI n i ++ [UInt8.ofNat (8 * n % 18446744073709551616 / 2 ^ (8 * (7 - i)))] = padI n (i + 1) := by
  have e : (be8 (8 * n % 18446744073709551616)).take (i + 1) = (be8 (8 * n % 18446744073709551616)).take i ++ [UInt8.ofNat (8 * n % 18446744073709551616 / 2 ^ (8 * (7 - i)))] := by
    rw [List.take_add_one]
    simp [be8, List.getElem?_map, List.getElem?_range, h]
  simp only [padI, e, List.append_assoc]
theorem padI_all (n : Nat) : padI n 8 = pad n := by
  simp only [padI, pad]
  rw [List.take_of_length_le (by rw [len_be8]; exact Nat.le_refl _)]
theorem word_def (b : List UInt8) (i : Nat) : bw (b.getD (4 * i) 0) <<< 24 ||| bw (b.getD (4 * i + 1) 0) <<< 16 ||| bw (b.getD (4 * i + 2) 0) <<< 8 ||| bw (b.getD (4 * i + 3) 0) = word b i := rfl
theorem dbyte_def (s : S8) (i : Nat) : wb (s.l.getD (i / 4) 0 >>> (8 * (3 - i % 4))) = dbyte s i := rfl
theorem sum_def (b : List UInt8) : dig (absorb ((msg b).length / 64) init8 (msg b)) = sum b := rfl
theorem msg_def (b : List UInt8) : msg b = b ++ pad b.length := rfl
theorem set4 {s : S8} {i : Nat} (h : i < 8) : ((((fill 32 0 (dbyte s) (4 * i)).set (4 * i) (wb (s.l.getD i 0 >>> 24))).set (4 * i + 1) (wb (s.l.getD i 0 >>> 16))).set (4 * i + 2) (wb (s.l.getD i 0 >>> 8))).set (4 * i + 3) (wb (s.l.getD i 0)) = fill 32 0 (dbyte s) (4 * (i + 1)) := by
  have e0 : wb (s.l.getD i 0 >>> 24) = dbyte s (4 * i) := by
    unfold dbyte; rw [show 4 * i / 4 = i by omega, show 8 * (3 - 4 * i % 4) = 24 by omega]
  have e1 : wb (s.l.getD i 0 >>> 16) = dbyte s (4 * i + 1) := by
    unfold dbyte; rw [show (4 * i + 1) / 4 = i by omega, show 8 * (3 - (4 * i + 1) % 4) = 16 by omega]
  have e2 : wb (s.l.getD i 0 >>> 8) = dbyte s (4 * i + 2) := by
    unfold dbyte; rw [show (4 * i + 2) / 4 = i by omega, show 8 * (3 - (4 * i + 2) % 4) = 8 by omega]
  have e3 : wb (s.l.getD i 0) = dbyte s (4 * i + 3) := by
    unfold dbyte; rw [show (4 * i + 3) / 4 = i by omega, show 8 * (3 - (4 * i + 3) % 4) = 0 by omega]; rfl
  rw [e0, e1, e2, e3, fill_set (by omega), fill_set (by omega), fill_set (by omega), fill_set (by omega)]
  rfl
theorem index_sv {P : Program} {L : LH} {n t e b1 b2 s1 : Nat} {z1 : Value} {k : IntKind} {s : S8} {i : Int} (h1 : tyOf P t = some ⟨.array n e, s1, b1, z1⟩) (h2 : tyOf P e = some ⟨.int .u32, 1, b2, .int .u32 0⟩) :
    indexF P t (sv s) (.lit (.int k i)) L = ⟨0 ≤ i ∧ i < n ∧ i.toNat < s.l.length, uw (s.l.getD i.toNat 0), L⟩ := index_wr h1 h2
theorem dig_def (s : S8) : fill 32 0 (dbyte s) 32 = dig s := fill_all ..
attribute [irreducible] padI sched rnds ext fill byB mix addI compress absorb dig sum pad msg padz be8 dbyte word
end Go.Ab
