import Derived.Test.YtipnfcbpbomonaaDoorM10
import Derived.OpenShut
import Derived.Below
import Derived.ChangeShapes
namespace Go.Ab
open Go Go.RowKit
set_option linter.unusedVariables false
set_option linter.unusedSimpArgs false
set_option linter.unusedVariables false
def rk {α : Type} (f : α → List PV) (b : List α) : List PV := b.flatMap f
def roK {α : Type} (f : α → List PV) (b : List α) : PV := .ro b.length (rk f b)
def newK {α : Type} (k : Nat) (f : α → List PV) (b : List α) : PV := .new b.length k (rk f b)
class Kd {α : Type} (f : α → List PV) (k : outParam Nat) : Prop where
  len : ∀ a, (f a).length = k
  clo : ∀ a, closedL (f a) = true
section
variable {α : Type} {f : α → List PV} {k : Nat} [h : Kd f k] {b c : List α}
theorem len_rk : (rk f b).length = b.length * k := by
  induction b with
  | nil => simp [rk]
  | cons a b ih => simp only [rk, List.flatMap_cons, List.length_append, h.len, List.length_cons] at *; rw [ih, Nat.succ_mul, Nat.add_comm]
theorem closedL_app {a b : List PV} (ha : closedL a = true) (hb : closedL b = true) : closedL (a ++ b) = true := by
  rw [closedL_iff] at *
  intro p hp
  rcases List.mem_append.1 hp with hp | hp
  · exact ha p hp
  · exact hb p hp
theorem closedL_rk {α : Type} {f : α → List PV} {k : Nat} [h : Kd f k] {b : List α} : closedL (rk f b) = true := by
  induction b with
  | nil => rfl
  | cons a b ih => exact closedL_app (h.clo a) ih
theorem closed_roK {α : Type} {f : α → List PV} {k : Nat} [h : Kd f k] {b : List α} : closed (roK f b) = true := closedL_rk
theorem rk_drop (i : Nat) : (rk f b).drop (i * k) = rk f (b.drop i) := by
  induction i generalizing b with
  | zero => simp
  | succ i ih =>
    cases b with
    | nil => simp [rk]
    | cons a b =>
      have e : (i + 1) * k = k + i * k := by rw [Nat.succ_mul, Nat.add_comm]
      rw [e, ← List.drop_drop]
      have : (rk f (a :: b)).drop k = rk f b := by
        simp only [rk, List.flatMap_cons]
        rw [← h.len a, List.drop_left]
      rw [this, ih]; rfl
theorem rk_take (i : Nat) : (rk f b).take (i * k) = rk f (b.take i) := by
  induction i generalizing b with
  | zero => simp [rk]
  | succ i ih =>
    cases b with
    | nil => simp [rk]
    | cons a b =>
      have e : (i + 1) * k = k + i * k := by rw [Nat.succ_mul, Nat.add_comm]
      simp only [rk, List.flatMap_cons, List.take_succ_cons]
      rw [e, ← h.len a, List.take_length_add_append, h.len a]
      exact congrArg _ ih
theorem rk_app : rk f b ++ rk f c = rk f (b ++ c) := (List.flatMap_append).symm
theorem rk_get {i : Nat} (hi : i < b.length) (d : α) : ((rk f b).drop (i * k)).take k = f (b.getD i d) := by
  rw [rk_drop]
  have e : b.drop i = b.getD i d :: b.drop (i + 1) := by
    rw [List.getD_eq_getElem?_getD, List.getElem?_eq_getElem hi]
    exact List.drop_eq_getElem_cons hi
  rw [e]
  simp only [rk, List.flatMap_cons]
  rw [← h.len (b.getD i d), List.take_left]
theorem rk_len1 {α : Type} {g : α → PV} {b : List α} : rk (fun a => [g a]) b = b.map g := by
  induction b with
  | nil => rfl
  | cons a b ih => simp only [rk, List.flatMap_cons, List.map_cons] at *; rw [ih]; rfl
def slP (l h n len sz : Nat) : Prop := 0 ≤ (l : Int) ∧ (l : Int) ≤ (h : Int) ∧ (h : Int) ≤ (n : Int) ∧ len = n * sz
theorem slP_ok {l m : Nat} (h1 : l ≤ m) (h2 : m ≤ b.length) : slP l m b.length (rk f b).length k :=
  ⟨by omega, by omega, by omega, len_rk⟩
theorem sl_eq {l m : Nat} (h1 : l ≤ m) (h2 : m ≤ b.length) : PV.ro ((m : Int) - (l : Int)).toNat (((rk f b).drop ((l : Int).toNat * k)).take (((m : Int) - (l : Int)).toNat * k)) = roK f ((b.drop l).take (m - l)) := by
  have e : ((m : Int) - (l : Int)).toNat = m - l := by omega
  rw [e, Int.toNat_natCast, rk_drop, rk_take, roK]
  congr 1
  simp; omega
theorem sl_lo {l : Nat} (h1 : l ≤ b.length) : PV.ro ((b.length : Int) - (l : Int)).toNat (((rk f b).drop ((l : Int).toNat * k)).take (((b.length : Int) - (l : Int)).toNat * k)) = roK f (b.drop l) := by
  rw [sl_eq h1 (Nat.le_refl _), List.take_of_length_le (by simp)]
theorem sl_hi {m : Nat} (h1 : m ≤ b.length) : PV.ro ((m : Int) - 0).toNat (((rk f b).drop ((0 : Int).toNat * k)).take (((m : Int) - 0).toNat * k)) = roK f (b.take m) := by
  have := sl_eq (f := f) (b := b) (l := 0) (Nat.zero_le m) h1
  rw [List.drop_zero, Nat.sub_zero] at this
  exact this
def ixP (i n len sz : Nat) : Prop := 0 ≤ (i : Int) ∧ (i : Int) < (n : Int) ∧ len = n * sz ∧ 0 < sz
theorem ixP_ok {i : Nat} (h1 : i < b.length) (h2 : 0 < k) : ixP i b.length (rk f b).length k := ⟨by omega, by omega, len_rk, h2⟩
theorem ix_1 {α : Type} {g : α → PV} {b : List α} {i : Nat} (d : PV) (z : α) (h1 : i < b.length) : PV.rptr [(rk (fun a => [g a]) b).getD (i : Int).toNat d] = .rptr [g (b.getD i z)] := by
  rw [Int.toNat_natCast, rk_len1]
  simp [List.getD_eq_getElem?_getD, h1]
theorem ix_k {i : Nat} (z : α) (h1 : i < b.length) : PV.rptr (((rk f b).drop ((i : Int).toNat * k)).take k) = .rptr (f (b.getD i z)) := by
  rw [Int.toNat_natCast, rk_get h1 z]
def apnP (m sz bt : Nat) (p : Prop) : Prop := 0 < sz ∧ sz = sz ∧ p ∧ m * bt ≤ 140737488355328 ∧ m ≤ 4611686018427387904
def apoP (row off n m sz bt : Nat) (p : Prop) : Prop := 0 < sz ∧ sz = sz ∧ sz = sz ∧ off + n * sz ≤ row ∧ p ∧ (n + m) * bt ≤ 140737488355328 ∧ n + m ≤ 4611686018427387904
theorem apnP_ok {m sz bt : Nat} {p : Prop} (h0 : 0 < sz) (hp : p) (h1 : m * bt ≤ 140737488355328) (h2 : m ≤ 4611686018427387904) : apnP m sz bt p := ⟨h0, rfl, hp, h1, h2⟩
theorem apoP_ok {row off n m sz bt : Nat} {p : Prop} (h0 : 0 < sz) (hr : off + n * sz ≤ row) (hp : p) (h1 : (n + m) * bt ≤ 140737488355328) (h2 : n + m ≤ 4611686018427387904) : apoP row off n m sz bt p := ⟨h0, rfl, rfl, hr, hp, h1, h2⟩
def arP (len n sz : Nat) : Prop := True ∧ len = n * sz
theorem arP_ok : arP (rk f b).length b.length k := ⟨trivial, len_rk⟩
def aoP (off n row len sz : Nat) : Prop := off + n * sz ≤ row ∧ len = n * sz
theorem aoP_ok {n : Nat} (hn : n = b.length) : aoP 0 n (rk f b).length (((rk f b).drop 0).take (n * k)).length k := by
  subst hn
  refine ⟨by rw [len_rk]; omega, ?_⟩
  rw [List.drop_zero, List.length_take, len_rk]; omega
theorem row_le {n : Nat} (hn : n = b.length) : 0 + n * k ≤ (rk f b).length := by rw [len_rk, hn]; omega
theorem row_all {n : Nat} (hn : n = b.length) : ((rk f b).drop 0).take (n * k) = rk f b := by
  rw [List.drop_zero, hn, List.take_of_length_le (by rw [len_rk]; exact Nat.le_refl _)]
theorem app_row {n : Nat} (hn : n = b.length) : ((rk f b).drop 0).take (n * k) ++ rk f c = rk f (b ++ c) := by rw [row_all hn, rk_app]
theorem app_own {n m : Nat} (hn : n = b.length) (hm : m = c.length) : ((rk f b).drop 0).take (n * k) ++ ((rk f c).drop 0).take (m * k) = rk f (b ++ c) := by rw [row_all hn, row_all hm, rk_app]
theorem own_eq {id id' off off' n m sz : Nat} (h1 : id = id') (h2 : off = off') (h : n = m) : PV.own id off n sz = .own id' off' m sz := by subst h1 h2 h; rfl
theorem shut_new {n : Nat} (hn : n = b.length) : PV.new n k (((rk f b).drop 0).take (n * k)) = newK k f b := by rw [row_all hn, newK, hn]
theorem shut_clo {n : Nat} (hn : n = b.length) : closedL (((rk f b).drop 0).take (n * k)) = true := by rw [row_all hn]; exact closedL_rk
def mkP (l c : Int) (bt sz : Nat) (z : Value) : Prop := 0 ≤ l ∧ l ≤ c ∧ (bt : Int) * c ≤ 281474976710656 ∧ c ≤ 9223372036854775807 ∧ z.cells.size = sz ∧ (∀ v ∈ z.cells.toList, v.oneCell' = true)
theorem mkP_ok {l c bt sz : Nat} {z : Value} (h1 : l ≤ c) (h2 : bt * c ≤ 281474976710656) (h3 : c ≤ 9223372036854775807) (h4 : (Nat.beq z.cells.size sz && z.cells.toList.all Value.oneCell') = true) : mkP l c bt sz z := by
  simp only [Bool.and_eq_true] at h4
  refine ⟨by omega, by omega, ?_, by omega, Nat.eq_of_beq_eq_true h4.1, List.all_eq_true.1 h4.2⟩
  rw [← Int.natCast_mul]; omega
theorem rep_rk {l : Nat} {z : Value} {a : α} (h1 : z.cells.toList.map PV.lit = f a) : rep (l : Int).toNat z = rk f (List.replicate l a) := by
  rw [rep, Int.toNat_natCast, h1]
  induction l with
  | zero => simp [rk]
  | succ l ih => rw [List.replicate_succ, List.flatten_cons, ih, List.replicate_succ]; rfl
end
def b1 (x : UInt8) : List PV := [bv x]
instance : Kd b1 1 := ⟨fun _ => rfl, fun _ => rfl⟩
theorem rk_b1 (b : List UInt8) : rk b1 b = b.map bv := rk_len1
theorem rk_hl (n : Nat) : rk b1 (by32 n) = hl n := rk_b1 _
theorem ro_32 (n : Nat) : PV.ro 32 (hl n) = roK b1 (by32 n) := by rw [roK, len_by32, rk_hl]
def sb (s : ByteArray) : List UInt8 := s.data.toList
theorem len_sb (s : ByteArray) : (sb s).length = s.size := Array.length_toList
end Go.Ab
namespace Go.Ab
open Go Go.RowKit
set_option linter.unusedVariables false
set_option linter.unusedSimpArgs false
set_option linter.unusedVariables false
abbrev W := BitVec 32
def uw (x : W) : PV := .lit (.int .u32 (x.toNat : Int))
theorem wrapW (z : Int) : IntKind.u32.wrap z = z % 4294967296 := by simp [IntKind.wrap, IntKind.bits, IntKind.signed]
theorem bitsW (a : W) : BitVec.ofInt 32 (a.toNat : Int) = a := by
  rw [BitVec.ofInt_natCast, BitVec.ofNat_toNat, BitVec.setWidth_eq]
theorem ltW (a : W) : a.toNat < 4294967296 := a.isLt
theorem lit_w {a : W} {z : Int} (h : z = (a.toNat : Int)) : PV.lit (.int .u32 z) = uw a := by rw [uw, h]
theorem wrapW_nat (n : W) : IntKind.u32.wrap (n.toNat : Int) = n.toNat := by
  have := ltW n
  rw [wrapW]; omega
section
variable (a b : W)
theorem add_w : bn .add (uw a) (uw b) = uw (a + b) := by
  show PV.lit (.int .u32 (IntKind.u32.wrap _)) = _
  rw [wrapW]
  refine lit_w ?_
  rw [BitVec.toNat_add]; omega
theorem and_w : bn .and (uw a) (uw b) = uw (a &&& b) := by
  show PV.lit (.int .u32 (IntKind.u32.wrap ((BitVec.ofInt 32 _ &&& BitVec.ofInt 32 _).toNat : Int))) = _
  rw [bitsW, bitsW, wrapW_nat]; rfl
theorem or_w : bn .or (uw a) (uw b) = uw (a ||| b) := by
  show PV.lit (.int .u32 (IntKind.u32.wrap ((BitVec.ofInt 32 _ ||| BitVec.ofInt 32 _).toNat : Int))) = _
  rw [bitsW, bitsW, wrapW_nat]; rfl
theorem xor_w : bn .xor (uw a) (uw b) = uw (a ^^^ b) := by
  show PV.lit (.int .u32 (IntKind.u32.wrap ((BitVec.ofInt 32 _ ^^^ BitVec.ofInt 32 _).toNat : Int))) = _
  rw [bitsW, bitsW, wrapW_nat]; rfl
theorem not_w : un .xor (uw a) = uw (~~~ a) := by
  show PV.lit (.int .u32 (IntKind.u32.wrap ((BitVec.ofInt 32 (if IntKind.u32.signed = true then -1 else IntKind.u32.max) ^^^ BitVec.ofInt 32 _).toNat : Int))) = _
  have hm : BitVec.ofInt 32 (if IntKind.u32.signed = true then -1 else IntKind.u32.max) = BitVec.allOnes 32 := by decide
  rw [hm, bitsW, BitVec.allOnes_xor, wrapW_nat]; rfl
theorem shl_w (n : Nat) : bn .shl (uw a) (ln n) = uw (a <<< n) := by
  show PV.lit (.int .u32 (IntKind.u32.wrap ((a.toNat : Int) * 2 ^ min ((n : Nat) : Int).toNat 32))) = _
  rw [wrapW, Int.toNat_natCast]
  refine lit_w ?_
  rw [BitVec.toNat_shiftLeft, Nat.shiftLeft_eq]
  have e : (a.toNat : Int) * 2 ^ min n 32 = ((a.toNat * 2 ^ min n 32 : Nat) : Int) := by simp
  rw [e]
  have h : a.toNat * 2 ^ min n 32 % 2 ^ 32 = a.toNat * 2 ^ n % 2 ^ 32 := by
    by_cases hb : n ≤ 32
    · rw [Nat.min_eq_left hb]
    · rw [Nat.min_eq_right (by omega)]
      have h2 : n = 32 + (n - 32) := by omega
      rw [h2, Nat.pow_add, ← Nat.mul_assoc, Nat.mul_mod_left, Nat.mul_right_comm, Nat.mul_mod_left]
  have e32 : (2 : Nat) ^ 32 = 4294967296 := by decide
  rw [← h, e32]
  omega
theorem shr_w (n : Nat) : bn .shr (uw a) (ln n) = uw (a >>> n) := by
  show PV.lit (.int .u32 ((a.toNat : Int).fdiv (2 ^ min ((n : Nat) : Int).toNat 32))) = _
  rw [Int.toNat_natCast]
  refine lit_w ?_
  rw [BitVec.toNat_ushiftRight, Nat.shiftRight_eq_div_pow]
  have e : (2 : Int) ^ min n 32 = ((2 ^ min n 32 : Nat) : Int) := by simp
  rw [e, Int.fdiv_eq_ediv_of_nonneg _ (Int.natCast_nonneg _), ← Int.natCast_ediv]
  congr 1
  by_cases h : n ≤ 32
  · rw [Nat.min_eq_left h]
  · have hlt := ltW a
    rw [Nat.min_eq_right (by omega)]
    rw [Nat.div_eq_of_lt (by have : (2 : Nat) ^ 32 = 4294967296 := by decide
                             omega), Nat.div_eq_of_lt]
    exact Nat.lt_of_lt_of_le hlt (Nat.le_trans (show 4294967296 ≤ 2 ^ 32 by decide) (Nat.pow_le_pow_right (by decide) (by omega)))
theorem shl_wu {n : Nat} (h : n < 18446744073709551616) : bn .shl (uw a) (ul n) = uw (a <<< n) := by
  have : bn .shl (uw a) (ul n) = bn .shl (uw a) (ln (n % 18446744073709551616)) := rfl
  rw [this, Nat.mod_eq_of_lt h, shl_w]
theorem shr_wu {n : Nat} (h : n < 18446744073709551616) : bn .shr (uw a) (ul n) = uw (a >>> n) := by
  have : bn .shr (uw a) (ul n) = bn .shr (uw a) (ln (n % 18446744073709551616)) := rfl
  rw [this, Nat.mod_eq_of_lt h, shr_w]
end
def bw (x : UInt8) : W := BitVec.ofNat 32 x.toNat
def wb (x : W) : UInt8 := UInt8.ofNat x.toNat
theorem cv_bw (x : UInt8) : cn .u32 (bv x) = uw (bw x) := by
  show PV.lit (.int .u32 (IntKind.u32.wrap (x.toNat : Int))) = _
  rw [wrapW]
  refine lit_w ?_
  have := x.toNat_lt
  simp only [bw, BitVec.toNat_ofNat]
  omega
theorem cv_wb (x : W) : cn .u8 (uw x) = bv (wb x) := by
  show PV.lit (.int .u8 (IntKind.u8.wrap (x.toNat : Int))) = _
  rw [wrap_b]
  simp only [bv, wb, UInt8.toNat_ofNat']
  congr 1
theorem neg_n {n : Nat} (h : n ≤ 9223372036854775807) : un .neg (ln n) = li (-((n : Nat) : Int)) := by
  show PV.lit (.int .i64 (IntKind.i64.wrap (0 - (n : Int)))) = _
  rw [wrap_i (by omega) (by omega), Int.zero_sub]; rfl
theorem cv_neg {n : Nat} (h : n ≤ 18446744073709551616) : cn .u64 (li (-((n : Nat) : Int))) = ul (18446744073709551616 - n) := by
  show PV.lit (.int .u64 (IntKind.u64.wrap _)) = _
  rw [wrap_u]
  exact lit_u (by omega)
def wl (n : Nat) (l : List W) : List PV := (List.range n).map fun j => uw (l.getD j 0)
def bl (n : Nat) (l : List UInt8) : List PV := (List.range n).map fun j => bv (l.getD j 0)
theorem closedL_wl (n : Nat) (l : List W) : closedL (wl n l) = true := by
  rw [closedL_iff]; intro p hp; simp only [wl, List.mem_map] at hp; obtain ⟨i, _, rfl⟩ := hp; rfl
theorem closedL_bl (n : Nat) (l : List UInt8) : closedL (bl n l) = true := by
  rw [closedL_iff]; intro p hp; simp only [bl, List.mem_map] at hp; obtain ⟨i, _, rfl⟩ := hp; rfl
theorem wl_get {n i : Nat} (h : i < n) (l : List W) (d : PV) : (wl n l).getD i d = uw (l.getD i 0) := by
  simp [wl, List.getD_eq_getElem?_getD, h]
theorem bl_get {n i : Nat} (h : i < n) (l : List UInt8) (d : PV) : (bl n l).getD i d = bv (l.getD i 0) := by
  simp [bl, List.getD_eq_getElem?_getD, h]
theorem bl_idx {n i : Nat} (h : i < n) (l : List UInt8) (d : PV) : (bl n l).getD (((i : Nat) : Int).toNat * 1) d = bv (l.getD i 0) := by
  rw [Int.toNat_natCast, Nat.mul_one]; exact bl_get h l d
theorem map_set_range {α β : Type} {f : α → β} {n i : Nat} {l : List α} {x d : α} (h : i < l.length) : ((List.range n).map fun j => f (l.getD j d)).set i (f x) = (List.range n).map fun j => f ((l.set i x).getD j d) := by
  apply List.ext_getElem (by simp)
  intro k h1 h2
  simp only [List.getElem_set, List.getElem_map, List.getElem_range, List.getD_eq_getElem?_getD, List.getElem?_set]
  split
  · rename_i e; subst e; rfl
  · rfl
theorem wl_set {n i : Nat} {l : List W} {x : W} (h : i < l.length) : (wl n l).set i (uw x) = wl n (l.set i x) := map_set_range h
theorem bl_set {n i : Nat} {l : List UInt8} {x : UInt8} (h : i < l.length) : (bl n l).set i (bv x) = bl n (l.set i x) := map_set_range h
theorem bl_eq {n : Nat} {l : List UInt8} (h : l.length = n) : bl n l = l.map bv := by
  apply List.ext_getElem (by simp [bl, h])
  intro k h1 h2
  have : k < l.length := by simpa using h2
  simp [bl, List.getD_eq_getElem?_getD, this]
structure S8 where
  a : W
  b : W
  c : W
  d : W
  e : W
  f : W
  g : W
  h : W
def S8.l (s : S8) : List W := [s.a, s.b, s.c, s.d, s.e, s.f, s.g, s.h]
def sl (s : S8) : List PV := [uw s.a, uw s.b, uw s.c, uw s.d, uw s.e, uw s.f, uw s.g, uw s.h]
def sv (s : S8) : PV := .agg (sl s)
theorem closedL_sl (s : S8) : closedL (sl s) = true := rfl
theorem len_l (s : S8) : s.l.length = 8 := rfl
theorem sl_get {i : Nat} (h : i < 8) (s : S8) (d : PV) : (sl s).getD i d = uw (s.l.getD i 0) := by
  match i, h with
  | 0, _ => rfl
  | 1, _ => rfl
  | 2, _ => rfl
  | 3, _ => rfl
  | 4, _ => rfl
  | 5, _ => rfl
  | 6, _ => rfl
  | 7, _ => rfl
theorem sl_idx {i : Nat} (h : i < 8) (s : S8) (d : PV) : (sl s).getD (((i : Nat) : Int).toNat * 1) d = uw (s.l.getD i 0) := by
  rw [Int.toNat_natCast, Nat.mul_one]; exact sl_get h s d
def kk : List W := [0x428a2f98, 0x71374491, 0xb5c0fbcf, 0xe9b5dba5, 0x3956c25b, 0x59f111f1, 0x923f82a4, 0xab1c5ed5,
  0xd807aa98, 0x12835b01, 0x243185be, 0x550c7dc3, 0x72be5d74, 0x80deb1fe, 0x9bdc06a7, 0xc19bf174,
  0xe49b69c1, 0xefbe4786, 0x0fc19dc6, 0x240ca1cc, 0x2de92c6f, 0x4a7484aa, 0x5cb0a9dc, 0x76f988da,
  0x983e5152, 0xa831c66d, 0xb00327c8, 0xbf597fc7, 0xc6e00bf3, 0xd5a79147, 0x06ca6351, 0x14292967,
  0x27b70a85, 0x2e1b2138, 0x4d2c6dfc, 0x53380d13, 0x650a7354, 0x766a0abb, 0x81c2c92e, 0x92722c85,
  0xa2bfe8a1, 0xa81a664b, 0xc24b8b70, 0xc76c51a3, 0xd192e819, 0xd6990624, 0xf40e3585, 0x106aa070,
  0x19a4c116, 0x1e376c08, 0x2748774c, 0x34b0bcb5, 0x391c0cb3, 0x4ed8aa4a, 0x5b9cca4f, 0x682e6ff3,
  0x748f82ee, 0x78a5636f, 0x84c87814, 0x8cc70208, 0x90befffa, 0xa4506ceb, 0xbef9a3f7, 0xc67178f2]
def init8 : S8 := ⟨0x6a09e667, 0xbb67ae85, 0x3c6ef372, 0xa54ff53a, 0x510e527f, 0x9b05688c, 0x1f83d9ab, 0x5be0cd19⟩
def rotr (x : W) (n : Nat) : W := x <<< (32 - n) ||| x >>> n
def word (b : List UInt8) (i : Nat) : W := bw (b.getD (4 * i) 0) <<< 24 ||| bw (b.getD (4 * i + 1) 0) <<< 16 ||| bw (b.getD (4 * i + 2) 0) <<< 8 ||| bw (b.getD (4 * i + 3) 0)
def fill {α : Type} (n : Nat) (z : α) (f : Nat → α) (i : Nat) : List α := (List.range n).map fun j => if j < i then f j else z
theorem len_fill {α : Type} (n : Nat) (z : α) (f : Nat → α) (i : Nat) : (fill n z f i).length = n := by simp [fill]
theorem fill_zero {α : Type} (n : Nat) (z : α) (f : Nat → α) : List.replicate n z = fill n z f 0 := by
  apply List.ext_getElem (by simp [fill])
  intro k h1 h2
  simp [fill]
theorem fill_set {α : Type} {n i : Nat} {z : α} {f : Nat → α} (h : i < n) : (fill n z f i).set i (f i) = fill n z f (i + 1) := by
  apply List.ext_getElem (by simp [fill])
  intro k h1 h2
  have hk : k < n := by simpa [fill] using h2
  rw [List.getElem_set]
  split
  · rename_i e; subst e
    simp [fill]
  · rename_i e
    simp only [fill, List.getElem_map, List.getElem_range]
    by_cases c : k < i
    · rw [if_pos c, if_pos (by omega)]
    · rw [if_neg c, if_neg (by omega)]
theorem fill_get {α : Type} {n i j : Nat} {z : α} {f : Nat → α} (h : j < n) (d : α) : (fill n z f i).getD j d = if j < i then f j else z := by
  simp [fill, List.getD_eq_getElem?_getD, h]
theorem fill_all {α : Type} (n : Nat) (z : α) (f : Nat → α) : fill n z f n = (List.range n).map f := by
  apply List.map_congr_left
  intro j hj
  rw [if_pos (by simpa using hj)]
def sig0 (x : W) : W := rotr x 7 ^^^ rotr x 18 ^^^ x >>> 3
def sig1 (x : W) : W := rotr x 17 ^^^ rotr x 19 ^^^ x >>> 10
def ext (l : List W) : Nat → List W
  | 0 => l
  | t + 1 => (ext l t).set (16 + t) ((ext l t).getD t 0 + sig0 ((ext l t).getD (t + 1) 0) + (ext l t).getD (t + 9) 0 + sig1 ((ext l t).getD (t + 14) 0))
theorem len_ext (l : List W) : ∀ t, (ext l t).length = l.length
  | 0 => rfl
  | t + 1 => by simp [ext, len_ext l t]
def sched (b : List UInt8) : List W := ext (fill 64 0 (word b) 16) 48
def rnd (k w : W) (s : S8) : S8 :=
  let t1 := s.h + (rotr s.e 6 ^^^ rotr s.e 11 ^^^ rotr s.e 25) + (s.e &&& s.f ^^^ ~~~ s.e &&& s.g) + k + w
  let t2 := (rotr s.a 2 ^^^ rotr s.a 13 ^^^ rotr s.a 22) + (s.a &&& s.b ^^^ s.a &&& s.c ^^^ s.b &&& s.c)
  ⟨t1 + t2, s.a, s.b, s.c, s.d + t1, s.e, s.f, s.g⟩
def rnds (w : List W) (s : S8) : Nat → S8
  | 0 => s
  | t + 1 => rnd (kk.getD t 0) (w.getD t 0) (rnds w s t)
def add8 (s r : S8) : S8 := ⟨s.a + r.a, s.b + r.b, s.c + r.c, s.d + r.d, s.e + r.e, s.f + r.f, s.g + r.g, s.h + r.h⟩
def compress (s : S8) (b : List UInt8) : S8 := add8 s (rnds (sched b) s 64)
def absorb : Nat → S8 → List UInt8 → S8
  | 0, s, _ => s
  | n + 1, s, b => absorb n (compress s (b.take 64)) (b.drop 64)
theorem absorb_split : ∀ (p q : Nat) (s : S8) (b : List UInt8), absorb (p + q) s b = absorb q (absorb p s b) (b.drop (64 * p))
  | 0, q, s, b => by simp [absorb]
  | p + 1, q, s, b => by
    rw [show p + 1 + q = (p + q) + 1 by omega, absorb, absorb_split p q, absorb, List.drop_drop, show 64 + 64 * p = 64 * (p + 1) by omega]
theorem absorb_take : ∀ (p : Nat) (s : S8) (b : List UInt8) (m : Nat), 64 * p ≤ m → absorb p s (b.take m) = absorb p s b
  | 0, s, b, m, _ => rfl
  | p + 1, s, b, m, h => by
    rw [absorb, absorb, List.take_take, List.drop_take, Nat.min_eq_left (by omega), absorb_take p _ _ _ (by omega)]
theorem absorb_succ (p : Nat) (s : S8) (b : List UInt8) : absorb (p + 1) s b = compress (absorb p s b) ((b.drop (64 * p)).take 64) := by
  rw [absorb_split]; rfl
def dbyte (s : S8) (i : Nat) : UInt8 := wb (s.l.getD (i / 4) 0 >>> (8 * (3 - i % 4)))
def dig (s : S8) : List UInt8 := (List.range 32).map (dbyte s)
theorem len_dig (s : S8) : (dig s).length = 32 := by simp [dig]
def be8 (n : Nat) : List UInt8 := (List.range 8).map fun i => UInt8.ofNat (n / 2 ^ (8 * (7 - i)))
def padz (n : Nat) : Nat := (55 + (64 - n % 64)) % 64
def pad (n : Nat) : List UInt8 := 128 :: List.replicate (padz n) 0 ++ be8 (8 * n % 18446744073709551616)
theorem len_pad (n : Nat) : (pad n).length = 9 + padz n := by simp [pad, be8]; omega
theorem padz_lt (n : Nat) : padz n < 64 := Nat.mod_lt _ (by decide)
theorem pad_fits (n : Nat) : (n + (pad n).length) % 64 = 0 := by rw [len_pad]; unfold padz; omega
def msg (b : List UInt8) : List UInt8 := b ++ pad b.length
def sum (b : List UInt8) : List UInt8 := dig (absorb ((msg b).length / 64) init8 (msg b))
theorem len_sum (b : List UInt8) : (sum b).length = 32 := len_dig _
theorem sum_split (b : List UInt8) : absorb ((b.drop (b.length - b.length % 64) ++ pad b.length).length / 64) (absorb (b.length / 64) init8 (b.take (b.length - b.length % 64))) (b.drop (b.length - b.length % 64) ++ pad b.length) = absorb ((msg b).length / 64) init8 (msg b) := by
  have h1 : b.length - b.length % 64 = 64 * (b.length / 64) := by omega
  have h2 := pad_fits b.length
  have h3 : (msg b).length / 64 = b.length / 64 + (b.drop (b.length - b.length % 64) ++ pad b.length).length / 64 := by
    rw [msg, List.length_append, List.length_append, List.length_drop]
    generalize (pad b.length).length = m at *
    omega
  have h4 : b.take (b.length - b.length % 64) = (msg b).take (b.length - b.length % 64) := by
    rw [msg, List.take_append_of_le_length (by omega)]
  have h5 : b.drop (b.length - b.length % 64) ++ pad b.length = (msg b).drop (64 * (b.length / 64)) := by
    rw [← h1, msg, List.drop_append_of_le_length (by omega)]
  rw [h3, absorb_split, h4, absorb_take _ _ _ _ (by omega), h5]
def byB (b : List UInt8) : Nat → List W
  | 0 => List.replicate 64 0
  | i + 1 => (byB b i).set (i / 4) ((byB b i).getD (i / 4) 0 <<< 8 ||| bw (b.getD i 0))
theorem len_byB (b : List UInt8) : ∀ i, (byB b i).length = 64
  | 0 => by simp [byB]
  | i + 1 => by simp [byB, len_byB b i]
theorem four (x0 x1 x2 x3 : UInt8) : (((((0 : W) <<< 8 ||| bw x0) <<< 8 ||| bw x1) <<< 8 ||| bw x2) <<< 8 ||| bw x3) = bw x0 <<< 24 ||| bw x1 <<< 16 ||| bw x2 <<< 8 ||| bw x3 := by
  simp only [BitVec.shiftLeft_or_distrib, ← BitVec.shiftLeft_add, Nat.reduceAdd]
  have e : ∀ x : W, (0 : W) <<< 32 ||| x = x := fun x => by
    rw [show (0 : W) <<< 32 = 0#32 by decide, BitVec.zero_or]
  rw [e]
theorem getD_set_self {α : Type} {l : List α} {i : Nat} {x d : α} (h : i < l.length) : (l.set i x).getD i d = x := by
  simp [List.getD_eq_getElem?_getD, h]
theorem byB_word (b : List UInt8) : ∀ t, t ≤ 16 → byB b (4 * t) = fill 64 0 (word b) t
  | 0, _ => fill_zero ..
  | t + 1, h => by
    have ih := byB_word b t (by omega)
    have hl : t < (fill (64 : Nat) (0 : W) (word b) t).length := by rw [len_fill]; omega
    have g0 : (fill (64 : Nat) (0 : W) (word b) t).getD t 0 = 0 := by rw [fill_get (by omega), if_neg (by omega)]
    rw [show 4 * (t + 1) = 4 * t + 3 + 1 by omega, byB, show 4 * t + 3 = 4 * t + 2 + 1 by omega, byB, show 4 * t + 2 = 4 * t + 1 + 1 by omega, byB, byB, ih]
    rw [show 4 * t / 4 = t by omega, show (4 * t + 1) / 4 = t by omega, show (4 * t + 1 + 1) / 4 = t by omega, show (4 * t + 1 + 1 + 1) / 4 = t by omega]
    simp only [List.set_set, g0]
    rw [getD_set_self hl, getD_set_self hl, getD_set_self hl, four]
    exact fill_set (by omega)
def mix {α : Type} (n : Nat) (g f : Nat → α) (i : Nat) : List α := (List.range n).map fun j => if j < i then f j else g j
theorem len_mix {α : Type} (n : Nat) (g f : Nat → α) (i : Nat) : (mix n g f i).length = n := by simp [mix]
theorem mix_set {α : Type} {n i : Nat} {g f : Nat → α} (h : i < n) : (mix n g f i).set i (f i) = mix n g f (i + 1) := by
  apply List.ext_getElem (by simp [mix])
  intro k h1 h2
  have hk : k < n := by simpa [mix] using h2
  rw [List.getElem_set]
  split
  · rename_i e; subst e
    simp [mix]
  · rename_i e
    simp only [mix, List.getElem_map, List.getElem_range]
    by_cases c : k < i
    · rw [if_pos c, if_pos (by omega)]
    · rw [if_neg c, if_neg (by omega)]
theorem mix_get {α : Type} {n i : Nat} {g f : Nat → α} (h : i < n) (d : α) : (mix n g f i).getD i d = g i := by
  simp [mix, List.getD_eq_getElem?_getD, h]
def addI (s r : S8) (i : Nat) : List W := mix 8 (fun j => s.l.getD j 0) (fun j => s.l.getD j 0 + r.l.getD j 0) i
theorem len_addI (s r : S8) (i : Nat) : (addI s r i).length = 8 := len_mix ..
theorem addI_set {s r : S8} {i : Nat} (h : i < 8) : (addI s r i).set i ((addI s r i).getD i 0 + r.l.getD i 0) = addI s r (i + 1) := by
  have e : (addI s r i).getD i 0 = s.l.getD i 0 := mix_get h 0
  rw [e]
  exact mix_set h
def padI (n i : Nat) : List UInt8 := 128 :: List.replicate (padz n) 0 ++ (be8 (8 * n % 18446744073709551616)).take i
theorem len_be8 (n : Nat) : (be8 n).length = 8 := by simp [be8]
theorem len_padI (n i : Nat) : (padI n i).length = 1 + padz n + min i 8 := by
  simp [padI, len_be8]; omega
theorem padI_zero (n : Nat) : (List.replicate (1 + padz n) (0 : UInt8)).set 0 128 = padI n 0 := by
  rw [Nat.add_comm, List.replicate_succ]; simp [padI]
theorem padI_step {n i : Nat} (h : i < 8) : padI n i ++ [UInt8.ofNat (8 * n % 18446744073709551616 / 2 ^ (8 * (7 - i)))] = padI n (i + 1) := by
  have e : (be8 (8 * n % 18446744073709551616)).take (i + 1) = (be8 (8 * n % 18446744073709551616)).take i ++ [UInt8.ofNat (8 * n % 18446744073709551616 / 2 ^ (8 * (7 - i)))] := by
    rw [List.take_add_one]
    simp [be8, h]
  simp only [padI, e, List.append_assoc]
theorem padI_all (n : Nat) : padI n 8 = pad n := by
  simp only [padI, pad]
  rw [List.take_of_length_le (by rw [len_be8]; exact Nat.le_refl _)]
theorem dig_def (s : S8) : fill 32 0 (dbyte s) 32 = dig s := fill_all ..
def tagged (t b : List UInt8) : List UInt8 := sum (sum t ++ sum t ++ b)
end Go.Ab
namespace Go.Ab
open Go Go.RowKit
set_option linter.unusedVariables false
set_option linter.unusedSimpArgs false
def no : Nat → Prop := fun _ => False
theorem wf_u8 {n : Int} (h : (Lit.int .u8 n).wf = true) : 0 ≤ n ∧ n < 256 := by
  simp only [Lit.wf, Bool.and_eq_true, decide_eq_true_eq] at h
  have h1 : 0 ≤ n := h.1
  have h2 : n ≤ 255 := h.2
  omega
theorem law_run {P : Program} {f : FuncId} {S : List PV → Prop × PV} (h : PureOk P f S) {args : List PV} {vs : List Value} {w : World} (hp : (S args).1) (hv : (S args).2 = .lit (.bool true)) (hc : closedL args = true) (hr : RepL no [] w args vs) (hG : Globs no [] w) :
    Calls P f vs.toArray w fun e w' => e = .returned (.bool true) ∧ Below w.heap.size w w' := by
  refine (h.run args hp hc no w vs (fun b hb => hb.elim) hr hG).mono fun e w' ⟨v, he, hg, hrr⟩ => ?_
  rw [hv] at hrr
  have hv' : v = .bool true := by
    have := hrr.2
    simpa [RepV] using this
  subst hv'
  exact ⟨he, ⟨hg.os, hg.tape, hg.output, hg.size, fun k hk => hg.block k hk (fun ⟨i, y, hb⟩ => by simp at hb)⟩⟩
section
variable {H : Type} {enc : TypeId × Value → H} {P : Program} {t e : TypeId} {n : Nat} {q : IntKind} {W : World} {base : Nat} {sp : Nat → Bool} {held : Bool}
end
def byK (k n : Nat) : List UInt8 := (List.range k).map fun j => UInt8.ofNat (n / 2 ^ (8 * (k - 1 - j)))
theorem byK_snoc (k v : Nat) (b : UInt8) : byK (k + 1) (v * 256 + b.toNat) = byK k v ++ [b] := by
  have hb : b.toNat < 256 := b.toNat_lt
  have e8 : (2 : Nat) ^ 8 = 256 := by decide
  unfold byK
  rw [List.range_succ, List.map_append]
  congr 1
  · apply List.map_congr_left
    intro j hj
    have hj' : j < k := by simpa using hj
    have e : 8 * (k + 1 - 1 - j) = 8 + 8 * (k - 1 - j) := by omega
    rw [e, Nat.pow_add, ← Nat.div_div_eq_div_mul, e8]
    congr 2
    omega
  · simp only [List.map_cons, List.map_nil, Nat.add_sub_cancel, Nat.sub_self, Nat.mul_zero, Nat.pow_zero, Nat.div_one]
    congr 1
    apply UInt8.toNat_inj.1
    rw [UInt8.toNat_ofNat']
    omega
end Go.Ab
namespace Go.Ab
open Go Go.RowKit
set_option linter.unusedVariables false
set_option linter.unusedSimpArgs false
variable {P : Program} {X : Nat → Prop} {β : List Base} {w : World} {L : LH} {env : Env} {N B : Nat} {rr : Option Nat}
def FinH (P : Program) (fn : Func) (n : Nat) (r : PV) (L' : LH) (e : Exit) (env : Env) (L : LH) : Prop :=
  (e = .normal ∨ e = .ret) ∧ resAll P env L fn.results.toList ∧ ∃ m, Weak n m [(0, resPV P fn env L)] L [(0, r)] L'
theorem stH_of {tab : FuncId → Entry} (hΓ : ∀ f, EntryOk P f (tab f)) (hm : P.follows .mixedOrders = true) {f : FuncId} {fn : Func} {c : Code} {T : List PV → LH → OR} (hf : P.funcs[f]? = some fn) (hb : fn.body = some c) (hfit : fits fn.ntmps c = true)
    (hcall : ∀ (vs : Array Value) (w : World), (callFunc f vs).run P w = .ok (.enter f vs) w)
    (h : ∀ args L, (T args L).pre → args.length ≤ fn.ntmps ∧ Ex P ⟨tab, L.length⟩ c (entry 0 args) L (FinH P fn L.length (T args L).val (T args L).L)) : StOk P f T where
  call := fun _ => hcall
  run := by
    intro args L hT X β w vs hr hH hG0
    obtain ⟨hlen, e, env', L', hrun, hfin⟩ := h args L hT
    have hvl := RepL.length hr
    refine calls_marks hf hb ?_
    have hsz : (vs.toArray ++ Array.replicate (fn.ntmps - vs.toArray.size) undef).size = fn.ntmps := by simp; omega
    have hA : RepA fn.ntmps w.heap.size X β w (entry 0 args) { tmps := vs.toArray ++ Array.replicate (fn.ntmps - vs.toArray.size) undef, defers := [] } := by
      refine ⟨hsz, Nat.le_refl _, fun t => ?_, hG0⟩
      have := entry_lookup hr (List.replicate (fn.ntmps - vs.length) undef) 0 t
      simp only [Nat.zero_le, if_true, Nat.sub_zero] at this
      have he : (vs.toArray ++ Array.replicate (fn.ntmps - vs.toArray.size) undef).getD t undef = (vs ++ List.replicate (fn.ntmps - vs.length) undef).getD t undef := by
        simp [List.getD, Array.getElem?_append, List.getElem?_append, Array.getElem?_replicate, List.getElem?_replicate]
      rw [he]; exact this
    have hG : GammaOk P ⟨tab, L.length⟩ := hΓ
    refine wpIn_mono ((Run.sound hm hrun hG).1 none fn.ntmps w.heap.size X β w _ (.inl rfl) hfit hA hH) fun e1 a1 w0 he => ?_
    obtain ⟨rfl, β', g1, g2, g3⟩ := he
    obtain ⟨hex, hres, m, hw⟩ := hfin
    refine ⟨hex, β', g1.defers, fun w1 hu => ?_⟩
    have h1 := g1.unw hu
    have h2 := g2.calm hu.cal
    have h3 := g3.unw hu
    obtain ⟨v, hv, hrv'⟩ := results_run (P := P) hres h1 h2
    have hA2 : RepA 1 w1.heap.size X β' w1 [(0, resPV P fn env' L')] { tmps := #[v], defers := [] } := by
      refine ⟨rfl, Nat.le_refl _, fun t => ?_, h1.glob⟩
      cases t with
      | zero => exact hrv'
      | succ t => simp [lookup, RepV]
    obtain ⟨β2, h4, h5, h6⟩ := weak_sound hw hA2 h2
    have hrv2 : RepV X β2 w1 (T args L).val v := h4.slot 0
    have hpin : L.length ≤ β.length := by rw [hH.len]; exact Nat.le_refl _
    have h7 := h3.trans h6
    have hg : Grow β β2 w w1 := ⟨h7.os, h7.tape, h7.output, h7.size, h7.block, h7.shape, h7.live, by have := h7.len hpin; rw [hH.len]; exact this,
      fun i x hi hx hd => h7.keep hpin i x (by rw [← hH.len]; exact hi) hx hd⟩
    exact ⟨v, hv, v, _, rfl, hrv2, h5, hg⟩
def fnw (n : Nat) (m : List Nat) (p r : PV) (L L' : LH) : Bool × List Prop :=
  both (nodupB (unf m) && (unf m).all (fun i => Nat.blt i L.length) && (List.range n).all (fun i => natO (unf m)[i]? i), [okR (unf m) p = true, ren (unf m) p = r]) (wkR L (unf m) m L')
theorem fnw_ok {n : Nat} {m : List Nat} {p r : PV} {L' : LH} (h : xW (fnw n m p r L L')) : ∃ m, Weak n m [(0, p)] L [(0, r)] L' := by
  unfold xW at h
  split at h
  · rename_i hb
    have hp := conj1_eq h
    obtain ⟨h1, h2⟩ := both_ok hb hp
    have h3 := h1.1
    simp only [Bool.and_eq_true] at h3
    obtain ⟨r1, r2⟩ := wkR_ok h2.1 h2.2
    refine ⟨unf m, fun i hi => natO_eq (List.all_eq_true.1 h3.2 i (by simpa using hi)), nodupB_ok h3.1.1, fun i hi => Nat.le_of_ble_eq_true (List.all_eq_true.1 h3.1.2 i hi), r1, r2, fun x hx _ => ?_⟩
    simp only [List.mem_singleton] at hx
    subst hx
    exact .inr (.inr (.inr (.inr ⟨h1.2 (okR (unf m) p = true) (by simp), h1.2 (ren (unf m) p = r) (by simp)⟩)))
  · exact h.elim
def xFinH (P : Program) (fn : Func) (n : Nat) (r : PV) (L' : LH) : XK := fun e s env L => match e with
  | .normal => match resB P env L fn.results.toList with
    | true => fV (resV P env L fn.results.toList) fun p => match strip s with
      | .a m => xW (fnw n m p r L L')
      | _ => False
    | false => False
  | .ret => match resB P env L fn.results.toList with
    | true => fV (resV P env L fn.results.toList) fun p => match strip s with
      | .a m => xW (fnw n m p r L L')
      | _ => False
    | false => False
  | _ => False
theorem xFinH_ok {fn : Func} {n : Nat} {r : PV} {L' : LH} {e : Exit} {s : Scr} (h : xFinH P fn n r L' e s env L) : FinH P fn n r L' e env L := by
  have go : ∀ {b : Bool}, resB P env L fn.results.toList = b → (e = .normal ∨ e = .ret) → (match (generalizing := false) b with
      | true => fV (resV P env L fn.results.toList) fun p => match strip s with
        | .a m => xW (fnw n m p r L L')
        | _ => False
      | false => False) → FinH P fn n r L' e env L := by
    intro b hb he h
    cases b with
    | true =>
      rw [fV_eq] at h
      dsimp only at h
      split at h
      · exact ⟨he, resB_ok hb, by rw [resV_eq]; exact fnw_ok h⟩
      · exact h.elim
    | false => exact h.elim
  unfold xFinH at h
  split at h
  · exact go rfl (.inl rfl) h
  · exact go rfl (.inr rfl) h
  · exact h.elim
theorem callH_of {P : Program} (hm : P.follows .mixedOrders = true) {f : FuncId} {fn : Func} {args : List PV} {r : PV} {L L' : LH} (hf : P.funcs[f]? = some fn)
    (hcall : ∀ (vs : Array Value) (w : World), (callFunc f vs).run P w = .ok (.enter f vs) w) (hb : fnB fn args.length = true)
    (s : Scr) {F : Prop} (hx : F = xC P L.length (bodyOf fn) s (entry 0 args) L (xFinH P fn L.length r L')) (h : F) : CallS P f args L r L' := by
  simp only [fnB, Bool.and_eq_true] at hb
  obtain ⟨⟨h1, h2⟩, h3⟩ := hb
  have hbody : fn.body = some (bodyOf fn) := by
    unfold bodyOf
    cases hfb : fn.body with
    | none => rw [hfb] at h1; cases h1
    | some c => rfl
  refine stH_of (tab := noCon.tab) noCon_ok hm hf hbody h2 hcall fun a K ha => ?_
  obtain ⟨rfl, rfl⟩ : a = args ∧ K = L := ha
  refine ⟨Nat.le_of_ble_eq_true h3, ?_⟩
  rw [hx] at h
  exact Ex.mono (xC_ok (Γ := ⟨noCon.tab, K.length⟩) rfl _ h) fun e env L ⟨s, hk⟩ => xFinH_ok hk
def tgt (m : List Nat) (B k : Nat) : Nat := bif Nat.blt k m.length then m.getD k 0 else B + (k - m.length)
def src (m : List Nat) (B i : Nat) : Option Nat := bif Nat.blt i B then (bif inM m i then some (idxM m i) else none) else some (i - B + m.length)
def frIn (m : List Nat) (L : LH) : List Nat → LH → Bool × List Prop
  | [], [] => (true, [])
  | _ :: is, .dead :: Ls => frIn m L is Ls
  | i :: is, .cells cs :: Ls => match L[i]? with
    | some (.cells c0) => both (true, [okRL m c0 = true, renL m c0 = cs]) (frIn m L is Ls)
    | _ => (false, [])
  | _, _ => (false, [])
def frOut (m : List Nat) (B K : Nat) (L Ls' : LH) : Nat → LH → Bool × List Prop
  | _, [] => (true, [])
  | i, .dead :: r => frOut m B K L Ls' (i + 1) r
  | i, .cells c :: r => match src m B i with
    | none => match L[i]? with
      | some (.cells c0) => both (true, [c0 = c]) (frOut m B K L Ls' (i + 1) r)
      | _ => (false, [])
    | some k => match Ls'[k]? with
      | some (.cells c') => both (true, [okWL (fun q => Nat.blt q K) c' = true, mpL (tgt m B) c' = c]) (frOut m B K L Ls' (i + 1) r)
      | _ => (false, [])
def frP (m : List Nat) (args args' : List PV) (r' r : PV) (L Ls Ls' L' : LH) : Bool × List Prop :=
  both (nodupB m && m.all (fun i => Nat.blt i L.length) && Nat.ble Ls.length Ls'.length && Nat.beq L'.length (L.length + (Ls'.length - m.length)),
      [okRL m args = true, renL m args = args', okW (fun q => Nat.blt q Ls'.length) r' = true, mpV (tgt m L.length) r' = r])
    (both (frIn m L m Ls) (frOut m L.length Ls'.length L Ls' 0 L'))
theorem frIn_ok {m : List Nat} : ∀ {is : List Nat} {Ls : LH}, (frIn m L is Ls).1 = true → (∀ a ∈ (frIn m L is Ls).2, a) →
    Ls.length = is.length ∧ ∀ (k i : Nat) cs, is[k]? = some i → Ls[k]? = some (.cells cs) → ∃ c0, L[i]? = some (.cells c0) ∧ okRL m c0 = true ∧ renL m c0 = cs
  | [], [], _, _ => ⟨rfl, fun k i cs h => by simp at h⟩
  | [], x :: _, h, _ => by cases x <;> cases h
  | _ :: _, [], h, _ => by cases h
  | i :: is, .dead :: Ls, h, hp => by
    obtain ⟨e1, e2⟩ := frIn_ok (is := is) (Ls := Ls) h hp
    refine ⟨by simp [e1], fun k j cs hk hL => ?_⟩
    cases k with
    | zero => simp at hL
    | succ k => exact e2 k j cs (by simpa using hk) (by simpa using hL)
  | i :: is, .cells cs0 :: Ls, h, hp => by
    unfold frIn at h hp
    split at h
    · rename_i c0 hc
      simp only [hc] at hp
      obtain ⟨h1, h2⟩ := both_ok h hp
      have a1 := h1.2 (okRL m c0 = true) (by simp)
      have a2 := h1.2 (renL m c0 = cs0) (by simp)
      obtain ⟨e1, e2⟩ := frIn_ok (is := is) (Ls := Ls) h2.1 h2.2
      refine ⟨by simp [e1], fun k j cs hk hL => ?_⟩
      cases k with
      | zero => simp at hk hL; subst hk hL; exact ⟨c0, hc, a1, a2⟩
      | succ k => exact e2 k j cs (by simpa using hk) (by simpa using hL)
    · cases h
theorem frOut_ok {m : List Nat} {B K : Nat} {Ls' : LH} : ∀ {r : LH} {i : Nat}, (frOut m B K L Ls' i r).1 = true → (∀ a ∈ (frOut m B K L Ls' i r).2, a) →
    ∀ (j : Nat) c, r[j]? = some (.cells c) → (src m B (i + j) = none ∧ L[i + j]? = some (.cells c)) ∨ ∃ k c', src m B (i + j) = some k ∧ Ls'[k]? = some (.cells c') ∧ okWL (fun q => Nat.blt q K) c' = true ∧ mpL (tgt m B) c' = c
  | [], i, _, _ => fun j c h => by simp at h
  | .dead :: r, i, h, hp => fun j c hj => by
    cases j with
    | zero => simp at hj
    | succ j =>
      have := frOut_ok (r := r) (i := i + 1) h hp j c (by simpa using hj)
      rwa [show i + (j + 1) = i + 1 + j by omega]
  | .cells c0 :: r, i, h, hp => fun j c hj => by
    unfold frOut at h hp
    split at h
    · rename_i hs
      simp only [hs] at hp
      split at h
      · rename_i c1 hc
        simp only [hc] at hp
        obtain ⟨h1, h2⟩ := both_ok h hp
        cases j with
        | zero =>
          simp at hj; subst hj
          have := h1.2 (c1 = c0) (by simp)
          exact .inl ⟨hs, by rw [Nat.add_zero, hc, this]⟩
        | succ j =>
          have := frOut_ok (r := r) (i := i + 1) h2.1 h2.2 j c (by simpa using hj)
          rwa [show i + (j + 1) = i + 1 + j by omega]
      · cases h
    · rename_i k hs
      simp only [hs] at hp
      split at h
      · rename_i c1 hc
        simp only [hc] at hp
        obtain ⟨h1, h2⟩ := both_ok h hp
        cases j with
        | zero =>
          simp at hj; subst hj
          exact .inr ⟨k, c1, hs, hc, h1.2 (okWL (fun q => Nat.blt q K) c1 = true) (by simp), h1.2 (mpL (tgt m B) c1 = c0) (by simp)⟩
        | succ j =>
          have := frOut_ok (r := r) (i := i + 1) h2.1 h2.2 j c (by simpa using hj)
          rwa [show i + (j + 1) = i + 1 + j by omega]
      · cases h
theorem idxM_lt {m : List Nat} {t : Nat} (h : inM m t = true) : idxM m t < m.length := (List.getElem?_eq_some_iff.1 (idxM_get h)).1
theorem inM_mem : ∀ {m : List Nat} {t : Nat}, t ∈ m → inM m t = true
  | a :: m, t, h => by
    rcases List.mem_cons.1 h with rfl | h
    · simp [inM, Nat.beq_refl]
    · simp [inM, inM_mem h]
theorem idxM_at {m : List Nat} (hn : m.Nodup) {k i : Nat} (h : m[k]? = some i) : idxM m i = k := by
  have h1 := idxM_get (inM_mem (List.mem_of_getElem? h))
  have hk := (List.getElem?_eq_some_iff.1 h).1
  have hk2 := (List.getElem?_eq_some_iff.1 h1).1
  exact (List.getElem_inj hn (h₀ := hk2) (h₁ := hk)).1 (by rw [(List.getElem?_eq_some_iff.1 h1).2, (List.getElem?_eq_some_iff.1 h).2])
theorem rowGrow {β' : List Base} {w' : World} (g : Grow β β' w w') (b : Nat) (hb : w'.heap[b]? = w.heap[b]?) : ∀ (ps : List PV) (off : Nat), RepRow X β w b off ps → RepRow X β' w' b off ps
  | [], _, _ => by simp [RepRow]
  | p :: ps, off, h => by
    simp only [RepRow] at h ⊢
    obtain ⟨⟨v, h1, h2, h3⟩, h4⟩ := h
    refine ⟨⟨v, ?_, h2, RepV.grow g p v h3⟩, rowGrow g b hb ps (off + 1) h4⟩
    rw [← h1]
    exact World.cell?_of_block hb
theorem callS_frame {g : FuncId} {args args' : List PV} {r r' : PV} {L Ls Ls' L' : LH} (m : List Nat) (h : CallS P g args' Ls r' Ls') {F : Prop} (hx : F = xW (frP m args args' r' r L Ls Ls' L')) (hF : F) : CallS P g args L r L' where
  call := fun _ => h.call ⟨args', Ls, rfl, rfl⟩
  run := by
    rw [hx] at hF
    unfold xW at hF
    split at hF
    case h_2 => exact hF.elim
    rename_i hb
    have hp := conj1_eq hF
    obtain ⟨q1, q2⟩ := both_ok hb hp
    obtain ⟨q3, q4⟩ := both_ok q2.1 q2.2
    have c1 := q1.1
    simp only [Bool.and_eq_true] at c1
    obtain ⟨⟨⟨c1, c2⟩, c3⟩, c4⟩ := c1
    have hnd := nodupB_ok c1
    have hbd : ∀ i ∈ m, i < L.length := fun i hi => Nat.le_of_ble_eq_true (List.all_eq_true.1 c2 i hi)
    have hle := Nat.le_of_ble_eq_true c3
    have hlen := Nat.eq_of_beq_eq_true c4
    have a1 := q1.2 (okRL m args = true) (by simp)
    have a2 := q1.2 (renL m args = args') (by simp)
    have a3 := q1.2 (okW (fun q => Nat.blt q Ls'.length) r' = true) (by simp)
    have a4 := q1.2 (mpV (tgt m L.length) r' = r) (by simp)
    obtain ⟨hml, hin⟩ := frIn_ok q3.1 q3.2
    have hout := frOut_ok q4.1 q4.2
    rintro a K ⟨rfl, rfl⟩ X β w vs hr hH hG
    let βs : List Base := m.map fun i => β.getD i .dead
    let X' : Nat → Prop := fun b => X b ∨ (Live β b ∧ ¬ Live βs b)
    have hget : ∀ (k i : Nat), m[k]? = some i → βs[k]? = β[i]? := by
      intro k i hk
      have hi : i < β.length := by rw [hH.len]; exact hbd i (List.mem_of_getElem? hk)
      simp only [βs, List.getElem?_map, hk, Option.map_some]
      simp [hi]
    have hget' : ∀ (k : Nat) x, βs[k]? = some x → ∃ i, m[k]? = some i ∧ β[i]? = some x := by
      intro k x hk
      have hlt : k < m.length := by
        have := (List.getElem?_eq_some_iff.1 hk).1
        simpa [βs] using this
      refine ⟨m[k], by simp [hlt], ?_⟩
      rw [← hget k m[k] (by simp [hlt])]; exact hk
    have hlive : ∀ b, Live βs b → Live β b := by
      rintro b ⟨k, base, hk⟩
      obtain ⟨i, h1, h2⟩ := hget' k _ hk
      exact ⟨i, base, h2⟩
    have hanti : ∀ b, X' b ∨ Live βs b → X b ∨ Live β b := fun b hb => by
      rcases hb with (hb | hb) | hb
      · exact .inl hb
      · exact .inr hb.1
      · exact .inr (hlive b hb)
    have hk : ∀ id, inM m id = true → βs[idxM m id]? = β[id]? ∧ idxM m id < βs.length := fun id hi => ⟨hget _ _ (idxM_get hi), by simp only [βs, List.length_map]; exact idxM_lt hi⟩
    have hr' : RepL X' βs w args' vs := by rw [← a2]; exact mpL_rep hk hanti _ vs a1 hr
    have hH' : RepH X' βs w Ls := by
      refine ⟨by simp [βs, hml], ?_, fun b hb => hH.lt b (hlive b hb), fun b hb => ?_, ?_⟩
      · intro i j b x y hi hj
        obtain ⟨i', h1, h2⟩ := hget' i _ hi
        obtain ⟨j', h3, h4⟩ := hget' j _ hj
        have := hH.inj i' j' b x y h2 h4
        subst this
        rw [← idxM_at hnd h1, ← idxM_at hnd h3]
      · rcases hb with hb | hb
        · exact ⟨(hH.out b hb).1, fun hl => (hH.out b hb).2 (hlive b hl)⟩
        · exact ⟨hH.lt b hb.1, hb.2⟩
      · intro k cs hkc
        have hkl : k < m.length := by rw [← hml]; exact (List.getElem?_eq_some_iff.1 hkc).1
        have hmk : m[k]? = some m[k] := by simp [hkl]
        obtain ⟨c0, h1, h2, rfl⟩ := hin k m[k] cs hmk hkc
        rcases hH.ent m[k] c0 h1 with ⟨e1, e2⟩ | ⟨b, base, c, el, e1, e2, e3, e4⟩
        · exact .inl ⟨by rw [hget k _ hmk]; exact e1, by rw [e2]; rfl⟩
        · exact .inr ⟨b, base, c, el, by rw [hget k _ hmk]; exact e1, e2, by rw [renL, len_mpL]; exact e3, mpR_rep hk hanti b c0 base h2 e4⟩
    have hG' : Globs X' βs w := hG.anti hanti
    refine (h.run args' Ls ⟨rfl, rfl⟩ X' βs w vs hr' hH' hG').mono fun e w' => ?_
    rintro ⟨v, βs', rfl, hv, hHs, gs⟩
    have hsl : βs'.length = Ls'.length := hHs.len
    let β' : List Base := ((List.range β.length).map fun i => bif inM m i then βs'.getD (idxM m i) .dead else β.getD i .dead) ++ βs'.drop m.length
    have b1 : ∀ i, i < β.length → inM m i = true → β'[i]? = βs'[idxM m i]? := by
      intro i hi hm
      have hx : idxM m i < βs'.length := by rw [hsl]; exact Nat.lt_of_lt_of_le (idxM_lt hm) (by rw [← hml]; exact hle)
      simp only [β']
      rw [List.getElem?_append_left (by simpa using hi)]
      simp [hi, hm, hx]
    have b2 : ∀ i, i < β.length → inM m i = false → β'[i]? = β[i]? := by
      intro i hi hm
      simp only [β']
      rw [List.getElem?_append_left (by simpa using hi)]
      simp [hi, hm]
    have b3 : ∀ i, β.length ≤ i → β'[i]? = βs'[i - β.length + m.length]? := by
      intro i hi
      simp only [β']
      rw [List.getElem?_append_right (by simpa using hi)]
      simp [Nat.add_comm]
    have hbl : β'.length = β.length + (βs'.length - m.length) := by simp [β']
    have tg : ∀ k, k < βs'.length → β'[tgt m K.length k]? = βs'[k]? := by
      intro k hkl
      unfold tgt
      cases hb2 : Nat.blt k m.length with
      | true =>
        have hlt : k < m.length := Nat.le_of_ble_eq_true hb2
        have hmk : m[k]? = some m[k] := by simp [hlt]
        simp only [cond_true, List.getD_eq_getElem?_getD, hmk, Option.getD_some]
        rw [b1 _ (by rw [hH.len]; exact hbd _ (List.getElem_mem hlt)) (inM_mem (List.getElem_mem hlt)), idxM_at hnd hmk]
      | false =>
        have hge : m.length ≤ k := by
          rcases Nat.lt_or_ge k m.length with h | h
          · have : Nat.blt k m.length = true := Nat.ble_eq_true_of_le h
            rw [this] at hb2; cases hb2
          · exact h
        simp only [cond_false]
        rw [b3 _ (by rw [hH.len]; omega), hH.len]
        congr 1; omega
    have tl : ∀ k, k < βs'.length → tgt m K.length k < β'.length := by
      intro k hkl
      have := tg k hkl
      have h2 : βs'[k]? = some βs'[k] := by simp [hkl]
      rw [h2] at this
      exact (List.getElem?_eq_some_iff.1 this).1
    have ch : ∀ i b x, β'[i]? = some (.blk b x) → (∃ k, i = tgt m K.length k ∧ βs'[k]? = some (.blk b x)) ∨ (i < β.length ∧ inM m i = false ∧ β[i]? = some (.blk b x)) := by
      intro i b x hi
      rcases Nat.lt_or_ge i β.length with hlt | hge
      · cases hm : inM m i with
        | true =>
          rw [b1 i hlt hm] at hi
          refine .inl ⟨idxM m i, ?_, hi⟩
          unfold tgt
          have : Nat.blt (idxM m i) m.length = true := Nat.ble_eq_true_of_le (idxM_lt hm)
          rw [this]
          simp only [cond_true, List.getD_eq_getElem?_getD, idxM_get hm, Option.getD_some]
        | false => rw [b2 i hlt hm] at hi; exact .inr ⟨hlt, rfl, hi⟩
      · rw [b3 i hge] at hi
        refine .inl ⟨i - β.length + m.length, ?_, hi⟩
        unfold tgt
        have : Nat.blt (i - β.length + m.length) m.length = false := by
          cases hb2 : Nat.blt (i - β.length + m.length) m.length with
          | false => rfl
          | true => have := Nat.le_of_ble_eq_true hb2; omega
        rw [this]
        simp only [cond_false]
        rw [← hH.len]; omega
    have ns : ∀ i b x, i < β.length → inM m i = false → β[i]? = some (.blk b x) → ¬ Live βs b := by
      rintro i b x hi hm hb ⟨k, base, hk2⟩
      obtain ⟨i', h1, h2⟩ := hget' k _ hk2
      have := hH.inj i i' b x base hb h2
      subst this
      rw [inM_mem (List.mem_of_getElem? h1)] at hm; cases hm
    have hanti2 : ∀ b, X b ∨ Live β' b → X' b ∨ Live βs' b := by
      rintro b (hb | ⟨i, x, hi⟩)
      · exact .inl (.inl hb)
      · rcases ch i b x hi with ⟨k, _, hk2⟩ | ⟨hlt, hm, hk2⟩
        · exact .inr ⟨k, x, hk2⟩
        · exact .inl (.inr ⟨⟨i, x, hk2⟩, ns i b x hlt hm hk2⟩)
    have hk3 : ∀ id, (fun q => Nat.blt q Ls'.length) id = true → β'[tgt m K.length id]? = βs'[id]? ∧ tgt m K.length id < β'.length := fun id hi => by
      have : id < βs'.length := by rw [hsl]; exact Nat.le_of_ble_eq_true hi
      exact ⟨tg id this, tl id this⟩
    have hg : Grow β β' w w' := by
      refine ⟨gs.os, gs.tape, gs.output, gs.size, fun k hk1 hk2 => gs.block k hk1 fun hl => hk2 (hlive k hl), gs.shape, ?_, by rw [hbl]; omega, ?_⟩
      · rintro b ⟨i, x, hi⟩
        rcases ch i b x hi with ⟨k, _, hk2⟩ | ⟨hlt, hm, hk2⟩
        · rcases gs.live b ⟨k, x, hk2⟩ with hl | hl
          · exact .inl (hlive b hl)
          · exact .inr hl
        · exact .inl ⟨i, x, hk2⟩
      · intro i x hi hx hd
        cases hm : inM m i with
        | true =>
          rw [b1 i hi hm] at hx
          have := gs.keep (idxM m i) x (hk i hm).2 hx hd
          rw [← (hk i hm).1]; exact this
        | false => rw [b2 i hi hm] at hx; exact hx
    refine ⟨v, β', rfl, by rw [← a4]; exact mpV_rep hk3 hanti2 r' v a3 hv, ?_, hg⟩
    refine ⟨by rw [hbl, hlen, hH.len, hsl], ?_, ?_, ?_, ?_⟩
    · intro i j b x y hi hj
      rcases ch i b x hi with ⟨k, rfl, hk2⟩ | ⟨hlt, hm, hk2⟩
      · rcases ch j b y hj with ⟨k', rfl, hk2'⟩ | ⟨hlt', hm', hk2'⟩
        · rw [hHs.inj k k' b x y hk2 hk2']
        · exfalso
          rcases gs.live b ⟨k, x, hk2⟩ with hl | hl
          · exact ns j b y hlt' hm' hk2' hl
          · have := hH.lt b ⟨j, y, hk2'⟩; omega
      · rcases ch j b y hj with ⟨k', rfl, hk2'⟩ | ⟨hlt', hm', hk2'⟩
        · exfalso
          rcases gs.live b ⟨k', y, hk2'⟩ with hl | hl
          · exact ns i b x hlt hm hk2 hl
          · have := hH.lt b ⟨i, x, hk2⟩; omega
        · exact hH.inj i j b x y hk2 hk2'
    · rintro b ⟨i, x, hi⟩
      rcases ch i b x hi with ⟨k, _, hk2⟩ | ⟨hlt, hm, hk2⟩
      · exact hHs.lt b ⟨k, x, hk2⟩
      · exact Nat.lt_of_lt_of_le (hH.lt b ⟨i, x, hk2⟩) gs.size
    · intro b hb
      refine ⟨(hHs.out b (.inl hb)).1, ?_⟩
      rintro ⟨i, x, hi⟩
      rcases ch i b x hi with ⟨k, _, hk2⟩ | ⟨hlt, hm, hk2⟩
      · exact (hHs.out b (.inl hb)).2 ⟨k, x, hk2⟩
      · exact (hH.out b hb).2 ⟨i, x, hk2⟩
    · intro i cs hi
      rcases hout i cs hi with ⟨h1, h2⟩ | ⟨k, c', h1, h2, h3, rfl⟩
      · rw [Nat.zero_add] at h1 h2
        have hlt : i < β.length := by rw [hH.len]; exact (List.getElem?_eq_some_iff.1 h2).1
        have hm : inM m i = false := by
          cases hm : inM m i with
          | false => rfl
          | true =>
            unfold src at h1
            have : Nat.blt i K.length = true := Nat.ble_eq_true_of_le (by rw [← hH.len]; exact hlt)
            rw [this, hm] at h1; simp at h1
        rcases hH.ent i cs h2 with ⟨e1, e2⟩ | ⟨b, base, c, el, e1, e2, e3, e4⟩
        · exact .inl ⟨by rw [b2 i hlt hm]; exact e1, e2⟩
        · have hbb := gs.block b (hH.lt b ⟨i, base, e1⟩) (ns i b base hlt hm e1)
          exact .inr ⟨b, base, c, el, by rw [b2 i hlt hm]; exact e1, by rw [hbb]; exact e2, e3, rowGrow hg b hbb cs base e4⟩
      · rw [Nat.zero_add] at h1
        have hkl : k < βs'.length := by rw [hsl]; exact (List.getElem?_eq_some_iff.1 h2).1
        have hik : β'[i]? = βs'[k]? := by
          unfold src at h1
          cases hb2 : Nat.blt i K.length with
          | true =>
            have hlt : i < β.length := by rw [hH.len]; exact Nat.le_of_ble_eq_true hb2
            rw [hb2] at h1
            simp only [cond_true] at h1
            cases hm : inM m i with
            | true => rw [hm] at h1; cases h1; exact b1 i hlt hm
            | false => rw [hm] at h1; cases h1
          | false =>
            have hge : β.length ≤ i := by
              rw [hH.len]
              rcases Nat.lt_or_ge i K.length with h | h
              · have : Nat.blt i K.length = true := Nat.ble_eq_true_of_le h
                rw [this] at hb2; cases hb2
              · exact h
            rw [hb2] at h1
            cases h1
            rw [b3 i hge, hH.len]
        rcases hHs.ent k c' h2 with ⟨e1, e2⟩ | ⟨b, base, c, el, e1, e2, e3, e4⟩
        · exact .inl ⟨by rw [hik]; exact e1, by rw [e2]; rfl⟩
        · exact .inr ⟨b, base, c, el, by rw [hik]; exact e1, e2, by rw [len_mpL]; exact e3, mpR_rep hk3 hanti2 b c' base h3 e4⟩
end Go.Ab
