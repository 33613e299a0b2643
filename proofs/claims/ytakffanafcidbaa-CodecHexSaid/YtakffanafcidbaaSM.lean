import Derived.Test.YtakffanafcidbaaSH
import Derived.Laws.Strings
namespace Go.Ab
open Go Go.Proofs
set_option linter.unusedVariables false
set_option linter.unusedSimpArgs false
set_option maxRecDepth 4000
set_option maxHeartbeats 2000000
theorem tf_ne : (true == false) = false := rfl
theorem ft_ne : (false == true) = false := rfl
theorem bytesOf_u8 (k : Int) (l : List UInt8) : bytesOf (.lit (.int .u8 k) :: l.map bv) = UInt8.ofNat k.toNat :: l := by
  rw [show bytesOf (.lit (.int .u8 k) :: l.map bv) = UInt8.ofNat k.toNat :: bytesOf (l.map bv) from rfl, bytesOf_bv]
theorem dro_bv (L : List LE) (n : Nat) (bs : List UInt8) : (bs.map bv).map (dro L n) = bs.map bv := by
  rw [List.map_map]; apply List.map_congr_left; intro b _; cases n <;> simp [bv, dro]
theorem droOk_bv (L : List LE) (n : Nat) (bs : List UInt8) : (∀ q ∈ bs.map bv, droOk L n q) ↔ True := by
  simp only [iff_true, List.mem_map, forall_exists_index, and_imp]
  rintro q b _ rfl
  cases n <;> simp [bv, droOk]
def leB (n k : Nat) : List UInt8 := (List.range k).map fun i => UInt8.ofNat (n / 2 ^ (8 * i))
theorem leB_length (n k : Nat) : (leB n k).length = k := by simp [leB]
theorem leB_zero (n : Nat) : leB n 0 = [] := rfl
theorem leB_succ (n k : Nat) : leB n (k + 1) = leB n k ++ [UInt8.ofNat (n / 2 ^ (8 * k))] := by simp [leB, List.range_succ]
theorem byte_shr {n : Int} {i : Nat} (hn : 0 ≤ n) (hi : i < 8) : PV.lit (.int .u8 (IntKind.u8.wrap (n.fdiv (2 ^ (min (8 * (i : Int)).toNat 64))))) = bv (UInt8.ofNat (n.toNat / 2 ^ (8 * i))) := by
  obtain ⟨m, rfl⟩ := Int.eq_ofNat_of_zero_le hn
  have h1 : min (8 * (i : Int)).toNat 64 = 8 * i := by omega
  rw [h1]
  have h2 : ((m : Int)).fdiv ((2 : Int) ^ (8 * i)) = ((m / 2 ^ (8 * i) : Nat) : Int) := by
    have : ((2 : Int) ^ (8 * i)) = ((2 ^ (8 * i) : Nat) : Int) := by simp
    rw [this, Int.ofNat_fdiv]
  rw [h2]
  simp only [bv, IntKind.wrap, IntKind.bits, IntKind.signed]
  simp

def szB (n : Nat) : List UInt8 := if n < 253 then leB n 1 else if n < 65536 then 253 :: leB n 2 else if n < 4294967296 then 254 :: leB n 4 else 255 :: leB n 8
theorem szB_le (n : Nat) : (szB n).length ≤ 9 := by unfold szB; split <;> (try split) <;> (try split) <;> simp [leB_length]

def needM (n : Nat) (a b : Int) : Int := if a < 0 ∨ a > n then 5 else if n - a < b then 1 else 0

def S47 : List PV → Prop × PV
  | [.lit (.int .u64 n), .lit (.int .i64 w)] => (0 ≤ n ∧ n < 18446744073709551616 ∧ 0 ≤ w ∧ w ≤ 8, newB (leB n.toNat w.toNat))
  | _ => (False, .any)
def S49 : List PV → Prop × PV
  | [.lit (.int .u64 n), .lit (.int .i64 w)] => (0 ≤ n ∧ n < 18446744073709551616 ∧ 0 ≤ w ∧ w ≤ 8, newB (leB n.toNat w.toNat))
  | _ => (False, .any)
def S48 : List PV → Prop × PV
  | [.ro n cs, .ro m ds] => (isB n cs ∧ isB m ds ∧ n + m ≤ 140737488355328, newB (bytesOf cs ++ bytesOf ds))
  | _ => (False, .any)
def S61 : List PV → Prop × PV
  | [.lit (.slice none 0 0), .lit (.int .i64 n)] => (0 ≤ n ∧ n ≤ 140737488355328, newB [])
  | _ => (False, .any)
def S46 : List PV → Prop × PV
  | [.ro n cs] => (n = cs.length ∧ 1 ≤ n ∧ n ≤ 1000 ∧ isRows cs ∧ (rowsOf cs).flatten.length ≤ 140737488355328, newB (rowsOf cs).flatten)
  | _ => (False, .any)
def S14 : List PV → Prop × PV
  | [.ro n cs, .lit (.int .u16 x)] => (isB n cs ∧ n ≤ 70368744177664 ∧ 0 ≤ x ∧ x < 65536, newB (bytesOf cs ++ leB x.toNat 2))
  | _ => (False, .any)
def S15 : List PV → Prop × PV
  | [.ro n cs, .lit (.int .u16 x)] => (isB n cs ∧ n ≤ 70368744177664 ∧ 0 ≤ x ∧ x < 65536, newB (bytesOf cs ++ leB x.toNat 2))
  | _ => (False, .any)
def S16 : List PV → Prop × PV
  | [.ro n cs, .lit (.int .u32 x)] => (isB n cs ∧ n ≤ 70368744177664 ∧ 0 ≤ x ∧ x < 4294967296, newB (bytesOf cs ++ leB x.toNat 4))
  | _ => (False, .any)
def S17 : List PV → Prop × PV
  | [.ro n cs, .lit (.int .u32 x)] => (isB n cs ∧ n ≤ 70368744177664 ∧ 0 ≤ x ∧ x < 4294967296, newB (bytesOf cs ++ leB x.toNat 4))
  | _ => (False, .any)
def S18 : List PV → Prop × PV
  | [.ro n cs, .lit (.int .u64 x)] => (isB n cs ∧ n ≤ 70368744177664 ∧ 0 ≤ x ∧ x < 18446744073709551616, newB (bytesOf cs ++ leB x.toNat 8))
  | _ => (False, .any)
def S19 : List PV → Prop × PV
  | [.ro n cs, .lit (.int .u64 x)] => (isB n cs ∧ n ≤ 70368744177664 ∧ 0 ≤ x ∧ x < 18446744073709551616, newB (bytesOf cs ++ leB x.toNat 8))
  | _ => (False, .any)
def S50 : List PV → Prop × PV
  | [.lit (.int .u64 x)] => (0 ≤ x ∧ x < 18446744073709551616, newB (szB x.toNat))
  | _ => (False, .any)
def S20 : List PV → Prop × PV
  | [.ro n cs, .lit (.int .u64 x)] => (isB n cs ∧ n ≤ 70368744177664 ∧ 0 ≤ x ∧ x < 18446744073709551616, newB (bytesOf cs ++ szB x.toNat))
  | _ => (False, .any)
def S21 : List PV → Prop × PV
  | [.ro n cs, .lit (.int .u64 x)] => (isB n cs ∧ n ≤ 70368744177664 ∧ 0 ≤ x ∧ x < 18446744073709551616, newB (bytesOf cs ++ szB x.toNat))
  | _ => (False, .any)
def S22 : List PV → Prop × PV
  | [.ro n cs, .ro m ds] => (isB n cs ∧ isB m ds ∧ n ≤ 35184372088832 ∧ m ≤ 35184372088832, newB (bytesOf cs ++ (szB m ++ bytesOf ds)))
  | _ => (False, .any)
def S23 : List PV → Prop × PV
  | [.ro n cs, .ro m ds] => (isB n cs ∧ isB m ds ∧ n ≤ 35184372088832 ∧ m ≤ 35184372088832, newB (bytesOf cs ++ (szB m ++ bytesOf ds)))
  | _ => (False, .any)
def S24 : List PV → Prop × PV
  | [.ro n cs, .agg hs] => (isB n cs ∧ n ≤ 70368744177664 ∧ isB 32 hs, newB (bytesOf cs ++ bytesOf hs))
  | _ => (False, .any)
def S25 : List PV → Prop × PV
  | [.ro n cs, .agg hs] => (isB n cs ∧ n ≤ 70368744177664 ∧ isB 32 hs, newB (bytesOf cs ++ bytesOf hs))
  | _ => (False, .any)
def S13 : List PV → Prop × PV
  | [.ro n cs, .ro m ds] => (isB n cs ∧ isB m ds, .lit (.bool (bytesOf cs == bytesOf ds)))
  | _ => (False, .any)
def S56 : List PV → Prop × PV
  | [.ro n cs, .lit (.int .i64 a), .lit (.int .i64 b)] => (n ≤ 9223372036854775807, .lit (.int .i64 (needM n a b)))
  | _ => (False, .any)

theorem flat_le (bss : List (List UInt8)) (i : Nat) : (bss.take i).flatten.length ≤ bss.flatten.length := by
  conv => rhs; rw [← List.take_append_drop i bss, List.flatten_append, List.length_append]
  omega
theorem flat_snoc (bss : List (List UInt8)) (i : Nat) (h : i < bss.length) : (bss.take (i + 1)).flatten = (bss.take i).flatten ++ bss.getD i [] := by
  rw [List.take_succ_eq_append_getElem h, List.flatten_append]
  simp [List.getD_eq_getElem?_getD, h]
theorem flat_succ (bss : List (List UInt8)) (i : Nat) (h : i < bss.length) : (bss.take (i + 1)).flatten.length = (bss.take i).flatten.length + (bss.getD i []).length := by
  rw [flat_snoc bss i h, List.length_append]
theorem szB1 {x : Int} (h0 : 0 ≤ x) (h1 : x < 253) : szB x.toNat = leB x.toNat 1 := by unfold szB; rw [if_pos (by omega)]
theorem szB2 {x : Int} (h1 : ¬ x < 253) (h2 : x < 65536) : szB x.toNat = 253 :: leB x.toNat 2 := by unfold szB; rw [if_neg (by omega), if_pos (by omega)]
theorem szB3 {x : Int} (h1 : ¬ x < 65536) (h2 : x < 4294967296) : szB x.toNat = 254 :: leB x.toNat 4 := by unfold szB; rw [if_neg (by omega), if_neg (by omega), if_pos (by omega)]
theorem szB4 {x : Int} (h1 : ¬ x < 4294967296) : szB x.toNat = 255 :: leB x.toNat 8 := by unfold szB; rw [if_neg (by omega), if_neg (by omega), if_neg (by omega)]
theorem isB_one (k : Int) (h : 0 ≤ k ∧ k < 256) : isB 1 [.lit (.int .u8 k)] ↔ True := by
  simp only [iff_true]
  refine ⟨rfl, [UInt8.ofNat k.toNat], ?_⟩
  simp only [List.map_cons, List.map_nil, bv, List.cons.injEq, and_true, PV.lit.injEq, Value.int.injEq, true_and]
  simp
  omega
theorem bytesOf_one (k : Int) : bytesOf [.lit (.int .u8 k)] = [UInt8.ofNat k.toNat] := rfl

def leN : List UInt8 → Nat
  | [] => 0
  | b :: r => b.toNat + 256 * leN r
theorem leN_lt (bs : List UInt8) : leN bs < 2 ^ (8 * bs.length) := by
  induction bs with
  | nil => simp [leN]
  | cons b r ih =>
    have := b.toNat_lt
    simp only [leN, List.length_cons, Nat.mul_add, Nat.pow_add]
    have h2 : (2 : Nat) ^ (8 * 1) = 256 := rfl
    rw [h2]
    omega
theorem leN_snoc (bs : List UInt8) (b : UInt8) : leN (bs ++ [b]) = leN bs + b.toNat * 2 ^ (8 * bs.length) := by
  induction bs with
  | nil => simp [leN]
  | cons c r ih =>
    simp only [List.cons_append, leN, ih, List.length_cons, Nat.mul_add, Nat.pow_add]
    have h2 : (2 : Nat) ^ (8 * 1) = 256 := rfl
    rw [h2]
    have : b.toNat * (2 ^ (8 * r.length) * 256) = 256 * (b.toNat * 2 ^ (8 * r.length)) := by rw [← Nat.mul_assoc, Nat.mul_comm]
    omega
def win (bs : List UInt8) (i k : Nat) : List UInt8 := (bs.drop i).take k
theorem win_zero (bs : List UInt8) (i : Nat) : win bs i 0 = [] := by simp [win]
theorem win_length {bs : List UInt8} {i k : Nat} (h : i + k ≤ bs.length) : (win bs i k).length = k := by simp [win]; omega
theorem win_snoc {bs : List UInt8} {i k : Nat} (h : i + k < bs.length) : win bs i (k + 1) = win bs i k ++ [bs.getD (i + k) 0] := by
  unfold win
  have h2 : k < (bs.drop i).length := by simp; omega
  rw [List.take_succ_eq_append_getElem h2]
  congr 1
  simp [List.getD_eq_getElem?_getD, h]
theorem win_cons {bs : List UInt8} {i k : Nat} (h : i < bs.length) : win bs i (k + 1) = bs.getD i 0 :: win bs (i + 1) k := by
  unfold win
  rw [List.drop_eq_getElem_cons h, List.take_succ_cons]
  congr 1
  simp [List.getD_eq_getElem?_getD, h]
def rdV (bs : List UInt8) (a : Int) (k : Nat) : Nat := if needM bs.length a k = 0 then leN (win bs a.toNat k) else 0
def rdP (n : Nat) (a : Int) (k : Nat) : Int := if needM n a k = 0 then a + k else 0
theorem needM_ok {n : Nat} {a k : Int} (h : needM n a k = 0) : 0 ≤ a ∧ a ≤ n ∧ k ≤ n - a := by
  unfold needM at h
  split at h
  · cases h
  · split at h
    · cases h
    · omega
theorem rdV_lt (bs : List UInt8) (a : Int) (k : Nat) : rdV bs a k < 2 ^ (8 * k) := by
  unfold rdV
  split
  · rename_i h
    obtain ⟨h1, h2, h3⟩ := needM_ok h
    have := leN_lt (win bs a.toNat k)
    rwa [win_length (by omega)] at this
  · exact Nat.two_pow_pos _
theorem or_step (k : IntKind) (hk : k.signed = false) (v b i : Nat) (hv : v < 2 ^ (8 * i)) (hb : b < 256) (hi : 8 * i + 8 ≤ k.bits) :
    k.wrap ((BitVec.ofInt k.bits (v : Int) ||| BitVec.ofInt k.bits (k.wrap ((b : Int) * 2 ^ (min (8 * (i : Int)).toNat k.bits)))).toNat : Int) = ((v + b * 2 ^ (8 * i) : Nat) : Int) := by
  have h1 : min (8 * (i : Int)).toNat k.bits = 8 * i := by omega
  have hp : (2 : Nat) ^ (8 * i) * 256 ≤ 2 ^ k.bits := by
    have : (2 : Nat) ^ (8 * i) * 256 = 2 ^ (8 * i + 8) := by rw [Nat.pow_add]
    rw [this]
    exact Nat.pow_le_pow_right (by omega) hi
  have hpos : 0 < (2 : Nat) ^ (8 * i) := Nat.two_pow_pos _
  have hbm : b * 2 ^ (8 * i) ≤ 255 * 2 ^ (8 * i) := Nat.mul_le_mul_right _ (by omega)
  have hlt : v + b * 2 ^ (8 * i) < 2 ^ k.bits := by omega
  have hw : ∀ m : Nat, m < 2 ^ k.bits → k.wrap (m : Int) = m := by
    intro m hm
    simp only [IntKind.wrap, hk, Bool.false_and, Bool.false_eq_true, if_false]
    have : ((2 : Int) ^ k.bits) = ((2 ^ k.bits : Nat) : Int) := by simp
    rw [this, ← Int.natCast_emod, Nat.mod_eq_of_lt hm]
  have he : ((b : Int) * 2 ^ (8 * i)) = ((b * 2 ^ (8 * i) : Nat) : Int) := by simp
  rw [h1, he, hw (b * 2 ^ (8 * i)) (by omega)]
  have hor : (BitVec.ofInt k.bits (v : Int) ||| BitVec.ofInt k.bits ((b * 2 ^ (8 * i) : Nat) : Int)).toNat = v + b * 2 ^ (8 * i) := by
    rw [BitVec.toNat_or, BitVec.ofInt_natCast, BitVec.ofInt_natCast, BitVec.toNat_ofNat, BitVec.toNat_ofNat, Nat.mod_eq_of_lt (by omega), Nat.mod_eq_of_lt (by omega)]
    rw [Nat.or_comm, Nat.mul_comm b, ← Nat.two_pow_add_eq_or_of_lt hv, Nat.add_comm]
  rw [hor, hw _ hlt]
theorem or_step2 (v b : Nat) (hb : b < 256) (hv : v < 72057594037927936) :
    IntKind.u64.wrap ((BitVec.ofInt 64 (IntKind.u64.wrap ((v : Int) * 2 ^ (min (8 : Int).toNat 64))) ||| BitVec.ofInt 64 (b : Int)).toNat : Int) = ((b + 256 * v : Nat) : Int) := by
  have e : ((v : Int) * 2 ^ (min (8 : Int).toNat 64)) = ((256 * v : Nat) : Int) := by
    have : min (8 : Int).toNat 64 = 8 := rfl
    rw [this]; simp; omega
  rw [e, wrap_u64 (n := ((256 * v : Nat) : Int)) (by omega) (by omega)]
  have hor : (BitVec.ofInt 64 ((256 * v : Nat) : Int) ||| BitVec.ofInt 64 (b : Int)).toNat = b + 256 * v := by
    rw [BitVec.toNat_or, BitVec.ofInt_natCast, BitVec.ofInt_natCast, BitVec.toNat_ofNat, BitVec.toNat_ofNat, Nat.mod_eq_of_lt (by omega), Nat.mod_eq_of_lt (by omega)]
    have h3 := Nat.two_pow_add_eq_or_of_lt (i := 8) (b := b) (by omega) v
    rw [show (2 : Nat) ^ 8 = 256 from rfl] at h3
    rw [← h3]; omega
  rw [hor, wrap_u64 (by omega) (by omega)]

def S62 : List PV → Prop × PV
  | [.lit (.int .u64 x)] => (x = 255 ∨ x = 65535 ∨ x = 4294967295 ∨ x = 18446744073709551615, .lit (.int .i64 (if x = 255 then 8 else if x = 65535 then 16 else if x = 4294967295 then 32 else 64)))
  | _ => (False, .any)
def rdS (k : IntKind) (w : Nat) : List PV → Prop × PV
  | [.ro n cs, .lit (.int .i64 a)] => (isB n cs ∧ n ≤ 9223372036854775807 ∧ -9223372036854775808 ≤ a ∧ a ≤ 9223372036854775807, .tup [.lit (.int k (rdV (bytesOf cs) a w)), .lit (.int .i64 (rdP n a w)), .lit (.int .i64 (needM n a w))])
  | _ => (False, .any)
def S51 := rdS .u8 1
def S53 := rdS .u16 2
def S54 := rdS .u32 4
def S55 := rdS .u64 8
def S26 := rdS .u8 1
def S27 := rdS .u8 1
def S28 := rdS .u16 2
def S29 := rdS .u16 2
def S30 := rdS .u32 4
def S31 := rdS .u32 4
def S32 := rdS .u64 8
def S33 := rdS .u64 8
def S52 : List PV → Prop × PV
  | [.ro n cs, .lit (.int .i64 a), .lit (.int .i64 k)] => (isB n cs ∧ n ≤ 9223372036854775807 ∧ -9223372036854775808 ≤ a ∧ a ≤ 9223372036854775807 ∧ 1 ≤ k ∧ k ≤ 8, .tup [.lit (.int .u64 (rdV (bytesOf cs) a k.toNat)), .lit (.int .i64 (rdP n a k.toNat)), .lit (.int .i64 (needM n a k.toNat))])
  | _ => (False, .any)

theorem set_rep {i w : Nat} {xs : List UInt8} (h : i < w) (hx : xs.length = i) (b : UInt8) : ((xs ++ List.replicate (w - i) (0 : UInt8)).map bv).set i (bv b) = ((xs ++ [b]) ++ List.replicate (w - (i + 1)) (0 : UInt8)).map bv := by
  subst hx
  rw [← List.map_set]
  congr 1
  rw [List.set_append_right _ _ (by omega), show w - xs.length = (w - (xs.length + 1)) + 1 by omega, List.replicate_succ]
  simp

theorem unF_x8 (L) : unF .xor (.lit (.int .u8 0)) L = ⟨True, .lit (.int .u8 255), L⟩ := by rfl
theorem unF_x16 (L) : unF .xor (.lit (.int .u16 0)) L = ⟨True, .lit (.int .u16 65535), L⟩ := by rfl
theorem unF_x32 (L) : unF .xor (.lit (.int .u32 0)) L = ⟨True, .lit (.int .u32 4294967295), L⟩ := by rfl
theorem unF_x64 (L) : unF .xor (.lit (.int .u64 0)) L = ⟨True, .lit (.int .u64 18446744073709551615), L⟩ := by rfl
theorem S62_8 : S62 [.lit (.int .u64 255)] = (True, .lit (.int .i64 8)) := by simp [S62]
theorem S62_16 : S62 [.lit (.int .u64 65535)] = (True, .lit (.int .i64 16)) := by simp [S62]
theorem S62_32 : S62 [.lit (.int .u64 4294967295)] = (True, .lit (.int .i64 32)) := by simp [S62]
theorem S62_64 : S62 [.lit (.int .u64 18446744073709551615)] = (True, .lit (.int .i64 64)) := by simp [S62]

def wideM (bs : List UInt8) (a : Int) (k : Nat) (l : Int) : Nat × Int × Int :=
  if needM bs.length a k = 0 then (if ((rdV bs a k : Nat) : Int) < l then (0, 0, 3) else (rdV bs a k, a + k, 0)) else (0, 0, needM bs.length a k)
def anyM (bs : List UInt8) (a : Int) : Nat × Int × Int :=
  if needM bs.length a 1 = 0 then
    (if ((rdV bs a 1 : Nat) : Int) = 253 then wideM bs (a + 1) 2 253 else if ((rdV bs a 1 : Nat) : Int) = 254 then wideM bs (a + 1) 4 65536 else if ((rdV bs a 1 : Nat) : Int) = 255 then wideM bs (a + 1) 8 4294967296 else (rdV bs a 1, a + 1, 0))
  else (0, 0, needM bs.length a 1)
def sizeM (bs : List UInt8) (a m : Int) : Nat × Int × Int :=
  if (anyM bs a).2.2 = 0 then (if m < ((anyM bs a).1 : Nat) then (0, 0, 4) else ((anyM bs a).1, (anyM bs a).2.1, 0)) else (0, 0, (anyM bs a).2.2)
def tri (x : Nat × Int × Int) : PV := .tup [.lit (.int .u64 ((x.1 : Nat) : Int)), .lit (.int .i64 x.2.1), .lit (.int .i64 x.2.2)]
theorem wideM_ok {bs : List UInt8} {a : Int} {k : Nat} {l : Int} (h : (wideM bs a k l).2.2 = 0) : 0 ≤ (wideM bs a k l).2.1 ∧ (wideM bs a k l).2.1 ≤ bs.length := by
  unfold wideM at h ⊢
  split at h
  · rename_i hz
    obtain ⟨g1, g2, g3⟩ := needM_ok hz
    rw [if_pos hz]
    split at h
    · cases h
    · rename_i hl
      rw [if_neg hl]; exact ⟨by show 0 ≤ a + k; omega, by show a + k ≤ _; omega⟩
  · rename_i hz; exact absurd h hz
theorem anyM_ok {bs : List UInt8} {a : Int} (h : (anyM bs a).2.2 = 0) : 0 ≤ (anyM bs a).2.1 ∧ (anyM bs a).2.1 ≤ bs.length := by
  unfold anyM at h ⊢
  split at h
  · rename_i hz
    obtain ⟨g1, g2, g3⟩ := needM_ok hz
    rw [if_pos hz]
    split at h
    · rename_i h1; rw [if_pos h1]; exact wideM_ok h
    · rename_i h1; rw [if_neg h1]
      split at h
      · rename_i h2; rw [if_pos h2]; exact wideM_ok h
      · rename_i h2; rw [if_neg h2]
        split at h
        · rename_i h3; rw [if_pos h3]; exact wideM_ok h
        · rename_i h3; rw [if_neg h3]; exact ⟨by show 0 ≤ a + 1; omega, by show a + 1 ≤ _; omega⟩
  · rename_i hz; exact absurd h hz
theorem sizeM_ok {bs : List UInt8} {a m : Int} (h : (sizeM bs a m).2.2 = 0) : ((sizeM bs a m).1 : Int) ≤ m ∧ 0 ≤ (sizeM bs a m).2.1 ∧ (sizeM bs a m).2.1 ≤ bs.length := by
  unfold sizeM at h ⊢
  split at h
  · rename_i hz
    have := anyM_ok hz
    rw [if_pos hz]
    split at h
    · cases h
    · rename_i hl; rw [if_neg hl]; exact ⟨by show ((anyM bs a).1 : Int) ≤ m; omega, this⟩
  · rename_i hz; exact absurd h hz
def S63 : List PV → Prop × PV
  | [.ro n cs, .lit (.int .i64 a), .lit (.int .u16 l)] => (isB n cs ∧ n ≤ 9223372036854775807 ∧ -9223372036854775808 ≤ a ∧ a ≤ 9223372036854775807, tri (wideM (bytesOf cs) a 2 l))
  | _ => (False, .any)
def S64 : List PV → Prop × PV
  | [.ro n cs, .lit (.int .i64 a), .lit (.int .u32 l)] => (isB n cs ∧ n ≤ 9223372036854775807 ∧ -9223372036854775808 ≤ a ∧ a ≤ 9223372036854775807, tri (wideM (bytesOf cs) a 4 l))
  | _ => (False, .any)
def S65 : List PV → Prop × PV
  | [.ro n cs, .lit (.int .i64 a), .lit (.int .u64 l)] => (isB n cs ∧ n ≤ 9223372036854775807 ∧ -9223372036854775808 ≤ a ∧ a ≤ 9223372036854775807, tri (wideM (bytesOf cs) a 8 l))
  | _ => (False, .any)
def S57 : List PV → Prop × PV
  | [.ro n cs, .lit (.int .i64 a)] => (isB n cs ∧ n ≤ 9223372036854775807 ∧ -9223372036854775808 ≤ a ∧ a ≤ 9223372036854775807, tri (anyM (bytesOf cs) a))
  | _ => (False, .any)
def szS : List PV → Prop × PV
  | [.ro n cs, .lit (.int .i64 a), .lit (.int .u64 m)] => (isB n cs ∧ n ≤ 9223372036854775807 ∧ -9223372036854775808 ≤ a ∧ a ≤ 9223372036854775807 ∧ 0 ≤ m ∧ m < 18446744073709551616, tri (sizeM (bytesOf cs) a m))
  | _ => (False, .any)
def S38 := szS
def S39 := szS

def hx (n : Nat) : UInt8 := UInt8.ofNat (if n < 10 then 48 + n else 87 + n)
def hexM : List UInt8 → List UInt8
  | [] => []
  | b :: r => hx (b.toNat / 16) :: hx (b.toNat % 16) :: hexM r
theorem hexM_append (a b : List UInt8) : hexM (a ++ b) = hexM a ++ hexM b := by
  induction a with
  | nil => rfl
  | cons x r ih => simp [hexM, ih]
theorem hexM_length (a : List UInt8) : (hexM a).length = 2 * a.length := by
  induction a with
  | nil => rfl
  | cons x r ih => simp only [hexM, List.length_cons, ih]; omega
theorem hexM_succ {xs : List UInt8} {i : Nat} (h : i < xs.length) : hexM (xs.take (i + 1)) = hexM (xs.take i) ++ [hx ((xs.getD i 0).toNat / 16), hx ((xs.getD i 0).toNat % 16)] := by
  rw [List.take_succ_eq_append_getElem h, hexM_append]
  simp [hexM, List.getD_eq_getElem?_getD, h]
def S44 : List PV → Prop × PV
  | [.ro n cs] => (isB n cs ∧ n ≤ 35184372088832, .lit (.string ⟨(hexM (bytesOf cs)).toArray⟩))
  | _ => (False, .any)
def S45 : List PV → Prop × PV
  | [.ro n cs] => (isB n cs ∧ n ≤ 35184372088832, .lit (.string ⟨(hexM (bytesOf cs)).toArray⟩))
  | _ => (False, .any)

def digs : List UInt8 := [48, 49, 50, 51, 52, 53, 54, 55, 56, 57, 97, 98, 99, 100, 101, 102]
theorem shr4 (n : Nat) : ((n : Int)).fdiv (2 ^ min 4 8) = ((n / 16 : Nat) : Int) := by
  have : ((2 : Int) ^ min 4 8) = ((16 : Nat) : Int) := rfl
  rw [this, Int.ofNat_fdiv]
theorem and15 (b : UInt8) : ((BitVec.ofInt 8 (b.toNat : Int) &&& BitVec.ofInt 8 15).toNat : Int) = ((b.toNat % 16 : Nat) : Int) := by
  have h : (BitVec.ofInt 8 (b.toNat : Int) &&& BitVec.ofInt 8 15).toNat = b.toNat % 16 := by
    rw [BitVec.toNat_and, BitVec.ofInt_natCast, BitVec.toNat_ofNat, Nat.mod_eq_of_lt b.toNat_lt]
    exact Nat.and_two_pow_sub_one_eq_mod (n := 4) _
  rw [h]
theorem dig_get {n : Nat} (h : n < 16) : ([48, 49, 50, 51, 52, 53, 54, 55, 56, 57, 97, 98, 99, 100, 101, 102] : List UInt8).getD n 0 = hx n := by
  have : ∀ n < 16, digs.getD n 0 = hx n := by decide
  exact this n h
theorem dig_size : (ByteArray.mk #[48, 49, 50, 51, 52, 53, 54, 55, 56, 57, 97, 98, 99, 100, 101, 102]).size = 16 := rfl

theorem binF_and15 {P : Program} {t : TypeId} {L : LH} (b : UInt8) : binF P .and t (.lit (.int .u8 (b.toNat : Int))) (.lit (.int .u8 15)) L = ⟨True, .lit (.int .u8 ((b.toNat % 16 : Nat) : Int)), L⟩ := by
  rw [binF_and]
  have := and15 b
  have h2 : b.toNat % 16 < 16 := Nat.mod_lt _ (by omega)
  have e : IntKind.u8.wrap ((BitVec.ofInt IntKind.u8.bits (b.toNat : Int) &&& BitVec.ofInt IntKind.u8.bits 15).toNat : Int) = ((b.toNat % 16 : Nat) : Int) := by
    show IntKind.u8.wrap ((BitVec.ofInt 8 (b.toNat : Int) &&& BitVec.ofInt 8 15).toNat : Int) = _
    rw [this, wrap_u8 (by omega) (by omega)]
  rw [e]

end Go.Ab
