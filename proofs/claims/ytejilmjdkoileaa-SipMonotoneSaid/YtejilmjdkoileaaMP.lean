import Derived.Test.YtejilmjdkoileaaMY
import Derived.Test.YtejilmjdkoileaaMG
import Derived.Test.YtejilmjdkoileaaME
import Derived.Test.YtejilmjdkoileaaMD
namespace Go.Ab
open Go Go.RowKit
set_option linter.unusedVariables false
variable {P : Program} {L : LH}
def by32 (n : Nat) : List UInt8 := (List.range 32).map fun j => UInt8.ofNat (n / 2 ^ (8 * (31 - j)))
def hl (n : Nat) : List PV := (by32 n).map bv
def hv : PV → Nat
  | .agg cs => (cs.foldl (fun s c => s * 256 + (byteOf c).toNat) 0)
  | _ => 0
end Go.Ab
namespace Go.Ab
open Go Go.RowKit
set_option linter.unusedVariables false
variable {P : Program} {L : LH}
theorem lss_bv {t : TypeId} (a b : UInt8) : binF P .lss t (bv a) (bv b) L = ⟨True, .lit (.bool (decide (a.toNat < b.toNat))), L⟩ := by
  simp only [bv, binF_lss, Int.ofNat_lt]
end Go.Ab
namespace Go.Ab
open Go Go.RowKit
set_option linter.unusedVariables false
set_option linter.unusedSimpArgs false
abbrev D := BitVec 64
def dOf (p : PV) : D := BitVec.ofNat 64 (ulv p)
theorem dOf_ul (x : D) : dOf (ul x.toNat) = x := by
  apply BitVec.eq_of_toNat_eq
  have := x.isLt
  simp only [dOf, ulv_ul, BitVec.toNat_ofNat]
  omega
theorem ul_of (n : Nat) : ul n = ul (BitVec.ofNat 64 n).toNat := by
  refine ul_congr ?_
  simp only [BitVec.toNat_ofNat]
  omega
theorem dOf_n (n : Nat) : dOf (ul n) = BitVec.ofNat 64 n := by
  apply BitVec.eq_of_toNat_eq
  simp only [dOf, ulv_ul, BitVec.toNat_ofNat]
  omega
theorem d_back (x : D) : BitVec.ofNat 64 x.toNat = x := by simp
theorem isul_d {p : PV} (h : isul p) : ∃ x : D, p = ul x.toNat := by
  obtain ⟨n, rfl⟩ := h
  exact ⟨_, ul_of n⟩
theorem d_lt (x : D) : x.toNat < 18446744073709551616 := x.isLt
theorem d_add (x y : D) : ul (x.toNat + y.toNat) = ul (x + y).toNat := by
  refine ul_congr ?_
  rw [BitVec.toNat_add]
  omega
theorem d_xor (x y : D) : ul (x.toNat ^^^ y.toNat) = ul (x ^^^ y).toNat := by rw [BitVec.toNat_xor]
theorem d_or (x y : D) : ul (x.toNat ||| y.toNat) = ul (x ||| y).toNat := by rw [BitVec.toNat_or]
theorem d_c0 (x : D) : ul (x.toNat ^^^ 8317987319222330741) = ul (x ^^^ 8317987319222330741).toNat := by rw [BitVec.toNat_xor]; rfl
theorem d_c1 (x : D) : ul (x.toNat ^^^ 7237128888997146477) = ul (x ^^^ 7237128888997146477).toNat := by rw [BitVec.toNat_xor]; rfl
theorem d_c2 (x : D) : ul (x.toNat ^^^ 7816392313619706465) = ul (x ^^^ 7816392313619706465).toNat := by rw [BitVec.toNat_xor]; rfl
theorem d_c3 (x : D) : ul (x.toNat ^^^ 8387220255154660723) = ul (x ^^^ 8387220255154660723).toNat := by rw [BitVec.toNat_xor]; rfl
theorem d_ff (x : D) : ul (x.toNat ^^^ 255) = ul (x ^^^ 255).toNat := by rw [BitVec.toNat_xor]; rfl
def rl (x : D) (k : Nat) : D := x <<< k ||| x >>> (64 - k)
theorem mask63 {m : Nat} (h : m ≤ 63) : m &&& 63 = m := by
  rw [show (63 : Nat) = 2 ^ 6 - 1 by decide, Nat.and_two_pow_sub_one_eq_mod]
  omega
theorem rest64 {m : Nat} (h1 : 1 ≤ m) (h : m ≤ 63) : (64 + (18446744073709551616 - m)) % 18446744073709551616 = 64 - m := by omega
theorem d_rl {x : D} {m : Nat} : ul (x.toNat * 2 ^ m ||| x.toNat / 2 ^ (64 - m)) = ul (rl x m).toNat := by
  refine ul_congr ?_
  rw [rl, BitVec.toNat_or, BitVec.toNat_shiftLeft, BitVec.toNat_ushiftRight, Nat.shiftLeft_eq, Nat.shiftRight_eq_div_pow]
  have hlt : x.toNat / 2 ^ (64 - m) < 2 ^ 64 := Nat.lt_of_le_of_lt (Nat.div_le_self _ _) x.isLt
  rw [show (18446744073709551616 : Nat) = 2 ^ 64 by decide, Nat.or_mod_two_pow, Nat.or_mod_two_pow, Nat.mod_mod]
def sRotL64 : List PV → Prop × PV
  | [x, .lit (.int .i64 k)] => (isul x ∧ 1 ≤ k ∧ k ≤ 63, ul (rl (dOf x) k.toNat).toNat)
  | _ => (False, .any)
attribute [irreducible] rl
structure S4 where
  a : D
  b : D
  c : D
  d : D
def s4 (s : S4) : PV := .agg [ul s.a.toNat, ul s.b.toNat, ul s.c.toNat, ul s.d.toNat]
def isS4 (p : PV) : Prop := ∃ s, p = s4 s
def s4Of : PV → S4
  | .agg [a, b, c, d] => ⟨dOf a, dOf b, dOf c, dOf d⟩
  | _ => ⟨0, 0, 0, 0⟩
theorem isS4_s4 (s : S4) : isS4 (s4 s) ↔ True := by simp only [iff_true]; exact ⟨s, rfl⟩
theorem isS4_l (a b c d : D) : isS4 (.agg [ul a.toNat, ul b.toNat, ul c.toNat, ul d.toNat]) ↔ True := by simp only [iff_true]; exact ⟨⟨a, b, c, d⟩, rfl⟩
theorem s4Of_l (a b c d : D) : s4Of (.agg [ul a.toNat, ul b.toNat, ul c.toNat, ul d.toNat]) = ⟨a, b, c, d⟩ := by simp only [s4Of, dOf_ul]
theorem s4Of_s4 (s : S4) : s4Of (s4 s) = s := by rw [s4, s4Of_l]
theorem s4_eta (s : S4) : (⟨s.a, s.b, s.c, s.d⟩ : S4) = s := rfl
theorem cells_s4 (s : S4) : (s4 s).cells = [ul s.a.toNat, ul s.b.toNat, ul s.c.toNat, ul s.d.toNat] := rfl
theorem closed_s4 (s : S4) : closed (s4 s) = true := rfl
theorem flat_s4 (s : S4) : flat (s4 s) = true := rfl
def k2 (a b : D) : PV := .agg [ul a.toNat, ul b.toNat]
def isK2 (p : PV) : Prop := ∃ a b, p = k2 a b
def k2a : PV → D
  | .agg [a, _] => dOf a
  | _ => 0
def k2b : PV → D
  | .agg [_, b] => dOf b
  | _ => 0
theorem isK2_k2 (a b : D) : isK2 (k2 a b) ↔ True := by simp only [iff_true]; exact ⟨a, b, rfl⟩
theorem isK2_l (a b : Nat) : isK2 (.agg [ul a, ul b]) ↔ True := by
  simp only [iff_true]; exact ⟨BitVec.ofNat 64 a, BitVec.ofNat 64 b, by rw [k2, ← ul_of, ← ul_of]⟩
theorem k2a_k2 (a b : D) : k2a (k2 a b) = a := dOf_ul a
theorem k2b_k2 (a b : D) : k2b (k2 a b) = b := dOf_ul b
theorem k2a_l (a : Nat) (b : PV) : k2a (.agg [ul a, b]) = BitVec.ofNat 64 a := dOf_n a
theorem k2b_l (a : PV) (b : Nat) : k2b (.agg [a, ul b]) = BitVec.ofNat 64 b := dOf_n b
theorem cells_k2 (a b : D) : (k2 a b).cells = [ul a.toNat, ul b.toNat] := rfl
theorem closed_k2 (a b : D) : closed (k2 a b) = true := rfl
theorem flat_k2 (a b : D) : flat (k2 a b) = true := rfl
def sr (s : S4) : S4 :=
  let v0 := s.a + s.b
  let v1 := rl s.b 13 ^^^ v0
  let v0 := rl v0 32
  let v2 := s.c + s.d
  let v3 := rl s.d 16 ^^^ v2
  let v0 := v0 + v3
  let v3 := rl v3 21 ^^^ v0
  let v2 := v2 + v1
  let v1 := rl v1 17 ^^^ v2
  let v2 := rl v2 32
  ⟨v0, v1, v2, v3⟩
def srs : Nat → S4 → S4
  | 0, s => s
  | n + 1, s => sr (srs n s)
theorem srs_zero (s : S4) : srs 0 s = s := rfl
theorem srs_succ (n : Nat) (s : S4) : srs (n + 1) s = sr (srs n s) := rfl
theorem srs_two (s : S4) : sr (sr s) = srs 2 s := rfl
theorem srs_four (s : S4) : sr (sr (sr (sr s))) = srs 4 s := rfl
def take1 (s : S4) (m : D) : S4 :=
  let t := srs 2 ⟨s.a, s.b, s.c, s.d ^^^ m⟩
  ⟨t.a ^^^ m, t.b, t.c, t.d⟩
def start4 (k0 k1 : D) : S4 := ⟨k0 ^^^ 8317987319222330741, k1 ^^^ 7237128888997146477, k0 ^^^ 7816392313619706465, k1 ^^^ 8387220255154660723⟩
def wd (b : List UInt8) : D := BitVec.ofNat 64 (leV b)
theorem ul_wd (b : List UInt8) : ul (leV b) = ul (wd b).toNat := ul_of _
def feed : Nat → S4 → List UInt8 → S4
  | 0, s, _ => s
  | q + 1, s, b => take1 (feed q s b) (wd ((b.drop (8 * q)).take 8))
theorem feed_zero (s : S4) (b : List UInt8) : feed 0 s b = s := rfl
theorem feed_succ (q : Nat) (s : S4) (b : List UInt8) : feed (q + 1) s b = take1 (feed q s b) (wd ((b.drop (8 * q)).take 8)) := rfl
def lenW (n : Nat) : D := BitVec.ofNat 64 (n * 2 ^ 56)
theorem lenW_1 (n : Nat) : ul (n * 72057594037927936) = ul (lenW n).toNat := ul_of _
theorem lenW_2 (n : Nat) : ul (n % 256 * 72057594037927936) = ul (lenW n).toNat := by
  rw [← lenW_1]
  refine ul_congr ?_
  omega
def fin4 (s : S4) : D :=
  let t := srs 4 ⟨s.a, s.b, s.c ^^^ 255, s.d⟩
  t.a ^^^ t.b ^^^ t.c ^^^ t.d
def sip (k0 k1 : D) (b : List UInt8) : D := fin4 (take1 (feed (b.length / 8) (start4 k0 k1) b) (wd (b.drop (8 * (b.length / 8))) ||| lenW b.length))
theorem sip_def {k0 k1 : D} {b : List UInt8} {q : Nat} (h1 : 8 * q ≤ b.length) (h2 : b.length - 8 * q < 8) : fin4 (take1 (feed q (start4 k0 k1) b) (wd (b.drop (8 * q)) ||| lenW b.length)) = sip k0 k1 b := by
  obtain rfl : q = b.length / 8 := by omega
  rfl
def cnt (n : Nat) : List UInt8 := (List.range n).map UInt8.ofNat
theorem cnt_succ (n : Nat) : cnt n ++ [UInt8.ofNat n] = cnt (n + 1) := by simp [cnt, List.range_succ]
theorem cnt_one : [UInt8.ofNat 0] = cnt (0 + 1) := rfl
theorem len_cnt (n : Nat) : (cnt n).length = n := by simp [cnt]
theorem sip_sane : sip 506097522914230528 1084818905618843912 (cnt 15) = 11613035633349379557 := by decide +kernel
theorem sip_sane2 : ((sip (BitVec.ofNat 64 506097522914230528) (BitVec.ofNat 64 1084818905618843912) (cnt 15)).toNat % 18446744073709551616 = 11613035633349379557) = True := by
  have := sip_sane
  refine eq_true ?_
  rw [show (BitVec.ofNat 64 506097522914230528) = (506097522914230528 : D) from rfl, show (BitVec.ofNat 64 1084818905618843912) = (1084818905618843912 : D) from rfl, this]
  rfl
attribute [irreducible] sip wd lenW cnt feed take1 fin4 srs start4
def sRounds : List PV → Prop × PV
  | [s, .lit (.int .i64 n)] => (isS4 s ∧ 0 ≤ n ∧ n ≤ 1000, s4 (srs n.toNat (s4Of s)))
  | _ => (False, .any)
def sRound : List PV → Prop × PV
  | [s] => (isS4 s, s4 (sr (s4Of s)))
  | _ => (False, .any)
def sTake1 : List PV → Prop × PV
  | [s, m] => (isS4 s ∧ isul m, s4 (take1 (s4Of s) (dOf m)))
  | _ => (False, .any)
def sStart : List PV → Prop × PV
  | [k] => (isK2 k, s4 (start4 (k2a k) (k2b k)))
  | _ => (False, .any)
def sWord : List PV → Prop × PV
  | [.ro n cs] => (isB n cs ∧ n ≤ 8, ul (wd (bytesOf cs)).toNat)
  | _ => (False, .any)
def sSip : List PV → Prop × PV
  | [k, .ro n cs] => (isK2 k ∧ isB n cs ∧ n ≤ 9223372036854775807, ul (sip (k2a k) (k2b k) (bytesOf cs)).toNat)
  | _ => (False, .any)
def sScale : List PV → Prop × PV
  | [x, y] => (isul x ∧ isul y, ul (ulv x * ulv y / 18446744073709551616))
  | _ => (False, .any)
def sKey : List PV → Prop × PV
  | [.agg cs] => (isB 32 cs, k2 (wd ((bytesOf cs).take 8)) (wd (((bytesOf cs).drop 8).take 8)))
  | _ => (False, .any)
def sLSipSums : List PV → Prop × PV
  | [k, .ro n cs] => (isK2 k ∧ isB n cs ∧ n ≤ 9223372036854775807, .lit (.bool true))
  | _ => (False, .any)
def sLSipLengths : List PV → Prop × PV
  | [k, .ro n cs, y] => (isK2 k ∧ isB n cs ∧ n ≤ 9223372036854775807 ∧ isU8 y, .lit (.bool true))
  | _ => (False, .any)
def sLSipScales : List PV → Prop × PV
  | [x, y, .agg cs] => (isul x ∧ isul y ∧ isB 32 cs, .lit (.bool true))
  | _ => (False, .any)
def sLSipMonotone : List PV → Prop × PV
  | [x, y, z] => (isul x ∧ isul y ∧ isul z, .lit (.bool true))
  | _ => (False, .any)
theorem k2_out {p : PV} (h : isK2 p) : ∃ a b, p = k2 a b := h
theorem s4_out {p : PV} (h : isS4 p) : ∃ s, p = s4 s := h
theorem isInts_l (a b : Nat) : isInts .u64 [ul a, ul b] ↔ True := by simp only [iff_true]; exact ⟨rfl, rfl, trivial⟩
theorem eql_k2 {P : Program} {L : LH} {t e s1 b1 b2 : Nat} {z1 z2 : Value} (a b : D) (ht : tyOf P t = some ⟨.array 2 e, s1, b1, z1⟩) (he : tyOf P e = some ⟨.int .u64, 1, b2, z2⟩) :
    binF P .eql t (k2 a b) (k2 a b) L = ⟨True, .lit (.bool true), L⟩ := by
  have h1 : isInts .u64 [ul a.toNat, ul b.toNat] := (isInts_l _ _).2 trivial
  simp only [k2, binF, ht, he, List.length_cons, List.length_nil, h1, and_self, beq_self_eq_true]
section
variable {P : Program} {Γ : Con} {mode : Mode} {all r : List Oper} {o : Oper} {k : Env → LH → Prop} {env : Env} {L : LH} {d : Nat}
theorem kOps_minu {t t2 a b : Nat} {sx sy : Operand} (hk : o.op = .call ⟨.builtin .min, #[sx, sy], #[t, t2]⟩) (hg : o.guard = none) (hd : o.dst = some d) (hx : findO env sx = some (ul a)) (hy : findO env sy = some (ul b)) (ha : a < 18446744073709551616) (hb : b < 18446744073709551616)
    (h : vOps P Γ mode all r ((d, ul (min a b)) :: env) L k) : vOps P Γ mode all (o :: r) env L k := by
  refine vOps_op (pre := True) (val := ul (min a b)) (L' := L) hg hd (by rw [hk]) ?_ trivial h
  rw [hk]
  have e : (if ((b % 18446744073709551616 : Nat) : Int) < ((a % 18446744073709551616 : Nat) : Int) then ((b % 18446744073709551616 : Nat) : Int) else ((a % 18446744073709551616 : Nat) : Int)) = ((min a b % 18446744073709551616 : Nat) : Int) := by split <;> omega
  simp only [opF, findO_eval hx, findO_eval hy, ul, minF, e]
theorem kOps_maxu {t t2 a b : Nat} {sx sy : Operand} (hk : o.op = .call ⟨.builtin .max, #[sx, sy], #[t, t2]⟩) (hg : o.guard = none) (hd : o.dst = some d) (hx : findO env sx = some (ul a)) (hy : findO env sy = some (ul b)) (ha : a < 18446744073709551616) (hb : b < 18446744073709551616)
    (h : vOps P Γ mode all r ((d, ul (max a b)) :: env) L k) : vOps P Γ mode all (o :: r) env L k := by
  refine vOps_op (pre := True) (val := ul (max a b)) (L' := L) hg hd (by rw [hk]) ?_ trivial h
  rw [hk]
  have e : (if ((a % 18446744073709551616 : Nat) : Int) < ((b % 18446744073709551616 : Nat) : Int) then ((b % 18446744073709551616 : Nat) : Int) else ((a % 18446744073709551616 : Nat) : Int)) = ((max a b % 18446744073709551616 : Nat) : Int) := by split <;> omega
  simp only [opF, findO_eval hx, findO_eval hy, ul, maxF, e]
theorem kOps_slpb {t e s1 b1 m id l w : Nat} {z1 : Value} {E : TI} {xx : Operand} {lo hi : Option Operand} {cs : List PV} {y1 y2 : Int} (hk : o.op = .slice t xx lo hi none) (hg : o.guard = none) (hd : o.dst = some d) (hx : findO env xx = some (.ptr id 0)) (hL : L[id]? = some (.cells cs)) (hT : tyOf P t = some ⟨.array m e, s1, b1, z1⟩) (hE : tyOf P e = some E) (h1 : E.size = 1)
    (hlo : Bnd env lo 0 y1) (hhi : Bnd env hi m y2) (hy : y1 = (l : Int) ∧ y2 = ((l + w : Nat) : Int) ∧ l + w ≤ m ∧ 0 < w ∧ m ≤ cs.length)
    (h : vOps P Γ mode all r ((d, .own id l w 1) :: env) L k) : vOps P Γ mode all (o :: r) env L k := by
  obtain ⟨rfl, rfl, hle, hw, hm⟩ := hy
  refine vOps_op (pre := True) (val := .own id l w 1) (L' := L) hg hd (by rw [hk]) ?_ trivial h
  rw [hk]
  have e1 := hlo.ints
  have e2 := hhi.ints
  have e3 : (((l + w : Nat) : Int) - (l : Int)).toNat = w := by omega
  simp only [opF, findO_eval hx, sliceF, hT, hE, hL, Option.map_none, e1, e2, h1, Nat.mul_one, e3, Int.toNat_natCast, Nat.zero_add, OR.mk.injEq, and_true, eq_iff_iff, iff_true]
  omega
theorem lss_bvl {t : TypeId} {a : UInt8} {z : Int} : binF P .lss t (bv a) (.lit (.int .u8 z)) L = ⟨True, .lit (.bool (decide ((a.toNat : Int) < z))), L⟩ := by
  simp only [bv, binF_lss]
theorem add_bv1 {t : TypeId} {a : UInt8} : binF P .add t (bv a) (.lit (.int .u8 1)) L = ⟨True, bv (a + 1), L⟩ := by
  have h := a.toNat_lt
  simp only [bv, binF_add, OR.mk.injEq, PV.lit.injEq, Value.int.injEq, true_and, and_true, UInt8.toNat_add]
  simp [IntKind.wrap, IntKind.bits, IntKind.signed]
theorem rem_bv {t : TypeId} {a : UInt8} : binF P .rem t (bv a) (.lit (.int .u8 20)) L = ⟨True, bv (UInt8.ofNat (a.toNat % 20)), L⟩ := by
  simp only [bv, binF_rem, OR.mk.injEq, PV.lit.injEq, Value.int.injEq, true_and, and_true]
  refine ⟨by decide, ?_⟩
  rw [show ((a.toNat : Int)).tmod 20 = ((a.toNat % 20 : Nat) : Int) from (Int.ofNat_tmod _ 20).symm, UInt8.toNat_ofNat']
  omega
def fieldOf (P : Program) (t f : Nat) : Option (Nat × Nat) :=
  match tyOf P t with
  | some ⟨.struct fs, _, _, _⟩ => (fs[f]?).map fun fd => (fd.type, fd.offset)
  | _ => none
theorem kOps_fdap {t f ty o1 o2 id off : Nat} {x : Operand} {T : TI} {cs : List PV} (hk : o.op = .fieldAddr t x f) (hg : o.guard = none) (hd : o.dst = some d) (hx : findO env x = some (.ptr id off)) (hL : L[id]? = some (.cells cs)) (hF : fieldOf P t f = some (ty, o1)) (hT : tyOf P ty = some T) (h0 : 0 < T.size) (hv : off + o1 = o2)
    (h : vOps P Γ mode all r ((d, .ptr id o2) :: env) L k) : vOps P Γ mode all (o :: r) env L k := by
  subst hv
  unfold fieldOf at hF
  split at hF
  · rename_i fs s1 b1 z1 hS
    rw [Option.map_eq_some_iff] at hF
    obtain ⟨fd, hfd, he⟩ := hF
    simp only [Prod.mk.injEq] at he
    obtain ⟨rfl, rfl⟩ := he
    refine vOps_fda (pre := 0 < T.size) (val := .ptr id (off + fd.offset)) (L' := L) hk hg hd ?_ h0 h
    rw [findO_eval hx]
    simp only [fieldAddrF, hS, hfd, hT, hL]
  · cases hF
theorem build_four {t s1 b1 a b c e : Nat} {fs : Array Field} {z : Value} (hT : tyOf P t = some ⟨.struct fs, s1, b1, z⟩) (hP : placesF P fs.toList = [some (0, 1), some (1, 1), some (2, 1), some (3, 1)]) (hz : zeroCells z = [ul 0, ul 0, ul 0, ul 0]) :
    buildF P t [(0, ul a), (1, ul b), (2, ul c), (3, ul e)] L = ⟨True, .agg [ul a, ul b, ul c, ul e], L⟩ := by
  have h1 : ([some (0, 1), some (1, 1), some (2, 1), some (3, 1)] : List (Option (Nat × Nat))).all Option.isSome = true := rfl
  have h2 : fillB (fun i => ([some (0, 1), some (1, 1), some (2, 1), some (3, 1)] : List (Option (Nat × Nat)))[i]?.join) [ul 0, ul 0, ul 0, ul 0] [(0, ul a), (1, ul b), (2, ul c), (3, ul e)] = some [ul a, ul b, ul c, ul e] := rfl
  have h3 : ([(0, ul a), (1, ul b), (2, ul c), (3, ul e)] : List (Nat × PV)).all (fun x => x.snd.cells.all PV.one) = true := rfl
  simp only [buildF, hT, hP, h1, hz, cond_true, h2, h3]
end
theorem len_leftd {b : List UInt8} {q : Nat} (h : 8 * (q + 1) ≤ b.length) : ((b.drop (8 * q)).drop 8).take (b.length - 8 * (q + 1)) = b.drop (8 * (q + 1)) := by
  rw [List.drop_drop, show 8 * q + 8 = 8 * (q + 1) by omega]
  exact drop_rest (by omega)
theorem inc_u8 (i : Nat) : UInt8.ofNat i + 1 = UInt8.ofNat (i + 1) := by
  apply UInt8.toNat_inj.1
  simp
def saneE : Nat → Env
  | 0 => [(1, .lit (.slice none 0 0)), (2, bv (UInt8.ofNat 0))]
  | i + 1 => [(1, .own 0 0 (i + 1) 1), (2, bv (UInt8.ofNat (i + 1)))]
def saneL : Nat → LH
  | 0 => []
  | i + 1 => [.cells ((cnt (i + 1)).map bv)]
theorem rdV_all (b : List UInt8) : rdV b 0 b.length = leV b := by
  unfold rdV
  rw [List.drop_zero, List.take_length]
theorem ren_wd {k : List Nat} {b : List UInt8} {i : Nat} (h : i < b.length) : RenOk k (ul (rdV b 0 i ||| (b.getD i 0).toNat * 2 ^ (8 * i))) (ul (rdV b 0 (i + 1))) := by
  have := rd_or (b := b) (m := 0) (i := i) (by omega)
  rw [Nat.zero_add] at this
  rw [this]; exact ren_keep rfl
theorem tmod256 (m : Nat) : (m : Int).tmod 256 = ((m % 256 : Nat) : Int) := (Int.ofNat_tmod m 256).symm
end Go.Ab
