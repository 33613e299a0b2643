import Derived.Test.YtakffanafcidbaaSM4
namespace Go.Ab
open Go Go.Proofs
set_option linter.unusedVariables false
set_option linter.unusedSimpArgs false
set_option maxRecDepth 4000
set_option maxHeartbeats 2000000
section fin2
variable {P : Program} {env : Env} {L : LH} {pre : Prop}
theorem fin_2bytes {fn : Func} {x y : ResultVar} {id off n : Nat} {q : PV} {pre' : Prop} {cs : List PV} {bs : List UInt8} {e : Exit} (he : e = .normal ∨ e = .ret) (hr : fn.results.toList = [x, y]) (hl : resOne P env L x = (pre, .own id off n 1)) (hq : resOne P env L y = (pre', q)) (h0 : pre) (h0' : pre')
    (hL : L[id]? = some (.cells cs)) (hoff : off ≤ cs.length) (hn : n = bs.length) (hcs : (cs.drop off).take n = bs.map bv) (hc : closedL [q] = true) : Fin P fn (.tup [newB bs, q]) e env L := by
  obtain ⟨h1, h2⟩ := slc_told hL hn hcs
  refine ⟨he, ?_⟩
  rw [hr]
  simp only [resAll, resPV, hr, hl, hq, List.map]
  refine ⟨⟨h0, h0', trivial⟩, .inl ⟨?_, ?_⟩⟩
  · simp only [shut, h1]
    exact ⟨by omega, .inl (closedL_bv bs), .inl hc⟩
  · simp only [shut, h1, clr, closedL_bv, cond_true, newB, hc]; rw [hn]
theorem fin_2nil {fn : Func} {sz : Nat} {q : PV} {x y : ResultVar} {pre' : Prop} {e : Exit} (he : e = .normal ∨ e = .ret) (hr : fn.results.toList = [x, y]) (hl : resOne P env L x = (pre, .lit (.slice none 0 0))) (hq : resOne P env L y = (pre', q)) (h0 : pre) (h0' : pre') (hc : closedL [q] = true) : Fin P fn (.tup [.new 0 sz [], q]) e env L := by
  refine ⟨he, ?_⟩
  rw [hr]
  simp only [resAll, resPV, hr, hl, hq, List.map]
  exact ⟨⟨h0, h0', trivial⟩, .inr (.inr ⟨[q], sz, rfl, hc, rfl⟩)⟩
end fin2
def dByte (h l : UInt8) : UInt8 := UInt8.ofNat ((16 * digV h.toNat + digV l.toNat).toNat)
def unP : List UInt8 → Option (List UInt8)
  | h :: l :: r => if digO h.toNat && digO l.toNat then (unP r).map (dByte h l :: ·) else none
  | _ => some []
def unM (s : List UInt8) : List UInt8 × Int :=
  if 400000 < (s.length : Int) then ([], 4) else if s.length % 2 = 0 then (match unP s with | some r => (r, 0) | none => ([], 7)) else ([], 7)
theorem unP_nil {l : List UInt8} (h : l.length ≤ 1) : unP l = some [] := by
  match l, h with
  | [], _ => rfl
  | [a], _ => rfl
/-- What is known when 'i' pairs have been read. -/
def unI (s : List UInt8) (i : Nat) (out : List UInt8) : Prop := out.length = i ∧ unP s = (unP (s.drop (2 * i))).map (out ++ ·)
theorem unI_zero (s : List UInt8) : unI s 0 [] := ⟨rfl, by simp⟩
theorem unI_drop {s : List UInt8} {i : Nat} (h : 2 * i + 1 < s.length) : s.drop (2 * i) = s.getD (2 * i) 0 :: s.getD (2 * i + 1) 0 :: s.drop (2 * (i + 1)) := by
  rw [List.drop_eq_getElem_cons (by omega : 2 * i < s.length), List.drop_eq_getElem_cons (by omega : 2 * i + 1 < s.length)]
  simp [List.getD_eq_getElem?_getD, (by omega : 2 * i < s.length), h, show 2 * i + 1 + 1 = 2 * (i + 1) by omega]
theorem unI_succ {s : List UInt8} {i : Nat} {out : List UInt8} (hI : unI s i out) (h : 2 * i + 1 < s.length) (h1 : digO (s.getD (2 * i) 0).toNat = true) (h2 : digO (s.getD (2 * i + 1) 0).toNat = true) :
    unI s (i + 1) (out ++ [dByte (s.getD (2 * i) 0) (s.getD (2 * i + 1) 0)]) := by
  refine ⟨by simp [hI.1], ?_⟩
  rw [hI.2, unI_drop h, unP, h1, h2]
  cases unP (s.drop (2 * (i + 1))) <;> simp
theorem unI_bad {s : List UInt8} {i : Nat} {out : List UInt8} (hI : unI s i out) (h : 2 * i + 1 < s.length) (hb : (digO (s.getD (2 * i) 0).toNat && digO (s.getD (2 * i + 1) 0).toNat) = false) : unP s = none := by
  rw [hI.2, unI_drop h, unP, hb]; rfl
theorem unI_end {s : List UInt8} {i : Nat} {out : List UInt8} (hI : unI s i out) (h : s.length ≤ 2 * i) : unP s = some out := by
  rw [hI.2, List.drop_eq_nil_of_le h]; simp [unP]
theorem digV_lt (c : Int) : 0 ≤ digV c ∧ digV c < 16 := by
  unfold digV
  split
  · omega
  · split
    · omega
    · split <;> omega
def unS : List PV → Prop × PV
  | [.lit (.string s)] => (s.size ≤ 9223372036854775807, .tup [newB (unM s.data.toList).1, .lit (.int .i64 (unM s.data.toList).2)])
  | _ => (False, .any)
def S42 := unS
def S43 := unS
theorem bsize (xs : List UInt8) : (ByteArray.mk xs.toArray).size = xs.length := rfl
theorem nib {a b : Int} (ha : 0 ≤ a ∧ a < 16) (hb : 0 ≤ b ∧ b < 16) : IntKind.u8.wrap ((BitVec.ofInt 8 (IntKind.u8.wrap (a * 2 ^ (min (4 : Nat) 8))) ||| BitVec.ofInt 8 b).toNat : Int) = 16 * a + b := by
  obtain ⟨m, rfl⟩ := Int.eq_ofNat_of_zero_le ha.1
  obtain ⟨n, rfl⟩ := Int.eq_ofNat_of_zero_le hb.1
  have key : ∀ m < 16, ∀ n < 16, IntKind.u8.wrap ((BitVec.ofInt 8 (IntKind.u8.wrap (((m : Nat) : Int) * 2 ^ (min (4 : Nat) 8))) ||| BitVec.ofInt 8 ((n : Nat) : Int)).toNat : Int) = 16 * ((m : Nat) : Int) + ((n : Nat) : Int) := by decide
  exact key m (by omega) n (by omega)
theorem dByte_bv (h l : UInt8) : bv (dByte h l) = .lit (.int .u8 (16 * digV h.toNat + digV l.toNat)) := by
  have h1 := digV_lt h.toNat
  have h2 := digV_lt l.toNat
  unfold bv dByte
  have : ((UInt8.ofNat (16 * digV h.toNat + digV l.toNat).toNat).toNat : Int) = 16 * digV h.toNat + digV l.toNat := by
    simp; omega
  rw [this]
section fin2t
variable {P : Program} {env : Env} {L : LH}
theorem fin_2nilT {fn : Func} {sz : Nat} {q : PV} {a b : Nat} {e : Exit} (he : e = .normal ∨ e = .ret) (hr : fn.results.toList = [.tmp a, .tmp b]) (hl : lookup env a = .lit (.slice none 0 0)) (hq : lookup env b = q) (hc : closedL [q] = true) : Fin P fn (.tup [.new 0 sz [], q]) e env L :=
  fin_2nil (pre := True) (pre' := True) he hr (by rw [resOne_tmp, hl]) (by rw [resOne_tmp, hq]) trivial trivial hc
theorem fin_2bytesT {fn : Func} {id n : Nat} {q : PV} {a b : Nat} {cs : List PV} {bs : List UInt8} {e : Exit} (he : e = .normal ∨ e = .ret) (hr : fn.results.toList = [.tmp a, .tmp b]) (hl : lookup env a = .own id 0 n 1) (hq : lookup env b = q)
    (hL : L[id]? = some (.cells cs)) (hn : n = bs.length) (hcs : cs = bs.map bv) (hc : closedL [q] = true) : Fin P fn (.tup [newB bs, q]) e env L :=
  fin_2bytes (pre := True) (pre' := True) he hr (by rw [resOne_tmp, hl]) (by rw [resOne_tmp, hq]) trivial trivial hL (Nat.zero_le _) hn (by rw [List.drop_zero, hcs, hn, List.take_of_length_le (by simp)]) hc
end fin2t

end Go.Ab
