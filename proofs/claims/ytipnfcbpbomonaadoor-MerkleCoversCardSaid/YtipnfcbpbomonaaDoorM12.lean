import Derived.Test.YtipnfcbpbomonaaDoorM11
import Derived.Test.YtipnfcbpbomonaaDoorM10
namespace Go.Ab
open Go Go.RowKit
set_option linter.unusedVariables false
set_option linter.unusedSimpArgs false
set_option linter.unusedVariables false
theorem flat_newK {α : Type} {f : α → List PV} {k : Nat} {b : List α} (h : ∀ a, flatL (f a) = true) : flat (newK k f b) = true := by
  show flatL (rk f b) = true
  induction b with
  | nil => rfl
  | cons a b ih =>
    show flatL (f a ++ rk f b) = true
    rw [flatL_iff] at *
    intro p hp
    rcases List.mem_append.1 hp with hp | hp
    · exact flatL_iff.1 (h a) p hp
    · exact ih p hp
theorem flat_newB {b : List UInt8} : flat (newK 1 b1 b) = true := flat_newK fun _ => rfl
def nb (l : List UInt8) : Nat := l.foldl (fun a x => a * 256 + x.toNat) 0
theorem nb_snoc (l : List UInt8) (x : UInt8) : nb (l ++ [x]) = nb l * 256 + x.toNat := by simp [nb]
theorem nb_all : ∀ (n : Nat) (l : List UInt8), l.length = n → nb l < 2 ^ (8 * n) ∧ byK n (nb l) = l
  | 0, l, h => by
    have : l = [] := List.length_eq_zero_iff.1 h
    subst this
    exact ⟨by decide, rfl⟩
  | n + 1, l, h => by
    have hne : l ≠ [] := by intro e; subst e; simp at h
    have e0 : l.dropLast ++ [l.getLast hne] = l := List.dropLast_concat_getLast hne
    generalize l.getLast hne = b at e0
    generalize l.dropLast = ds at e0
    subst e0
    have hl : ds.length = n := by simpa using h
    obtain ⟨hv, e⟩ := nb_all n ds hl
    have hb : b.toNat < 256 := b.toNat_lt
    rw [nb_snoc]
    refine ⟨?_, ?_⟩
    · rw [Nat.mul_add, Nat.mul_one, Nat.pow_add, show (2 : Nat) ^ 8 = 256 by decide]
      omega
    · have hx := byK_snoc ds.length (nb ds) b
      rw [hl] at hx
      rw [hx, e]
theorem nb_32 {l : List UInt8} (h : l.length = 32) : by32 (nb l) = l := (nb_all 32 l h).2
theorem nb_lt {l : List UInt8} (h : l.length = 32) : nb l < 115792089237316195423570985008687907853269984665640564039457584007913129639936 := by
  have := (nb_all 32 l h).1
  rwa [show (2 : Nat) ^ (8 * 32) = 115792089237316195423570985008687907853269984665640564039457584007913129639936 by decide] at this
theorem bl_hl {l : List UInt8} (h : l.length = 32) : bl 32 l = hl (nb l) := by rw [bl_eq h, hl, nb_32 h]
theorem bl_rk {n : Nat} {l : List UInt8} (h : n ≤ l.length) : (rk b1 l).take n = bl n (l.take n) := by
  rw [rk_b1, bl_eq (by simp; omega), List.map_take]
def sN (b : List UInt8) : Nat := nb (sum b)
def tN (t b : List UInt8) : Nat := nb (tagged t b)
theorem sN_lt (b : List UInt8) : sN b < 115792089237316195423570985008687907853269984665640564039457584007913129639936 := nb_lt (len_sum b)
theorem dig_end (s : S8) : bl 32 (fill 32 0 (dbyte s) 32) = hl (nb (dig s)) := by rw [dig_def, bl_hl (len_dig s)]
theorem wl_eq {n : Nat} {a b : List W} (h : a = b) : wl n a = wl n b := by rw [h]
theorem bl_congr {n : Nat} {a b : List UInt8} (h : a = b) : bl n a = bl n b := by rw [h]
theorem rk_congr {α : Type} {f : α → List PV} {a b : List α} (h : a = b) : rk f a = rk f b := by rw [h]
theorem rk_set1 {α : Type} {g : α → PV} {b : List α} {i : Nat} {a : α} : (rk (fun a => [g a]) b).set i (g a) = rk (fun a => [g a]) (b.set i a) := by rw [rk_len1, rk_len1, List.map_set]
theorem rk_setb {b : List UInt8} {i : Nat} {a : UInt8} : (rk b1 b).set i (bv a) = rk b1 (b.set i a) := rk_set1 (g := bv)
theorem len_rkb (b : List UInt8) : (rk b1 b).length = b.length := by rw [len_rk, Nat.mul_one]
theorem app_one {b : List UInt8} {n : Nat} {x : UInt8} (hn : n = b.length) : ((rk b1 b).drop 0).take (n * 1) ++ (([bv x] : List PV).drop 0).take (1 * 1) = rk b1 (b ++ [x]) := by rw [row_all hn, ← rk_app]; rfl
def z8 : S8 := ⟨0, 0, 0, 0, 0, 0, 0, 0⟩
def bsP (len sz : Nat) (z : Value) (parts : List (Nat × PV)) (cs : List PV) : Prop := len * sz ≤ 16777216 ∧ 0 < len * sz ∧ z.cells.size = sz ∧ (∀ v ∈ z.cells.toList, v.oneCell' = true) ∧ parts.all (fun x => x.2.cells.all PV.one) = true ∧ cs.all PV.one = true
theorem bsP_ok {len sz : Nat} {z : Value} {parts : List (Nat × PV)} {cs : List PV} (h : (Nat.ble (len * sz) 16777216 && Nat.blt 0 (len * sz) && Nat.beq z.cells.size sz && z.cells.toList.all Value.oneCell' && parts.all (fun x => x.2.cells.all PV.one) && cs.all PV.one) = true) : bsP len sz z parts cs := by
  simp only [Bool.and_eq_true] at h
  exact ⟨Nat.le_of_ble_eq_true h.1.1.1.1.1, Nat.le_of_ble_eq_true h.1.1.1.1.2, Nat.eq_of_beq_eq_true h.1.1.1.2, List.all_eq_true.1 h.1.1.2, h.1.2, h.2⟩
def zOf (P : Program) (t : TypeId) : Value := match tyOf P t with
  | some T => T.zero
  | none => undef
theorem wl_ix {n i : Nat} (h : i < n) (l : List W) (d : PV) : PV.rptr [(wl n l).getD (i : Int).toNat d] = .rptr [uw (l.getD i 0)] := by rw [Int.toNat_natCast, wl_get h]
theorem lnz : (∀ a b : List UInt8, (a ++ b).length = a.length + b.length) ∧ (∀ (a : List UInt8) n, (a.take n).length = min n a.length) ∧ (∀ (a : List UInt8) n, (a.drop n).length = a.length - n) ∧
    (∀ n (x : UInt8), (List.replicate n x).length = n) ∧ (∀ (a : List UInt8) i x, (a.set i x).length = a.length) ∧ (∀ (a : List UInt8) x, (x :: a).length = a.length + 1) ∧ ([] : List UInt8).length = 0 ∧
    (∀ n, (by32 n).length = 32) ∧ (∀ s, (sb s).length = s.size) ∧ (∀ n, (pad n).length = 9 + padz n) ∧ (∀ n i, (padI n i).length = 1 + padz n + min i 8) ∧ (∀ s, (dig s).length = 32) ∧ (∀ b, (sum b).length = 32) ∧
    (∀ b : List UInt8, (rk b1 b).length = b.length) ∧ (∀ b i, (byB b i).length = 64) ∧ (∀ l t, (ext l t).length = l.length) ∧ (∀ n (z : W) f i, (fill n z f i).length = n) ∧ (∀ n (z : UInt8) f i, (fill n z f i).length = n) ∧ (∀ s : S8, s.l.length = 8) ∧ (∀ s r i, (addI s r i).length = 8) ∧ (∀ n (x : W), (List.replicate n x).length = n) :=
  ⟨fun _ _ => List.length_append, fun _ _ => List.length_take, fun _ _ => List.length_drop, fun _ _ => List.length_replicate, fun _ _ _ => List.length_set, fun _ _ => List.length_cons, rfl,
   len_by32, len_sb, len_pad, len_padI, len_dig, len_sum, len_rkb, len_byB, len_ext, len_fill, len_fill, len_l, len_addI, fun _ _ => List.length_replicate⟩
theorem lss_n0 (a : Nat) : bn .lss (ln a) (ln 0) = lB false := by
  show PV.lit (.bool (decide ((a : Int) < ((0 : Nat) : Int)))) = _
  rw [decide_eq_false (by omega)]; rfl
def mkN (m : Int) (bt sz : Nat) (z : Value) : Prop := 0 ≤ m ∧ m ≤ 9223372036854775807 ∧ m * (bt : Int) ≤ 281474976710656 ∧ z.cells.size = sz ∧ (∀ v ∈ z.cells.toList, v.oneCell' = true)
theorem mkN_ok {m bt sz : Nat} {z : Value} (h2 : m ≤ 9223372036854775807) (h1 : m * bt ≤ 281474976710656) (h4 : (Nat.beq z.cells.size sz && z.cells.toList.all Value.oneCell') = true) : mkN m bt sz z := by
  simp only [Bool.and_eq_true] at h4
  refine ⟨by omega, by omega, ?_, Nat.eq_of_beq_eq_true h4.1, List.all_eq_true.1 h4.2⟩
  rw [← Int.natCast_mul]; omega
theorem rem_u {a b : Nat} (hb : b < 18446744073709551616) : bn .rem (ul a) (ul b) = ul (a % 18446744073709551616 % b) := by
  have e : bn .rem (ul a) (ul b) = PV.lit (.int .u64 (((a % 18446744073709551616 : Nat) : Int).tmod ((b % 18446744073709551616 : Nat) : Int))) := rfl
  rw [e, Nat.mod_eq_of_lt hb, ← Int.ofNat_tmod]
  refine lit_u ?_
  have h1 : a % 18446744073709551616 % b ≤ a % 18446744073709551616 := Nat.mod_le _ _
  have h2 : a % 18446744073709551616 < 18446744073709551616 := Nat.mod_lt _ (by decide)
  rw [Nat.mod_eq_of_lt (a := a % 18446744073709551616 % b) (by omega)]
theorem rot_end {x : W} {n : Nat} (h1 : 1 ≤ n) (h2 : n ≤ 31) : uw (x <<< ((2 ^ 64 - n) % 32) ||| x >>> (32 - (2 ^ 64 - n) % 32)) = uw (rotr x n) := by
  rw [show (2 ^ 64 - n) % 32 = 32 - n by omega, show 32 - (32 - n) = n by omega]; rfl
theorem byB_end {b : List UInt8} {i : Nat} (h : i = 64) : wl 64 (byB b i) = wl 64 (ext (fill 64 0 (word b) 16) 0) := by
  subst h; exact wl_eq (byB_word b 16 (by decide))
theorem ext_step {l : List W} {t : Nat} : wl 64 ((ext l t).set (16 + t) ((ext l t).getD (16 + t - 16) 0 + (rotr ((ext l t).getD (16 + t - 15) 0) 7 ^^^ rotr ((ext l t).getD (16 + t - 15) 0) 18 ^^^ (ext l t).getD (16 + t - 15) 0 >>> 3) + (ext l t).getD (16 + t - 7) 0 +
    (rotr ((ext l t).getD (16 + t - 2) 0) 17 ^^^ rotr ((ext l t).getD (16 + t - 2) 0) 19 ^^^ (ext l t).getD (16 + t - 2) 0 >>> 10))) = wl 64 (ext l (t + 1)) := by
  rw [show 16 + t - 16 = t by omega, show 16 + t - 15 = t + 1 by omega, show 16 + t - 7 = t + 9 by omega, show 16 + t - 2 = t + 14 by omega]; rfl
theorem sched_end {b : List UInt8} {t : Nat} (h : t = 48) : PV.agg (wl 64 (ext (fill 64 0 (word b) 16) t)) = .agg (wl 64 (sched b)) := by subst h; rfl
theorem comp_end {s : S8} {b : List UInt8} {i : Nat} (h : i = 8) : PV.agg (wl 8 (addI s (rnds (sched b) s 64) i)) = .agg (sl (compress s b)) := by subst h; rfl
theorem rnds_at {b : List UInt8} {s : S8} {t : Nat} (h : t = 64) : PV.agg [uw (rnds (sched b) s t).a, uw (rnds (sched b) s t).b, uw (rnds (sched b) s t).c, uw (rnds (sched b) s t).d, uw (rnds (sched b) s t).e, uw (rnds (sched b) s t).f, uw (rnds (sched b) s t).g, uw (rnds (sched b) s t).h] = .agg (sl (rnds (sched b) s 64)) := by subst h; rfl
theorem pad_rem {n : Nat} (h : n < 18446744073709551616) : bn .rem (ul (55 + (2 ^ 64 - n % 2 ^ 64))) (ul 64) = ul (padz n) := by
  rw [rem_u (by decide)]; unfold padz; congr 1; omega
theorem dig_zero (s : S8) : hl 0 = bl 32 (fill 32 0 (dbyte s) 0) := by rfl
theorem dig_fin {s : S8} {i : Nat} (h : i = 32) : PV.agg (bl 32 (fill 32 0 (dbyte s) i)) = h32 (nb (dig s)) := by subst h; rw [dig_end]; rfl
theorem absorb_step {s : S8} {b : List UInt8} {q : Nat} : sl (compress (absorb q s b) (((b.drop (64 * q)).take 64).take 64)) = sl (absorb (q + 1) s b) := by rw [absorb_succ, List.take_take, Nat.min_self]
theorem drop_step {b : List UInt8} {q : Nat} : roK b1 ((b.drop (64 * q)).drop 64) = roK b1 (b.drop (64 * (q + 1))) := by rw [List.drop_drop]; rfl
theorem absorb_end {s : S8} {b : List UInt8} {q : Nat} (h : q = b.length / 64) : PV.agg (sl (absorb q s b)) = .agg (sl (absorb (b.length / 64) s b)) := by rw [h]
theorem sum_fin {b : List UInt8} : h32 (nb (dig (absorb ((b.drop (b.length - b.length % 64) ++ pad b.length).length / 64) (absorb ((b.take (b.length - b.length % 64)).length / 64) init8 (b.take (b.length - b.length % 64))) (b.drop (b.length - b.length % 64) ++ pad b.length)))) = h32 (sN b) := by
  have h := sum_split b
  have e : (b.take (b.length - b.length % 64)).length / 64 = b.length / 64 := by rw [List.length_take]; omega
  rw [e, h]; rfl
theorem padI_end {n i : Nat} (h : i = 8) : padI n i = pad n := by subst h; exact padI_all n
theorem rep_rk1 {m l : Nat} (h : m % 18446744073709551616 = l) : rep ((m % 18446744073709551616 : Nat) : Int).toNat (.int .u8 0) = rk b1 (List.replicate l 0) := by rw [h]; exact rep_rk rfl
theorem okWL_closed {c : Nat → Bool} {ps : List PV} (h : closedL ps = true) : okWL c ps = true := (mpL_closed (f := id) ps h).2
theorem okW_closed {c : Nat → Bool} {p : PV} (h : closed p = true) : okW c p = true := (mpV_closed (f := id) p h).2
theorem mpL_closed1 {f : Nat → Nat} {ps : List PV} (h : closedL ps = true) : mpL f ps = ps := (mpL_closed (c := fun _ => true) ps h).1
theorem mpV_closed1 {f : Nat → Nat} {p : PV} (h : closed p = true) : mpV f p = p := (mpV_closed (c := fun _ => true) p h).1
section
variable (c : Nat → Bool) (g : Nat → Nat)
theorem okWL_cl (k n : Nat) : okWL c (cl k n) = true := okWL_closed (closedL_cl k n)
theorem mpL_cl (k n : Nat) : mpL g (cl k n) = cl k n := mpL_closed1 (closedL_cl k n)
theorem okWL_hl (n : Nat) : okWL c (hl n) = true := okWL_closed (closedL_hl n)
theorem mpL_hl (n : Nat) : mpL g (hl n) = hl n := mpL_closed1 (closedL_hl n)
theorem okW_roK {α : Type} {f : α → List PV} {k : Nat} [Kd f k] (b : List α) : okW c (roK f b) = true := okW_closed closed_roK
theorem mpV_roK {α : Type} {f : α → List PV} {k : Nat} [Kd f k] (b : List α) : mpV g (roK f b) = roK f b := mpV_closed1 closed_roK
theorem okW_ul (n : Nat) : okW c (ul n) = true := rfl
theorem mpV_ul (n : Nat) : mpV g (ul n) = ul n := rfl
theorem okW_ln (n : Nat) : okW c (ln n) = true := rfl
theorem mpV_ln (n : Nat) : mpV g (ln n) = ln n := rfl
theorem okW_li (n : Int) : okW c (li n) = true := rfl
theorem mpV_li (n : Int) : mpV g (li n) = li n := rfl
theorem okW_lB (n : Bool) : okW c (lB n) = true := rfl
theorem mpV_lB (n : Bool) : mpV g (lB n) = lB n := rfl
end
end Go.Ab
namespace Go.Ab
def pwm (n : Nat) : Nat → Nat → Nat → Nat
  | 0, _, _ => 1 % n
  | f + 1, a, e => bif e % 2 == 1 then a * pwm n f (a * a % n) (e / 2) % n else pwm n f (a * a % n) (e / 2)
theorem pwm_eq (n : Nat) : ∀ f a e, e < 2 ^ f → pwm n f a e = a ^ e % n
  | 0, a, e, h => by
    obtain rfl : e = 0 := by omega
    rfl
  | f + 1, a, e, h => by
    have ih := pwm_eq n f (a * a % n) (e / 2) (by rw [Nat.pow_succ] at h; omega)
    have e1 : (a * a % n) ^ (e / 2) % n = a ^ (2 * (e / 2)) % n := by
      rw [← Nat.pow_mod, Nat.pow_mul, show a ^ 2 = a * a by rw [Nat.pow_two]]
    unfold pwm
    by_cases h2 : e % 2 = 1
    · rw [ih, e1, h2]
      show a * (a ^ (2 * (e / 2)) % n) % n = _
      rw [Nat.mul_mod_mod]
      conv => rhs; rw [show e = 2 * (e / 2) + 1 by omega, Nat.pow_succ, Nat.mul_comm]
    · have h3 : e % 2 = 0 := by omega
      rw [ih, e1, h3]
      show a ^ (2 * (e / 2)) % n = _
      rw [show 2 * (e / 2) = e by omega]
def pP : Nat := 115792089237316195423570985008687907853269984665640564039457584007913129603823
def qP : Nat := 57896044618658097711785492504343953926634992332820282019728792003956564801911
theorem p2 : 2 ≤ pP := by decide +kernel
def mem (a : Nat) : Prop := 0 < a ∧ a < pP ∧ a ^ qP % pP = 1
instance (a : Nat) : Decidable (mem a) := by unfold mem; exact inferInstance
theorem four_q : 4 ^ qP % pP = 1 := by
  rw [← pwm_eq pP 255 4 qP (by decide +kernel)]
  decide +kernel
theorem pow_q {g : Nat} (h : g ^ qP % pP = 1) (e : Nat) : g ^ (e % qP) % pP = g ^ e % pP := by
  have e1 : g ^ e = (g ^ qP) ^ (e / qP) * g ^ (e % qP) := by rw [← Nat.pow_mul, ← Nat.pow_add, Nat.div_add_mod]
  have h1 : 1 % pP = 1 := Nat.mod_eq_of_lt p2
  conv => rhs; rw [e1, Nat.mul_mod, Nat.pow_mod, h, Nat.one_pow, h1, Nat.one_mul, Nat.mod_mod]
theorem pow_add_q {g : Nat} (h : g ^ qP % pP = 1) (a b : Nat) : g ^ ((a + b) % qP) % pP = (g ^ a % pP) * (g ^ b % pP) % pP := by
  rw [pow_q h, Nat.pow_add, Nat.mul_mod]
attribute [irreducible] pP qP
end Go.Ab
namespace Go.Ab
set_option maxRecDepth 8000
def gx (a e : Nat) : Nat := a ^ e % pP
theorem gx_eq (a e : Nat) : gx a e = a ^ e % pP := rfl
attribute [irreducible] gx
def mb (a : Nat) : Bool := decide (a ≠ 0) && decide (a < pP) && decide (gx a qP = 1)
attribute [irreducible] mb
theorem pow_add4 (a b : Nat) : gx 4 ((a + b) % qP) = gx 4 a * gx 4 b % pP := by
  rw [gx_eq, gx_eq, gx_eq]
  exact pow_add_q four_q a b
end Go.Ab
namespace Go.Ab
open Go Go.RowKit
theorem callR_to {P : Program} {g : FuncId} {xs : List PV} {r r' : PV} (h : r = r') (c : CallR P g xs r) : CallR P g xs r' := h ▸ c
end Go.Ab
namespace Go.Ab
open Go Go.RowKit
set_option linter.unusedVariables false
set_option linter.unusedSimpArgs false
set_option linter.unusedVariables false
def s_non : ByteArray := ⟨#[108, 105, 103, 104, 116, 99, 108, 105, 101, 110, 116, 47, 110, 111, 110, 99, 101]⟩
def s_cha : ByteArray := ⟨#[108, 105, 103, 104, 116, 99, 108, 105, 101, 110, 116, 47, 99, 104, 97, 108, 108, 101, 110, 103, 101]⟩
def sec (x : Nat) : Prop := x ≠ 0 ∧ x < qP
instance (x : Nat) : Decidable (sec x) := inferInstanceAs (Decidable (_ ∧ _))
def pubV (x : Nat) : Nat := if sec x then gx 4 x else 0
def pubE (x : Nat) : Nat := if sec x then 0 else 60
attribute [irreducible] pubV pubE
def vld (p : Nat) : Bool := bif decide (p = 1) then false else mb p
attribute [irreducible] vld
def nonV (x m : Nat) : Nat := if tN (sb s_non) (by32 x ++ by32 m) % qP = 0 then 1 else tN (sb s_non) (by32 x ++ by32 m) % qP
attribute [irreducible] nonV
def chV (r p m : Nat) : Nat := tN (sb s_cha) (by32 r ++ by32 p ++ by32 m) % qP
attribute [irreducible] chV
def sgE (x m : Nat) : Nat := chV (gx 4 (nonV x m)) (gx 4 x) m
def sgS (x m : Nat) : Nat := (nonV x m + sgE x m * x % qP) % qP
def sigE (x m : Nat) : Nat := if sec x then sgE x m else 0
def sigS (x m : Nat) : Nat := if sec x then sgS x m else 0
attribute [irreducible] sigE sigS
def verP (p m e s : Nat) : Prop := vld p = true ∧ e < qP ∧ s < qP ∧ e = chV (gx 4 s * gx p (qP - e) % pP) p m
instance (p m e s : Nat) : Decidable (verP p m e s) := inferInstanceAs (Decidable (_ ∧ _))
theorem gx_mod (a : Nat) : gx 4 (a % qP) = gx 4 a := by rw [gx_eq, gx_eq]; exact pow_q four_q a
theorem gx_add (a b : Nat) : gx 4 a * gx 4 b % pP = gx 4 (a + b) := by rw [← pow_add4, gx_mod]
theorem gx_mul (a b : Nat) : gx (gx 4 a) b = gx 4 (a * b) := by rw [gx_eq, gx_eq, gx_eq, ← Nat.pow_mod, ← Nat.pow_mul]
theorem back {k e x : Nat} (he : e ≤ qP) : gx 4 ((k + e * x % qP) % qP) * gx (gx 4 x) (qP - e) % pP = gx 4 k := by
  rw [gx_mod, gx_mul, gx_add]
  have h1 : gx 4 (k + e * x % qP + x * (qP - e)) = gx 4 (k + e * x + x * (qP - e)) := by
    rw [← gx_mod, ← gx_mod (k + e * x + x * (qP - e))]
    congr 1
    rw [Nat.add_mod, Nat.add_mod k (e * x % qP), Nat.mod_mod, ← Nat.add_mod k, ← Nat.add_mod]
  rw [h1]
  have h2 : k + e * x + x * (qP - e) = k + qP * x := by
    rw [Nat.mul_comm x, Nat.add_assoc, ← Nat.add_mul, Nat.add_sub_cancel' he]
  rw [h2, ← gx_mod, Nat.add_mul_mod_self_left, gx_mod]
theorem h32_inj {a b : Nat} (ha : a < 2 ^ 256) (hb : b < 2 ^ 256) (h : by32 a = by32 b) : a = b := by
  have e : ∀ n, n < 2 ^ 256 → nb (by32 n) = n := by
    intro n hn
    have hk : ∀ k, nb (byK k n) = n % 2 ^ (8 * k) := by
      intro k
      induction k generalizing n with
      | zero => simp [byK, nb, Nat.mod_one]
      | succ k ih =>
        have h1 := byK_snoc k (n / 256) (UInt8.ofNat n)
        have h2 : n / 256 * 256 + (UInt8.ofNat n).toNat = n := by rw [UInt8.toNat_ofNat']; omega
        rw [h2] at h1
        rw [h1, nb_snoc, ih (n / 256) (by omega), UInt8.toNat_ofNat', show 8 * (k + 1) = 8 + 8 * k from by rw [Nat.mul_succ, Nat.add_comm], Nat.pow_add, Nat.mod_mul, show (2 : Nat) ^ 8 = 256 from rfl]
        rw [Nat.mul_comm, Nat.add_comm]
    have := hk 32
    rw [Nat.mod_eq_of_lt (show n < 2 ^ (8 * 32) from hn)] at this
    exact this
  rw [← e a ha, ← e b hb, h]
theorem intsOf_bs (l : List UInt8) : intsOf (l.map bv) = l.map fun x => (x.toNat : Int) := by
  induction l with
  | nil => rfl
  | cons a l ih => simp only [List.map_cons, bv, intsOf]; rw [← ih]
theorem ints_inj {a b : List UInt8} (h : (a.map fun x => (x.toNat : Int)) = b.map fun x => (x.toNat : Int)) : a = b := by
  induction a generalizing b with
  | nil => cases b with
    | nil => rfl
    | cons _ _ => cases h
  | cons x a ih => cases b with
    | nil => cases h
    | cons y b =>
      simp only [List.map_cons, List.cons.injEq] at h
      rw [ih h.2]
      have : x.toNat = y.toNat := by omega
      rw [UInt8.toNat_inj.1 this]
theorem hl_beq {a b : Nat} (ha : a < 2 ^ 256) (hb : b < 2 ^ 256) : (intsOf (hl a) == intsOf (hl b)) = decide (a = b) := by
  rw [Bool.eq_iff_iff, beq_iff_eq, decide_eq_true_eq]
  constructor
  · intro h
    rw [hl, hl, intsOf_bs, intsOf_bs] at h
    exact h32_inj ha hb (ints_inj h)
  · intro h; rw [h]
theorem neq_h {a b : Nat} (ha : a < 2 ^ 256) (hb : b < 2 ^ 256) : lB (!(intsOf (hl a) == intsOf (hl b))) = lB (decide (a ≠ b)) := by rw [hl_beq ha hb, decide_not]
def tkV (p t : Nat) : Nat := if vld p = true then (if p * gx 4 (t % qP) % pP = 1 then 0 else p * gx 4 (t % qP) % pP) else 0
def tkE (p t : Nat) : Nat := if vld p = true then (if p * gx 4 (t % qP) % pP = 1 then 5 else 0) else 60
def tsV (x t : Nat) : Nat := if sec x then (if (x + t % qP) % qP = 0 then 0 else (x + t % qP) % qP) else 0
def tsE (x t : Nat) : Nat := if sec x then (if (x + t % qP) % qP = 0 then 5 else 0) else 60
attribute [irreducible] tkV tkE tsV tsE
def dE0 (b : List UInt8) : Nat := nb ((b.take 32).take 32)
def dS0 (b : List UInt8) : Nat := nb ((b.drop 32).take 32)
def dOk (b : List UInt8) : Prop := dE0 b < qP ∧ dS0 b < qP
instance (b : List UInt8) : Decidable (dOk b) := inferInstanceAs (Decidable (_ ∧ _))
def dE (b : List UInt8) : Nat := if b.length = 64 ∧ dOk b then dE0 b else 0
def dS (b : List UInt8) : Nat := if b.length = 64 ∧ dOk b then dS0 b else 0
def dF (b : List UInt8) : Nat := if b.length = 64 then (if dOk b then 0 else 5) else 8
attribute [irreducible] dE dS dF
end Go.Ab
namespace Go.Ab
open Go Go.RowKit
set_option linter.unusedVariables false
set_option linter.unusedSimpArgs false
instance : Kd hl 32 := ⟨fun a => by simp [hl, len_by32], closedL_hl⟩
def bo1 (b : Bool) : List PV := [lB b]
instance : Kd bo1 1 := ⟨fun _ => rfl, fun _ => rfl⟩
def i1 (n : Nat) : List PV := [ln n]
instance : Kd i1 1 := ⟨fun _ => rfl, fun _ => rfl⟩
def lf (x : Nat × Nat) : List PV := ln x.1 :: hl x.2
instance : Kd lf 33 := ⟨fun a => by simp [lf, hl, len_by32], fun a => by simp [lf, closedL, closed, ln, closedL_hl]⟩
def pp2 (x : Nat × Nat) : List PV := hl x.1 ++ hl x.2
instance : Kd pp2 64 := ⟨fun a => by simp [pp2, hl, len_by32], fun a => closedL_app (closedL_hl _) (closedL_hl _)⟩
def lv (l : List Nat) : List PV := [roK hl l]
instance : Kd lv 1 := ⟨fun _ => rfl, fun a => by simp [lv, closedL, closed_roK]⟩
theorem rk_one {α : Type} {f : α → List PV} (e : α) : f e = rk f [e] := by simp [rk]
theorem ro_one {α : Type} {f : α → List PV} (e : α) : PV.ro 1 (f e) = roK f [e] := by simp [roK, rk]
theorem lnm : (∀ (α : Type) (a b : List α), (a ++ b).length = a.length + b.length) ∧ (∀ (α : Type) (a : List α) n, (a.take n).length = min n a.length) ∧ (∀ (α : Type) (a : List α) n, (a.drop n).length = a.length - n) ∧
    (∀ (α : Type) n (x : α), (List.replicate n x).length = n) ∧ (∀ (α : Type) (a : List α) i x, (a.set i x).length = a.length) ∧ (∀ (α : Type) (a : List α) x, (x :: a).length = a.length + 1) ∧ (∀ (α : Type), ([] : List α).length = 0) ∧
    (∀ n, (by32 n).length = 32) :=
  ⟨fun _ _ _ => List.length_append, fun _ _ _ => List.length_take, fun _ _ _ => List.length_drop, fun _ _ _ => List.length_replicate, fun _ _ _ _ => List.length_set, fun _ _ _ => List.length_cons, fun _ => rfl, len_by32⟩
theorem shl_n {a k : Nat} (h : a * 2 ^ k < 9223372036854775808) (hk : k ≤ 64) : bn .shl (ln a) (ln k) = ln (a * 2 ^ k) := by
  show PV.lit (.int .i64 (IntKind.i64.wrap ((a : Int) * 2 ^ (min k 64)))) = PV.lit (.int .i64 ((a * 2 ^ k : Nat) : Int))
  rw [Nat.min_eq_left hk]
  have e : (a : Int) * 2 ^ k = ((a * 2 ^ k : Nat) : Int) := by rw [Int.natCast_mul, Int.natCast_pow]; rfl
  rw [e, wrap_i (by omega) (by omega)]
theorem shl_1 {k : Nat} (h : 2 ^ k < 9223372036854775808) (hk : k ≤ 64) : bn .shl (ln 1) (ln k) = ln (2 ^ k) := by rw [shl_n (by omega) hk, Nat.one_mul]
theorem nd_t {p : Prop} [Decidable p] (h : (!decide p) = true) : ¬ p := fun e => by rw [decide_eq_true e] at h; cases h
theorem nd_f {p : Prop} [Decidable p] (h : (!decide p) = false) : p := by by_cases e : p; exact e; rw [decide_eq_false e] at h; cases h
theorem flatL_hl (n : Nat) : flatL (hl n) = true := flatL_bv _
def nd (a b : Nat) : Nat := sN ([1] ++ by32 a ++ by32 b)
theorem nd_lt (a b : Nat) : nd a b < 2 ^ 256 := sN_lt _
theorem nd_eq (a b : Nat) : h32 (sN ([1] ++ by32 a ++ by32 b)) = h32 (nd a b) := rfl
attribute [irreducible] nd
def up : List Nat → List Nat
  | a :: b :: r => nd a b :: up r
  | l => l
theorem len_up : ∀ l : List Nat, (up l).length = (l.length + 1) / 2
  | [] => rfl
  | [_] => by simp [up]
  | a :: b :: r => by simp only [up, List.length_cons, len_up r]; omega
theorem up_drop : ∀ (m : Nat) (l : List Nat), up (l.drop (2 * m)) = (up l).drop m
  | 0, l => by simp
  | m + 1, [] => by simp [up]
  | m + 1, [x] => by simp [up, show 2 * (m + 1) = 2 * m + 1 + 1 by omega]
  | m + 1, a :: b :: r => by
    rw [show 2 * (m + 1) = 2 * m + 1 + 1 by omega]
    simp only [List.drop_succ_cons, up]
    exact up_drop m r
theorem up_take : ∀ (m : Nat) (l : List Nat), up (l.take (2 * m)) = (up l).take m
  | 0, l => by simp [up]
  | m + 1, [] => by simp [up]
  | m + 1, [x] => by simp [up, show 2 * (m + 1) = 2 * m + 1 + 1 by omega]
  | m + 1, a :: b :: r => by
    rw [show 2 * (m + 1) = 2 * m + 1 + 1 by omega]
    simp only [List.take_succ_cons, up]
    rw [up_take m r]
def lev (l : List Nat) : Nat → List Nat
  | 0 => l
  | k + 1 => up (lev l k)
theorem lev_drop (l : List Nat) : ∀ (k i : Nat), lev (l.drop (i * 2 ^ k)) k = (lev l k).drop i
  | 0, i => by simp [lev]
  | k + 1, i => by
    have e : i * 2 ^ (k + 1) = 2 * i * 2 ^ k := by rw [Nat.pow_succ, Nat.mul_comm 2 i, Nat.mul_assoc, Nat.mul_comm 2]
    rw [e]
    simp only [lev]
    rw [lev_drop l k (2 * i), up_drop]
theorem lev_take (l : List Nat) : ∀ (k i : Nat), lev (l.take (i * 2 ^ k)) k = (lev l k).take i
  | 0, i => by simp [lev]
  | k + 1, i => by
    have e : i * 2 ^ (k + 1) = 2 * i * 2 ^ k := by rw [Nat.pow_succ, Nat.mul_comm 2 i, Nat.mul_assoc, Nat.mul_comm 2]
    rw [e]
    simp only [lev]
    rw [lev_take l k (2 * i), up_take]
def wdt (n k : Nat) : Nat := (n + 2 ^ k - 1) / 2 ^ k
theorem wdt_0 (n : Nat) : wdt n 0 = n := by simp [wdt]
theorem wdt_succ (n k : Nat) : wdt n (k + 1) = (wdt n k + 1) / 2 := by
  unfold wdt
  have hp : 0 < 2 ^ k := Nat.two_pow_pos k
  rw [← Nat.add_div_right _ hp, Nat.div_div_eq_div_mul, Nat.pow_succ]
  congr 1
  omega
theorem len_lev (l : List Nat) : ∀ k, (lev l k).length = wdt l.length k
  | 0 => by rw [wdt_0]; rfl
  | k + 1 => by rw [wdt_succ, ← len_lev l k]; exact len_up _
theorem wdt_le {n k : Nat} (h : 1 ≤ n) : wdt n k ≤ 1 ↔ n ≤ 2 ^ k := by
  unfold wdt
  have hp : 0 < 2 ^ k := Nat.two_pow_pos k
  rw [← Nat.lt_succ_iff, Nat.div_lt_iff_lt_mul hp]
  omega
theorem wdt_pos {n k : Nat} (h : 1 ≤ n) : 1 ≤ wdt n k := by
  unfold wdt
  have hp : 0 < 2 ^ k := Nat.two_pow_pos k
  rw [Nat.le_div_iff_mul_le hp]
  omega
theorem wdt_lt {n k i : Nat} (h : i < wdt n k) : i * 2 ^ k < n := by
  unfold wdt at h
  have hp : 0 < 2 ^ k := Nat.two_pow_pos k
  have h1 := (Nat.le_div_iff_mul_le hp).1 (show i + 1 ≤ _ from h)
  rw [Nat.succ_mul] at h1
  omega
theorem lt_wdt {n k i : Nat} (h : i * 2 ^ k < n) : i < wdt n k := by
  unfold wdt
  have hp : 0 < 2 ^ k := Nat.two_pow_pos k
  show i + 1 ≤ _
  rw [Nat.le_div_iff_mul_le hp, Nat.succ_mul]
  omega
theorem blen_le2 {m k : Nat} : blen m ≤ k ↔ m < 2 ^ k := by
  unfold blen
  split
  · rename_i h; subst h; simp [Nat.two_pow_pos]
  · rename_i h
    rw [← Nat.log2_lt h]
    omega
def ht (n : Nat) : Nat := blen (n - 1)
theorem ht_le {n k : Nat} (h : 1 ≤ n) : ht n ≤ k ↔ wdt n k ≤ 1 := by
  rw [wdt_le h, ht, blen_le2]; omega
theorem wdt_ht {n : Nat} (h : 1 ≤ n) : wdt n (ht n) = 1 := by
  have h1 := (ht_le h (k := ht n)).1 (Nat.le_refl _)
  have h2 := wdt_pos (k := ht n) h
  omega
theorem ht_10 {n : Nat} (h : 1 ≤ n) (h2 : n ≤ 1024) : ht n ≤ 10 := (ht_le h).2 ((wdt_le h).2 (by simpa using h2))
theorem ht_1 : ht 1 = 0 := by decide +kernel
def rt (l : List Nat) : Nat := (lev l (ht l.length)).getD 0 0
theorem up_one {l : List Nat} (h : l.length ≤ 1) : up l = l := by
  match l, h with
  | [], _ => rfl
  | [_], _ => rfl
theorem lev_stay {l : List Nat} {k : Nat} (h : (lev l k).length ≤ 1) : ∀ d, lev l (k + d) = lev l k
  | 0 => rfl
  | d + 1 => by
    have := lev_stay h d
    show up (lev l (k + d)) = _
    rw [this, up_one h]
theorem rt_at {l : List Nat} {k : Nat} (h0 : 1 ≤ l.length) (h : (lev l k).length ≤ 1) : (lev l k).getD 0 0 = rt l := by
  have h1 : ht l.length ≤ k := (ht_le h0).2 (by rw [← len_lev]; exact h)
  have h2 : (lev l (ht l.length)).length ≤ 1 := by rw [len_lev, wdt_ht h0]; exact Nat.le_refl 1
  have := lev_stay h2 (k - ht l.length)
  rw [Nat.add_sub_cancel' h1] at this
  rw [this]; rfl
theorem rt_sub {l : List Nat} {k i : Nat} (h : i < wdt l.length k) : rt ((l.drop (i * 2 ^ k)).take (2 ^ k)) = (lev l k).getD i 0 := by
  have e : lev ((l.drop (i * 2 ^ k)).take (2 ^ k)) k = ((lev l k).drop i).take 1 := by
    have := lev_take (l.drop (i * 2 ^ k)) k 1
    rw [Nat.one_mul] at this
    rw [this, lev_drop]
  have hl := wdt_lt h
  rw [← rt_at (k := k)]
  · rw [e]
    simp [List.getD_eq_getElem?_getD, List.getElem?_take]
  · rw [List.length_take, List.length_drop]
    have hp : 0 < 2 ^ k := Nat.two_pow_pos k
    omega
  · rw [e, List.length_take]; exact Nat.min_le_left _ _
def rootV (l : List Nat) : Nat := if 1 ≤ l.length ∧ l.length ≤ 1024 then rt l else 0
theorem root_no {l : List Nat} (h : ¬ (1 ≤ l.length ∧ l.length ≤ 1024)) : h32 0 = h32 (rootV l) := by rw [rootV, if_neg h]
theorem root_yes {l : List Nat} {k : Nat} (h : 1 ≤ l.length ∧ l.length ≤ 1024) (hk : (lev l k).length ≤ 1) : h32 ((lev l k).getD 0 0) = h32 (rootV l) := by rw [rootV, if_pos h, rt_at h.1 hk]
theorem root_rt {l : List Nat} (h : 1 ≤ l.length ∧ l.length ≤ 1024) : rootV l = rt l := if_pos h
def prs : List Nat → List (List Nat)
  | a :: b :: r => [a, b] :: prs r
  | [a] => [[a]]
  | [] => []
theorem prs_at : ∀ (l : List Nat) (k : Nat), (prs l)[k]? = if 2 * k < l.length then some ((l.drop (2 * k)).take 2) else none
  | [], k => by simp [prs]
  | [a], 0 => by simp [prs]
  | [a], k + 1 => by simp [prs]
  | a :: b :: r, 0 => by simp [prs]
  | a :: b :: r, k + 1 => by
    have := prs_at r k
    simp only [prs, List.getElem?_cons_succ, this, show 2 * (k + 1) = 2 * k + 1 + 1 by omega, List.drop_succ_cons, List.length_cons]
    split <;> split <;> first | rfl | omega
theorem prs_len : ∀ l : List Nat, (prs l).length = (l.length + 1) / 2
  | [] => rfl
  | [a] => by simp [prs]
  | a :: b :: r => by simp only [prs, List.length_cons, prs_len r]; omega
def upc (l : List (List Nat)) : List Nat := l.map fun x => if x.length = 2 then nd (x.getD 0 0) (x.getD 1 0) else x.getD 0 0
theorem upc_prs : ∀ l : List Nat, upc (prs l) = up l
  | [] => by simp [prs, upc, up]
  | [a] => by simp [prs, upc, up]
  | a :: b :: r => by
    have := upc_prs r
    simp only [upc] at this
    simp only [prs, upc, up, List.map_cons, this]
    rfl
theorem len_upc (l : List (List Nat)) : (upc l).length = l.length := List.length_map _
theorem upc_2 {p : List (List Nat)} {x : List Nat} (h : x.length = 2) : upc p ++ [nd (x.getD 0 0) (x.getD 1 0)] = upc (p ++ [x]) := by
  simp only [upc, List.map_append, List.map_cons, List.map_nil, if_pos h]
theorem upc_1 {p : List (List Nat)} {x : List Nat} (h : x.length ≠ 2) : upc p ++ [x.getD 0 0] = upc (p ++ [x]) := by
  simp only [upc, List.map_append, List.map_cons, List.map_nil, if_neg h]
theorem prs_ok {l : List Nat} : ∀ x ∈ prs l, x.length = 1 ∨ x.length = 2 := by
  intro x hx
  obtain ⟨k, hk⟩ := List.mem_iff_getElem?.1 hx
  rw [prs_at] at hk
  split at hk
  · cases hk; rw [List.length_take, List.length_drop]; omega
  · cases hk
theorem len_lev1 (l : List Nat) (k : Nat) : (lev l (k + 1)).length = ((lev l k).length + 1) / 2 := len_up _
def lvk (l : List Nat) (k : Nat) : List (List Nat) := (List.range (k + 1)).map (lev l)
theorem len_lvk (l : List Nat) (k : Nat) : (lvk l k).length = k + 1 := by simp [lvk]
theorem up_get {m : List Nat} : ∀ {j : Nat}, 2 * j + 1 < m.length → (up m)[j]? = some (nd (m.getD (2 * j) 0) (m.getD (2 * j + 1) 0)) := by
  intro j h
  have e := up_drop j m
  have h1 : m.drop (2 * j) = m.getD (2 * j) 0 :: m.getD (2 * j + 1) 0 :: m.drop (2 * j + 2) := by
    rw [List.drop_eq_getElem_cons (by omega), List.drop_eq_getElem_cons (by omega)]
    simp [List.getD_eq_getElem?_getD, h, show 2 * j < m.length by omega]
  rw [h1] at e
  have h2 := congrArg (fun l => l[0]?) e
  simp only [up, List.getElem?_cons_zero, List.getElem?_drop, Nat.add_zero] at h2
  exact h2.symm
theorem up_get1 {m : List Nat} : ∀ {j : Nat}, 2 * j + 1 = m.length → (up m)[j]? = some (m.getD (2 * j) 0) := by
  intro j h
  have e := up_drop j m
  have h1 : m.drop (2 * j) = [m.getD (2 * j) 0] := by
    rw [List.drop_eq_getElem_cons (by omega), List.drop_of_length_le (by omega)]
    simp [List.getD_eq_getElem?_getD, show 2 * j < m.length by omega]
  rw [h1] at e
  have h2 := congrArg (fun l => l[0]?) e
  simp only [up, List.getElem?_cons_zero, List.getElem?_drop, Nat.add_zero] at h2
  exact h2.symm
theorem lev_le {l : List Nat} : ∀ k, (lev l k).length ≤ l.length
  | 0 => Nat.le_refl _
  | k + 1 => by have := lev_le (l := l) k; rw [len_lev1]; omega
section
variable {w i h g k : Nat} {hs r : List Nat}
end
def inP (w i : Int) : Prop := 1 ≤ w ∧ w ≤ 1024 ∧ 0 ≤ i ∧ i < w
instance (w i : Int) : Decidable (inP w i) := inferInstanceAs (Decidable (_ ∧ _))
theorem wdt_n (n : Nat) : ∀ k, wdt n k ≤ n
  | 0 => by rw [wdt_0]; exact Nat.le_refl _
  | k + 1 => by have := wdt_n n k; rw [wdt_succ]; omega
section
variable {W I h g k u : Nat} {hs r : List Nat} {w i : Int}
end
def okP (l : List Nat) (i : Int) : Prop := l.length ≤ 1024 ∧ 0 ≤ i ∧ i < l.length
instance (l : List Nat) (i : Int) : Decidable (okP l i) := inferInstanceAs (Decidable (_ ∧ _))
section
variable {l : List Nat} {i : Int} {k m : Nat}
end
theorem getD_some {l : List Nat} {i x : Nat} (h : l[i]? = some x) : l.getD i 0 = x := by rw [List.getD_eq_getElem?_getD, h]; rfl
theorem min_n {a b : Nat} : PV.lit (.int .i64 (if (b : Int) < (a : Int) then (b : Int) else (a : Int))) = ln (min a b) := by
  show _ = PV.lit (.int .i64 ((min a b : Nat) : Int))
  congr 2
  split <;> omega
def blw (w : List Bool) (k i : Nat) : Bool := ((w.drop (i * 2 ^ k)).take (2 ^ k)).any id
def fE (n k i : Nat) : Nat := min ((i + 1) * 2 ^ k) n
theorem fE_len {n k i : Nat} : fE n k i - i * 2 ^ k = min (2 ^ k) (n - i * 2 ^ k) := by
  unfold fE; rw [Nat.succ_mul]; generalize i * 2 ^ k = q; generalize 2 ^ k = p; omega
theorem fE_le {n k i : Nat} : fE n k i ≤ n := Nat.min_le_right _ _
theorem fE_ge {n k i : Nat} (h : i < wdt n k) : i * 2 ^ k ≤ fE n k i := by
  have := wdt_lt h
  unfold fE; rw [Nat.succ_mul]; generalize i * 2 ^ k = q at *; generalize 2 ^ k = p at *; omega
theorem take_min {α : Type} {l : List α} {m : Nat} : l.take (min m l.length) = l.take m := by
  rcases Nat.le_total m l.length with h | h
  · rw [Nat.min_eq_left h]
  · rw [Nat.min_eq_right h, List.take_length, List.take_of_length_le h]
theorem sub_eq {α : Type} {l : List α} {k i : Nat} : (l.drop (i * 2 ^ k)).take (fE l.length k i - i * 2 ^ k) = (l.drop (i * 2 ^ k)).take (2 ^ k) := by
  rw [fE_len, ← List.length_drop, take_min]
theorem blw_sub {w : List Bool} {n k i : Nat} (hn : w.length = n) : ((w.drop (i * 2 ^ k)).take (fE n k i - i * 2 ^ k)).any id = blw w k i := by
  subst hn; rw [sub_eq]; rfl
theorem root_sub {l : List Nat} {k i : Nat} (h : i < wdt l.length k) (h2 : l.length ≤ 1024) : rootV ((l.drop (i * 2 ^ k)).take (fE l.length k i - i * 2 ^ k)) = (lev l k).getD i 0 := by
  rw [sub_eq, root_rt, rt_sub h]
  have hp : 0 < 2 ^ k := Nat.two_pow_pos k
  have := wdt_lt h
  rw [List.length_take, List.length_drop]
  omega
theorem pair_iff {n k i : Nat} (h : i < wdt n (k + 1)) : 2 ^ k < fE n (k + 1) i - i * 2 ^ (k + 1) ↔ 2 * i + 1 < wdt n k := by
  have hp : 0 < 2 ^ k := Nat.two_pow_pos k
  have h1 := wdt_lt h
  have e : (2 * i + 1) * 2 ^ k = i * 2 ^ (k + 1) + 2 ^ k := by rw [Nat.succ_mul, Nat.pow_succ, Nat.mul_comm 2 i, Nat.mul_assoc, Nat.mul_comm 2]
  rw [fE_len, Nat.pow_succ]
  constructor
  · intro h2
    refine lt_wdt ?_
    rw [e, Nat.pow_succ]; omega
  · intro h2
    have := wdt_lt h2
    rw [e, Nat.pow_succ] at this; omega
theorem kid_lt {n k i : Nat} (h : i < wdt n (k + 1)) : 2 * i < wdt n k := by rw [wdt_succ] at h; omega
def visF (l : List Nat) (w : List Bool) : Nat → Nat → List Bool
  | 0, i => [blw w 0 i]
  | k + 1, i => if blw w (k + 1) i then true :: visF l w k (2 * i) ++ (if 2 * i + 1 < wdt l.length k then visF l w k (2 * i + 1) else []) else [false]
def visH (l : List Nat) (w : List Bool) : Nat → Nat → List Nat
  | 0, i => [(lev l 0).getD i 0]
  | k + 1, i => if blw w (k + 1) i then visH l w k (2 * i) ++ (if 2 * i + 1 < wdt l.length k then visH l w k (2 * i + 1) else []) else [(lev l (k + 1)).getD i 0]
theorem visF_len (l : List Nat) (w : List Bool) : ∀ k i, (visF l w k i).length + 1 ≤ 2 ^ (k + 1)
  | 0, i => by simp [visF]
  | k + 1, i => by
    have h1 := visF_len l w k (2 * i)
    have h2 := visF_len l w k (2 * i + 1)
    rw [visF, Nat.pow_succ]
    split
    · split <;> simp <;> omega
    · have : 0 < 2 ^ k := Nat.two_pow_pos k
      simp [Nat.pow_succ]; omega
theorem visH_len (l : List Nat) (w : List Bool) : ∀ k i, (visH l w k i).length ≤ 2 ^ k
  | 0, i => by simp [visH]
  | k + 1, i => by
    have h1 := visH_len l w k (2 * i)
    have h2 := visH_len l w k (2 * i + 1)
    rw [visH, Nat.pow_succ]
    split
    · split <;> simp <;> omega
    · have : 0 < 2 ^ k := Nat.two_pow_pos k
      simp; omega
theorem kid_lt2 {n k i : Nat} (h : i < wdt n k) (hk : 0 < k) : 2 * i < wdt n (k - 1) := kid_lt (by rwa [Nat.sub_add_cancel hk])
theorem pair_iff2 {n k i : Nat} (h : i < wdt n k) (hk : 0 < k) : 2 ^ (k - 1) < fE n k i - i * 2 ^ k ↔ 2 * i + 1 < wdt n (k - 1) := by
  have := @pair_iff n (k - 1) i (by rwa [Nat.sub_add_cancel hk])
  rwa [Nat.sub_add_cancel hk] at this
theorem pw2 (k : Nat) : k = 0 ∨ (2 ^ (k - 1 + 1) = 2 ^ k ∧ 2 ^ k = 2 * 2 ^ (k - 1)) := by
  cases k with
  | zero => exact .inl rfl
  | succ k => exact .inr ⟨rfl, by rw [Nat.pow_succ, Nat.mul_comm]; rfl⟩
theorem pw63 {k : Nat} (h : k < 63) : 2 ^ k < 9223372036854775808 := Nat.pow_lt_pow_right (by decide) h
theorem sp_b {n k i : Nat} (hi : i < wdt n k) (hn : n ≤ 1024) (hk : k ≤ 10) : (i + 1) * 2 ^ k ≤ 1048576 := by
  have h1 := wdt_lt hi
  have h2 : 2 ^ k ≤ 2 ^ 10 := Nat.pow_le_pow_right (by decide) hk
  rw [Nat.succ_mul]
  generalize i * 2 ^ k = q at *
  generalize 2 ^ k = p at *
  omega
section
variable {l hs : List Nat} {w f : List Bool} {k i : Nat}
theorem visF_e (h : blw w k i = false ∨ k = 0) : f ++ [blw w k i] = f ++ visF l w k i := by
  cases k with
  | zero => rfl
  | succ k =>
    rcases h with h | h
    · rw [visF, h]; rfl
    · cases h
theorem visH_e (h : blw w k i = false ∨ k = 0) : hs ++ [(lev l k).getD i 0] = hs ++ visH l w k i := by
  cases k with
  | zero => rfl
  | succ k =>
    rcases h with h | h
    · rw [visH, h]; rfl
    · cases h
theorem visF_2 (hk : 0 < k) (hb : blw w k i = true) (h2 : 2 * i + 1 < wdt l.length (k - 1)) : f ++ [blw w k i] ++ visF l w (k - 1) (2 * i) ++ visF l w (k - 1) (2 * i + 1) = f ++ visF l w k i := by
  obtain ⟨m, rfl⟩ : ∃ m, k = m + 1 := ⟨k - 1, by omega⟩
  rw [Nat.add_sub_cancel] at h2 ⊢
  rw [visF, hb, if_pos rfl, if_pos h2]; simp
theorem visF_1 (hk : 0 < k) (hb : blw w k i = true) (h2 : ¬ 2 * i + 1 < wdt l.length (k - 1)) : f ++ [blw w k i] ++ visF l w (k - 1) (2 * i) = f ++ visF l w k i := by
  obtain ⟨m, rfl⟩ : ∃ m, k = m + 1 := ⟨k - 1, by omega⟩
  rw [Nat.add_sub_cancel] at h2 ⊢
  rw [visF, hb, if_pos rfl, if_neg h2]; simp
theorem visH_2 (hk : 0 < k) (hb : blw w k i = true) (h2 : 2 * i + 1 < wdt l.length (k - 1)) : hs ++ visH l w (k - 1) (2 * i) ++ visH l w (k - 1) (2 * i + 1) = hs ++ visH l w k i := by
  obtain ⟨m, rfl⟩ : ∃ m, k = m + 1 := ⟨k - 1, by omega⟩
  rw [Nat.add_sub_cancel] at h2 ⊢
  rw [visH, hb, if_pos rfl, if_pos h2]; simp
theorem visH_1 (hk : 0 < k) (hb : blw w k i = true) (h2 : ¬ 2 * i + 1 < wdt l.length (k - 1)) : hs ++ visH l w (k - 1) (2 * i) = hs ++ visH l w k i := by
  obtain ⟨m, rfl⟩ : ∃ m, k = m + 1 := ⟨k - 1, by omega⟩
  rw [Nat.add_sub_cancel] at h2 ⊢
  rw [visH, hb, if_pos rfl, if_neg h2]; simp
theorem nb_f {b : Bool} (h : (!b) = true) : b = false := by cases b; rfl; cases h
theorem nb_t {b : Bool} (h : (!b) = false) : b = true := by cases b; cases h; rfl
end
def ixB (b : List Bool) : Int := if b.any id then ((b.takeWhile (! ·)).length : Int) else -1
theorem anyb_at {b : List Bool} {i : Nat} (h : b.getD i false = true) : b.any id = true := by
  rw [List.any_eq_true]
  rw [List.getD_eq_getElem?_getD] at h
  cases he : b[i]? with
  | none => rw [he] at h; cases h
  | some x => rw [he] at h; exact ⟨x, List.mem_of_getElem? he, h⟩
theorem any_no {b : List Bool} (h : ∀ j, j < b.length → b.getD j false = false) : b.any id = false := by
  rw [List.any_eq_false]
  intro x hx
  obtain ⟨j, hj⟩ := List.getElem?_of_mem hx
  have h1 := h j (List.getElem?_eq_some_iff.1 hj).1
  rw [List.getD_eq_getElem?_getD, hj] at h1
  simp only [Option.getD_some] at h1
  simp [h1]
theorem tw_len : ∀ {b : List Bool} {i : Nat}, (∀ j, j < i → b.getD j false = false) → b.getD i false = true → (b.takeWhile (! ·)).length = i
  | [], i, _, h => by simp at h
  | x :: b, 0, _, h => by simp at h; simp [h]
  | x :: b, i + 1, h, h2 => by
    have hx := h 0 (by omega)
    simp at hx
    rw [List.takeWhile_cons]
    simp only [hx, Bool.not_false, if_true, List.length_cons]
    rw [tw_len (i := i) (fun j hj => by have := h (j + 1) (by omega); simpa using this) (by simpa using h2)]
theorem ixB_at {b : List Bool} {i : Nat} (h : ∀ j, j < i → b.getD j false = false) (h2 : b.getD i false = true) : ln i = li (ixB b) := by
  rw [ixB, if_pos (anyb_at h2), tw_len h h2]; rfl
theorem ixB_no {b : List Bool} {i : Nat} (h : ∀ j, j < i → b.getD j false = false) (hi : b.length ≤ i) : li (-1) = li (ixB b) := by
  rw [ixB, if_neg (by rw [any_no fun j hj => h j (by omega)]; decide)]
theorem ixB_ge {b : List Bool} : lB (decide (ixB b ≥ 0)) = lB (b.any id) := by
  congr 1
  unfold ixB
  cases b.any id
  · rfl
  · simp
theorem fa_s {b : List Bool} {i : Nat} (h : ∀ j, j < i → b.getD j false = false) (h2 : b.getD i false = false) : ∀ j, j < i + 1 → b.getD j false = false := by
  intro j hj
  rcases Nat.lt_succ_iff_lt_or_eq.1 hj with h3 | h3
  · exact h j h3
  · rw [h3]; exact h2
theorem blw_t {w : List Bool} {k i j : Nat} (h1 : i * 2 ^ k ≤ j) (h2 : j < (i + 1) * 2 ^ k) (h : w.getD j false = true) : lB true = lB (blw w k i) := by
  congr 1
  symm
  refine anyb_at (i := j - i * 2 ^ k) ?_
  rw [Nat.succ_mul] at h2
  rw [List.getD_eq_getElem?_getD, List.getElem?_take, if_pos (by omega), List.getElem?_drop, Nat.add_sub_cancel' h1, ← List.getD_eq_getElem?_getD]
  exact h
theorem blw_f {w : List Bool} {k i j : Nat} (h : ∀ m, i * 2 ^ k ≤ m → m < j → w.getD m false = false) (hj : (i + 1) * 2 ^ k ≤ j ∨ w.length ≤ j) : lB false = lB (blw w k i) := by
  congr 1
  symm
  refine any_no fun m hm => ?_
  rw [List.length_take, List.length_drop] at hm
  rw [Nat.succ_mul] at hj
  rw [List.getD_eq_getElem?_getD, List.getElem?_take, if_pos (by omega), List.getElem?_drop, ← List.getD_eq_getElem?_getD]
  refine h _ (by omega) ?_
  generalize i * 2 ^ k = q at *
  generalize 2 ^ k = p at *
  omega
theorem wdt_1 {n k : Nat} (h : 1 ≤ n) : 0 < wdt n k := wdt_pos h
theorem hf_0 {n : Nat} (h : 1 ≤ n) (h2 : n ≤ 1024) : ([] : List Bool).length + 2 ^ (ht n + 1) ≤ 1048576 := by
  have h3 : 2 ^ (ht n + 1) ≤ 2 ^ 11 := Nat.pow_le_pow_right (by decide) (by have := ht_10 h h2; omega)
  simp only [List.length_nil]; omega
theorem hh_0 {n : Nat} (h : 1 ≤ n) (h2 : n ≤ 1024) : ([] : List Nat).length + 2 ^ ht n ≤ 1048576 := by
  have h3 : 2 ^ (ht n) ≤ 2 ^ 10 := Nat.pow_le_pow_right (by decide) (ht_10 h h2)
  simp only [List.length_nil]; omega
def okW2 (l : List Nat) (w : List Bool) : Prop := l.length ≤ 1024 ∧ 1 ≤ l.length ∧ w.length = l.length
instance (l : List Nat) (w : List Bool) : Decidable (okW2 l w) := inferInstanceAs (Decidable (_ ∧ _))
def paE (l : List Nat) (w : List Bool) : Nat := if 1024 < l.length then 4 else if l.length = 0 then 93 else if w.length ≠ l.length then 8 else 0
def paC (l : List Nat) (w : List Bool) : Nat := if okW2 l w then l.length else 0
def paF (l : List Nat) (w : List Bool) : List Bool := if okW2 l w then visF l w (ht l.length) 0 else []
def paH (l : List Nat) (w : List Bool) : List Nat := if okW2 l w then visH l w (ht l.length) 0 else []
section
variable {l : List Nat} {w : List Bool} {m m2 : Nat}
theorem paF_1 (h : okW2 l w) : [] ++ visF l w (ht l.length) 0 = paF l w := by rw [paF, if_pos h]; rfl
theorem paH_1 (h : okW2 l w) : [] ++ visH l w (ht l.length) 0 = paH l w := by rw [paH, if_pos h]; rfl
theorem paF_0 (h : ¬ okW2 l w) : [] = paF l w := by rw [paF, if_neg h]
theorem paH_0 (h : ¬ okW2 l w) : [] = paH l w := by rw [paH, if_neg h]
theorem part_v (h : okW2 l w) : PV.tup [.agg [ln l.length, .own m 0 (([] : List Bool) ++ visF l w (ht l.length) 0).length 1, .own m2 0 (([] : List Nat) ++ visH l w (ht l.length) 0).length 32], ln 0] = .tup [.agg [ln (paC l w), .own m 0 (paF l w).length 1, .own m2 0 (paH l w).length 32], ln (paE l w)] := by
  rw [paF_1 h, paH_1 h, paC, if_pos h]
  obtain ⟨h1, h2, h3⟩ := h
  rw [paE, if_neg (by omega), if_neg (by omega), if_neg (by omega)]
theorem part_z {e : Nat} (h : ¬ okW2 l w) (he : e = paE l w) : PV.tup [.agg [ln 0, .own m 0 0 1, .own m2 0 0 32], ln e] = .tup [.agg [ln (paC l w), .own m 0 (paF l w).length 1, .own m2 0 (paH l w).length 32], ln (paE l w)] := by
  rw [paC, paF, paH, if_neg h, if_neg h, if_neg h, he]; rfl
theorem paE_4 (h : 1024 < l.length) : 4 = paE l w := by rw [paE, if_pos h]
theorem paE_93 (h : l.length ≤ 1024) (h2 : l.length = 0) : 93 = paE l w := by rw [paE, if_neg (by omega), if_pos h2]
theorem paE_8 (h : l.length ≤ 1024) (h2 : l.length ≠ 0) (h3 : w.length ≠ l.length) : 8 = paE l w := by rw [paE, if_neg (by omega), if_neg h2, if_pos h3]
theorem paF_len : (paF l w).length ≤ 1048576 := by
  rw [paF]; split
  · rename_i h
    have h1 := visF_len l w (ht l.length) 0
    have h2 := hf_0 h.2.1 h.1
    simp only [List.length_nil] at h2
    omega
  · simp
theorem paH_len : (paH l w).length ≤ 1048576 := by
  rw [paH]; split
  · rename_i h
    have h1 := visH_len l w (ht l.length) 0
    have h2 := hh_0 h.2.1 h.1
    simp only [List.length_nil] at h2
    omega
  · simp
end
theorem ht_3 : ht 3 = 2 := by decide +kernel
theorem sane_1 (a : Nat) : rootV [a] = a := by rw [root_rt (by simp), rt, show ht [a].length = 0 from ht_1]; rfl
theorem sane_3 (a b c : Nat) : rootV [a, b, c] = nd (nd a b) c := by
  rw [root_rt (by simp), rt, show ht [a, b, c].length = 2 from ht_3]
  simp only [lev, up, List.getD_cons_zero]
theorem sane_n : nd (2 ^ 248) (2 ^ 249) ≠ nd (2 ^ 249) (2 ^ 248) := by decide +kernel
end Go.Ab
namespace Go.Ab
open Go Go.RowKit
set_option linter.unusedVariables false
set_option linter.unusedSimpArgs false
set_option linter.unusedVariables false
def Rd (P : Program) (t : TypeId) {α : Type} (f : α → List PV) (ok : α → Prop) : Prop :=
  ∀ {H : Type} {enc : TypeId × Value → H} {W : World} {base : Nat} {sp : Nat → Bool} {held : Bool} {fuel : Nat} {cs : List Value} {x : DataW H × List MemPlace},
    DataW.trod enc P W base sp held fuel t cs = some x → ∃ a, ok a ∧ (∀ v ∈ cs, v.oneCell' = true) ∧ RepL no [] W (f a) cs
section
variable {P : Program} {t e : TypeId} {α β : Type} {f : α → List PV} {ok : α → Prop} {g : β → List PV} {ok' : β → Prop} {k n : Nat}
theorem rd_map (h : Rd P t f ok) (hm : ∀ a, ok a → ∃ b, ok' b ∧ g b = f a) : Rd P t g ok' := fun hd => by
  obtain ⟨a, h1, h2, h3⟩ := h hd
  obtain ⟨b, h4, h5⟩ := hm a h1
  exact ⟨b, h4, h2, by rw [h5]; exact h3⟩
theorem rd_int {q : IntKind} (ht : P.underlying t = some (.int q)) : Rd P t (fun z : Int => [.lit (.int q z)]) (fun z => (Lit.int q z).wf = true) := fun hd => by
  obtain ⟨z, rfl, _, wz⟩ := DataW.trod_int ht hd
  exact ⟨z, wz, by simp [Value.oneCell'], by simp [RepL, RepV]⟩
theorem rd_bool (ht : P.underlying t = some .bool) : Rd P t (fun b : Bool => [.lit (.bool b)]) (fun _ => True) := fun hd => by
  obtain ⟨z, rfl, _⟩ := DataW.trod_bool ht hd
  exact ⟨z, trivial, by simp [Value.oneCell'], by simp [RepL, RepV]⟩
theorem rd_u8 (ht : P.underlying t = some (.int .u8)) : Rd P t b1 (fun _ => True) :=
  rd_map (rd_int ht) fun z wz => by
    have hw := wf_u8 wz
    refine ⟨UInt8.ofNat z.toNat, trivial, ?_⟩
    simp only [b1, bv]
    congr 3
    rw [UInt8.toNat_ofNat']
    omega
theorem list_choice {Q : Nat → α → Prop} : ∀ {n : Nat}, (∀ i, i < n → ∃ a, Q i a) → ∃ l : List α, l.length = n ∧ ∀ i a, l[i]? = some a → Q i a
  | 0, _ => ⟨[], rfl, fun i a h => by simp at h⟩
  | n + 1, h => by
    obtain ⟨l, hl, hq⟩ := list_choice (n := n) fun i hi => h i (by omega)
    obtain ⟨a, ha⟩ := h n (by omega)
    refine ⟨l ++ [a], by simp [hl], fun i b hb => ?_⟩
    rw [List.getElem?_append] at hb
    split at hb
    · exact hq i b hb
    · have : i = n := by
        have := (List.getElem?_eq_some_iff.1 hb).1
        simp at this; omega
      subst this
      rw [hl, Nat.sub_self] at hb
      cases hb
      exact ha
theorem repRow_app {X : Nat → Prop} {β : List Base} {w : World} {b : Nat} : ∀ {ps qs : List PV} {off : Nat}, RepRow X β w b off ps → RepRow X β w b (off + ps.length) qs → RepRow X β w b off (ps ++ qs)
  | [], qs, off, _, h => by simpa using h
  | p :: ps, qs, off, h, h2 => by
    simp only [List.cons_append, RepRow] at h ⊢
    exact ⟨h.1, repRow_app h.2 (by rw [List.length_cons] at h2; rw [show off + 1 + ps.length = off + (ps.length + 1) by omega]; exact h2)⟩
theorem cells_at {W : World} {base b off : Nat} {k : Nat} {cs : List Value} (h : W.cells? base ⟨b, off, none⟩ k = some cs) : cs.length = k ∧ ∀ i v, cs[i]? = some v → W.cell? ⟨b, off + i, none⟩ = some v := by
  unfold World.cells? at h
  split at h
  · have hl := mapM_some_length h
    rw [List.length_range] at hl
    refine ⟨hl, fun i v hv => ?_⟩
    have hi : i < k := by have := (List.getElem?_eq_some_iff.1 hv).1; omega
    have := mapM_some_get h i i (by simp [hi])
    rw [hv] at this
    have ha : (Addr.mk b off none).add i = ⟨b, off + i, none⟩ := by
      unfold Addr.add
      split
      · rename_i h; subst h; rfl
      · rfl
    rw [ha] at this
    exact this
  · cases h
theorem rep_rows {X : Nat → Prop} {β : List Base} {w : World} {b : Nat} [h : Kd f k] : ∀ {l : List α} {off : Nat},
    (∀ i a, l[i]? = some a → ∃ cs : List Value, (∀ v ∈ cs, v.oneCell' = true) ∧ (∀ r v, cs[r]? = some v → w.cell? ⟨b, off + i * k + r, none⟩ = some v) ∧ RepL X β w (f a) cs) → RepRow X β w b off (rk f l)
  | [], off, _ => by simp [rk, RepRow]
  | a :: l, off, hq => by
    have e : rk f (a :: l) = f a ++ rk f l := rfl
    rw [e]
    obtain ⟨cs, h1, h2, h3⟩ := hq 0 a rfl
    refine repRow_app ?_ ?_
    · rw [RepRow.iff]
      intro i p hp
      have hl := RepL.length h3
      have hi : i < cs.length := by rw [hl]; exact (List.getElem?_eq_some_iff.1 hp).1
      have hv : cs[i]? = some cs[i] := by simp [hi]
      refine ⟨cs[i], ?_, h1 _ (List.getElem_mem hi), (RepL.iff.1 h3).2 i p _ hp hv⟩
      have := h2 i _ hv
      rwa [Nat.zero_mul, Nat.add_zero] at this
    · rw [h.len a]
      refine rep_rows fun i a' ha' => ?_
      obtain ⟨cs', g1, g2, g3⟩ := hq (i + 1) a' (by simpa using ha')
      refine ⟨cs', g1, fun r v hv => ?_, g3⟩
      have := g2 r v hv
      rw [Nat.succ_mul] at this
      rw [show off + k + i * k + r = off + (i * k + k) + r by omega]; exact this
theorem rd_slice [hK : Kd f k] (ht : P.underlying t = some (.slice e)) (hk : P.cellsOf e = k) (k0 : 0 < k) (h : Rd P e f ok) : Rd P t (fun l : List α => [roK f l]) (fun l => l.length ≤ maxLen ∧ ∀ a ∈ l, ok a) := by
  intro H enc W base sp held fuel cs x hd
  rcases DataW.trod_slice ht hd with ⟨rfl, _⟩ | ⟨a, len, cap, elems, rest, m, _, rfl, _, hb, hlc, hcm, hel, hi, _, _⟩
  · refine ⟨[], ⟨by simp, by simp⟩, by simp [Value.oneCell'], ?_⟩
    simp [RepL, RepV, roK, rk]
  · have hall : ∀ i, i < len → ∃ b, ok b ∧ ∃ cs : List Value, W.cells? base (a.add (i * k)) k = some cs ∧ (∀ v ∈ cs, v.oneCell' = true) ∧ RepL no [] W (f b) cs := by
      intro i hi2
      have h1 := hi i hi2
      have h2 : elems[i]? = some elems[i] := by simp [hel, hi2]
      rw [h2, Option.bind_eq_some_iff] at h1
      obtain ⟨cs, h3, h4⟩ := h1
      obtain ⟨b, h5, h6, h7⟩ := h h4
      rw [hk] at h3
      exact ⟨b, h5, cs, h3, h6, h7⟩
    obtain ⟨l, hl, hq⟩ := list_choice hall
    refine ⟨l, ⟨by omega, fun b hb => by obtain ⟨i, hi⟩ := List.getElem?_of_mem hb; exact (hq i b hi).1⟩, by simp [Value.oneCell'], ?_⟩
    simp only [RepL, RepV, roK]
    refine ⟨_, _, rfl, ⟨some a, cap, by rw [hl], by omega, ?_⟩, rfl⟩
    by_cases h0 : len = 0
    · left
      have : l = [] := List.length_eq_zero_iff.1 (by omega)
      subst this; rfl
    · right
      obtain ⟨b, off, sp2⟩ := a
      have hsp : sp2 = none := by
        have hl0 : l[0]? = some (l[0]'(by omega)) := List.getElem?_eq_getElem (by omega)
        obtain ⟨_, cs, h1, _, h3⟩ := hq 0 _ hl0
        rw [Nat.zero_mul] at h1
        have ha : (Addr.mk b off sp2).add 0 = ⟨b, off, sp2⟩ := by unfold Addr.add; rw [if_pos rfl]
        rw [ha] at h1
        unfold World.cells? at h1
        by_cases hbb : base ≤ b
        · rw [if_pos hbb] at h1
          have hlen := mapM_some_length h1
          rw [List.length_range] at hlen
          have := mapM_some_get h1 0 0 (by simp [k0])
          have hc0 : cs[0]? = some cs[0] := by simp [hlen, k0]
          rw [ha, hc0] at this
          cases sp2 with
          | none => rfl
          | some s =>
            simp only [World.cell?] at this
            split at this <;> simp at this
        · rw [if_neg hbb] at h1; cases h1
      subst hsp
      refine ⟨b, off, rfl, id, fun ⟨i, y, hb⟩ => by simp at hb, rep_rows fun i a' ha' => ?_⟩
      obtain ⟨_, cs, h1, h2, h3⟩ := hq i a' ha'
      have ha : (Addr.mk b off none).add (i * k) = ⟨b, off + i * k, none⟩ := by
        unfold Addr.add
        split
        · rename_i h; rw [h]; rfl
        · rfl
      rw [ha] at h1
      exact ⟨cs, h2, (cells_at h1).2, h3⟩
theorem repL_app {X : Nat → Prop} {β : List Base} {w : World} : ∀ {ps qs : List PV} {n : Nat} {cs : List Value}, ps.length = n → RepL X β w ps (cs.take n) → RepL X β w qs (cs.drop n) → RepL X β w (ps ++ qs) cs := by
  intro ps qs n cs hn h1 h2
  have := repL_append h1 h2
  rwa [List.take_append_drop] at this
theorem repL_flat {X : Nat → Prop} {β : List Base} {w : World} [h : Kd f k] : ∀ {l : List α} {cs : List Value}, cs.length = l.length * k → (∀ i a, l[i]? = some a → RepL X β w (f a) ((cs.drop (i * k)).take k)) → RepL X β w (rk f l) cs
  | [], cs, hc, _ => by
    have : cs = [] := List.length_eq_zero_iff.1 (by simpa using hc)
    subst this; simp [rk, RepL]
  | a :: l, cs, hc, hq => by
    have e : rk f (a :: l) = f a ++ rk f l := rfl
    rw [e]
    rw [List.length_cons, Nat.succ_mul] at hc
    refine repL_app (h.len a) (by simpa using hq 0 a rfl) (repL_flat (by rw [List.length_drop]; omega) fun i a' ha' => ?_)
    have := hq (i + 1) a' (by simpa using ha')
    rw [List.drop_drop, show k + i * k = (i + 1) * k by rw [Nat.succ_mul, Nat.add_comm]]
    exact this
theorem ones_of {cs : List Value} {n k : Nat} (hc : cs.length = n * k) (h : ∀ i, i < n → ∀ v ∈ (cs.drop (i * k)).take k, v.oneCell' = true) : ∀ v ∈ cs, v.oneCell' = true := by
  intro v hv
  obtain ⟨j, hj, rfl⟩ := List.getElem_of_mem hv
  have k0 : 0 < k := by
    rcases Nat.eq_zero_or_pos k with rfl | h
    · omega
    · exact h
  have hjn : j / k < n := (Nat.div_lt_iff_lt_mul k0).2 (by omega)
  refine h (j / k) hjn _ ?_
  have e : j / k * k + j % k = j := Nat.div_add_mod' j k
  have : ((cs.drop (j / k * k)).take k)[j % k]? = some cs[j] := by
    rw [List.getElem?_take, if_pos (Nat.mod_lt _ k0), List.getElem?_drop, e]
    simp [hj]
  exact List.mem_of_getElem? this
theorem rd_arr [hK : Kd f k] (ht : P.underlying t = some (.array n e)) (hk : P.cellsOf e = k) (hct : P.cellsOf t = n * k) (h : Rd P e f ok) : Rd P t (fun l : List α => rk f l) (fun l => l.length = n ∧ ∀ a ∈ l, ok a) := by
  intro H enc W base sp held fuel cs x hd
  obtain ⟨xs, m, _, _, hlen, hxs, hi⟩ := DataW.trod_array ht hd
  rw [hct] at hlen
  have hall : ∀ i, i < n → ∃ b, ok b ∧ (∀ v ∈ (cs.drop (i * k)).take k, v.oneCell' = true) ∧ RepL no [] W (f b) ((cs.drop (i * k)).take k) := by
    intro i hin
    have h1 := hi i hin
    have hx : xs[i]? = some xs[i] := by simp [hxs, hin]
    rw [hx, hk] at h1
    exact h h1
  obtain ⟨l, hl, hq⟩ := list_choice hall
  refine ⟨l, ⟨hl, fun b hb => by obtain ⟨i, hi⟩ := List.getElem?_of_mem hb; exact (hq i b hi).1⟩, ones_of hlen fun i hi => ?_, repL_flat (by rw [hlen, hl]) fun i a ha => (hq i a ha).2.2⟩
  exact (hq i _ (by simp [hl, hi] : l[i]? = some l[i])).2.1
theorem rd_one {w : World} {g : α → PV} (h : Rd P t (fun a => [g a]) ok) {H : Type} {enc : TypeId × Value → H} {sp : Nat → Bool} {held : Bool} {base : Nat} {v : Value} {d : DataW H} {ps : List MemPlace} (hv : v.cells.toList = [v])
    (hd : DataW.Trod enc P w base sp held t v d ps) : ∃ a, ok a ∧ RepV no [] w (g a) v := by
  obtain ⟨fuel, hf⟩ := hd
  rw [hv] at hf
  obtain ⟨a, h1, _, h3⟩ := h hf
  simp only [RepL] at h3
  obtain ⟨u, r, hu, h4, _⟩ := h3
  cases hu
  exact ⟨a, h1, h4⟩
end
end Go.Ab
namespace Go.Ab
open Go Go.RowKit
set_option linter.unusedVariables false
set_option linter.unusedSimpArgs false
set_option linter.unusedVariables false
variable {P : Program} {t e : TypeId}
def w1 (n : Nat) : List PV := [ul n]
instance : Kd w1 1 := ⟨fun _ => rfl, fun _ => rfl⟩
theorem rd_h32 (ht : P.underlying t = some (.array 32 e)) (he : P.underlying e = some (.int .u8)) (hc : P.cellsOf e = 1) (hct : P.cellsOf t = 32) : Rd P t hl (fun n => n < 2 ^ 256) :=
  rd_map (rd_arr (n := 32) ht hc hct (rd_u8 he)) fun l h => ⟨nb l, nb_lt h.1, by rw [← bl_hl h.1, bl_eq h.1, rk_b1]⟩
end Go.Ab
namespace Go.Ab
open Go Go.RowKit
set_option linter.unusedVariables false
set_option linter.unusedSimpArgs false
variable {P : Program} {t e : TypeId}
section
variable {α β γ : Type} {fa : α → List PV} {fb : β → List PV} {fc : γ → List PV} {oka : α → Prop} {okb : β → Prop} {okc : γ → Prop}
end
end Go.Ab
