import Derived.Test.YtaoabfnjibhgdaaDoorM11
import Derived.Test.YtaoabfnjibhgdaaDoorM9
namespace Go.Ab
open Go Go.RowKit
set_option linter.unusedVariables false
set_option linter.unusedSimpArgs false
set_option linter.unusedVariables false
theorem flat_newK {α : Type} {f : α → List PV} {k : Nat} {b : List α} (h : ∀ a, flatL (f a) = true) : flat (newK k f b) = true := by
  show flatL (rk f b) = true
  induction b with
  | nil => rfl
  | cons a b ih =>
    show flatL (f a ++ rk f b) = true
    rw [flatL_iff] at *
    intro p hp
    rcases List.mem_append.1 hp with hp | hp
    · exact flatL_iff.1 (h a) p hp
    · exact ih p hp
theorem flat_newB {b : List UInt8} : flat (newK 1 b1 b) = true := flat_newK fun _ => rfl
def nb (l : List UInt8) : Nat := l.foldl (fun a x => a * 256 + x.toNat) 0
theorem nb_snoc (l : List UInt8) (x : UInt8) : nb (l ++ [x]) = nb l * 256 + x.toNat := by simp [nb]
theorem nb_all : ∀ (n : Nat) (l : List UInt8), l.length = n → nb l < 2 ^ (8 * n) ∧ byK n (nb l) = l
  | 0, l, h => by
    have : l = [] := List.length_eq_zero_iff.1 h
    subst this
    exact ⟨by decide, rfl⟩
  | n + 1, l, h => by
    have hne : l ≠ [] := by intro e; subst e; simp at h
    have e0 : l.dropLast ++ [l.getLast hne] = l := List.dropLast_concat_getLast hne
    generalize l.getLast hne = b at e0
    generalize l.dropLast = ds at e0
    subst e0
    have hl : ds.length = n := by simpa using h
    obtain ⟨hv, e⟩ := nb_all n ds hl
    have hb : b.toNat < 256 := b.toNat_lt
    rw [nb_snoc]
    refine ⟨?_, ?_⟩
    · rw [Nat.mul_add, Nat.mul_one, Nat.pow_add, show (2 : Nat) ^ 8 = 256 by decide]
      omega
    · have hx := byK_snoc ds.length (nb ds) b
      rw [hl] at hx
      rw [hx, e]
theorem nb_32 {l : List UInt8} (h : l.length = 32) : by32 (nb l) = l := (nb_all 32 l h).2
theorem nb_lt {l : List UInt8} (h : l.length = 32) : nb l < 115792089237316195423570985008687907853269984665640564039457584007913129639936 := by
  have := (nb_all 32 l h).1
  rwa [show (2 : Nat) ^ (8 * 32) = 115792089237316195423570985008687907853269984665640564039457584007913129639936 by decide] at this
theorem bl_hl {l : List UInt8} (h : l.length = 32) : bl 32 l = hl (nb l) := by rw [bl_eq h, hl, nb_32 h]
theorem bl_rk {n : Nat} {l : List UInt8} (h : n ≤ l.length) : (rk b1 l).take n = bl n (l.take n) := by
  rw [rk_b1, bl_eq (by simp; omega), List.map_take]
def sN (b : List UInt8) : Nat := nb (sum b)
def tN (t b : List UInt8) : Nat := nb (tagged t b)
theorem by_sN (b : List UInt8) : by32 (sN b) = sum b := nb_32 (len_sum b)
theorem tN_lt (t b : List UInt8) : tN t b < 115792089237316195423570985008687907853269984665640564039457584007913129639936 := nb_lt (len_tagged t b)
theorem tN_eq (t b : List UInt8) : sN (by32 (sN t) ++ (by32 (sN t) ++ b)) = tN t b := by rw [by_sN, sN, tagged_r, tN]
theorem tN_eq2 (t b : List UInt8) : sN (by32 (sN t) ++ by32 (sN t) ++ b) = tN t b := by rw [List.append_assoc, tN_eq]
theorem dig_end (s : S8) : bl 32 (fill 32 0 (dbyte s) 32) = hl (nb (dig s)) := by rw [dig_def, bl_hl (len_dig s)]
theorem wl_eq {n : Nat} {a b : List W} (h : a = b) : wl n a = wl n b := by rw [h]
theorem bl_congr {n : Nat} {a b : List UInt8} (h : a = b) : bl n a = bl n b := by rw [h]
theorem rk_congr {α : Type} {f : α → List PV} {a b : List α} (h : a = b) : rk f a = rk f b := by rw [h]
theorem bl_len (n : Nat) (l : List UInt8) : (bl n l).length = n := by simp [bl]
theorem rk_set1 {α : Type} {g : α → PV} {b : List α} {i : Nat} {a : α} : (rk (fun a => [g a]) b).set i (g a) = rk (fun a => [g a]) (b.set i a) := by rw [rk_len1, rk_len1, List.map_set]
theorem rk_setb {b : List UInt8} {i : Nat} {a : UInt8} : (rk b1 b).set i (bv a) = rk b1 (b.set i a) := rk_set1 (g := bv)
theorem len_rkb (b : List UInt8) : (rk b1 b).length = b.length := by rw [len_rk, Nat.mul_one]
theorem rk_h32 {b : List UInt8} (h : 32 ≤ b.length) : (rk b1 b).take (32 * 1) = hl (nb (b.take 32)) := by
  rw [rk_take, rk_b1, hl, nb_32 (by simp; omega)]
theorem hl_dt (n : Nat) : ((hl n).drop 0).take (32 * 1) = rk b1 (by32 n) := by
  rw [rk_hl, List.drop_zero, List.take_of_length_le (by simp [hl, len_by32])]
theorem row_hl (n : Nat) : ((hl n).drop 0).take (32 * 1) = rk b1 (by32 n) := hl_dt n
theorem aoP_hl (n : Nat) : aoP 0 32 (hl n).length (((hl n).drop 0).take (32 * 1)).length 1 := by
  refine ⟨by simp [hl, len_by32], ?_⟩
  rw [hl_dt, len_rkb, len_by32]
theorem app_hl {b : List UInt8} {n m : Nat} (hn : n = b.length) : ((rk b1 b).drop 0).take (n * 1) ++ ((hl m).drop 0).take (32 * 1) = rk b1 (b ++ by32 m) := by rw [row_all hn, hl_dt, rk_app]
theorem app_one {b : List UInt8} {n : Nat} {x : UInt8} (hn : n = b.length) : ((rk b1 b).drop 0).take (n * 1) ++ (([bv x] : List PV).drop 0).take (1 * 1) = rk b1 (b ++ [x]) := by rw [row_all hn, ← rk_app]; rfl
def z8 : S8 := ⟨0, 0, 0, 0, 0, 0, 0, 0⟩
def bsP (len sz : Nat) (z : Value) (parts : List (Nat × PV)) (cs : List PV) : Prop := len * sz ≤ 16777216 ∧ 0 < len * sz ∧ z.cells.size = sz ∧ (∀ v ∈ z.cells.toList, v.oneCell' = true) ∧ parts.all (fun x => x.2.cells.all PV.one) = true ∧ cs.all PV.one = true
theorem bsP_ok {len sz : Nat} {z : Value} {parts : List (Nat × PV)} {cs : List PV} (h : (Nat.ble (len * sz) 16777216 && Nat.blt 0 (len * sz) && Nat.beq z.cells.size sz && z.cells.toList.all Value.oneCell' && parts.all (fun x => x.2.cells.all PV.one) && cs.all PV.one) = true) : bsP len sz z parts cs := by
  simp only [Bool.and_eq_true] at h
  exact ⟨Nat.le_of_ble_eq_true h.1.1.1.1.1, Nat.le_of_ble_eq_true h.1.1.1.1.2, Nat.eq_of_beq_eq_true h.1.1.1.2, List.all_eq_true.1 h.1.1.2, h.1.2, h.2⟩
def zOf (P : Program) (t : TypeId) : Value := match tyOf P t with
  | some T => T.zero
  | none => undef
theorem wl_ix {n i : Nat} (h : i < n) (l : List W) (d : PV) : PV.rptr [(wl n l).getD (i : Int).toNat d] = .rptr [uw (l.getD i 0)] := by rw [Int.toNat_natCast, wl_get h]
theorem lnz : (∀ a b : List UInt8, (a ++ b).length = a.length + b.length) ∧ (∀ (a : List UInt8) n, (a.take n).length = min n a.length) ∧ (∀ (a : List UInt8) n, (a.drop n).length = a.length - n) ∧
    (∀ n (x : UInt8), (List.replicate n x).length = n) ∧ (∀ (a : List UInt8) i x, (a.set i x).length = a.length) ∧ (∀ (a : List UInt8) x, (x :: a).length = a.length + 1) ∧ ([] : List UInt8).length = 0 ∧
    (∀ n, (by32 n).length = 32) ∧ (∀ s, (sb s).length = s.size) ∧ (∀ n, (pad n).length = 9 + padz n) ∧ (∀ n i, (padI n i).length = 1 + padz n + min i 8) ∧ (∀ s, (dig s).length = 32) ∧ (∀ b, (sum b).length = 32) ∧
    (∀ b : List UInt8, (rk b1 b).length = b.length) ∧ (∀ b i, (byB b i).length = 64) ∧ (∀ l t, (ext l t).length = l.length) ∧ (∀ n (z : W) f i, (fill n z f i).length = n) ∧ (∀ n (z : UInt8) f i, (fill n z f i).length = n) ∧ (∀ s : S8, s.l.length = 8) ∧ (∀ s r i, (addI s r i).length = 8) ∧ (∀ n (x : W), (List.replicate n x).length = n) :=
  ⟨fun _ _ => List.length_append, fun _ _ => List.length_take, fun _ _ => List.length_drop, fun _ _ => List.length_replicate, fun _ _ _ => List.length_set, fun _ _ => List.length_cons, rfl,
   len_by32, len_sb, len_pad, len_padI, len_dig, len_sum, len_rkb, len_byB, len_ext, len_fill, len_fill, len_l, len_addI, fun _ _ => List.length_replicate⟩
theorem lss_n0 (a : Nat) : bn .lss (ln a) (ln 0) = lB false := by
  show PV.lit (.bool (decide ((a : Int) < ((0 : Nat) : Int)))) = _
  rw [decide_eq_false (by omega)]; rfl
def mkN (m : Int) (bt sz : Nat) (z : Value) : Prop := 0 ≤ m ∧ m ≤ 9223372036854775807 ∧ m * (bt : Int) ≤ 281474976710656 ∧ z.cells.size = sz ∧ (∀ v ∈ z.cells.toList, v.oneCell' = true)
theorem mkN_ok {m bt sz : Nat} {z : Value} (h2 : m ≤ 9223372036854775807) (h1 : m * bt ≤ 281474976710656) (h4 : (Nat.beq z.cells.size sz && z.cells.toList.all Value.oneCell') = true) : mkN m bt sz z := by
  simp only [Bool.and_eq_true] at h4
  refine ⟨by omega, by omega, ?_, Nat.eq_of_beq_eq_true h4.1, List.all_eq_true.1 h4.2⟩
  rw [← Int.natCast_mul]; omega
theorem own_sl {l h n sz : Nat} (h1 : l ≤ h) (h2 : h ≤ n) (h3 : l = 0 ∨ l < h) : 0 ≤ ((l : Nat) : Int) ∧ ((l : Nat) : Int) ≤ ((h : Nat) : Int) ∧ ((h : Nat) : Int) ≤ ((n : Nat) : Int) ∧ sz = sz ∧ (((l : Nat) : Int) = 0 ∨ ((l : Nat) : Int) < ((h : Nat) : Int)) :=
  ⟨by omega, by omega, by omega, rfl, by omega⟩
theorem cp_ok {b c : List UInt8} {o n k : Nat} (h1 : n = b.length - o) (h2 : o + k ≤ b.length) : o + n * 1 ≤ (rk b1 b).length ∧ 1 = 1 ∧ (((rk b1 b).drop o).take (n * 1)).length = n * 1 ∧ 0 + k * 1 ≤ (bl k c).length := by
  refine ⟨by rw [len_rkb]; omega, rfl, ?_, by rw [bl_len]; omega⟩
  rw [List.length_take, List.length_drop, len_rkb]; omega
theorem cp_row {b c : List UInt8} {o n k : Nat} (h1 : n = b.length - o) (h2 : o + k ≤ b.length) : (bl k c).take 0 ++ (((rk b1 b).drop o).take (n * 1)).take (min n k * 1) ++ (bl k c).drop (0 + min n k * 1) = bl k (b.drop o) := by
  have hm : min n k = k := by omega
  have e2 : (bl k c).drop (0 + k * 1) = [] := List.drop_eq_nil_of_le (by rw [bl_len]; omega)
  rw [hm, List.take_zero, List.nil_append, e2, List.append_nil, Nat.mul_one, Nat.mul_one, List.take_take, Nat.min_eq_left (by omega), rk_b1, ← List.map_drop, ← List.map_take]
  have e : bl k (b.drop o) = bl k ((b.drop o).take k) := by
    apply List.map_congr_left
    intro j hj
    have : j < k := by simpa using hj
    simp [List.getD_eq_getElem?_getD, List.getElem?_take, this]
  rw [e, bl_eq (by simp; omega)]
theorem cp_hl {b : List UInt8} {v : Nat} (h : 32 ≤ b.length) : (hl v).take 0 ++ (rk b1 b).take (min b.length 32 * 1) ++ (hl v).drop (0 + min b.length 32 * 1) = hl (nb (b.take 32)) := by
  rw [Nat.min_eq_right h, List.take_zero, List.nil_append, List.drop_eq_nil_of_le (by simp [hl, len_by32]), List.append_nil, rk_h32 h]
theorem rem_u {a b : Nat} (hb : b < 18446744073709551616) : bn .rem (ul a) (ul b) = ul (a % 18446744073709551616 % b) := by
  have e : bn .rem (ul a) (ul b) = PV.lit (.int .u64 (((a % 18446744073709551616 : Nat) : Int).tmod ((b % 18446744073709551616 : Nat) : Int))) := rfl
  rw [e, Nat.mod_eq_of_lt hb, ← Int.ofNat_tmod]
  refine lit_u ?_
  have h1 : a % 18446744073709551616 % b ≤ a % 18446744073709551616 := Nat.mod_le _ _
  have h2 : a % 18446744073709551616 < 18446744073709551616 := Nat.mod_lt _ (by decide)
  rw [Nat.mod_eq_of_lt (a := a % 18446744073709551616 % b) (by omega)]
theorem rot_end {x : W} {n : Nat} (h1 : 1 ≤ n) (h2 : n ≤ 31) : uw (x <<< ((2 ^ 64 - n) % 32) ||| x >>> (32 - (2 ^ 64 - n) % 32)) = uw (rotr x n) := by
  rw [show (2 ^ 64 - n) % 32 = 32 - n by omega, show 32 - (32 - n) = n by omega]; rfl
theorem byB_end {b : List UInt8} {i : Nat} (h : i = 64) : wl 64 (byB b i) = wl 64 (ext (fill 64 0 (word b) 16) 0) := by
  subst h; exact wl_eq (byB_word b 16 (by decide))
theorem ext_step {l : List W} {t : Nat} : wl 64 ((ext l t).set (16 + t) ((ext l t).getD (16 + t - 16) 0 + (rotr ((ext l t).getD (16 + t - 15) 0) 7 ^^^ rotr ((ext l t).getD (16 + t - 15) 0) 18 ^^^ (ext l t).getD (16 + t - 15) 0 >>> 3) + (ext l t).getD (16 + t - 7) 0 +
    (rotr ((ext l t).getD (16 + t - 2) 0) 17 ^^^ rotr ((ext l t).getD (16 + t - 2) 0) 19 ^^^ (ext l t).getD (16 + t - 2) 0 >>> 10))) = wl 64 (ext l (t + 1)) := by
  rw [show 16 + t - 16 = t by omega, show 16 + t - 15 = t + 1 by omega, show 16 + t - 7 = t + 9 by omega, show 16 + t - 2 = t + 14 by omega]; rfl
theorem sched_end {b : List UInt8} {t : Nat} (h : t = 48) : PV.agg (wl 64 (ext (fill 64 0 (word b) 16) t)) = .agg (wl 64 (sched b)) := by subst h; rfl
theorem comp_end {s : S8} {b : List UInt8} {i : Nat} (h : i = 8) : PV.agg (wl 8 (addI s (rnds (sched b) s 64) i)) = .agg (sl (compress s b)) := by subst h; rfl
theorem rnds_at {b : List UInt8} {s : S8} {t : Nat} (h : t = 64) : PV.agg [uw (rnds (sched b) s t).a, uw (rnds (sched b) s t).b, uw (rnds (sched b) s t).c, uw (rnds (sched b) s t).d, uw (rnds (sched b) s t).e, uw (rnds (sched b) s t).f, uw (rnds (sched b) s t).g, uw (rnds (sched b) s t).h] = .agg (sl (rnds (sched b) s 64)) := by subst h; rfl
theorem comp_ref {s : S8} {b : List UInt8} {t : Nat} (h : t = 64) : PV.agg [uw (s.a + (rnds (sched b) s t).a), uw (s.b + (rnds (sched b) s t).b), uw (s.c + (rnds (sched b) s t).c), uw (s.d + (rnds (sched b) s t).d), uw (s.e + (rnds (sched b) s t).e), uw (s.f + (rnds (sched b) s t).f), uw (s.g + (rnds (sched b) s t).g), uw (s.h + (rnds (sched b) s t).h)] = .agg (sl (compress s b)) := by subst h; rfl
theorem pad_rem {n : Nat} (h : n < 18446744073709551616) : bn .rem (ul (55 + (2 ^ 64 - n % 2 ^ 64))) (ul 64) = ul (padz n) := by
  rw [rem_u (by decide)]; unfold padz; congr 1; omega
theorem dig_zero (s : S8) : hl 0 = bl 32 (fill 32 0 (dbyte s) 0) := by rfl
theorem dig_fin {s : S8} {i : Nat} (h : i = 32) : PV.agg (bl 32 (fill 32 0 (dbyte s) i)) = h32 (nb (dig s)) := by subst h; rw [dig_end]; rfl
theorem absorb_step {s : S8} {b : List UInt8} {q : Nat} : sl (compress (absorb q s b) (((b.drop (64 * q)).take 64).take 64)) = sl (absorb (q + 1) s b) := by rw [absorb_succ, List.take_take, Nat.min_self]
theorem absorb_step2 {s : S8} {b : List UInt8} {q : Nat} : sl (compress (absorb q s b) (b.drop (64 * q))) = sl (absorb (q + 1) s b) := by
  rw [absorb_succ]
  have e : ∀ c : List UInt8, sched c = sched (c.take 64) := by
    intro c
    have : fill 64 0 (word c) 16 = fill 64 0 (word (c.take 64)) 16 := by
      apply List.map_congr_left
      intro j hj
      by_cases hj2 : j < 16
      · rw [if_pos hj2, if_pos hj2]
        have g : ∀ k, k < 64 → (c.take 64).getD k 0 = c.getD k 0 := by
          intro k hk; simp [List.getD_eq_getElem?_getD, hk]
        simp only [word]
        rw [g _ (by omega), g _ (by omega), g _ (by omega), g _ (by omega)]
      · rw [if_neg hj2, if_neg hj2]
    simp only [sched, this]
  simp only [compress]
  rw [← e]
theorem drop_step {b : List UInt8} {q : Nat} : roK b1 ((b.drop (64 * q)).drop 64) = roK b1 (b.drop (64 * (q + 1))) := by rw [List.drop_drop]; rfl
theorem absorb_end {s : S8} {b : List UInt8} {q : Nat} (h : q = b.length / 64) : PV.agg (sl (absorb q s b)) = .agg (sl (absorb (b.length / 64) s b)) := by rw [h]
theorem sum_fin {b : List UInt8} : h32 (nb (dig (absorb ((b.drop (b.length - b.length % 64) ++ pad b.length).length / 64) (absorb ((b.take (b.length - b.length % 64)).length / 64) init8 (b.take (b.length - b.length % 64))) (b.drop (b.length - b.length % 64) ++ pad b.length)))) = h32 (sN b) := by
  have h := sum_split b
  have e : (b.take (b.length - b.length % 64)).length / 64 = b.length / 64 := by rw [List.length_take]; omega
  rw [e, h]; rfl
theorem padI_end {n i : Nat} (h : i = 8) : padI n i = pad n := by subst h; exact padI_all n
theorem rep_rk1 {m l : Nat} (h : m % 18446744073709551616 = l) : rep ((m % 18446744073709551616 : Nat) : Int).toNat (.int .u8 0) = rk b1 (List.replicate l 0) := by rw [h]; exact rep_rk rfl
theorem padI_at {n i : Nat} (h : i = padz n) : 128 :: List.replicate i 0 = padI n 0 := by subst h; exact padI_zero2 n
theorem absorb_at {b : List UInt8} {q : Nat} {s : S8} (h : q = b.length / 64) : PV.agg (sl (absorb q s b)) = .agg (sl (absorb (b.length / 64) s b)) := by rw [h]
theorem ref_fin {b : List UInt8} {j : Nat} (h : j = 8) : PV.agg (bl 32 (fill 32 0 (dbyte (absorb ((msg b).length / 64) init8 (msg b))) (4 * j))) = h32 (sN b) := by subst h; exact dig_fin rfl
theorem len_msg2 (b : List UInt8) : (msg b).length = b.length + (pad b.length).length := by rw [msg, List.length_append]
end Go.Ab
namespace Go.Ab
open Go Go.RowKit
theorem callR_to {P : Program} {g : FuncId} {xs : List PV} {r r' : PV} (h : r = r') (c : CallR P g xs r) : CallR P g xs r' := h ▸ c
theorem eql_4s (a : Nat) : lB (intsOf (cl 4 a) == intsOf (cl 4 a)) = lB true := by rw [beq_self_eq_true]
theorem neq_4s (a : Nat) : lB (!(intsOf (cl 4 a) == intsOf (cl 4 a))) = lB false := by rw [beq_self_eq_true]; rfl
theorem eql_4e {a b : Nat} (h : a = b) : lB (intsOf (cl 4 a) == intsOf (cl 4 b)) = lB true := by rw [h, beq_self_eq_true]
theorem eql_bs (a : Bool) : lB (a == a) = lB true := by rw [beq_self_eq_true]
theorem neq_bs (a : Bool) : lB (!(a == a)) = lB false := by rw [beq_self_eq_true]; rfl
end Go.Ab
namespace Go.Ab
open Go Go.RowKit
set_option linter.unusedVariables false
set_option linter.unusedSimpArgs false
set_option linter.unusedVariables false
def s_non : ByteArray := ⟨#[108, 105, 103, 104, 116, 99, 108, 105, 101, 110, 116, 47, 110, 111, 110, 99, 101]⟩
def s_cha : ByteArray := ⟨#[108, 105, 103, 104, 116, 99, 108, 105, 101, 110, 116, 47, 99, 104, 97, 108, 108, 101, 110, 103, 101]⟩
def sec (x : Nat) : Prop := x ≠ 0 ∧ x < qP
instance (x : Nat) : Decidable (sec x) := inferInstanceAs (Decidable (_ ∧ _))
def pubV (x : Nat) : Nat := if sec x then gx 4 x else 0
def pubE (x : Nat) : Nat := if sec x then 0 else 60
theorem pub_t {x : Nat} (h : sec x) : pubV x = gx 4 x ∧ pubE x = 0 := ⟨if_pos h, if_pos h⟩
theorem pub_f {x : Nat} (h : ¬ sec x) : pubV x = 0 ∧ pubE x = 60 := ⟨if_neg h, if_neg h⟩
theorem pub_yes {x : Nat} (h : sec x) : PV.tup [u4 (gx 4 x), ln 0] = .tup [u4 (pubV x), ln (pubE x)] := by rw [(pub_t h).1, (pub_t h).2]
theorem pub_no {x : Nat} (h : ¬ sec x) : PV.tup [u4 0, ln 60] = .tup [u4 (pubV x), ln (pubE x)] := by rw [(pub_f h).1, (pub_f h).2]
theorem pubV_lt (x : Nat) : pubV x < 2 ^ 256 := by
  unfold pubV; split
  · exact Nat.lt_trans (gx_lt _ _) pPl
  · decide
theorem pubE_0 {x : Nat} (h : pubE x = 0) : sec x := by
  unfold pubE at h; split at h
  · assumption
  · cases h
theorem pubE_1 {x : Nat} (h : pubE x ≠ 0) : ¬ sec x := fun hs => h (pub_t hs).2
attribute [irreducible] pubV pubE
def vld (p : Nat) : Bool := bif decide (p = 1) then false else mb p
theorem vld_1 {p : Nat} (h : p = 1) : vld p = false := by subst h; rfl
theorem vld_n {p : Nat} (h : p ≠ 1) : vld p = mb p := by unfold vld; rw [decide_eq_false h]; rfl
attribute [irreducible] vld
def nonV (x m : Nat) : Nat := if tN (sb s_non) (by32 x ++ by32 m) % qP = 0 then 1 else tN (sb s_non) (by32 x ++ by32 m) % qP
theorem non_0 {x m : Nat} (h : tN (sb s_non) (by32 x ++ by32 m) % qP = 0) : u4 1 = u4 (nonV x m) := by rw [nonV, if_pos h]
theorem non_1 {x m : Nat} (h : tN (sb s_non) (by32 x ++ by32 m) % qP ≠ 0) : u4 (tN (sb s_non) (by32 x ++ by32 m) % qP) = u4 (nonV x m) := by rw [nonV, if_neg h]
theorem nonV_q (x m : Nat) : nonV x m < qP := by
  unfold nonV; split
  · rw [qPv]; decide
  · exact Nat.mod_lt _ qP0
theorem nonV_lt (x m : Nat) : nonV x m < 2 ^ 256 := Nat.lt_trans (nonV_q x m) qPl
attribute [irreducible] nonV
def chV (r p m : Nat) : Nat := tN (sb s_cha) (by32 r ++ by32 p ++ by32 m) % qP
theorem chV_q (r p m : Nat) : chV r p m < qP := Nat.mod_lt _ qP0
theorem chV_lt (r p m : Nat) : chV r p m < 2 ^ 256 := Nat.lt_trans (chV_q r p m) qPl
theorem chV_eq (r p m : Nat) : u4 (tN (sb s_cha) (by32 r ++ by32 p ++ by32 m) % qP) = u4 (chV r p m) := rfl
attribute [irreducible] chV
def sgE (x m : Nat) : Nat := chV (gx 4 (nonV x m)) (gx 4 x) m
def sgS (x m : Nat) : Nat := (nonV x m + sgE x m * x % qP) % qP
def sigE (x m : Nat) : Nat := if sec x then sgE x m else 0
def sigS (x m : Nat) : Nat := if sec x then sgS x m else 0
theorem sgE_q (x m : Nat) : sgE x m < qP := chV_q _ _ _
theorem sgS_q (x m : Nat) : sgS x m < qP := Nat.mod_lt _ qP0
theorem sigE_q (x m : Nat) : sigE x m < qP := by
  unfold sigE; split
  · exact sgE_q _ _
  · exact qP0
theorem sigS_q (x m : Nat) : sigS x m < qP := by
  unfold sigS; split
  · exact sgS_q _ _
  · exact qP0
theorem sigE_lt (x m : Nat) : sigE x m < 2 ^ 256 := Nat.lt_trans (sigE_q x m) qPl
theorem sigS_lt (x m : Nat) : sigS x m < 2 ^ 256 := Nat.lt_trans (sigS_q x m) qPl
theorem sig_yes {x m : Nat} (h : sec x) : PV.tup [.agg (cl 4 (chV (gx 4 (nonV x m)) (pubV x) m) ++ cl 4 ((nonV x m + chV (gx 4 (nonV x m)) (pubV x) m * x % qP) % qP)), ln 0] = .tup [.agg (cl 4 (sigE x m) ++ cl 4 (sigS x m)), ln (pubE x)] := by
  rw [(pub_t h).1, (pub_t h).2, sigE, sigS, if_pos h, if_pos h]; rfl
theorem sig_no {x m : Nat} (h : ¬ sec x) : PV.tup [.agg (cl 4 0 ++ cl 4 0), ln (pubE x)] = .tup [.agg (cl 4 (sigE x m) ++ cl 4 (sigS x m)), ln (pubE x)] := by
  rw [sigE, sigS, if_neg h, if_neg h]
theorem sig_at {x m : Nat} (h : sec x) : sigE x m = sgE x m ∧ sigS x m = sgS x m := ⟨if_pos h, if_pos h⟩
attribute [irreducible] sigE sigS
def verP (p m e s : Nat) : Prop := vld p = true ∧ e < qP ∧ s < qP ∧ e = chV (gx 4 s * gx p (qP - e) % pP) p m
instance (p m e s : Nat) : Decidable (verP p m e s) := inferInstanceAs (Decidable (_ ∧ _))
theorem ver_v {p m e s : Nat} (h : vld p = false) : lB false = lB (decide (verP p m e s)) := lB_f fun x => by have h1 := x.1; rw [h] at h1; cases h1
theorem ver_e {p m e s : Nat} (h : ¬ e < qP) : lB false = lB (decide (verP p m e s)) := lB_f fun x => h x.2.1
theorem ver_s {p m e s : Nat} (h : ¬ s < qP) : lB false = lB (decide (verP p m e s)) := lB_f fun x => h x.2.2.1
theorem ver_q {p m e s : Nat} (h : vld p = true) (h1 : e < qP) (h2 : s < qP) : lB (decide (e = chV (gx 4 s * gx p (qP - e) % pP) p m)) = lB (decide (verP p m e s)) :=
  lB_eq ⟨fun x => ⟨h, h1, h2, x⟩, fun x => x.2.2.2⟩
theorem gx_0 (a : Nat) : gx a 0 = 1 := by rw [gx_eq, Nat.pow_zero]; exact one_mod_p
theorem gx_1 {a : Nat} (h : a < pP) : gx a 1 = a := by rw [gx_eq, Nat.pow_one]; exact Nat.mod_eq_of_lt h
theorem gx_one {d : Nat} (h : gx 4 d = 1) : d % qP = 0 := by
  by_cases hd : qP ∣ d
  · exact Nat.mod_eq_zero_of_dvd hd
  · have h1 := pow_gcd p2 qP d four_q (by rw [← gx_eq]; exact h)
    rw [pr_q.cop hd, Nat.pow_one, pPv] at h1
    exact absurd h1 (by decide)
theorem gx_mod (a : Nat) : gx 4 (a % qP) = gx 4 a := by rw [gx_eq, gx_eq]; exact pow_q four_q a
theorem gx_add (a b : Nat) : gx 4 a * gx 4 b % pP = gx 4 (a + b) := by rw [← pow_add4, gx_mod]
theorem gx_mul (a b : Nat) : gx (gx 4 a) b = gx 4 (a * b) := by rw [gx_eq, gx_eq, gx_eq, ← Nat.pow_mod, ← Nat.pow_mul]
theorem gx_inj {a b : Nat} (h : gx 4 a = gx 4 b) : a % qP = b % qP := by
  have h1 := pow_neg4 b
  rw [← h, gx_add] at h1
  have h2 := gx_one h1
  rw [qPv] at *
  omega
theorem gx_ne1 {x : Nat} (h : sec x) : gx 4 x ≠ 1 := fun e => by
  have := gx_one e
  obtain ⟨h0, h1⟩ := h
  rw [Nat.mod_eq_of_lt h1] at this
  exact h0 this
theorem vld_gx {x : Nat} (h : sec x) : vld (gx 4 x) = true := by rw [vld_n (gx_ne1 h), mb_pow]
theorem back {k e x : Nat} (he : e ≤ qP) : gx 4 ((k + e * x % qP) % qP) * gx (gx 4 x) (qP - e) % pP = gx 4 k := by
  rw [gx_mod, gx_mul, gx_add]
  have h1 : gx 4 (k + e * x % qP + x * (qP - e)) = gx 4 (k + e * x + x * (qP - e)) := by
    rw [← gx_mod, ← gx_mod (k + e * x + x * (qP - e))]
    congr 1
    rw [Nat.add_mod, Nat.add_mod k (e * x % qP), Nat.mod_mod, ← Nat.add_mod k, ← Nat.add_mod]
  rw [h1]
  have h2 : k + e * x + x * (qP - e) = k + qP * x := by
    rw [Nat.mul_comm x, Nat.add_assoc, ← Nat.add_mul, Nat.add_sub_cancel' he]
  rw [h2, ← gx_mod, Nat.add_mul_mod_self_left, gx_mod]
theorem ver_sig {x m : Nat} (h : sec x) : verP (gx 4 x) m (sgE x m) (sgS x m) := by
  refine ⟨vld_gx h, sgE_q x m, sgS_q x m, ?_⟩
  have hb := back (k := nonV x m) (e := sgE x m) (x := x) (Nat.le_of_lt (sgE_q x m))
  rw [sgS, hb]; rfl
theorem u8_eq {a b : Nat} (h : a % 256 = b % 256) : UInt8.ofNat a = UInt8.ofNat b := by
  apply UInt8.toNat_inj.1
  rw [UInt8.toNat_ofNat', UInt8.toNat_ofNat']; exact h
def bz (n j : Nat) : UInt8 := UInt8.ofNat (n / 2 ^ (8 * (31 - j)))
theorem bz_at {n i : Nat} (h : i < 32) : UInt8.ofNat (n / 2 ^ (64 * ((31 - i) / 8)) % 2 ^ 64 / 2 ^ (8 * ((31 - i) % 8))) = bz n i := by
  apply u8_eq
  have e : n / 2 ^ (8 * (31 - i)) = n / 2 ^ (64 * ((31 - i) / 8)) / 2 ^ (8 * ((31 - i) % 8)) := by
    rw [Nat.div_div_eq_div_mul, ← Nat.pow_add]; congr 2; omega
  rw [e]
  generalize n / 2 ^ (64 * ((31 - i) / 8)) = x
  have : (31 - i) % 8 < 8 := Nat.mod_lt _ (by decide)
  generalize (31 - i) % 8 = r at this
  match r, this with
  | 0, _ => omega
  | 1, _ => omega
  | 2, _ => omega
  | 3, _ => omega
  | 4, _ => omega
  | 5, _ => omega
  | 6, _ => omega
  | 7, _ => omega
theorem bz_zero (n : Nat) : hl 0 = bl 32 (fill 32 0 (bz n) 0) := by kernel_rfl
theorem bz_step {n i : Nat} (h : i < 32) : bl 32 ((fill 32 0 (bz n) i).set i (UInt8.ofNat (n / 2 ^ (64 * ((31 - i) / 8)) % 2 ^ 64 / 2 ^ (8 * ((31 - i) % 8))))) = bl 32 (fill 32 0 (bz n) (i + 1)) := by
  rw [bz_at h]; exact bl_congr (fill_set h)
theorem bz_end {n i : Nat} (h : i = 32) : PV.agg (bl 32 (fill 32 0 (bz n) i)) = h32 n := by
  subst h
  have e : fill 32 0 (bz n) 32 = by32 n := fill_all ..
  rw [e, bl_eq (len_by32 n), h32, hl]
theorem h32_inj {a b : Nat} (ha : a < 2 ^ 256) (hb : b < 2 ^ 256) (h : by32 a = by32 b) : a = b := by
  have e : ∀ n, n < 2 ^ 256 → nb (by32 n) = n := by
    intro n hn
    have hk : ∀ k, nb (byK k n) = n % 2 ^ (8 * k) := by
      intro k
      induction k generalizing n with
      | zero => simp [byK, nb, Nat.mod_one]
      | succ k ih =>
        have h1 := byK_snoc k (n / 256) (UInt8.ofNat n)
        have h2 : n / 256 * 256 + (UInt8.ofNat n).toNat = n := by rw [UInt8.toNat_ofNat']; omega
        rw [h2] at h1
        rw [h1, nb_snoc, ih (n / 256) (by omega), UInt8.toNat_ofNat', show 8 * (k + 1) = 8 + 8 * k from by rw [Nat.mul_succ, Nat.add_comm], Nat.pow_add, Nat.mod_mul, show (2 : Nat) ^ 8 = 256 from rfl]
        rw [Nat.mul_comm, Nat.add_comm]
    have := hk 32
    rw [Nat.mod_eq_of_lt (show n < 2 ^ (8 * 32) from hn)] at this
    exact this
  rw [← e a ha, ← e b hb, h]
theorem below_q {a : Nat} : lB (decide (cmpN a qP < 0)) = lB (decide (a < qP)) := by rw [cmpd_lt]
theorem shut_hl (n : Nat) : PV.new 32 1 (((hl n).drop 0).take (32 * 1)) = newK 1 b1 (by32 n) := by rw [hl_dt, newK, len_by32]
theorem shut_hc (n : Nat) : closedL (((hl n).drop 0).take (32 * 1)) = true := by rw [hl_dt]; exact closedL_rk
theorem sec_end {x : Nat} (h : x ≠ 0) : lB (decide (x < qP)) = lB (decide (sec x)) := lB_eq ⟨fun h1 => ⟨h, h1⟩, fun h1 => h1.2⟩
theorem sec_0 {x : Nat} (h : x = 0) : lB false = lB (decide (sec x)) := lB_f fun h1 => h1.1 h
theorem back_e {e : Nat} (h : e < qP) : PV.tup [u4 (qP + 2 ^ 256 - e), lB (decide (qP < e))] = .tup [u4 (qP - e), lB (decide (qP < e))] := tup2 (u4_eq (by omega)) rfl
def tkV (p t : Nat) : Nat := if vld p = true then (if p * gx 4 (t % qP) % pP = 1 then 0 else p * gx 4 (t % qP) % pP) else 0
def tkE (p t : Nat) : Nat := if vld p = true then (if p * gx 4 (t % qP) % pP = 1 then 5 else 0) else 60
theorem tk_0 {p t : Nat} (h : vld p = false) : PV.tup [u4 0, ln 60] = .tup [u4 (tkV p t), ln (tkE p t)] := by simp only [tkV, tkE, h]; rfl
theorem tk_1 {p t : Nat} (h : vld p = true) (h1 : p * gx 4 (t % qP) % pP = 1) : PV.tup [u4 0, ln 5] = .tup [u4 (tkV p t), ln (tkE p t)] := by simp only [tkV, tkE, h, h1]; rfl
theorem tk_2 {p t : Nat} (h : vld p = true) (h1 : p * gx 4 (t % qP) % pP ≠ 1) : PV.tup [u4 (p * gx 4 (t % qP) % pP), ln 0] = .tup [u4 (tkV p t), ln (tkE p t)] := by simp only [tkV, tkE, h, if_neg h1, if_pos]
def tsV (x t : Nat) : Nat := if sec x then (if (x + t % qP) % qP = 0 then 0 else (x + t % qP) % qP) else 0
def tsE (x t : Nat) : Nat := if sec x then (if (x + t % qP) % qP = 0 then 5 else 0) else 60
theorem ts_0 {x t : Nat} (h : ¬ sec x) : PV.tup [u4 0, ln 60] = .tup [u4 (tsV x t), ln (tsE x t)] := by simp only [tsV, tsE, if_neg h]
theorem ts_1 {x t : Nat} (h : sec x) (h1 : (x + t % qP) % qP = 0) : PV.tup [u4 0, ln 5] = .tup [u4 (tsV x t), ln (tsE x t)] := by simp only [tsV, tsE, if_pos h, if_pos h1]
theorem ts_2 {x t : Nat} (h : sec x) (h1 : (x + t % qP) % qP ≠ 0) : PV.tup [u4 ((x + t % qP) % qP), ln 0] = .tup [u4 (tsV x t), ln (tsE x t)] := by simp only [tsV, tsE, if_pos h, if_neg h1]
theorem tsV_lt (x t : Nat) : tsV x t < 2 ^ 256 := by
  unfold tsV; split
  · split
    · decide
    · exact mql _
  · decide
theorem tsE_60 {x t : Nat} (h : ¬ sec x) : tsE x t = 60 := if_neg h
theorem tsE_0 {x t : Nat} (h : tsE x t = 0) : sec x ∧ (x + t % qP) % qP ≠ 0 := by
  unfold tsE at h
  split at h
  · rename_i hs
    split at h
    · cases h
    · rename_i h1; exact ⟨hs, h1⟩
  · cases h
theorem tw_eq {x t : Nat} (h : sec x) : gx 4 x * gx 4 (t % qP) % pP = gx 4 ((x + t % qP) % qP) := by rw [gx_add, gx_mod]
theorem tw_iff {x t : Nat} (h : sec x) : gx 4 x * gx 4 (t % qP) % pP = 1 ↔ (x + t % qP) % qP = 0 := by
  rw [tw_eq h]
  constructor
  · intro e
    have := gx_one e
    rwa [Nat.mod_mod] at this
  · intro e; rw [e, gx_0]
theorem tw_err {x t : Nat} (h : sec x) : tkE (gx 4 x) t = tsE x t := by
  simp only [tkE, tsE, vld_gx h, if_pos h, tw_iff h, if_pos]
theorem ts_sec {x t : Nat} (h : tsE x t = 0) : sec (tsV x t) := by
  obtain ⟨hs, h1⟩ := tsE_0 h
  simp only [tsV, if_pos hs, if_neg h1]
  exact ⟨h1, Nat.mod_lt _ qP0⟩
theorem tw_key {x t : Nat} (h : tsE x t = 0) : tkV (gx 4 x) t = gx 4 (tsV x t) := by
  obtain ⟨hs, h1⟩ := tsE_0 h
  have h2 : ¬ gx 4 ((x + t % qP) % qP) = 1 := fun e => h1 ((tw_iff hs).1 (by rw [tw_eq hs]; exact e))
  simp only [tkV, tsV, vld_gx hs, if_pos hs, if_neg h1, if_pos, tw_eq hs, if_neg h2]
attribute [irreducible] tkV tkE tsV tsE
def dE0 (b : List UInt8) : Nat := nb ((b.take 32).take 32)
def dS0 (b : List UInt8) : Nat := nb ((b.drop 32).take 32)
def dOk (b : List UInt8) : Prop := dE0 b < qP ∧ dS0 b < qP
instance (b : List UInt8) : Decidable (dOk b) := inferInstanceAs (Decidable (_ ∧ _))
def dE (b : List UInt8) : Nat := if b.length = 64 ∧ dOk b then dE0 b else 0
def dS (b : List UInt8) : Nat := if b.length = 64 ∧ dOk b then dS0 b else 0
def dF (b : List UInt8) : Nat := if b.length = 64 then (if dOk b then 0 else 5) else 8
theorem d_0 {b : List UInt8} (h : b.length ≠ 64) : PV.tup [.agg (cl 4 0 ++ cl 4 0), ln 8] = .tup [.agg (cl 4 (dE b) ++ cl 4 (dS b)), ln (dF b)] := by
  have h1 : ¬ (b.length = 64 ∧ dOk b) := fun x => h x.1
  simp only [dE, dS, dF, if_neg h, if_neg h1]
theorem d_1 {b : List UInt8} (h : b.length = 64) (h2 : ¬ dOk b) : PV.tup [.agg (cl 4 0 ++ cl 4 0), ln 5] = .tup [.agg (cl 4 (dE b) ++ cl 4 (dS b)), ln (dF b)] := by
  have h1 : ¬ (b.length = 64 ∧ dOk b) := fun x => h2 x.2
  simp only [dE, dS, dF, if_pos h, if_neg h1, if_neg h2]
theorem d_2 {b : List UInt8} (h : b.length = 64) (h2 : dOk b) : PV.tup [.agg (cl 4 (nb ((b.take 32).take 32)) ++ cl 4 (nb ((b.drop 32).take 32))), ln 0] = .tup [.agg (cl 4 (dE b) ++ cl 4 (dS b)), ln (dF b)] := by
  have h1 : (b.length = 64 ∧ dOk b) := ⟨h, h2⟩
  simp only [dE, dS, dF, if_pos h, if_pos h1, if_pos h2]; rfl
theorem d_e {b : List UInt8} (h : ¬ nb ((b.take 32).take 32) < qP) : ¬ dOk b := fun x => h x.1
theorem d_s {b : List UInt8} (h : ¬ nb ((b.drop 32).take 32) < qP) : ¬ dOk b := fun x => h x.2
theorem d_y {b : List UInt8} (h : nb ((b.take 32).take 32) < qP) (h1 : nb ((b.drop 32).take 32) < qP) : dOk b := ⟨h, h1⟩
theorem nb_by {a : Nat} (h : a < 2 ^ 256) : nb (by32 a) = a := h32_inj (nb_lt (len_by32 a)) h (nb_32 (len_by32 a))
theorem d_back {e s : Nat} (he : e < 2 ^ 256) (hs : s < 2 ^ 256) (h : dF (by32 e ++ by32 s) = 0) : dE (by32 e ++ by32 s) = e ∧ dS (by32 e ++ by32 s) = s := by
  have h1 : (by32 e ++ by32 s).take 32 = by32 e := by
    have := List.take_left (l₁ := by32 e) (l₂ := by32 s)
    rwa [len_by32] at this
  have h2 : (by32 e ++ by32 s).drop 32 = by32 s := by
    have := List.drop_left (l₁ := by32 e) (l₂ := by32 s)
    rwa [len_by32] at this
  have h3 : ∀ a, (by32 a).take 32 = by32 a := fun a => List.take_of_length_le (by rw [len_by32]; exact Nat.le_refl _)
  unfold dF at h
  split at h
  · rename_i hl
    split at h
    · rename_i ho
      have hh : (by32 e ++ by32 s).length = 64 ∧ dOk (by32 e ++ by32 s) := ⟨hl, ho⟩
      simp only [dE, dS, if_pos hh, dE0, dS0, h1, h2, h3, nb_by he, nb_by hs, and_self]
    · cases h
  · cases h
attribute [irreducible] dE dS dF
def cmt (p e s : Nat) : Nat := gx 4 s * gx p ((qP - e % qP) % qP) % pP
theorem cmt_lt (p e s : Nat) : cmt p e s < 2 ^ 256 := mpl _
theorem eql_ns (a : Nat) : bn .eql (ln a) (ln a) = lB true := by
  show PV.lit (.bool ((a : Int) == (a : Int))) = _
  rw [beq_self_eq_true]; rfl
theorem neq_ns (a : Nat) : bn .neq (ln a) (ln a) = lB false := by
  show PV.lit (.bool ((a : Int) != (a : Int))) = _
  rw [bne_self_eq_false]; rfl
theorem cmt_eq {x e s : Nat} (h : sec x) (he : e < qP) : cmt (pubV x) e s = gx 4 s * gx (gx 4 x) (qP - e) % pP := by
  have h1 : gx (gx 4 x) ((qP - e % qP) % qP) = gx (gx 4 x) (qP - e) := by
    rw [Nat.mod_eq_of_lt he, gx_mul, gx_mul, ← gx_mod, ← gx_mod (x * (qP - e)), Nat.mul_mod, Nat.mod_mod, ← Nat.mul_mod]
  rw [cmt, (pub_t h).1, h1]
theorem ver_pub {x m : Nat} (h : pubE x = 0) : lB (decide (verP (pubV x) m (sigE x m) (sigS x m))) = lB true := by
  have hs := pubE_0 h
  rw [(sig_at hs).1, (sig_at hs).2, (pub_t hs).1, decide_eq_true (ver_sig hs)]
theorem vld_pub {x : Nat} (h : pubE x = 0) : lB (vld (pubV x)) = lB true := by
  have hs := pubE_0 h
  rw [(pub_t hs).1, vld_gx hs]
theorem right_0 {h : Nat} (h0 : pubE (h % qP) ≠ 0) : lB (decide (h % qP = 0)) = lB true := by
  have hs := pubE_1 h0
  have hl : h % qP < qP := Nat.mod_lt _ qP0
  have : h % qP = 0 := by
    by_cases e : h % qP = 0
    · exact e
    · exact absurd ⟨e, hl⟩ hs
  rw [decide_eq_true this]
theorem right_ne {x m b : Nat} (h : pubE x = 0) (h1 : ¬ (sigS x m + b) % qP = sigS x m) : cmt (pubV x) (sigE x m) (sigS x m) ≠ cmt (pubV x) (sigE x m) ((sigS x m + b) % qP) := by
  have hs := pubE_0 h
  rw [cmt_eq hs (sigE_q x m), cmt_eq hs (sigE_q x m), gx_mul, gx_add, gx_add]
  intro e
  have e2 := gx_inj e
  have l1 := sigS_q x m
  have l2 : (sigS x m + b) % qP < qP := Nat.mod_lt _ qP0
  generalize (sigS x m + b) % qP = S' at *
  generalize sigS x m = S at *
  generalize x * (qP - sigE x m) = d at *
  rw [qPv] at *
  omega
theorem right_ch {x m s : Nat} (h : pubE x = 0) (h1 : verP (pubV x) m (sigE x m) s) : chV (cmt (pubV x) (sigE x m) (sigS x m)) (pubV x) m = chV (cmt (pubV x) (sigE x m) s) (pubV x) m := by
  have hs := pubE_0 h
  have a := h1.2.2.2
  have b : verP (pubV x) m (sigE x m) (sigS x m) := by rw [(sig_at hs).1, (sig_at hs).2, (pub_t hs).1]; exact ver_sig hs
  have b := b.2.2.2
  rw [(pub_t hs).1] at a b
  rw [cmt_eq hs (sigE_q x m), cmt_eq hs (sigE_q x m), (pub_t hs).1, ← a, ← b]
theorem neq_4n {a b : Nat} (ha : a < 2 ^ 256) (hb : b < 2 ^ 256) (h : a ≠ b) : lB (!(intsOf (cl 4 a) == intsOf (cl 4 b))) = lB true := by rw [neq_4 ha hb, decide_eq_true h]
theorem eqI_tt {a b : Nat} (h : a = b) : eqI a b = true := by subst h; simp [eqI]
theorem tw_pub {x t : Nat} (h : pubE x = 0) : PV.tup [u4 (tkV (pubV x) t), ln (tkE (pubV x) t)] = .tup [u4 (tkV (pubV x) t), ln (tsE x t)] := by
  have hs := pubE_0 h
  rw [(pub_t hs).1, tw_err hs]
theorem tw_pub2 {x t : Nat} (h : pubE x = 0) (h1 : tsE x t = 0) : PV.tup [u4 (tkV (pubV x) t), ln (tkE (pubV x) t)] = .tup [u4 (gx 4 (tsV x t)), ln 0] := by
  have hs := pubE_0 h
  rw [(pub_t hs).1, tw_err hs, h1, tw_key h1]
theorem ts_pub {x t : Nat} (h1 : tsE x t = 0) : PV.tup [u4 (pubV (tsV x t)), ln (pubE (tsV x t))] = .tup [u4 (gx 4 (tsV x t)), ln 0] := by
  rw [(pub_t (ts_sec h1)).1, (pub_t (ts_sec h1)).2]
theorem tw_key2 {x t : Nat} (h : pubE x = 0) (h1 : tsE x t = 0) : tkV (pubV x) t = gx 4 (tsV x t) := by rw [(pub_t (pubE_0 h)).1, tw_key h1]
theorem ts_sig {x t m : Nat} (h1 : tsE x t = 0) : PV.tup [.agg (cl 4 (sigE (tsV x t) m) ++ cl 4 (sigS (tsV x t) m)), ln (pubE (tsV x t))] = .tup [.agg (cl 4 (sgE (tsV x t) m) ++ cl 4 (sgS (tsV x t) m)), ln 0] := by
  rw [(sig_at (ts_sec h1)).1, (sig_at (ts_sec h1)).2, (pub_t (ts_sec h1)).2]
theorem ts_ver {x t m : Nat} (h1 : tsE x t = 0) : lB (decide (verP (gx 4 (tsV x t)) m (sgE (tsV x t) m) (sgS (tsV x t) m))) = lB true := by rw [decide_eq_true (ver_sig (ts_sec h1))]
theorem d_beq {e s : Nat} (he : e < 2 ^ 256) (hs : s < 2 ^ 256) (h : dF (by32 e ++ by32 s) = 0) : lB ((intsOf (cl 4 (dE (by32 e ++ by32 s))) == intsOf (cl 4 e)) && (intsOf (cl 4 (dS (by32 e ++ by32 s))) == intsOf (cl 4 s))) = lB true := by
  rw [(d_back he hs h).1, (d_back he hs h).2]; simp only [beq_self_eq_true, Bool.and_self]
def bsS (b : List UInt8) : ByteArray := ⟨b.toArray⟩
def csP (b : List UInt8) : Prop := True ∧ (rk b1 b).length = b.length ∧ (∀ p ∈ rk b1 b, isByte p)
theorem csP_ok (b : List UInt8) : csP b := ⟨trivial, len_rkb b, fun p hp => by rw [rk_b1] at hp; obtain ⟨x, _, rfl⟩ := List.mem_map.1 hp; trivial⟩
theorem cs_eq (b : List UInt8) : PV.lit (.string ⟨((rk b1 b).map byteOf).toArray⟩) = .lit (.string (bsS b)) := by
  have e : (rk b1 b).map byteOf = b := by
    rw [rk_b1, List.map_map]
    conv => rhs; rw [← List.map_id b]
    apply List.map_congr_left
    intro x _
    simp only [Function.comp, bv, byteOf, Int.toNat_natCast, UInt8.ofNat_toNat, id]
  rw [e]; rfl
theorem bsS_s (b : ByteArray) : lB (b.toList == b.toList) = lB true := by rw [beq_self_eq_true]
theorem closed_ul (n : Nat) : closed (ul n) = true := rfl
theorem closed_sig (a b : Nat) : closed (.agg (cl 4 a ++ cl 4 b)) = true := closedL_app (closedL_cl _ _) (closedL_cl _ _)
end Go.Ab
namespace Go.Ab
open Go Go.RowKit
set_option linter.unusedVariables false
set_option linter.unusedSimpArgs false
theorem non9 : nonV 1 4070815637249397495359917441711684260466522898401426079512180687778195963904 = 34517855608631459778318790968346957052021824314223759952716990743715090576640 := by decide +kernel
theorem pow9 : gx 4 34517855608631459778318790968346957052021824314223759952716990743715090576640 = 14500575653409901411290387783030309382191086797220558246115933178479965539775 := by
  rw [gx_eq, ← pwm_eq pP 256 4 34517855608631459778318790968346957052021824314223759952716990743715090576640 (by decide)]; decide +kernel
theorem cha9 : chV 14500575653409901411290387783030309382191086797220558246115933178479965539775 4 4070815637249397495359917441711684260466522898401426079512180687778195963904 = 55212807338262820438849241152816710381982209471871400867457725177904933943699 := by decide +kernel
theorem cha8 : chV 14500575653409901411290387783030309382191086797220558246115933178479965539775 4 3618502788666131106986593281521497120414687020801267626233049500247285301248 = 34904273341293243886062390803637023782484123166012357825590957433480282439107 := by decide +kernel
theorem sec1 : sec 1 := ⟨by decide, by rw [qPv]; decide⟩
theorem gx41 : gx 4 1 = 4 := gx_1 (by rw [pPv]; decide)
theorem pub1 : PV.tup [u4 (pubV 1), ln (pubE 1)] = .tup [u4 4, ln 0] := by rw [(pub_t sec1).1, (pub_t sec1).2, gx41]
theorem sigA : PV.tup [.agg (cl 4 (sigE 1 4070815637249397495359917441711684260466522898401426079512180687778195963904) ++ cl 4 (sigS 1 4070815637249397495359917441711684260466522898401426079512180687778195963904)), ln (pubE 1)] = .tup [.agg (cl 4 (sgE 1 4070815637249397495359917441711684260466522898401426079512180687778195963904) ++ cl 4 (sgS 1 4070815637249397495359917441711684260466522898401426079512180687778195963904)), ln 0] := by
  rw [(sig_at sec1).1, (sig_at sec1).2, (pub_t sec1).2]
theorem ver9 : lB (decide (verP 4 4070815637249397495359917441711684260466522898401426079512180687778195963904 (sgE 1 4070815637249397495359917441711684260466522898401426079512180687778195963904) (sgS 1 4070815637249397495359917441711684260466522898401426079512180687778195963904))) = lB true := by
  have := ver_sig (x := 1) (m := 4070815637249397495359917441711684260466522898401426079512180687778195963904) sec1
  rw [gx41] at this
  rw [decide_eq_true this]
theorem ver8 : lB (decide (verP 4 3618502788666131106986593281521497120414687020801267626233049500247285301248 (sgE 1 4070815637249397495359917441711684260466522898401426079512180687778195963904) (sgS 1 4070815637249397495359917441711684260466522898401426079512180687778195963904))) = lB false := by
  have h : ¬ verP 4 3618502788666131106986593281521497120414687020801267626233049500247285301248 (sgE 1 4070815637249397495359917441711684260466522898401426079512180687778195963904) (sgS 1 4070815637249397495359917441711684260466522898401426079512180687778195963904) := by
    intro h
    have h1 := h.2.2.2
    have hb := back (k := nonV 1 4070815637249397495359917441711684260466522898401426079512180687778195963904) (e := sgE 1 4070815637249397495359917441711684260466522898401426079512180687778195963904) (x := 1) (Nat.le_of_lt (sgE_q 1 4070815637249397495359917441711684260466522898401426079512180687778195963904))
    rw [gx41] at hb
    rw [sgS, hb, non9, pow9, cha8] at h1
    have h2 : sgE 1 4070815637249397495359917441711684260466522898401426079512180687778195963904 = 55212807338262820438849241152816710381982209471871400867457725177904933943699 := by rw [sgE, non9, pow9, gx41, cha9]
    rw [h2] at h1
    exact absurd h1 (by decide)
  rw [decide_eq_false h]
theorem vld1 : lB (vld 1) = lB false := by rw [vld_1 rfl]
end Go.Ab
namespace Go.Ab
open Go Go.RowKit
set_option linter.unusedVariables false
set_option linter.unusedSimpArgs false
set_option linter.unusedVariables false
def Rd (P : Program) (t : TypeId) {α : Type} (f : α → List PV) (ok : α → Prop) : Prop :=
  ∀ {H : Type} {enc : TypeId × Value → H} {W : World} {base : Nat} {sp : Nat → Bool} {held : Bool} {fuel : Nat} {cs : List Value} {x : DataW H × List MemPlace},
    DataW.trod enc P W base sp held fuel t cs = some x → ∃ a, ok a ∧ (∀ v ∈ cs, v.oneCell' = true) ∧ RepL no [] W (f a) cs
section
variable {P : Program} {t e : TypeId} {α β : Type} {f : α → List PV} {ok : α → Prop} {g : β → List PV} {ok' : β → Prop} {k n : Nat}
theorem rd_map (h : Rd P t f ok) (hm : ∀ a, ok a → ∃ b, ok' b ∧ g b = f a) : Rd P t g ok' := fun hd => by
  obtain ⟨a, h1, h2, h3⟩ := h hd
  obtain ⟨b, h4, h5⟩ := hm a h1
  exact ⟨b, h4, h2, by rw [h5]; exact h3⟩
theorem rd_int {q : IntKind} (ht : P.underlying t = some (.int q)) : Rd P t (fun z : Int => [.lit (.int q z)]) (fun z => (Lit.int q z).wf = true) := fun hd => by
  obtain ⟨z, rfl, _, wz⟩ := DataW.trod_int ht hd
  exact ⟨z, wz, by simp [Value.oneCell'], by simp [RepL, RepV]⟩
theorem rd_u64 (ht : P.underlying t = some (.int .u64)) : Rd P t (fun n : Nat => [ul n]) (fun n => n < 18446744073709551616) :=
  rd_map (rd_int ht) fun z wz => by
    have hw := wf_u64 wz
    refine ⟨z.toNat, by omega, ?_⟩
    simp only [ul]
    congr 3
    omega
theorem rd_u8 (ht : P.underlying t = some (.int .u8)) : Rd P t b1 (fun _ => True) :=
  rd_map (rd_int ht) fun z wz => by
    have hw := wf_u8 wz
    refine ⟨UInt8.ofNat z.toNat, trivial, ?_⟩
    simp only [b1, bv]
    congr 3
    rw [UInt8.toNat_ofNat']
    omega
theorem list_choice {Q : Nat → α → Prop} : ∀ {n : Nat}, (∀ i, i < n → ∃ a, Q i a) → ∃ l : List α, l.length = n ∧ ∀ i a, l[i]? = some a → Q i a
  | 0, _ => ⟨[], rfl, fun i a h => by simp at h⟩
  | n + 1, h => by
    obtain ⟨l, hl, hq⟩ := list_choice (n := n) fun i hi => h i (by omega)
    obtain ⟨a, ha⟩ := h n (by omega)
    refine ⟨l ++ [a], by simp [hl], fun i b hb => ?_⟩
    rw [List.getElem?_append] at hb
    split at hb
    · exact hq i b hb
    · have : i = n := by
        have := (List.getElem?_eq_some_iff.1 hb).1
        simp at this; omega
      subst this
      rw [hl, Nat.sub_self] at hb
      cases hb
      exact ha
theorem repRow_app {X : Nat → Prop} {β : List Base} {w : World} {b : Nat} : ∀ {ps qs : List PV} {off : Nat}, RepRow X β w b off ps → RepRow X β w b (off + ps.length) qs → RepRow X β w b off (ps ++ qs)
  | [], qs, off, _, h => by simpa using h
  | p :: ps, qs, off, h, h2 => by
    simp only [List.cons_append, RepRow] at h ⊢
    exact ⟨h.1, repRow_app h.2 (by rw [List.length_cons] at h2; rw [show off + 1 + ps.length = off + (ps.length + 1) by omega]; exact h2)⟩
theorem cells_at {W : World} {base b off : Nat} {k : Nat} {cs : List Value} (h : W.cells? base ⟨b, off, none⟩ k = some cs) : cs.length = k ∧ ∀ i v, cs[i]? = some v → W.cell? ⟨b, off + i, none⟩ = some v := by
  unfold World.cells? at h
  split at h
  · have hl := mapM_some_length h
    rw [List.length_range] at hl
    refine ⟨hl, fun i v hv => ?_⟩
    have hi : i < k := by have := (List.getElem?_eq_some_iff.1 hv).1; omega
    have := mapM_some_get h i i (by simp [hi])
    rw [hv] at this
    have ha : (Addr.mk b off none).add i = ⟨b, off + i, none⟩ := by
      unfold Addr.add
      split
      · rename_i h; subst h; rfl
      · rfl
    rw [ha] at this
    exact this
  · cases h
theorem rep_rows {X : Nat → Prop} {β : List Base} {w : World} {b : Nat} [h : Kd f k] : ∀ {l : List α} {off : Nat},
    (∀ i a, l[i]? = some a → ∃ cs : List Value, (∀ v ∈ cs, v.oneCell' = true) ∧ (∀ r v, cs[r]? = some v → w.cell? ⟨b, off + i * k + r, none⟩ = some v) ∧ RepL X β w (f a) cs) → RepRow X β w b off (rk f l)
  | [], off, _ => by simp [rk, RepRow]
  | a :: l, off, hq => by
    have e : rk f (a :: l) = f a ++ rk f l := rfl
    rw [e]
    obtain ⟨cs, h1, h2, h3⟩ := hq 0 a rfl
    refine repRow_app ?_ ?_
    · rw [RepRow.iff]
      intro i p hp
      have hl := RepL.length h3
      have hi : i < cs.length := by rw [hl]; exact (List.getElem?_eq_some_iff.1 hp).1
      have hv : cs[i]? = some cs[i] := by simp [hi]
      refine ⟨cs[i], ?_, h1 _ (List.getElem_mem hi), (RepL.iff.1 h3).2 i p _ hp hv⟩
      have := h2 i _ hv
      rwa [Nat.zero_mul, Nat.add_zero] at this
    · rw [h.len a]
      refine rep_rows fun i a' ha' => ?_
      obtain ⟨cs', g1, g2, g3⟩ := hq (i + 1) a' (by simpa using ha')
      refine ⟨cs', g1, fun r v hv => ?_, g3⟩
      have := g2 r v hv
      rw [Nat.succ_mul] at this
      rw [show off + k + i * k + r = off + (i * k + k) + r by omega]; exact this
theorem rd_slice [hK : Kd f k] (ht : P.underlying t = some (.slice e)) (hk : P.cellsOf e = k) (k0 : 0 < k) (h : Rd P e f ok) : Rd P t (fun l : List α => [roK f l]) (fun l => l.length ≤ maxLen ∧ ∀ a ∈ l, ok a) := by
  intro H enc W base sp held fuel cs x hd
  rcases DataW.trod_slice ht hd with ⟨rfl, _⟩ | ⟨a, len, cap, elems, rest, m, _, rfl, _, hb, hlc, hcm, hel, hi, _, _⟩
  · refine ⟨[], ⟨by simp, by simp⟩, by simp [Value.oneCell'], ?_⟩
    simp [RepL, RepV, roK, rk]
  · have hall : ∀ i, i < len → ∃ b, ok b ∧ ∃ cs : List Value, W.cells? base (a.add (i * k)) k = some cs ∧ (∀ v ∈ cs, v.oneCell' = true) ∧ RepL no [] W (f b) cs := by
      intro i hi2
      have h1 := hi i hi2
      have h2 : elems[i]? = some elems[i] := by simp [hel, hi2]
      rw [h2, Option.bind_eq_some_iff] at h1
      obtain ⟨cs, h3, h4⟩ := h1
      obtain ⟨b, h5, h6, h7⟩ := h h4
      rw [hk] at h3
      exact ⟨b, h5, cs, h3, h6, h7⟩
    obtain ⟨l, hl, hq⟩ := list_choice hall
    refine ⟨l, ⟨by omega, fun b hb => by obtain ⟨i, hi⟩ := List.getElem?_of_mem hb; exact (hq i b hi).1⟩, by simp [Value.oneCell'], ?_⟩
    simp only [RepL, RepV, roK]
    refine ⟨_, _, rfl, ⟨some a, cap, by rw [hl], by omega, ?_⟩, rfl⟩
    by_cases h0 : len = 0
    · left
      have : l = [] := List.length_eq_zero_iff.1 (by omega)
      subst this; rfl
    · right
      obtain ⟨b, off, sp2⟩ := a
      have hsp : sp2 = none := by
        have hl0 : l[0]? = some (l[0]'(by omega)) := List.getElem?_eq_getElem (by omega)
        obtain ⟨_, cs, h1, _, h3⟩ := hq 0 _ hl0
        rw [Nat.zero_mul] at h1
        have ha : (Addr.mk b off sp2).add 0 = ⟨b, off, sp2⟩ := by unfold Addr.add; rw [if_pos rfl]
        rw [ha] at h1
        unfold World.cells? at h1
        by_cases hbb : base ≤ b
        · rw [if_pos hbb] at h1
          have hlen := mapM_some_length h1
          rw [List.length_range] at hlen
          have := mapM_some_get h1 0 0 (by simp [k0])
          have hc0 : cs[0]? = some cs[0] := by simp [hlen, k0]
          rw [ha, hc0] at this
          cases sp2 with
          | none => rfl
          | some s =>
            simp only [World.cell?] at this
            split at this <;> simp at this
        · rw [if_neg hbb] at h1; cases h1
      subst hsp
      refine ⟨b, off, rfl, id, fun ⟨i, y, hb⟩ => by simp at hb, rep_rows fun i a' ha' => ?_⟩
      obtain ⟨_, cs, h1, h2, h3⟩ := hq i a' ha'
      have ha : (Addr.mk b off none).add (i * k) = ⟨b, off + i * k, none⟩ := by
        unfold Addr.add
        split
        · rename_i h; rw [h]; rfl
        · rfl
      rw [ha] at h1
      exact ⟨cs, h2, (cells_at h1).2, h3⟩
theorem repL_app {X : Nat → Prop} {β : List Base} {w : World} : ∀ {ps qs : List PV} {n : Nat} {cs : List Value}, ps.length = n → RepL X β w ps (cs.take n) → RepL X β w qs (cs.drop n) → RepL X β w (ps ++ qs) cs := by
  intro ps qs n cs hn h1 h2
  have := repL_append h1 h2
  rwa [List.take_append_drop] at this
theorem repL_flat {X : Nat → Prop} {β : List Base} {w : World} [h : Kd f k] : ∀ {l : List α} {cs : List Value}, cs.length = l.length * k → (∀ i a, l[i]? = some a → RepL X β w (f a) ((cs.drop (i * k)).take k)) → RepL X β w (rk f l) cs
  | [], cs, hc, _ => by
    have : cs = [] := List.length_eq_zero_iff.1 (by simpa using hc)
    subst this; simp [rk, RepL]
  | a :: l, cs, hc, hq => by
    have e : rk f (a :: l) = f a ++ rk f l := rfl
    rw [e]
    rw [List.length_cons, Nat.succ_mul] at hc
    refine repL_app (h.len a) (by simpa using hq 0 a rfl) (repL_flat (by rw [List.length_drop]; omega) fun i a' ha' => ?_)
    have := hq (i + 1) a' (by simpa using ha')
    rw [List.drop_drop, show k + i * k = (i + 1) * k by rw [Nat.succ_mul, Nat.add_comm]]
    exact this
theorem ones_of {cs : List Value} {n k : Nat} (hc : cs.length = n * k) (h : ∀ i, i < n → ∀ v ∈ (cs.drop (i * k)).take k, v.oneCell' = true) : ∀ v ∈ cs, v.oneCell' = true := by
  intro v hv
  obtain ⟨j, hj, rfl⟩ := List.getElem_of_mem hv
  have k0 : 0 < k := by
    rcases Nat.eq_zero_or_pos k with rfl | h
    · omega
    · exact h
  have hjn : j / k < n := (Nat.div_lt_iff_lt_mul k0).2 (by omega)
  refine h (j / k) hjn _ ?_
  have e : j / k * k + j % k = j := Nat.div_add_mod' j k
  have : ((cs.drop (j / k * k)).take k)[j % k]? = some cs[j] := by
    rw [List.getElem?_take, if_pos (Nat.mod_lt _ k0), List.getElem?_drop, e]
    simp [hj]
  exact List.mem_of_getElem? this
theorem rd_arr [hK : Kd f k] (ht : P.underlying t = some (.array n e)) (hk : P.cellsOf e = k) (hct : P.cellsOf t = n * k) (h : Rd P e f ok) : Rd P t (fun l : List α => rk f l) (fun l => l.length = n ∧ ∀ a ∈ l, ok a) := by
  intro H enc W base sp held fuel cs x hd
  obtain ⟨xs, m, _, _, hlen, hxs, hi⟩ := DataW.trod_array ht hd
  rw [hct] at hlen
  have hall : ∀ i, i < n → ∃ b, ok b ∧ (∀ v ∈ (cs.drop (i * k)).take k, v.oneCell' = true) ∧ RepL no [] W (f b) ((cs.drop (i * k)).take k) := by
    intro i hin
    have h1 := hi i hin
    have hx : xs[i]? = some xs[i] := by simp [hxs, hin]
    rw [hx, hk] at h1
    exact h h1
  obtain ⟨l, hl, hq⟩ := list_choice hall
  refine ⟨l, ⟨hl, fun b hb => by obtain ⟨i, hi⟩ := List.getElem?_of_mem hb; exact (hq i b hi).1⟩, ones_of hlen fun i hi => ?_, repL_flat (by rw [hlen, hl]) fun i a ha => (hq i a ha).2.2⟩
  exact (hq i _ (by simp [hl, hi] : l[i]? = some l[i])).2.1
def RdF (P : Program) (n : Nat) (fs : List Field) (o : Nat) {α : Type} (f : α → List PV) (ok : α → Prop) : Prop :=
  ∀ {H : Type} {enc : TypeId × Value → H} {W : World} {base : Nat} {sp : Nat → Bool} {held : Bool} {fuel : Nat} {cs : List Value}, cs.length = n →
    (∀ fd ∈ fs, ∃ x : DataW H × List MemPlace, DataW.trod enc P W base sp held fuel fd.type ((cs.drop fd.offset).take (P.cellsOf fd.type)) = some x) →
    ∃ a, ok a ∧ (∀ v ∈ cs.drop o, v.oneCell' = true) ∧ RepL no [] W (f a) (cs.drop o)
theorem rdf_nil {n o : Nat} (h : n ≤ o) : RdF P n [] o (fun _ : Unit => []) (fun _ => True) := by
  intro H enc W base sp held fuel cs hc _
  rw [List.drop_eq_nil_of_le (by omega)]
  exact ⟨(), trivial, by simp, by simp [RepL]⟩
theorem rdf_cons {n o k : Nat} {fd : Field} {fs : List Field} {e : TypeId} (he : fd.type = e) (ho : fd.offset = o) (hk : P.cellsOf e = k) (hn : o + k ≤ n) (h : Rd P e f ok) (hr : RdF P n fs (o + k) g ok') :
    RdF P n (fd :: fs) o (fun a : α × β => f a.1 ++ g a.2) (fun a => ok a.1 ∧ ok' a.2) := by
  intro H enc W base sp held fuel cs hc hd
  obtain ⟨x, hx⟩ := hd fd (by simp)
  rw [he, ho, hk] at hx
  obtain ⟨a, h1, h2, h3⟩ := h hx
  obtain ⟨b, h4, h5, h6⟩ := hr hc fun fd' hfd => hd fd' (by simp [hfd])
  have hl : ((cs.drop o).take k).length = k := by rw [List.length_take, List.length_drop]; omega
  have e1 : cs.drop (o + k) = (cs.drop o).drop k := by rw [List.drop_drop]
  rw [e1] at h5 h6
  refine ⟨(a, b), ⟨h1, h4⟩, fun v hv => ?_, repL_app (n := k) ?_ h3 h6⟩
  · rw [← List.take_append_drop k (cs.drop o)] at hv
    rcases List.mem_append.1 hv with hv | hv
    · exact h2 v hv
    · exact h5 v hv
  · rw [← RepL.length h3, hl]
theorem rd_struct {fs : Array Field} (ht : P.underlying t = some (.struct fs)) {n : Nat} (hct : P.cellsOf t = n) (h : RdF P n fs.toList 0 f ok) : Rd P t f ok := by
  intro H enc W base sp held fuel cs x hd
  obtain ⟨xs, m, _, _, hlen, hxs, hi⟩ := DataW.trod_struct ht hd
  rw [hct] at hlen
  have := h (enc := enc) (W := W) (base := base) (sp := sp) (held := held) (fuel := m) hlen fun fd hfd => by
    obtain ⟨i, hi2⟩ := List.getElem?_of_mem hfd
    have h1 := hi i fd (by simpa using hi2)
    have hlt : i < xs.length := by
      have := (List.getElem?_eq_some_iff.1 hi2).1
      simp at this; omega
    exact ⟨xs[i], by rw [h1]; simp [hlt]⟩
  simpa using this
theorem rd_one {w : World} {g : α → PV} (h : Rd P t (fun a => [g a]) ok) {H : Type} {enc : TypeId × Value → H} {sp : Nat → Bool} {held : Bool} {base : Nat} {v : Value} {d : DataW H} {ps : List MemPlace} (hv : v.cells.toList = [v])
    (hd : DataW.Trod enc P w base sp held t v d ps) : ∃ a, ok a ∧ RepV no [] w (g a) v := by
  obtain ⟨fuel, hf⟩ := hd
  rw [hv] at hf
  obtain ⟨a, h1, _, h3⟩ := h hf
  simp only [RepL] at h3
  obtain ⟨u, r, hu, h4, _⟩ := h3
  cases hu
  exact ⟨a, h1, h4⟩
theorem rd_agg {w : World} (h : Rd P t f ok) {H : Type} {enc : TypeId × Value → H} {sp : Nat → Bool} {held : Bool} {base : Nat} {v : Value} {d : DataW H} {ps : List MemPlace} {cs : Array Value} (hv : v = .agg cs)
    (hd : DataW.Trod enc P w base sp held t v d ps) : ∃ a, ok a ∧ RepV no [] w (.agg (f a)) v := by
  obtain ⟨fuel, hf⟩ := hd
  subst hv
  obtain ⟨a, h1, _, h3⟩ := h hf
  exact ⟨a, h1, by simp only [RepV]; exact ⟨cs.toList, by simp, h3⟩⟩
end
end Go.Ab
namespace Go.Ab
open Go Go.RowKit
set_option linter.unusedVariables false
set_option linter.unusedSimpArgs false
set_option linter.unusedVariables false
variable {P : Program} {t e : TypeId}
def w1 (n : Nat) : List PV := [ul n]
instance : Kd w1 1 := ⟨fun _ => rfl, fun _ => rfl⟩
theorem rd_w1 (ht : P.underlying t = some (.int .u64)) : Rd P t w1 (fun n => n < 18446744073709551616) := rd_u64 ht
theorem rd_u256 (ht : P.underlying t = some (.array 4 e)) (he : P.underlying e = some (.int .u64)) (hc : P.cellsOf e = 1) (hct : P.cellsOf t = 4) : Rd P t (cl 4) (fun n => n < 2 ^ 256) :=
  rd_map (rd_arr (n := 4) ht hc hct (rd_w1 he)) fun l hl => by
    obtain ⟨h4, ha⟩ := hl
    match l, h4 with
    | [a, b, c, d], _ =>
      have h1 := ha a (by simp)
      have h2 := ha b (by simp)
      have h3 := ha c (by simp)
      have h5 := ha d (by simp)
      refine ⟨a + b * 2 ^ 64 + c * 2 ^ 128 + d * 2 ^ 192, by omega, ?_⟩
      rw [cl4]
      simp only [rk, w1, List.flatMap_cons, List.flatMap_nil, List.cons_append, List.nil_append, List.cons.injEq, and_true]
      exact ⟨ul_eq (by omega), ul_eq (by omega), ul_eq (by omega), ul_eq (by omega)⟩
theorem rd_bytes (ht : P.underlying t = some (.slice e)) (he : P.underlying e = some (.int .u8)) (hc : P.cellsOf e = 1) : Rd P t (fun l : List UInt8 => [roK b1 l]) (fun l => l.length ≤ maxLen) :=
  rd_map (rd_slice ht hc (by decide) (rd_u8 he)) fun l h => ⟨l, h.1, rfl⟩
theorem rd_two {f0 f1 : Field} {e : TypeId} (ht : P.underlying t = some (.struct #[f0, f1])) (hct : P.cellsOf t = 8) (h0 : f0.type = e) (h1 : f1.type = e) (o0 : f0.offset = 0) (o1 : f1.offset = 4) (hk : P.cellsOf e = 4) (h : Rd P e (cl 4) (fun n => n < 2 ^ 256)) :
    Rd P t (fun a : Nat × Nat => cl 4 a.1 ++ cl 4 a.2) (fun a => a.1 < 2 ^ 256 ∧ a.2 < 2 ^ 256) :=
  rd_map (rd_struct ht hct (rdf_cons (k := 4) h0 o0 hk (by decide) h (rdf_cons (k := 4) h1 o1 hk (by decide) h (rdf_nil (by decide))))) fun a h => ⟨(a.1, a.2.1), ⟨h.1, h.2.1⟩, by simp⟩
end Go.Ab
