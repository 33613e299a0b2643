import Derived.Test.YtmnkapmcclhiiaaM9
import Derived.Test.YtmnkapmcclhiiaaM8
import Derived.OpenShut
import Derived.Below
import Derived.ChangeShapes
namespace Go.Ab
set_option maxRecDepth 8000
theorem pPl : pP < 2 ^ 256 := by rw [pPv]; decide
theorem qPl : qP < 2 ^ 256 := by rw [qPv]; decide
theorem pP0 : 0 < pP := by rw [pPv]; decide
theorem qP0 : 0 < qP := by rw [qPv]; decide
theorem r0q (x : Nat) : rem0 x qP = x % qP := rem0_pos (Nat.pos_iff_ne_zero.1 qP0) x
theorem pP_half : pP / 2 = qP := by rw [pPv, qPv]
def gx (a e : Nat) : Nat := a ^ e % pP
theorem gx_eq (a e : Nat) : gx a e = a ^ e % pP := rfl
theorem gx_lt (a e : Nat) : gx a e < pP := Nat.mod_lt _ pP0
attribute [irreducible] gx
def mb (a : Nat) : Bool := decide (a ≠ 0) && decide (a < pP) && decide (gx a qP = 1)
theorem mb_iff (a : Nat) : mb a = true ↔ mem a := by
  unfold mb mem
  rw [gx_eq]
  simp only [Bool.and_eq_true, decide_eq_true_eq, Nat.pos_iff_ne_zero, and_assoc]
theorem mb_zero {a : Nat} (h : a = 0) : mb a = false := by unfold mb; rw [h]; rfl
theorem mb_big {a : Nat} (h : pP ≤ a) : mb a = false := by
  unfold mb
  rw [decide_eq_false (Nat.not_lt.2 h), Bool.and_false, Bool.false_and]
attribute [irreducible] mb
theorem gx4q : gx 4 qP = 1 := by rw [gx_eq]; exact four_q
theorem mb_lt {a : Nat} (h : a < pP) (hq : gx a qP = 1) : mb a = true := (mb_iff a).2 ((mem_iff h).2 (gx_eq a qP ▸ hq))
theorem mb_lo {a : Nat} (h : a < pP) : mb a = decide (gx a qP = 1) := by
  have e : mb a = true ↔ gx a qP = 1 := by rw [mb_iff, gx_eq]; exact mem_iff h
  by_cases hg : gx a qP = 1
  · rw [e.2 hg, decide_eq_true hg]
  · rw [decide_eq_false hg]
    exact Bool.eq_false_iff.2 fun hh => hg (e.1 hh)
theorem mb4 : mb 4 = true := mb_lt (by rw [pPv]; decide) gx4q
theorem mb0 : mb 0 = false := mb_zero rfl
theorem fold_hi {h l : Nat} (lh : h < 2 ^ 256) (ll : l < 2 ^ 256) : (h * 36113 + l) / 2 ^ 256 < 2 ^ 256 := by omega
theorem fold_le {h l : Nat} (h0 : ¬ h = 0) : (h * 36113 + l) / 2 ^ 256 * 2 ^ 256 + (h * 36113 + l) % 2 ^ 256 < h * 2 ^ 256 + l := by omega
theorem fold_mod (h l : Nat) : ((h * 36113 + l) / 2 ^ 256 * 2 ^ 256 + (h * 36113 + l) % 2 ^ 256) % pP = (h * 2 ^ 256 + l) % pP := by
  have e : h * 2 ^ 256 + l = (h * 36113 + l) + pP * h := by rw [pPv]; omega
  rw [Nat.div_add_mod', e, Nat.add_mul_mod_self_left]
theorem fold_start {a b : Nat} : (a * b / 2 ^ 256 * 2 ^ 256 + a * b % 2 ^ 256) % pP = a * b % pP := by rw [Nat.div_add_mod']
theorem below_lt {a : Nat} (h : a < pP) : a = a % pP := (Nat.mod_eq_of_lt h).symm
theorem below_ge {a : Nat} (l : a < 2 ^ 256) (h : pP ≤ a) : a - pP = a % pP := by
  have h2 : a - pP < pP := by have := pPv; omega
  rw [Nat.mod_eq_sub_mod h, Nat.mod_eq_of_lt h2]
def PInv (a e i r b : Nat) : Prop := r < pP ∧ b < 2 ^ 256 ∧ r * b ^ (e / 2 ^ i) % pP = gx a e
theorem pin_start {a e : Nat} (la : a < 2 ^ 256) : PInv a e 0 1 a := ⟨by rw [pPv]; decide, la, by rw [Nat.pow_zero, Nat.div_one, Nat.one_mul, gx_eq]⟩
theorem pin_done {a e i r b : Nat} (h : PInv a e i r b) (hi : e < 2 ^ i) : r = gx a e := by
  have := h.2.2
  rwa [Nat.div_eq_of_lt hi, Nat.pow_zero, Nat.mul_one, Nat.mod_eq_of_lt h.1] at this
theorem pin_bit {e i : Nat} (d : Nat) (h : e / 2 ^ i % 2 = d) : e / 2 ^ i = 2 * (e / 2 ^ (i + 1)) + d := by
  rw [Nat.pow_succ, ← Nat.div_div_eq_div_mul]; omega
theorem pin_sq (b n : Nat) : (b * b % pP) ^ n % pP = b ^ (2 * n) % pP := by
  rw [← Nat.pow_mod, Nat.pow_mul, Nat.pow_two]
theorem pin0 {a e i r b : Nat} (h : PInv a e i r b) (hb : e.testBit i = false) : PInv a e (i + 1) r (b * b % pP) := by
  have h0 : e / 2 ^ i % 2 = 0 := by
    rw [Nat.testBit_eq_decide_div_mod_eq] at hb
    have := of_decide_eq_false hb
    omega
  refine ⟨h.1, Nat.lt_trans (Nat.mod_lt _ pP0) pPl, ?_⟩
  rw [← h.2.2, Nat.mul_mod, pin_sq, ← Nat.mul_mod, ← show e / 2 ^ i = 2 * (e / 2 ^ (i + 1)) from pin_bit 0 h0]
theorem pin1 {a e i r b : Nat} (h : PInv a e i r b) (hb : e.testBit i = true) : PInv a e (i + 1) (r * b % pP) (b * b % pP) := by
  have h0 : e / 2 ^ i % 2 = 1 := by
    rw [Nat.testBit_eq_decide_div_mod_eq] at hb
    exact of_decide_eq_true hb
  refine ⟨Nat.mod_lt _ pP0, Nat.lt_trans (Nat.mod_lt _ pP0) pPl, ?_⟩
  rw [← h.2.2, Nat.mul_mod, pin_sq, Nat.mod_mod, ← Nat.mul_mod, Nat.mul_assoc, Nat.mul_comm b, ← show b ^ (2 * (e / 2 ^ (i + 1)) + 1) = b ^ (2 * (e / 2 ^ (i + 1))) * b from Nat.pow_succ .., ← show e / 2 ^ i = 2 * (e / 2 ^ (i + 1)) + 1 from pin_bit 1 h0]
theorem gmul_end {h l z : Nat} (hh : h = 0) (hi : (h * 2 ^ 256 + l) % pP = z) : u4 (l % pP) = u4 z := by
  subst hh
  rw [Nat.zero_mul, Nat.zero_add] at hi
  rw [hi]
theorem gexp_end {a e i r b : Nat} (h : PInv a e i r b) (h1 : ¬ i < blen e) : u4 r = u4 (gx a e) := by
  rw [pin_done h (Nat.lt_of_lt_of_le (blen_lt e) (Nat.pow_le_pow_right (by decide) (by omega)))]
theorem half_e : u4 (pP / 2 ^ 1) = u4 qP := congrArg u4 pP_half
theorem neg_e (a : Nat) : u4 (rem0 (0 + (qP - a % qP)) qP) = u4 ((qP - a % qP) % qP) := by rw [Nat.zero_add, r0q]
theorem bit_b {e i : Nat} : bn .eql (ul (e / 2 ^ (64 * (i / 64)) % 2 ^ 64 / 2 ^ (i % 64) % 2)) (ul 1) = lB (Nat.testBit e i) := by
  rw [eql_u (Nat.lt_of_lt_of_le (Nat.mod_lt _ (by decide)) (by decide)) (by decide)]
  exact congrArg lB (by rw [← bit_eq])
end Go.Ab
namespace Go.Ab
open Go Go.RowKit
theorem callR_to {P : Program} {g : FuncId} {xs : List PV} {r r' : PV} (h : r = r') (c : CallR P g xs r) : CallR P g xs r' := h ▸ c
theorem eql_4s (a : Nat) : lB (intsOf (cl 4 a) == intsOf (cl 4 a)) = lB true := by rw [beq_self_eq_true]
theorem eql_4e {a b : Nat} (h : a = b) : lB (intsOf (cl 4 a) == intsOf (cl 4 b)) = lB true := by rw [h, beq_self_eq_true]
end Go.Ab
namespace Go.Ab
open Go Go.RowKit
set_option linter.unusedVariables false
set_option linter.unusedSimpArgs false
def no : Nat → Prop := fun _ => False
theorem wf_u64 {n : Int} (h : (Lit.int .u64 n).wf = true) : 0 ≤ n ∧ n < 18446744073709551616 := by
  simp only [Lit.wf, Bool.and_eq_true, decide_eq_true_eq] at h
  have h1 : 0 ≤ n := h.1
  have h2 : n ≤ 18446744073709551615 := h.2
  omega
theorem wf_u8 {n : Int} (h : (Lit.int .u8 n).wf = true) : 0 ≤ n ∧ n < 256 := by
  simp only [Lit.wf, Bool.and_eq_true, decide_eq_true_eq] at h
  have h1 : 0 ≤ n := h.1
  have h2 : n ≤ 255 := h.2
  omega
theorem law_run {P : Program} {f : FuncId} {S : List PV → Prop × PV} (h : PureOk P f S) {args : List PV} {vs : List Value} {w : World} (hp : (S args).1) (hv : (S args).2 = .lit (.bool true)) (hc : closedL args = true) (hr : RepL no [] w args vs) (hG : Globs no [] w) :
    Calls P f vs.toArray w fun e w' => e = .returned (.bool true) ∧ Below w.heap.size w w' := by
  refine (h.run args hp hc no w vs (fun b hb => hb.elim) hr hG).mono fun e w' ⟨v, he, hg, hrr⟩ => ?_
  rw [hv] at hrr
  have hv' : v = .bool true := by
    have := hrr.2
    simpa [RepV] using this
  subst hv'
  exact ⟨he, ⟨hg.os, hg.tape, hg.output, hg.size, fun k hk => hg.block k hk (fun ⟨i, y, hb⟩ => by simp at hb)⟩⟩
section
variable {H : Type} {enc : TypeId × Value → H} {P : Program} {t e : TypeId} {n : Nat} {q : IntKind} {W : World} {base : Nat} {sp : Nat → Bool} {held : Bool}
theorem open_nums (ht : P.underlying t = some (.array n e)) (hc : P.cellsOf e = 1) (hct : P.cellsOf t = n) (he : P.underlying e = some (.int q)) {r : Reach} {b0 : Nat} {v : Value} {d : DataW H} {ps : List MemPlace}
    (hval : Value.okWide P W r b0 t v) (hd : DataW.Trod enc P W base sp held t v d ps) :
    ∃ zs : List Int, zs.length = n ∧ v = .agg (zs.map (Value.int q)).toArray ∧ ∀ z ∈ zs, (Lit.int q z).wf = true := by
  simp only [Value.okWide, ht] at hval
  obtain ⟨cs, rfl, h2, _⟩ := hval
  rw [hct] at h2
  obtain ⟨fuel, hf⟩ := hd
  obtain ⟨xs, m, _, _, hlen, hxs, hi⟩ := DataW.trod_array ht hf
  have hex : ∀ i, i < n → ∃ z, cs[i]? = some (.int q z) ∧ (Lit.int q z).wf = true := by
    intro i hin
    have := hi i hin
    rw [hc, Nat.mul_one] at this
    have hx : xs[i]? = some xs[i] := by simp [hxs, hin]
    rw [hx] at this
    obtain ⟨z, e1, _, wz⟩ := DataW.trod_int he this
    refine ⟨z, ?_, wz⟩
    have e2 := congrArg List.head? e1
    simp only [Value.cells, List.head?_take, List.head?_drop, List.head?_cons] at e2
    simpa using e2
  have hall : ∃ zs : List Int, cs.toList = zs.map (Value.int q) ∧ ∀ z ∈ zs, (Lit.int q z).wf = true := by
    have : ∀ x ∈ cs.toList, ∃ z, x = .int q z ∧ (Lit.int q z).wf = true := by
      intro x hx
      obtain ⟨i, hi2⟩ := List.getElem?_of_mem hx
      have hlt : i < n := by
        have := (List.getElem?_eq_some_iff.1 hi2).1
        simpa [h2] using this
      obtain ⟨z, hz, wz⟩ := hex i hlt
      refine ⟨z, ?_, wz⟩
      rw [Array.getElem?_toList, hz] at hi2
      exact (Option.some.inj hi2).symm
    revert this
    generalize cs.toList = l
    intro h
    induction l with
    | nil => exact ⟨[], rfl, by simp⟩
    | cons a l ih =>
      obtain ⟨zs, e1, e2⟩ := ih (fun x hx => h x (by simp [hx]))
      obtain ⟨z, rfl, wz⟩ := h a (by simp)
      exact ⟨z :: zs, by rw [e1]; rfl, by simpa using ⟨wz, e2⟩⟩
  obtain ⟨zs, e1, e2⟩ := hall
  refine ⟨zs, ?_, ?_, e2⟩
  · have := congrArg List.length e1
    simpa [h2] using this.symm
  · rw [← e1]
end
theorem u4_rep {w : World} {zs : List Int} (hl : zs.length = 4) (hw : ∀ z ∈ zs, (Lit.int .u64 z).wf = true) :
    ∃ n : Nat, n < 2 ^ 256 ∧ RepV no [] w (u4 n) (.agg (zs.map (Value.int .u64)).toArray) := by
  match zs, hl with
  | [a, b, c, d], _ =>
    have ha := wf_u64 (hw a (by simp))
    have hb := wf_u64 (hw b (by simp))
    have hc := wf_u64 (hw c (by simp))
    have hd := wf_u64 (hw d (by simp))
    refine ⟨a.toNat + b.toNat * 18446744073709551616 + c.toNat * 340282366920938463463374607431768211456 + d.toNat * 6277101735386680763835789423207666416102355444464034512896, by omega, ?_⟩
    simp only [u4, RepV]
    refine ⟨_, rfl, ?_⟩
    rw [cl4]
    simp only [RepL, ul, RepV, List.map_cons, List.map_nil]
    refine ⟨_, _, rfl, ?_, _, _, rfl, ?_, _, _, rfl, ?_, _, _, rfl, ?_, rfl⟩ <;> congr 1 <;> omega
def byK (k n : Nat) : List UInt8 := (List.range k).map fun j => UInt8.ofNat (n / 2 ^ (8 * (k - 1 - j)))
theorem byK_snoc (k v : Nat) (b : UInt8) : byK (k + 1) (v * 256 + b.toNat) = byK k v ++ [b] := by
  have hb : b.toNat < 256 := b.toNat_lt
  have e8 : (2 : Nat) ^ 8 = 256 := by decide
  unfold byK
  rw [List.range_succ, List.map_append]
  congr 1
  · apply List.map_congr_left
    intro j hj
    have hj' : j < k := by simpa using hj
    have e : 8 * (k + 1 - 1 - j) = 8 + 8 * (k - 1 - j) := by omega
    rw [e, Nat.pow_add, ← Nat.div_div_eq_div_mul, e8]
    congr 2
    omega
  · simp only [List.map_cons, List.map_nil, Nat.add_sub_cancel, Nat.sub_self, Nat.mul_zero, Nat.pow_zero, Nat.div_one]
    congr 1
    apply UInt8.toNat_inj.1
    rw [UInt8.toNat_ofNat']
    omega
theorem byK_all0 : ∀ (n : Nat) (bs : List UInt8), bs.length = n → ∃ v, v < 2 ^ (8 * bs.length) ∧ byK bs.length v = bs
  | 0, bs, h => by
    have : bs = [] := List.length_eq_zero_iff.1 h
    subst this
    exact ⟨0, by simp, rfl⟩
  | n + 1, bs, h => by
    have hne : bs ≠ [] := by intro e; subst e; simp at h
    have e0 : bs.dropLast ++ [bs.getLast hne] = bs := List.dropLast_concat_getLast hne
    generalize bs.getLast hne = b at e0
    generalize hd : bs.dropLast = ds at e0
    subst e0
    have hl : ds.length = n := by simpa using h
    obtain ⟨v, hv, e⟩ := byK_all0 n ds hl
    have hb : b.toNat < 256 := b.toNat_lt
    refine ⟨v * 256 + b.toNat, ?_, ?_⟩
    · rw [List.length_append, List.length_singleton, Nat.mul_add, Nat.mul_one, Nat.pow_add, show (2 : Nat) ^ 8 = 256 by decide]
      omega
    · rw [List.length_append, List.length_singleton, byK_snoc, e]
theorem byK_all (bs : List UInt8) : ∃ v, v < 2 ^ (8 * bs.length) ∧ byK bs.length v = bs := byK_all0 _ bs rfl
theorem h32_rep {w : World} {zs : List Int} (hlen : zs.length = 32) (hw : ∀ z ∈ zs, (Lit.int .u8 z).wf = true) :
    ∃ n : Nat, n < 115792089237316195423570985008687907853269984665640564039457584007913129639936 ∧ RepV no [] w (h32 n) (.agg (zs.map (Value.int .u8)).toArray) := by
  obtain ⟨v, hv, e⟩ := byK_all (zs.map fun z => UInt8.ofNat z.toNat)
  rw [List.length_map, hlen] at hv e
  have e32 : (2 : Nat) ^ (8 * 32) = 115792089237316195423570985008687907853269984665640564039457584007913129639936 := by decide
  refine ⟨v, by rw [← e32]; exact hv, ?_⟩
  have hb : by32 v = zs.map fun z => UInt8.ofNat z.toNat := e
  simp only [h32, hl, hb, RepV]
  refine ⟨_, rfl, ?_⟩
  clear e hb hv hlen
  induction zs with
  | nil => simp only [List.map_nil, RepL]
  | cons z zs ih =>
    have hz := wf_u8 (hw z (by simp))
    simp only [List.map_cons, RepL]
    refine ⟨_, _, rfl, ?_, ih fun z hz => hw z (by simp [hz])⟩
    simp only [bv, RepV]
    congr 1
    rw [UInt8.toNat_ofNat']
    omega
theorem globs0 {W : World} : Globs no [] W := by
  intro g
  show RepV no [] W (.rptr []) _
  simp only [RepV]
  exact ⟨_, _, rfl, .inl trivial⟩
end Go.Ab
