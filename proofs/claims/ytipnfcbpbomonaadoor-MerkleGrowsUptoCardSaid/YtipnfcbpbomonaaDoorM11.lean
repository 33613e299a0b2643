import Derived.Test.YtipnfcbpbomonaaDoorM10
import Derived.OpenShut
import Derived.Below
import Derived.ChangeShapes
namespace Go.Ab
open Go Go.RowKit
set_option linter.unusedVariables false
set_option linter.unusedSimpArgs false
set_option linter.unusedVariables false
def rk {α : Type} (f : α → List PV) (b : List α) : List PV := b.flatMap f
def roK {α : Type} (f : α → List PV) (b : List α) : PV := .ro b.length (rk f b)
def newK {α : Type} (k : Nat) (f : α → List PV) (b : List α) : PV := .new b.length k (rk f b)
class Kd {α : Type} (f : α → List PV) (k : outParam Nat) : Prop where
  len : ∀ a, (f a).length = k
  clo : ∀ a, closedL (f a) = true
section
variable {α : Type} {f : α → List PV} {k : Nat} [h : Kd f k] {b c : List α}
theorem len_rk : (rk f b).length = b.length * k := by
  induction b with
  | nil => simp [rk]
  | cons a b ih => simp only [rk, List.flatMap_cons, List.length_append, h.len, List.length_cons] at *; rw [ih, Nat.succ_mul, Nat.add_comm]
theorem closedL_app {a b : List PV} (ha : closedL a = true) (hb : closedL b = true) : closedL (a ++ b) = true := by
  rw [closedL_iff] at *
  intro p hp
  rcases List.mem_append.1 hp with hp | hp
  · exact ha p hp
  · exact hb p hp
theorem closedL_rk {α : Type} {f : α → List PV} {k : Nat} [h : Kd f k] {b : List α} : closedL (rk f b) = true := by
  induction b with
  | nil => rfl
  | cons a b ih => exact closedL_app (h.clo a) ih
theorem closed_roK {α : Type} {f : α → List PV} {k : Nat} [h : Kd f k] {b : List α} : closed (roK f b) = true := closedL_rk
theorem rk_drop (i : Nat) : (rk f b).drop (i * k) = rk f (b.drop i) := by
  induction i generalizing b with
  | zero => simp
  | succ i ih =>
    cases b with
    | nil => simp [rk]
    | cons a b =>
      have e : (i + 1) * k = k + i * k := by rw [Nat.succ_mul, Nat.add_comm]
      rw [e, ← List.drop_drop]
      have : (rk f (a :: b)).drop k = rk f b := by
        simp only [rk, List.flatMap_cons]
        rw [← h.len a, List.drop_left]
      rw [this, ih]; rfl
theorem rk_take (i : Nat) : (rk f b).take (i * k) = rk f (b.take i) := by
  induction i generalizing b with
  | zero => simp [rk]
  | succ i ih =>
    cases b with
    | nil => simp [rk]
    | cons a b =>
      have e : (i + 1) * k = k + i * k := by rw [Nat.succ_mul, Nat.add_comm]
      simp only [rk, List.flatMap_cons, List.take_succ_cons]
      rw [e, ← h.len a, List.take_length_add_append, h.len a]
      exact congrArg _ ih
theorem rk_app : rk f b ++ rk f c = rk f (b ++ c) := (List.flatMap_append).symm
theorem rk_get {i : Nat} (hi : i < b.length) (d : α) : ((rk f b).drop (i * k)).take k = f (b.getD i d) := by
  rw [rk_drop]
  have e : b.drop i = b.getD i d :: b.drop (i + 1) := by
    rw [List.getD_eq_getElem?_getD, List.getElem?_eq_getElem hi]
    exact List.drop_eq_getElem_cons hi
  rw [e]
  simp only [rk, List.flatMap_cons]
  rw [← h.len (b.getD i d), List.take_left]
theorem rk_len1 {α : Type} {g : α → PV} {b : List α} : rk (fun a => [g a]) b = b.map g := by
  induction b with
  | nil => rfl
  | cons a b ih => simp only [rk, List.flatMap_cons, List.map_cons] at *; rw [ih]; rfl
def slP (l h n len sz : Nat) : Prop := 0 ≤ (l : Int) ∧ (l : Int) ≤ (h : Int) ∧ (h : Int) ≤ (n : Int) ∧ len = n * sz
theorem slP_ok {l m : Nat} (h1 : l ≤ m) (h2 : m ≤ b.length) : slP l m b.length (rk f b).length k :=
  ⟨by omega, by omega, by omega, len_rk⟩
theorem sl_eq {l m : Nat} (h1 : l ≤ m) (h2 : m ≤ b.length) : PV.ro ((m : Int) - (l : Int)).toNat (((rk f b).drop ((l : Int).toNat * k)).take (((m : Int) - (l : Int)).toNat * k)) = roK f ((b.drop l).take (m - l)) := by
  have e : ((m : Int) - (l : Int)).toNat = m - l := by omega
  rw [e, Int.toNat_natCast, rk_drop, rk_take, roK]
  congr 1
  simp; omega
theorem sl_lo {l : Nat} (h1 : l ≤ b.length) : PV.ro ((b.length : Int) - (l : Int)).toNat (((rk f b).drop ((l : Int).toNat * k)).take (((b.length : Int) - (l : Int)).toNat * k)) = roK f (b.drop l) := by
  rw [sl_eq h1 (Nat.le_refl _), List.take_of_length_le (by simp)]
theorem sl_hi {m : Nat} (h1 : m ≤ b.length) : PV.ro ((m : Int) - 0).toNat (((rk f b).drop ((0 : Int).toNat * k)).take (((m : Int) - 0).toNat * k)) = roK f (b.take m) := by
  have := sl_eq (f := f) (b := b) (l := 0) (Nat.zero_le m) h1
  rw [List.drop_zero, Nat.sub_zero] at this
  exact this
def ixP (i n len sz : Nat) : Prop := 0 ≤ (i : Int) ∧ (i : Int) < (n : Int) ∧ len = n * sz ∧ 0 < sz
theorem ixP_ok {i : Nat} (h1 : i < b.length) (h2 : 0 < k) : ixP i b.length (rk f b).length k := ⟨by omega, by omega, len_rk, h2⟩
theorem ix_1 {α : Type} {g : α → PV} {b : List α} {i : Nat} (d : PV) (z : α) (h1 : i < b.length) : PV.rptr [(rk (fun a => [g a]) b).getD (i : Int).toNat d] = .rptr [g (b.getD i z)] := by
  rw [Int.toNat_natCast, rk_len1]
  simp [List.getD_eq_getElem?_getD, h1]
theorem ix_k {i : Nat} (z : α) (h1 : i < b.length) : PV.rptr (((rk f b).drop ((i : Int).toNat * k)).take k) = .rptr (f (b.getD i z)) := by
  rw [Int.toNat_natCast, rk_get h1 z]
def apnP (m sz bt : Nat) (p : Prop) : Prop := 0 < sz ∧ sz = sz ∧ p ∧ m * bt ≤ 140737488355328 ∧ m ≤ 4611686018427387904
def apoP (row off n m sz bt : Nat) (p : Prop) : Prop := 0 < sz ∧ sz = sz ∧ sz = sz ∧ off + n * sz ≤ row ∧ p ∧ (n + m) * bt ≤ 140737488355328 ∧ n + m ≤ 4611686018427387904
theorem apnP_ok {m sz bt : Nat} {p : Prop} (h0 : 0 < sz) (hp : p) (h1 : m * bt ≤ 140737488355328) (h2 : m ≤ 4611686018427387904) : apnP m sz bt p := ⟨h0, rfl, hp, h1, h2⟩
theorem apoP_ok {row off n m sz bt : Nat} {p : Prop} (h0 : 0 < sz) (hr : off + n * sz ≤ row) (hp : p) (h1 : (n + m) * bt ≤ 140737488355328) (h2 : n + m ≤ 4611686018427387904) : apoP row off n m sz bt p := ⟨h0, rfl, rfl, hr, hp, h1, h2⟩
def arP (len n sz : Nat) : Prop := True ∧ len = n * sz
theorem arP_ok : arP (rk f b).length b.length k := ⟨trivial, len_rk⟩
def aoP (off n row len sz : Nat) : Prop := off + n * sz ≤ row ∧ len = n * sz
theorem aoP_ok {n : Nat} (hn : n = b.length) : aoP 0 n (rk f b).length (((rk f b).drop 0).take (n * k)).length k := by
  subst hn
  refine ⟨by rw [len_rk]; omega, ?_⟩
  rw [List.drop_zero, List.length_take, len_rk]; omega
theorem row_le {n : Nat} (hn : n = b.length) : 0 + n * k ≤ (rk f b).length := by rw [len_rk, hn]; omega
theorem row_all {n : Nat} (hn : n = b.length) : ((rk f b).drop 0).take (n * k) = rk f b := by
  rw [List.drop_zero, hn, List.take_of_length_le (by rw [len_rk]; exact Nat.le_refl _)]
theorem app_row {n : Nat} (hn : n = b.length) : ((rk f b).drop 0).take (n * k) ++ rk f c = rk f (b ++ c) := by rw [row_all hn, rk_app]
theorem app_own {n m : Nat} (hn : n = b.length) (hm : m = c.length) : ((rk f b).drop 0).take (n * k) ++ ((rk f c).drop 0).take (m * k) = rk f (b ++ c) := by rw [row_all hn, row_all hm, rk_app]
theorem own_eq {id id' off off' n m sz : Nat} (h1 : id = id') (h2 : off = off') (h : n = m) : PV.own id off n sz = .own id' off' m sz := by subst h1 h2 h; rfl
theorem shut_new {n : Nat} (hn : n = b.length) : PV.new n k (((rk f b).drop 0).take (n * k)) = newK k f b := by rw [row_all hn, newK, hn]
theorem shut_clo {n : Nat} (hn : n = b.length) : closedL (((rk f b).drop 0).take (n * k)) = true := by rw [row_all hn]; exact closedL_rk
def mkP (l c : Int) (bt sz : Nat) (z : Value) : Prop := 0 ≤ l ∧ l ≤ c ∧ (bt : Int) * c ≤ 281474976710656 ∧ c ≤ 9223372036854775807 ∧ z.cells.size = sz ∧ (∀ v ∈ z.cells.toList, v.oneCell' = true)
theorem mkP_ok {l c bt sz : Nat} {z : Value} (h1 : l ≤ c) (h2 : bt * c ≤ 281474976710656) (h3 : c ≤ 9223372036854775807) (h4 : (Nat.beq z.cells.size sz && z.cells.toList.all Value.oneCell') = true) : mkP l c bt sz z := by
  simp only [Bool.and_eq_true] at h4
  refine ⟨by omega, by omega, ?_, by omega, Nat.eq_of_beq_eq_true h4.1, List.all_eq_true.1 h4.2⟩
  rw [← Int.natCast_mul]; omega
theorem rep_rk {l : Nat} {z : Value} {a : α} (h1 : z.cells.toList.map PV.lit = f a) : rep (l : Int).toNat z = rk f (List.replicate l a) := by
  rw [rep, Int.toNat_natCast, h1]
  induction l with
  | zero => simp [rk]
  | succ l ih => rw [List.replicate_succ, List.flatten_cons, ih, List.replicate_succ]; rfl
end
def b1 (x : UInt8) : List PV := [bv x]
instance : Kd b1 1 := ⟨fun _ => rfl, fun _ => rfl⟩
theorem rk_b1 (b : List UInt8) : rk b1 b = b.map bv := rk_len1
theorem rk_hl (n : Nat) : rk b1 (by32 n) = hl n := rk_b1 _
theorem ro_32 (n : Nat) : PV.ro 32 (hl n) = roK b1 (by32 n) := by rw [roK, len_by32, rk_hl]
theorem ix_b {b : List UInt8} {i : Nat} (d : PV) (h1 : i < b.length) : PV.rptr [(rk b1 b).getD (i : Int).toNat d] = .rptr [bv (b.getD i 0)] := ix_1 (g := bv) d 0 h1
def sb (s : ByteArray) : List UInt8 := s.data.toList
theorem len_sb (s : ByteArray) : (sb s).length = s.size := Array.length_toList
end Go.Ab
namespace Go.Ab
open Go Go.RowKit
set_option linter.unusedVariables false
set_option linter.unusedSimpArgs false
def no : Nat → Prop := fun _ => False
theorem wf_u8 {n : Int} (h : (Lit.int .u8 n).wf = true) : 0 ≤ n ∧ n < 256 := by
  simp only [Lit.wf, Bool.and_eq_true, decide_eq_true_eq] at h
  have h1 : 0 ≤ n := h.1
  have h2 : n ≤ 255 := h.2
  omega
theorem law_run {P : Program} {f : FuncId} {S : List PV → Prop × PV} (h : PureOk P f S) {args : List PV} {vs : List Value} {w : World} (hp : (S args).1) (hv : (S args).2 = .lit (.bool true)) (hc : closedL args = true) (hr : RepL no [] w args vs) (hG : Globs no [] w) :
    Calls P f vs.toArray w fun e w' => e = .returned (.bool true) ∧ Below w.heap.size w w' := by
  refine (h.run args hp hc no w vs (fun b hb => hb.elim) hr hG).mono fun e w' ⟨v, he, hg, hrr⟩ => ?_
  rw [hv] at hrr
  have hv' : v = .bool true := by
    have := hrr.2
    simpa [RepV] using this
  subst hv'
  exact ⟨he, ⟨hg.os, hg.tape, hg.output, hg.size, fun k hk => hg.block k hk (fun ⟨i, y, hb⟩ => by simp at hb)⟩⟩
section
variable {H : Type} {enc : TypeId × Value → H} {P : Program} {t e : TypeId} {n : Nat} {q : IntKind} {W : World} {base : Nat} {sp : Nat → Bool} {held : Bool}
theorem open_nums (ht : P.underlying t = some (.array n e)) (hc : P.cellsOf e = 1) (hct : P.cellsOf t = n) (he : P.underlying e = some (.int q)) {r : Reach} {b0 : Nat} {v : Value} {d : DataW H} {ps : List MemPlace}
    (hval : Value.okWide P W r b0 t v) (hd : DataW.Trod enc P W base sp held t v d ps) :
    ∃ zs : List Int, zs.length = n ∧ v = .agg (zs.map (Value.int q)).toArray ∧ ∀ z ∈ zs, (Lit.int q z).wf = true := by
  simp only [Value.okWide, ht] at hval
  obtain ⟨cs, rfl, h2, _⟩ := hval
  rw [hct] at h2
  obtain ⟨fuel, hf⟩ := hd
  obtain ⟨xs, m, _, _, hlen, hxs, hi⟩ := DataW.trod_array ht hf
  have hex : ∀ i, i < n → ∃ z, cs[i]? = some (.int q z) ∧ (Lit.int q z).wf = true := by
    intro i hin
    have := hi i hin
    rw [hc, Nat.mul_one] at this
    have hx : xs[i]? = some xs[i] := by simp [hxs, hin]
    rw [hx] at this
    obtain ⟨z, e1, _, wz⟩ := DataW.trod_int he this
    refine ⟨z, ?_, wz⟩
    have e2 := congrArg List.head? e1
    simp only [Value.cells, List.head?_take, List.head?_drop, List.head?_cons] at e2
    simpa using e2
  have hall : ∃ zs : List Int, cs.toList = zs.map (Value.int q) ∧ ∀ z ∈ zs, (Lit.int q z).wf = true := by
    have : ∀ x ∈ cs.toList, ∃ z, x = .int q z ∧ (Lit.int q z).wf = true := by
      intro x hx
      obtain ⟨i, hi2⟩ := List.getElem?_of_mem hx
      have hlt : i < n := by
        have := (List.getElem?_eq_some_iff.1 hi2).1
        simpa [h2] using this
      obtain ⟨z, hz, wz⟩ := hex i hlt
      refine ⟨z, ?_, wz⟩
      rw [Array.getElem?_toList, hz] at hi2
      exact (Option.some.inj hi2).symm
    revert this
    generalize cs.toList = l
    intro h
    induction l with
    | nil => exact ⟨[], rfl, by simp⟩
    | cons a l ih =>
      obtain ⟨zs, e1, e2⟩ := ih (fun x hx => h x (by simp [hx]))
      obtain ⟨z, rfl, wz⟩ := h a (by simp)
      exact ⟨z :: zs, by rw [e1]; rfl, by simpa using ⟨wz, e2⟩⟩
  obtain ⟨zs, e1, e2⟩ := hall
  refine ⟨zs, ?_, ?_, e2⟩
  · have := congrArg List.length e1
    simpa [h2] using this.symm
  · rw [← e1]
end
def byK (k n : Nat) : List UInt8 := (List.range k).map fun j => UInt8.ofNat (n / 2 ^ (8 * (k - 1 - j)))
theorem byK_snoc (k v : Nat) (b : UInt8) : byK (k + 1) (v * 256 + b.toNat) = byK k v ++ [b] := by
  have hb : b.toNat < 256 := b.toNat_lt
  have e8 : (2 : Nat) ^ 8 = 256 := by decide
  unfold byK
  rw [List.range_succ, List.map_append]
  congr 1
  · apply List.map_congr_left
    intro j hj
    have hj' : j < k := by simpa using hj
    have e : 8 * (k + 1 - 1 - j) = 8 + 8 * (k - 1 - j) := by omega
    rw [e, Nat.pow_add, ← Nat.div_div_eq_div_mul, e8]
    congr 2
    omega
  · simp only [List.map_cons, List.map_nil, Nat.add_sub_cancel, Nat.sub_self, Nat.mul_zero, Nat.pow_zero, Nat.div_one]
    congr 1
    apply UInt8.toNat_inj.1
    rw [UInt8.toNat_ofNat']
    omega
theorem byK_all0 : ∀ (n : Nat) (bs : List UInt8), bs.length = n → ∃ v, v < 2 ^ (8 * bs.length) ∧ byK bs.length v = bs
  | 0, bs, h => by
    have : bs = [] := List.length_eq_zero_iff.1 h
    subst this
    exact ⟨0, by simp, rfl⟩
  | n + 1, bs, h => by
    have hne : bs ≠ [] := by intro e; subst e; simp at h
    have e0 : bs.dropLast ++ [bs.getLast hne] = bs := List.dropLast_concat_getLast hne
    generalize bs.getLast hne = b at e0
    generalize hd : bs.dropLast = ds at e0
    subst e0
    have hl : ds.length = n := by simpa using h
    obtain ⟨v, hv, e⟩ := byK_all0 n ds hl
    have hb : b.toNat < 256 := b.toNat_lt
    refine ⟨v * 256 + b.toNat, ?_, ?_⟩
    · rw [List.length_append, List.length_singleton, Nat.mul_add, Nat.mul_one, Nat.pow_add, show (2 : Nat) ^ 8 = 256 by decide]
      omega
    · rw [List.length_append, List.length_singleton, byK_snoc, e]
theorem byK_all (bs : List UInt8) : ∃ v, v < 2 ^ (8 * bs.length) ∧ byK bs.length v = bs := byK_all0 _ bs rfl
theorem h32_rep {w : World} {zs : List Int} (hlen : zs.length = 32) (hw : ∀ z ∈ zs, (Lit.int .u8 z).wf = true) :
    ∃ n : Nat, n < 115792089237316195423570985008687907853269984665640564039457584007913129639936 ∧ RepV no [] w (h32 n) (.agg (zs.map (Value.int .u8)).toArray) := by
  obtain ⟨v, hv, e⟩ := byK_all (zs.map fun z => UInt8.ofNat z.toNat)
  rw [List.length_map, hlen] at hv e
  have e32 : (2 : Nat) ^ (8 * 32) = 115792089237316195423570985008687907853269984665640564039457584007913129639936 := by decide
  refine ⟨v, by rw [← e32]; exact hv, ?_⟩
  have hb : by32 v = zs.map fun z => UInt8.ofNat z.toNat := e
  simp only [h32, hl, hb, RepV]
  refine ⟨_, rfl, ?_⟩
  clear e hb hv hlen
  induction zs with
  | nil => simp only [List.map_nil, RepL]
  | cons z zs ih =>
    have hz := wf_u8 (hw z (by simp))
    simp only [List.map_cons, RepL]
    refine ⟨_, _, rfl, ?_, ih fun z hz => hw z (by simp [hz])⟩
    simp only [bv, RepV]
    congr 1
    rw [UInt8.toNat_ofNat']
    omega
end Go.Ab
namespace Go.Ab
open Go Go.RowKit
set_option linter.unusedVariables false
set_option linter.unusedSimpArgs false
set_option linter.unusedVariables false
def Rd (P : Program) (t : TypeId) {α : Type} (f : α → List PV) (ok : α → Prop) : Prop :=
  ∀ {H : Type} {enc : TypeId × Value → H} {W : World} {base : Nat} {sp : Nat → Bool} {held : Bool} {fuel : Nat} {cs : List Value} {x : DataW H × List MemPlace},
    DataW.trod enc P W base sp held fuel t cs = some x → ∃ a, ok a ∧ (∀ v ∈ cs, v.oneCell' = true) ∧ RepL no [] W (f a) cs
section
variable {P : Program} {t e : TypeId} {α β : Type} {f : α → List PV} {ok : α → Prop} {g : β → List PV} {ok' : β → Prop} {k n : Nat}
theorem rd_map (h : Rd P t f ok) (hm : ∀ a, ok a → ∃ b, ok' b ∧ g b = f a) : Rd P t g ok' := fun hd => by
  obtain ⟨a, h1, h2, h3⟩ := h hd
  obtain ⟨b, h4, h5⟩ := hm a h1
  exact ⟨b, h4, h2, by rw [h5]; exact h3⟩
theorem rd_int {q : IntKind} (ht : P.underlying t = some (.int q)) : Rd P t (fun z : Int => [.lit (.int q z)]) (fun z => (Lit.int q z).wf = true) := fun hd => by
  obtain ⟨z, rfl, _, wz⟩ := DataW.trod_int ht hd
  exact ⟨z, wz, by simp [Value.oneCell'], by simp [RepL, RepV]⟩
theorem rd_u8 (ht : P.underlying t = some (.int .u8)) : Rd P t b1 (fun _ => True) :=
  rd_map (rd_int ht) fun z wz => by
    have hw := wf_u8 wz
    refine ⟨UInt8.ofNat z.toNat, trivial, ?_⟩
    simp only [b1, bv]
    congr 3
    rw [UInt8.toNat_ofNat']
    omega
theorem list_choice {Q : Nat → α → Prop} : ∀ {n : Nat}, (∀ i, i < n → ∃ a, Q i a) → ∃ l : List α, l.length = n ∧ ∀ i a, l[i]? = some a → Q i a
  | 0, _ => ⟨[], rfl, fun i a h => by simp at h⟩
  | n + 1, h => by
    obtain ⟨l, hl, hq⟩ := list_choice (n := n) fun i hi => h i (by omega)
    obtain ⟨a, ha⟩ := h n (by omega)
    refine ⟨l ++ [a], by simp [hl], fun i b hb => ?_⟩
    rw [List.getElem?_append] at hb
    split at hb
    · exact hq i b hb
    · have : i = n := by
        have := (List.getElem?_eq_some_iff.1 hb).1
        simp at this; omega
      subst this
      rw [hl, Nat.sub_self] at hb
      cases hb
      exact ha
theorem repRow_app {X : Nat → Prop} {β : List Base} {w : World} {b : Nat} : ∀ {ps qs : List PV} {off : Nat}, RepRow X β w b off ps → RepRow X β w b (off + ps.length) qs → RepRow X β w b off (ps ++ qs)
  | [], qs, off, _, h => by simpa using h
  | p :: ps, qs, off, h, h2 => by
    simp only [List.cons_append, RepRow] at h ⊢
    exact ⟨h.1, repRow_app h.2 (by rw [List.length_cons] at h2; rw [show off + 1 + ps.length = off + (ps.length + 1) by omega]; exact h2)⟩
theorem cells_at {W : World} {base b off : Nat} {k : Nat} {cs : List Value} (h : W.cells? base ⟨b, off, none⟩ k = some cs) : cs.length = k ∧ ∀ i v, cs[i]? = some v → W.cell? ⟨b, off + i, none⟩ = some v := by
  unfold World.cells? at h
  split at h
  · have hl := mapM_some_length h
    rw [List.length_range] at hl
    refine ⟨hl, fun i v hv => ?_⟩
    have hi : i < k := by have := (List.getElem?_eq_some_iff.1 hv).1; omega
    have := mapM_some_get h i i (by simp [hi])
    rw [hv] at this
    have ha : (Addr.mk b off none).add i = ⟨b, off + i, none⟩ := by
      unfold Addr.add
      split
      · rename_i h; subst h; rfl
      · rfl
    rw [ha] at this
    exact this
  · cases h
theorem rep_rows {X : Nat → Prop} {β : List Base} {w : World} {b : Nat} [h : Kd f k] : ∀ {l : List α} {off : Nat},
    (∀ i a, l[i]? = some a → ∃ cs : List Value, (∀ v ∈ cs, v.oneCell' = true) ∧ (∀ r v, cs[r]? = some v → w.cell? ⟨b, off + i * k + r, none⟩ = some v) ∧ RepL X β w (f a) cs) → RepRow X β w b off (rk f l)
  | [], off, _ => by simp [rk, RepRow]
  | a :: l, off, hq => by
    have e : rk f (a :: l) = f a ++ rk f l := rfl
    rw [e]
    obtain ⟨cs, h1, h2, h3⟩ := hq 0 a rfl
    refine repRow_app ?_ ?_
    · rw [RepRow.iff]
      intro i p hp
      have hl := RepL.length h3
      have hi : i < cs.length := by rw [hl]; exact (List.getElem?_eq_some_iff.1 hp).1
      have hv : cs[i]? = some cs[i] := by simp [hi]
      refine ⟨cs[i], ?_, h1 _ (List.getElem_mem hi), (RepL.iff.1 h3).2 i p _ hp hv⟩
      have := h2 i _ hv
      rwa [Nat.zero_mul, Nat.add_zero] at this
    · rw [h.len a]
      refine rep_rows fun i a' ha' => ?_
      obtain ⟨cs', g1, g2, g3⟩ := hq (i + 1) a' (by simpa using ha')
      refine ⟨cs', g1, fun r v hv => ?_, g3⟩
      have := g2 r v hv
      rw [Nat.succ_mul] at this
      rw [show off + k + i * k + r = off + (i * k + k) + r by omega]; exact this
theorem rd_slice [hK : Kd f k] (ht : P.underlying t = some (.slice e)) (hk : P.cellsOf e = k) (k0 : 0 < k) (h : Rd P e f ok) : Rd P t (fun l : List α => [roK f l]) (fun l => l.length ≤ maxLen ∧ ∀ a ∈ l, ok a) := by
  intro H enc W base sp held fuel cs x hd
  rcases DataW.trod_slice ht hd with ⟨rfl, _⟩ | ⟨a, len, cap, elems, rest, m, _, rfl, _, hb, hlc, hcm, hel, hi, _, _⟩
  · refine ⟨[], ⟨by simp, by simp⟩, by simp [Value.oneCell'], ?_⟩
    simp [RepL, RepV, roK, rk]
  · have hall : ∀ i, i < len → ∃ b, ok b ∧ ∃ cs : List Value, W.cells? base (a.add (i * k)) k = some cs ∧ (∀ v ∈ cs, v.oneCell' = true) ∧ RepL no [] W (f b) cs := by
      intro i hi2
      have h1 := hi i hi2
      have h2 : elems[i]? = some elems[i] := by simp [hel, hi2]
      rw [h2, Option.bind_eq_some_iff] at h1
      obtain ⟨cs, h3, h4⟩ := h1
      obtain ⟨b, h5, h6, h7⟩ := h h4
      rw [hk] at h3
      exact ⟨b, h5, cs, h3, h6, h7⟩
    obtain ⟨l, hl, hq⟩ := list_choice hall
    refine ⟨l, ⟨by omega, fun b hb => by obtain ⟨i, hi⟩ := List.getElem?_of_mem hb; exact (hq i b hi).1⟩, by simp [Value.oneCell'], ?_⟩
    simp only [RepL, RepV, roK]
    refine ⟨_, _, rfl, ⟨some a, cap, by rw [hl], by omega, ?_⟩, rfl⟩
    by_cases h0 : len = 0
    · left
      have : l = [] := List.length_eq_zero_iff.1 (by omega)
      subst this; rfl
    · right
      obtain ⟨b, off, sp2⟩ := a
      have hsp : sp2 = none := by
        have hl0 : l[0]? = some (l[0]'(by omega)) := List.getElem?_eq_getElem (by omega)
        obtain ⟨_, cs, h1, _, h3⟩ := hq 0 _ hl0
        rw [Nat.zero_mul] at h1
        have ha : (Addr.mk b off sp2).add 0 = ⟨b, off, sp2⟩ := by unfold Addr.add; rw [if_pos rfl]
        rw [ha] at h1
        unfold World.cells? at h1
        by_cases hbb : base ≤ b
        · rw [if_pos hbb] at h1
          have hlen := mapM_some_length h1
          rw [List.length_range] at hlen
          have := mapM_some_get h1 0 0 (by simp [k0])
          have hc0 : cs[0]? = some cs[0] := by simp [hlen, k0]
          rw [ha, hc0] at this
          cases sp2 with
          | none => rfl
          | some s =>
            simp only [World.cell?] at this
            split at this <;> simp at this
        · rw [if_neg hbb] at h1; cases h1
      subst hsp
      refine ⟨b, off, rfl, id, fun ⟨i, y, hb⟩ => by simp at hb, rep_rows fun i a' ha' => ?_⟩
      obtain ⟨_, cs, h1, h2, h3⟩ := hq i a' ha'
      have ha : (Addr.mk b off none).add (i * k) = ⟨b, off + i * k, none⟩ := by
        unfold Addr.add
        split
        · rename_i h; rw [h]; rfl
        · rfl
      rw [ha] at h1
      exact ⟨cs, h2, (cells_at h1).2, h3⟩
theorem rd_one {w : World} {g : α → PV} (h : Rd P t (fun a => [g a]) ok) {H : Type} {enc : TypeId × Value → H} {sp : Nat → Bool} {held : Bool} {base : Nat} {v : Value} {d : DataW H} {ps : List MemPlace} (hv : v.cells.toList = [v])
    (hd : DataW.Trod enc P w base sp held t v d ps) : ∃ a, ok a ∧ RepV no [] w (g a) v := by
  obtain ⟨fuel, hf⟩ := hd
  rw [hv] at hf
  obtain ⟨a, h1, _, h3⟩ := h hf
  simp only [RepL] at h3
  obtain ⟨u, r, hu, h4, _⟩ := h3
  cases hu
  exact ⟨a, h1, h4⟩
end
end Go.Ab
namespace Go.Ab
open Go Go.RowKit
set_option linter.unusedVariables false
set_option linter.unusedSimpArgs false
set_option linter.unusedVariables false
abbrev W := BitVec 32
def uw (x : W) : PV := .lit (.int .u32 (x.toNat : Int))
theorem wrapW (z : Int) : IntKind.u32.wrap z = z % 4294967296 := by simp [IntKind.wrap, IntKind.bits, IntKind.signed]
theorem bitsW (a : W) : BitVec.ofInt 32 (a.toNat : Int) = a := by
  rw [BitVec.ofInt_natCast, BitVec.ofNat_toNat, BitVec.setWidth_eq]
theorem ltW (a : W) : a.toNat < 4294967296 := a.isLt
theorem lit_w {a : W} {z : Int} (h : z = (a.toNat : Int)) : PV.lit (.int .u32 z) = uw a := by rw [uw, h]
theorem wrapW_nat (n : W) : IntKind.u32.wrap (n.toNat : Int) = n.toNat := by
  have := ltW n
  rw [wrapW]; omega
section
variable (a b : W)
theorem add_w : bn .add (uw a) (uw b) = uw (a + b) := by
  show PV.lit (.int .u32 (IntKind.u32.wrap _)) = _
  rw [wrapW]
  refine lit_w ?_
  rw [BitVec.toNat_add]; omega
theorem and_w : bn .and (uw a) (uw b) = uw (a &&& b) := by
  show PV.lit (.int .u32 (IntKind.u32.wrap ((BitVec.ofInt 32 _ &&& BitVec.ofInt 32 _).toNat : Int))) = _
  rw [bitsW, bitsW, wrapW_nat]; rfl
theorem or_w : bn .or (uw a) (uw b) = uw (a ||| b) := by
  show PV.lit (.int .u32 (IntKind.u32.wrap ((BitVec.ofInt 32 _ ||| BitVec.ofInt 32 _).toNat : Int))) = _
  rw [bitsW, bitsW, wrapW_nat]; rfl
theorem xor_w : bn .xor (uw a) (uw b) = uw (a ^^^ b) := by
  show PV.lit (.int .u32 (IntKind.u32.wrap ((BitVec.ofInt 32 _ ^^^ BitVec.ofInt 32 _).toNat : Int))) = _
  rw [bitsW, bitsW, wrapW_nat]; rfl
theorem not_w : un .xor (uw a) = uw (~~~ a) := by
  show PV.lit (.int .u32 (IntKind.u32.wrap ((BitVec.ofInt 32 (if IntKind.u32.signed = true then -1 else IntKind.u32.max) ^^^ BitVec.ofInt 32 _).toNat : Int))) = _
  have hm : BitVec.ofInt 32 (if IntKind.u32.signed = true then -1 else IntKind.u32.max) = BitVec.allOnes 32 := by decide
  rw [hm, bitsW, BitVec.allOnes_xor, wrapW_nat]; rfl
theorem shl_w (n : Nat) : bn .shl (uw a) (ln n) = uw (a <<< n) := by
  show PV.lit (.int .u32 (IntKind.u32.wrap ((a.toNat : Int) * 2 ^ min ((n : Nat) : Int).toNat 32))) = _
  rw [wrapW, Int.toNat_natCast]
  refine lit_w ?_
  rw [BitVec.toNat_shiftLeft, Nat.shiftLeft_eq]
  have e : (a.toNat : Int) * 2 ^ min n 32 = ((a.toNat * 2 ^ min n 32 : Nat) : Int) := by simp
  rw [e]
  have h : a.toNat * 2 ^ min n 32 % 2 ^ 32 = a.toNat * 2 ^ n % 2 ^ 32 := by
    by_cases hb : n ≤ 32
    · rw [Nat.min_eq_left hb]
    · rw [Nat.min_eq_right (by omega)]
      have h2 : n = 32 + (n - 32) := by omega
      rw [h2, Nat.pow_add, ← Nat.mul_assoc, Nat.mul_mod_left, Nat.mul_right_comm, Nat.mul_mod_left]
  have e32 : (2 : Nat) ^ 32 = 4294967296 := by decide
  rw [← h, e32]
  omega
theorem shr_w (n : Nat) : bn .shr (uw a) (ln n) = uw (a >>> n) := by
  show PV.lit (.int .u32 ((a.toNat : Int).fdiv (2 ^ min ((n : Nat) : Int).toNat 32))) = _
  rw [Int.toNat_natCast]
  refine lit_w ?_
  rw [BitVec.toNat_ushiftRight, Nat.shiftRight_eq_div_pow]
  have e : (2 : Int) ^ min n 32 = ((2 ^ min n 32 : Nat) : Int) := by simp
  rw [e, Int.fdiv_eq_ediv_of_nonneg _ (Int.natCast_nonneg _), ← Int.natCast_ediv]
  congr 1
  by_cases h : n ≤ 32
  · rw [Nat.min_eq_left h]
  · have hlt := ltW a
    rw [Nat.min_eq_right (by omega)]
    rw [Nat.div_eq_of_lt (by have : (2 : Nat) ^ 32 = 4294967296 := by decide
                             omega), Nat.div_eq_of_lt]
    exact Nat.lt_of_lt_of_le hlt (Nat.le_trans (show 4294967296 ≤ 2 ^ 32 by decide) (Nat.pow_le_pow_right (by decide) (by omega)))
theorem shl_wu {n : Nat} (h : n < 18446744073709551616) : bn .shl (uw a) (ul n) = uw (a <<< n) := by
  have : bn .shl (uw a) (ul n) = bn .shl (uw a) (ln (n % 18446744073709551616)) := rfl
  rw [this, Nat.mod_eq_of_lt h, shl_w]
theorem shr_wu {n : Nat} (h : n < 18446744073709551616) : bn .shr (uw a) (ul n) = uw (a >>> n) := by
  have : bn .shr (uw a) (ul n) = bn .shr (uw a) (ln (n % 18446744073709551616)) := rfl
  rw [this, Nat.mod_eq_of_lt h, shr_w]
end
def bw (x : UInt8) : W := BitVec.ofNat 32 x.toNat
def wb (x : W) : UInt8 := UInt8.ofNat x.toNat
theorem cv_bw (x : UInt8) : cn .u32 (bv x) = uw (bw x) := by
  show PV.lit (.int .u32 (IntKind.u32.wrap (x.toNat : Int))) = _
  rw [wrapW]
  refine lit_w ?_
  have := x.toNat_lt
  simp only [bw, BitVec.toNat_ofNat]
  omega
theorem cv_wb (x : W) : cn .u8 (uw x) = bv (wb x) := by
  show PV.lit (.int .u8 (IntKind.u8.wrap (x.toNat : Int))) = _
  rw [wrap_b]
  simp only [bv, wb, UInt8.toNat_ofNat']
  congr 1
theorem neg_n {n : Nat} (h : n ≤ 9223372036854775807) : un .neg (ln n) = li (-((n : Nat) : Int)) := by
  show PV.lit (.int .i64 (IntKind.i64.wrap (0 - (n : Int)))) = _
  rw [wrap_i (by omega) (by omega), Int.zero_sub]; rfl
theorem cv_neg {n : Nat} (h : n ≤ 18446744073709551616) : cn .u64 (li (-((n : Nat) : Int))) = ul (18446744073709551616 - n) := by
  show PV.lit (.int .u64 (IntKind.u64.wrap _)) = _
  rw [wrap_u]
  exact lit_u (by omega)
def wl (n : Nat) (l : List W) : List PV := (List.range n).map fun j => uw (l.getD j 0)
def bl (n : Nat) (l : List UInt8) : List PV := (List.range n).map fun j => bv (l.getD j 0)
theorem closedL_wl (n : Nat) (l : List W) : closedL (wl n l) = true := by
  rw [closedL_iff]; intro p hp; simp only [wl, List.mem_map] at hp; obtain ⟨i, _, rfl⟩ := hp; rfl
theorem closedL_bl (n : Nat) (l : List UInt8) : closedL (bl n l) = true := by
  rw [closedL_iff]; intro p hp; simp only [bl, List.mem_map] at hp; obtain ⟨i, _, rfl⟩ := hp; rfl
theorem wl_get {n i : Nat} (h : i < n) (l : List W) (d : PV) : (wl n l).getD i d = uw (l.getD i 0) := by
  simp [wl, List.getD_eq_getElem?_getD, h]
theorem bl_get {n i : Nat} (h : i < n) (l : List UInt8) (d : PV) : (bl n l).getD i d = bv (l.getD i 0) := by
  simp [bl, List.getD_eq_getElem?_getD, h]
theorem bl_idx {n i : Nat} (h : i < n) (l : List UInt8) (d : PV) : (bl n l).getD (((i : Nat) : Int).toNat * 1) d = bv (l.getD i 0) := by
  rw [Int.toNat_natCast, Nat.mul_one]; exact bl_get h l d
theorem map_set_range {α β : Type} {f : α → β} {n i : Nat} {l : List α} {x d : α} (h : i < l.length) : ((List.range n).map fun j => f (l.getD j d)).set i (f x) = (List.range n).map fun j => f ((l.set i x).getD j d) := by
  apply List.ext_getElem (by simp)
  intro k h1 h2
  simp only [List.getElem_set, List.getElem_map, List.getElem_range, List.getD_eq_getElem?_getD, List.getElem?_set]
  split
  · rename_i e; subst e; rfl
  · rfl
theorem wl_set {n i : Nat} {l : List W} {x : W} (h : i < l.length) : (wl n l).set i (uw x) = wl n (l.set i x) := map_set_range h
theorem bl_set {n i : Nat} {l : List UInt8} {x : UInt8} (h : i < l.length) : (bl n l).set i (bv x) = bl n (l.set i x) := map_set_range h
theorem bl_eq {n : Nat} {l : List UInt8} (h : l.length = n) : bl n l = l.map bv := by
  apply List.ext_getElem (by simp [bl, h])
  intro k h1 h2
  have : k < l.length := by simpa using h2
  simp [bl, List.getD_eq_getElem?_getD, this]
structure S8 where
  a : W
  b : W
  c : W
  d : W
  e : W
  f : W
  g : W
  h : W
def S8.l (s : S8) : List W := [s.a, s.b, s.c, s.d, s.e, s.f, s.g, s.h]
def sl (s : S8) : List PV := [uw s.a, uw s.b, uw s.c, uw s.d, uw s.e, uw s.f, uw s.g, uw s.h]
def sv (s : S8) : PV := .agg (sl s)
theorem closedL_sl (s : S8) : closedL (sl s) = true := rfl
theorem len_l (s : S8) : s.l.length = 8 := rfl
theorem sl_get {i : Nat} (h : i < 8) (s : S8) (d : PV) : (sl s).getD i d = uw (s.l.getD i 0) := by
  match i, h with
  | 0, _ => rfl
  | 1, _ => rfl
  | 2, _ => rfl
  | 3, _ => rfl
  | 4, _ => rfl
  | 5, _ => rfl
  | 6, _ => rfl
  | 7, _ => rfl
theorem sl_idx {i : Nat} (h : i < 8) (s : S8) (d : PV) : (sl s).getD (((i : Nat) : Int).toNat * 1) d = uw (s.l.getD i 0) := by
  rw [Int.toNat_natCast, Nat.mul_one]; exact sl_get h s d
def kk : List W := [0x428a2f98, 0x71374491, 0xb5c0fbcf, 0xe9b5dba5, 0x3956c25b, 0x59f111f1, 0x923f82a4, 0xab1c5ed5,
  0xd807aa98, 0x12835b01, 0x243185be, 0x550c7dc3, 0x72be5d74, 0x80deb1fe, 0x9bdc06a7, 0xc19bf174,
  0xe49b69c1, 0xefbe4786, 0x0fc19dc6, 0x240ca1cc, 0x2de92c6f, 0x4a7484aa, 0x5cb0a9dc, 0x76f988da,
  0x983e5152, 0xa831c66d, 0xb00327c8, 0xbf597fc7, 0xc6e00bf3, 0xd5a79147, 0x06ca6351, 0x14292967,
  0x27b70a85, 0x2e1b2138, 0x4d2c6dfc, 0x53380d13, 0x650a7354, 0x766a0abb, 0x81c2c92e, 0x92722c85,
  0xa2bfe8a1, 0xa81a664b, 0xc24b8b70, 0xc76c51a3, 0xd192e819, 0xd6990624, 0xf40e3585, 0x106aa070,
  0x19a4c116, 0x1e376c08, 0x2748774c, 0x34b0bcb5, 0x391c0cb3, 0x4ed8aa4a, 0x5b9cca4f, 0x682e6ff3,
  0x748f82ee, 0x78a5636f, 0x84c87814, 0x8cc70208, 0x90befffa, 0xa4506ceb, 0xbef9a3f7, 0xc67178f2]
def init8 : S8 := ⟨0x6a09e667, 0xbb67ae85, 0x3c6ef372, 0xa54ff53a, 0x510e527f, 0x9b05688c, 0x1f83d9ab, 0x5be0cd19⟩
def rotr (x : W) (n : Nat) : W := x <<< (32 - n) ||| x >>> n
def word (b : List UInt8) (i : Nat) : W := bw (b.getD (4 * i) 0) <<< 24 ||| bw (b.getD (4 * i + 1) 0) <<< 16 ||| bw (b.getD (4 * i + 2) 0) <<< 8 ||| bw (b.getD (4 * i + 3) 0)
def fill {α : Type} (n : Nat) (z : α) (f : Nat → α) (i : Nat) : List α := (List.range n).map fun j => if j < i then f j else z
theorem len_fill {α : Type} (n : Nat) (z : α) (f : Nat → α) (i : Nat) : (fill n z f i).length = n := by simp [fill]
theorem fill_zero {α : Type} (n : Nat) (z : α) (f : Nat → α) : List.replicate n z = fill n z f 0 := by
  apply List.ext_getElem (by simp [fill])
  intro k h1 h2
  simp [fill]
theorem fill_set {α : Type} {n i : Nat} {z : α} {f : Nat → α} (h : i < n) : (fill n z f i).set i (f i) = fill n z f (i + 1) := by
  apply List.ext_getElem (by simp [fill])
  intro k h1 h2
  have hk : k < n := by simpa [fill] using h2
  rw [List.getElem_set]
  split
  · rename_i e; subst e
    simp [fill]
  · rename_i e
    simp only [fill, List.getElem_map, List.getElem_range]
    by_cases c : k < i
    · rw [if_pos c, if_pos (by omega)]
    · rw [if_neg c, if_neg (by omega)]
theorem fill_get {α : Type} {n i j : Nat} {z : α} {f : Nat → α} (h : j < n) (d : α) : (fill n z f i).getD j d = if j < i then f j else z := by
  simp [fill, List.getD_eq_getElem?_getD, h]
theorem fill_all {α : Type} (n : Nat) (z : α) (f : Nat → α) : fill n z f n = (List.range n).map f := by
  apply List.map_congr_left
  intro j hj
  rw [if_pos (by simpa using hj)]
def sig0 (x : W) : W := rotr x 7 ^^^ rotr x 18 ^^^ x >>> 3
def sig1 (x : W) : W := rotr x 17 ^^^ rotr x 19 ^^^ x >>> 10
def ext (l : List W) : Nat → List W
  | 0 => l
  | t + 1 => (ext l t).set (16 + t) ((ext l t).getD t 0 + sig0 ((ext l t).getD (t + 1) 0) + (ext l t).getD (t + 9) 0 + sig1 ((ext l t).getD (t + 14) 0))
theorem len_ext (l : List W) : ∀ t, (ext l t).length = l.length
  | 0 => rfl
  | t + 1 => by simp [ext, len_ext l t]
def sched (b : List UInt8) : List W := ext (fill 64 0 (word b) 16) 48
def rnd (k w : W) (s : S8) : S8 :=
  let t1 := s.h + (rotr s.e 6 ^^^ rotr s.e 11 ^^^ rotr s.e 25) + (s.e &&& s.f ^^^ ~~~ s.e &&& s.g) + k + w
  let t2 := (rotr s.a 2 ^^^ rotr s.a 13 ^^^ rotr s.a 22) + (s.a &&& s.b ^^^ s.a &&& s.c ^^^ s.b &&& s.c)
  ⟨t1 + t2, s.a, s.b, s.c, s.d + t1, s.e, s.f, s.g⟩
def rnds (w : List W) (s : S8) : Nat → S8
  | 0 => s
  | t + 1 => rnd (kk.getD t 0) (w.getD t 0) (rnds w s t)
def add8 (s r : S8) : S8 := ⟨s.a + r.a, s.b + r.b, s.c + r.c, s.d + r.d, s.e + r.e, s.f + r.f, s.g + r.g, s.h + r.h⟩
def compress (s : S8) (b : List UInt8) : S8 := add8 s (rnds (sched b) s 64)
def absorb : Nat → S8 → List UInt8 → S8
  | 0, s, _ => s
  | n + 1, s, b => absorb n (compress s (b.take 64)) (b.drop 64)
theorem absorb_split : ∀ (p q : Nat) (s : S8) (b : List UInt8), absorb (p + q) s b = absorb q (absorb p s b) (b.drop (64 * p))
  | 0, q, s, b => by simp [absorb]
  | p + 1, q, s, b => by
    rw [show p + 1 + q = (p + q) + 1 by omega, absorb, absorb_split p q, absorb, List.drop_drop, show 64 + 64 * p = 64 * (p + 1) by omega]
theorem absorb_take : ∀ (p : Nat) (s : S8) (b : List UInt8) (m : Nat), 64 * p ≤ m → absorb p s (b.take m) = absorb p s b
  | 0, s, b, m, _ => rfl
  | p + 1, s, b, m, h => by
    rw [absorb, absorb, List.take_take, List.drop_take, Nat.min_eq_left (by omega), absorb_take p _ _ _ (by omega)]
theorem absorb_succ (p : Nat) (s : S8) (b : List UInt8) : absorb (p + 1) s b = compress (absorb p s b) ((b.drop (64 * p)).take 64) := by
  rw [absorb_split]; rfl
def dbyte (s : S8) (i : Nat) : UInt8 := wb (s.l.getD (i / 4) 0 >>> (8 * (3 - i % 4)))
def dig (s : S8) : List UInt8 := (List.range 32).map (dbyte s)
theorem len_dig (s : S8) : (dig s).length = 32 := by simp [dig]
def be8 (n : Nat) : List UInt8 := (List.range 8).map fun i => UInt8.ofNat (n / 2 ^ (8 * (7 - i)))
def padz (n : Nat) : Nat := (55 + (64 - n % 64)) % 64
def pad (n : Nat) : List UInt8 := 128 :: List.replicate (padz n) 0 ++ be8 (8 * n % 18446744073709551616)
theorem len_pad (n : Nat) : (pad n).length = 9 + padz n := by simp [pad, be8]; omega
theorem padz_lt (n : Nat) : padz n < 64 := Nat.mod_lt _ (by decide)
theorem pad_fits (n : Nat) : (n + (pad n).length) % 64 = 0 := by rw [len_pad]; unfold padz; omega
def msg (b : List UInt8) : List UInt8 := b ++ pad b.length
def sum (b : List UInt8) : List UInt8 := dig (absorb ((msg b).length / 64) init8 (msg b))
theorem len_sum (b : List UInt8) : (sum b).length = 32 := len_dig _
theorem sum_split (b : List UInt8) : absorb ((b.drop (b.length - b.length % 64) ++ pad b.length).length / 64) (absorb (b.length / 64) init8 (b.take (b.length - b.length % 64))) (b.drop (b.length - b.length % 64) ++ pad b.length) = absorb ((msg b).length / 64) init8 (msg b) := by
  have h1 : b.length - b.length % 64 = 64 * (b.length / 64) := by omega
  have h2 := pad_fits b.length
  have h3 : (msg b).length / 64 = b.length / 64 + (b.drop (b.length - b.length % 64) ++ pad b.length).length / 64 := by
    rw [msg, List.length_append, List.length_append, List.length_drop]
    generalize (pad b.length).length = m at *
    omega
  have h4 : b.take (b.length - b.length % 64) = (msg b).take (b.length - b.length % 64) := by
    rw [msg, List.take_append_of_le_length (by omega)]
  have h5 : b.drop (b.length - b.length % 64) ++ pad b.length = (msg b).drop (64 * (b.length / 64)) := by
    rw [← h1, msg, List.drop_append_of_le_length (by omega)]
  rw [h3, absorb_split, h4, absorb_take _ _ _ _ (by omega), h5]
def byB (b : List UInt8) : Nat → List W
  | 0 => List.replicate 64 0
  | i + 1 => (byB b i).set (i / 4) ((byB b i).getD (i / 4) 0 <<< 8 ||| bw (b.getD i 0))
theorem len_byB (b : List UInt8) : ∀ i, (byB b i).length = 64
  | 0 => by simp [byB]
  | i + 1 => by simp [byB, len_byB b i]
theorem four (x0 x1 x2 x3 : UInt8) : (((((0 : W) <<< 8 ||| bw x0) <<< 8 ||| bw x1) <<< 8 ||| bw x2) <<< 8 ||| bw x3) = bw x0 <<< 24 ||| bw x1 <<< 16 ||| bw x2 <<< 8 ||| bw x3 := by
  simp only [BitVec.shiftLeft_or_distrib, ← BitVec.shiftLeft_add, Nat.reduceAdd]
  have e : ∀ x : W, (0 : W) <<< 32 ||| x = x := fun x => by
    rw [show (0 : W) <<< 32 = 0#32 by decide, BitVec.zero_or]
  rw [e]
theorem getD_set_self {α : Type} {l : List α} {i : Nat} {x d : α} (h : i < l.length) : (l.set i x).getD i d = x := by
  simp [List.getD_eq_getElem?_getD, h]
theorem byB_word (b : List UInt8) : ∀ t, t ≤ 16 → byB b (4 * t) = fill 64 0 (word b) t
  | 0, _ => fill_zero ..
  | t + 1, h => by
    have ih := byB_word b t (by omega)
    have hl : t < (fill (64 : Nat) (0 : W) (word b) t).length := by rw [len_fill]; omega
    have g0 : (fill (64 : Nat) (0 : W) (word b) t).getD t 0 = 0 := by rw [fill_get (by omega), if_neg (by omega)]
    rw [show 4 * (t + 1) = 4 * t + 3 + 1 by omega, byB, show 4 * t + 3 = 4 * t + 2 + 1 by omega, byB, show 4 * t + 2 = 4 * t + 1 + 1 by omega, byB, byB, ih]
    rw [show 4 * t / 4 = t by omega, show (4 * t + 1) / 4 = t by omega, show (4 * t + 1 + 1) / 4 = t by omega, show (4 * t + 1 + 1 + 1) / 4 = t by omega]
    simp only [List.set_set, g0]
    rw [getD_set_self hl, getD_set_self hl, getD_set_self hl, four]
    exact fill_set (by omega)
def mix {α : Type} (n : Nat) (g f : Nat → α) (i : Nat) : List α := (List.range n).map fun j => if j < i then f j else g j
theorem len_mix {α : Type} (n : Nat) (g f : Nat → α) (i : Nat) : (mix n g f i).length = n := by simp [mix]
theorem mix_set {α : Type} {n i : Nat} {g f : Nat → α} (h : i < n) : (mix n g f i).set i (f i) = mix n g f (i + 1) := by
  apply List.ext_getElem (by simp [mix])
  intro k h1 h2
  have hk : k < n := by simpa [mix] using h2
  rw [List.getElem_set]
  split
  · rename_i e; subst e
    simp [mix]
  · rename_i e
    simp only [mix, List.getElem_map, List.getElem_range]
    by_cases c : k < i
    · rw [if_pos c, if_pos (by omega)]
    · rw [if_neg c, if_neg (by omega)]
theorem mix_get {α : Type} {n i : Nat} {g f : Nat → α} (h : i < n) (d : α) : (mix n g f i).getD i d = g i := by
  simp [mix, List.getD_eq_getElem?_getD, h]
def addI (s r : S8) (i : Nat) : List W := mix 8 (fun j => s.l.getD j 0) (fun j => s.l.getD j 0 + r.l.getD j 0) i
theorem len_addI (s r : S8) (i : Nat) : (addI s r i).length = 8 := len_mix ..
theorem addI_set {s r : S8} {i : Nat} (h : i < 8) : (addI s r i).set i ((addI s r i).getD i 0 + r.l.getD i 0) = addI s r (i + 1) := by
  have e : (addI s r i).getD i 0 = s.l.getD i 0 := mix_get h 0
  rw [e]
  exact mix_set h
def padI (n i : Nat) : List UInt8 := 128 :: List.replicate (padz n) 0 ++ (be8 (8 * n % 18446744073709551616)).take i
theorem len_be8 (n : Nat) : (be8 n).length = 8 := by simp [be8]
theorem len_padI (n i : Nat) : (padI n i).length = 1 + padz n + min i 8 := by
  simp [padI, len_be8]; omega
theorem padI_zero (n : Nat) : (List.replicate (1 + padz n) (0 : UInt8)).set 0 128 = padI n 0 := by
  rw [Nat.add_comm, List.replicate_succ]; simp [padI]
theorem padI_step {n i : Nat} (h : i < 8) : padI n i ++ [UInt8.ofNat (8 * n % 18446744073709551616 / 2 ^ (8 * (7 - i)))] = padI n (i + 1) := by
  have e : (be8 (8 * n % 18446744073709551616)).take (i + 1) = (be8 (8 * n % 18446744073709551616)).take i ++ [UInt8.ofNat (8 * n % 18446744073709551616 / 2 ^ (8 * (7 - i)))] := by
    rw [List.take_add_one]
    simp [be8, h]
  simp only [padI, e, List.append_assoc]
theorem padI_all (n : Nat) : padI n 8 = pad n := by
  simp only [padI, pad]
  rw [List.take_of_length_le (by rw [len_be8]; exact Nat.le_refl _)]
theorem dig_def (s : S8) : fill 32 0 (dbyte s) 32 = dig s := fill_all ..
def tagged (t b : List UInt8) : List UInt8 := sum (sum t ++ sum t ++ b)
end Go.Ab
namespace Go.Ab
open Go Go.RowKit
set_option linter.unusedVariables false
set_option linter.unusedSimpArgs false
variable {P : Program} {X : Nat → Prop} {β : List Base} {w : World} {L : LH} {env : Env} {N B : Nat} {rr : Option Nat}
def src (m : List Nat) (B i : Nat) : Option Nat := bif Nat.blt i B then (bif inM m i then some (idxM m i) else none) else some (i - B + m.length)
end Go.Ab
namespace Go.Ab
open Go Go.RowKit
set_option linter.unusedVariables false
set_option linter.unusedSimpArgs false
set_option linter.unusedVariables false
theorem flat_newK {α : Type} {f : α → List PV} {k : Nat} {b : List α} (h : ∀ a, flatL (f a) = true) : flat (newK k f b) = true := by
  show flatL (rk f b) = true
  induction b with
  | nil => rfl
  | cons a b ih =>
    show flatL (f a ++ rk f b) = true
    rw [flatL_iff] at *
    intro p hp
    rcases List.mem_append.1 hp with hp | hp
    · exact flatL_iff.1 (h a) p hp
    · exact ih p hp
theorem flat_newB {b : List UInt8} : flat (newK 1 b1 b) = true := flat_newK fun _ => rfl
def nb (l : List UInt8) : Nat := l.foldl (fun a x => a * 256 + x.toNat) 0
theorem nb_snoc (l : List UInt8) (x : UInt8) : nb (l ++ [x]) = nb l * 256 + x.toNat := by simp [nb]
theorem nb_all : ∀ (n : Nat) (l : List UInt8), l.length = n → nb l < 2 ^ (8 * n) ∧ byK n (nb l) = l
  | 0, l, h => by
    have : l = [] := List.length_eq_zero_iff.1 h
    subst this
    exact ⟨by decide, rfl⟩
  | n + 1, l, h => by
    have hne : l ≠ [] := by intro e; subst e; simp at h
    have e0 : l.dropLast ++ [l.getLast hne] = l := List.dropLast_concat_getLast hne
    generalize l.getLast hne = b at e0
    generalize l.dropLast = ds at e0
    subst e0
    have hl : ds.length = n := by simpa using h
    obtain ⟨hv, e⟩ := nb_all n ds hl
    have hb : b.toNat < 256 := b.toNat_lt
    rw [nb_snoc]
    refine ⟨?_, ?_⟩
    · rw [Nat.mul_add, Nat.mul_one, Nat.pow_add, show (2 : Nat) ^ 8 = 256 by decide]
      omega
    · have hx := byK_snoc ds.length (nb ds) b
      rw [hl] at hx
      rw [hx, e]
theorem nb_32 {l : List UInt8} (h : l.length = 32) : by32 (nb l) = l := (nb_all 32 l h).2
theorem nb_lt {l : List UInt8} (h : l.length = 32) : nb l < 115792089237316195423570985008687907853269984665640564039457584007913129639936 := by
  have := (nb_all 32 l h).1
  rwa [show (2 : Nat) ^ (8 * 32) = 115792089237316195423570985008687907853269984665640564039457584007913129639936 by decide] at this
theorem bl_hl {l : List UInt8} (h : l.length = 32) : bl 32 l = hl (nb l) := by rw [bl_eq h, hl, nb_32 h]
theorem bl_rk {n : Nat} {l : List UInt8} (h : n ≤ l.length) : (rk b1 l).take n = bl n (l.take n) := by
  rw [rk_b1, bl_eq (by simp; omega), List.map_take]
def sN (b : List UInt8) : Nat := nb (sum b)
def tN (t b : List UInt8) : Nat := nb (tagged t b)
theorem sN_lt (b : List UInt8) : sN b < 115792089237316195423570985008687907853269984665640564039457584007913129639936 := nb_lt (len_sum b)
theorem dig_end (s : S8) : bl 32 (fill 32 0 (dbyte s) 32) = hl (nb (dig s)) := by rw [dig_def, bl_hl (len_dig s)]
theorem wl_eq {n : Nat} {a b : List W} (h : a = b) : wl n a = wl n b := by rw [h]
theorem bl_congr {n : Nat} {a b : List UInt8} (h : a = b) : bl n a = bl n b := by rw [h]
theorem rk_congr {α : Type} {f : α → List PV} {a b : List α} (h : a = b) : rk f a = rk f b := by rw [h]
theorem rk_set1 {α : Type} {g : α → PV} {b : List α} {i : Nat} {a : α} : (rk (fun a => [g a]) b).set i (g a) = rk (fun a => [g a]) (b.set i a) := by rw [rk_len1, rk_len1, List.map_set]
theorem rk_setb {b : List UInt8} {i : Nat} {a : UInt8} : (rk b1 b).set i (bv a) = rk b1 (b.set i a) := rk_set1 (g := bv)
theorem len_rkb (b : List UInt8) : (rk b1 b).length = b.length := by rw [len_rk, Nat.mul_one]
theorem app_one {b : List UInt8} {n : Nat} {x : UInt8} (hn : n = b.length) : ((rk b1 b).drop 0).take (n * 1) ++ (([bv x] : List PV).drop 0).take (1 * 1) = rk b1 (b ++ [x]) := by rw [row_all hn, ← rk_app]; rfl
def z8 : S8 := ⟨0, 0, 0, 0, 0, 0, 0, 0⟩
def bsP (len sz : Nat) (z : Value) (parts : List (Nat × PV)) (cs : List PV) : Prop := len * sz ≤ 16777216 ∧ 0 < len * sz ∧ z.cells.size = sz ∧ (∀ v ∈ z.cells.toList, v.oneCell' = true) ∧ parts.all (fun x => x.2.cells.all PV.one) = true ∧ cs.all PV.one = true
theorem bsP_ok {len sz : Nat} {z : Value} {parts : List (Nat × PV)} {cs : List PV} (h : (Nat.ble (len * sz) 16777216 && Nat.blt 0 (len * sz) && Nat.beq z.cells.size sz && z.cells.toList.all Value.oneCell' && parts.all (fun x => x.2.cells.all PV.one) && cs.all PV.one) = true) : bsP len sz z parts cs := by
  simp only [Bool.and_eq_true] at h
  exact ⟨Nat.le_of_ble_eq_true h.1.1.1.1.1, Nat.le_of_ble_eq_true h.1.1.1.1.2, Nat.eq_of_beq_eq_true h.1.1.1.2, List.all_eq_true.1 h.1.1.2, h.1.2, h.2⟩
def zOf (P : Program) (t : TypeId) : Value := match tyOf P t with
  | some T => T.zero
  | none => undef
theorem wl_ix {n i : Nat} (h : i < n) (l : List W) (d : PV) : PV.rptr [(wl n l).getD (i : Int).toNat d] = .rptr [uw (l.getD i 0)] := by rw [Int.toNat_natCast, wl_get h]
theorem lnz : (∀ a b : List UInt8, (a ++ b).length = a.length + b.length) ∧ (∀ (a : List UInt8) n, (a.take n).length = min n a.length) ∧ (∀ (a : List UInt8) n, (a.drop n).length = a.length - n) ∧
    (∀ n (x : UInt8), (List.replicate n x).length = n) ∧ (∀ (a : List UInt8) i x, (a.set i x).length = a.length) ∧ (∀ (a : List UInt8) x, (x :: a).length = a.length + 1) ∧ ([] : List UInt8).length = 0 ∧
    (∀ n, (by32 n).length = 32) ∧ (∀ s, (sb s).length = s.size) ∧ (∀ n, (pad n).length = 9 + padz n) ∧ (∀ n i, (padI n i).length = 1 + padz n + min i 8) ∧ (∀ s, (dig s).length = 32) ∧ (∀ b, (sum b).length = 32) ∧
    (∀ b : List UInt8, (rk b1 b).length = b.length) ∧ (∀ b i, (byB b i).length = 64) ∧ (∀ l t, (ext l t).length = l.length) ∧ (∀ n (z : W) f i, (fill n z f i).length = n) ∧ (∀ n (z : UInt8) f i, (fill n z f i).length = n) ∧ (∀ s : S8, s.l.length = 8) ∧ (∀ s r i, (addI s r i).length = 8) ∧ (∀ n (x : W), (List.replicate n x).length = n) :=
  ⟨fun _ _ => List.length_append, fun _ _ => List.length_take, fun _ _ => List.length_drop, fun _ _ => List.length_replicate, fun _ _ _ => List.length_set, fun _ _ => List.length_cons, rfl,
   len_by32, len_sb, len_pad, len_padI, len_dig, len_sum, len_rkb, len_byB, len_ext, len_fill, len_fill, len_l, len_addI, fun _ _ => List.length_replicate⟩
theorem lss_n0 (a : Nat) : bn .lss (ln a) (ln 0) = lB false := by
  show PV.lit (.bool (decide ((a : Int) < ((0 : Nat) : Int)))) = _
  rw [decide_eq_false (by omega)]; rfl
def mkN (m : Int) (bt sz : Nat) (z : Value) : Prop := 0 ≤ m ∧ m ≤ 9223372036854775807 ∧ m * (bt : Int) ≤ 281474976710656 ∧ z.cells.size = sz ∧ (∀ v ∈ z.cells.toList, v.oneCell' = true)
theorem mkN_ok {m bt sz : Nat} {z : Value} (h2 : m ≤ 9223372036854775807) (h1 : m * bt ≤ 281474976710656) (h4 : (Nat.beq z.cells.size sz && z.cells.toList.all Value.oneCell') = true) : mkN m bt sz z := by
  simp only [Bool.and_eq_true] at h4
  refine ⟨by omega, by omega, ?_, Nat.eq_of_beq_eq_true h4.1, List.all_eq_true.1 h4.2⟩
  rw [← Int.natCast_mul]; omega
theorem rem_u {a b : Nat} (hb : b < 18446744073709551616) : bn .rem (ul a) (ul b) = ul (a % 18446744073709551616 % b) := by
  have e : bn .rem (ul a) (ul b) = PV.lit (.int .u64 (((a % 18446744073709551616 : Nat) : Int).tmod ((b % 18446744073709551616 : Nat) : Int))) := rfl
  rw [e, Nat.mod_eq_of_lt hb, ← Int.ofNat_tmod]
  refine lit_u ?_
  have h1 : a % 18446744073709551616 % b ≤ a % 18446744073709551616 := Nat.mod_le _ _
  have h2 : a % 18446744073709551616 < 18446744073709551616 := Nat.mod_lt _ (by decide)
  rw [Nat.mod_eq_of_lt (a := a % 18446744073709551616 % b) (by omega)]
theorem rot_end {x : W} {n : Nat} (h1 : 1 ≤ n) (h2 : n ≤ 31) : uw (x <<< ((2 ^ 64 - n) % 32) ||| x >>> (32 - (2 ^ 64 - n) % 32)) = uw (rotr x n) := by
  rw [show (2 ^ 64 - n) % 32 = 32 - n by omega, show 32 - (32 - n) = n by omega]; rfl
theorem byB_end {b : List UInt8} {i : Nat} (h : i = 64) : wl 64 (byB b i) = wl 64 (ext (fill 64 0 (word b) 16) 0) := by
  subst h; exact wl_eq (byB_word b 16 (by decide))
theorem ext_step {l : List W} {t : Nat} : wl 64 ((ext l t).set (16 + t) ((ext l t).getD (16 + t - 16) 0 + (rotr ((ext l t).getD (16 + t - 15) 0) 7 ^^^ rotr ((ext l t).getD (16 + t - 15) 0) 18 ^^^ (ext l t).getD (16 + t - 15) 0 >>> 3) + (ext l t).getD (16 + t - 7) 0 +
    (rotr ((ext l t).getD (16 + t - 2) 0) 17 ^^^ rotr ((ext l t).getD (16 + t - 2) 0) 19 ^^^ (ext l t).getD (16 + t - 2) 0 >>> 10))) = wl 64 (ext l (t + 1)) := by
  rw [show 16 + t - 16 = t by omega, show 16 + t - 15 = t + 1 by omega, show 16 + t - 7 = t + 9 by omega, show 16 + t - 2 = t + 14 by omega]; rfl
theorem sched_end {b : List UInt8} {t : Nat} (h : t = 48) : PV.agg (wl 64 (ext (fill 64 0 (word b) 16) t)) = .agg (wl 64 (sched b)) := by subst h; rfl
theorem comp_end {s : S8} {b : List UInt8} {i : Nat} (h : i = 8) : PV.agg (wl 8 (addI s (rnds (sched b) s 64) i)) = .agg (sl (compress s b)) := by subst h; rfl
theorem rnds_at {b : List UInt8} {s : S8} {t : Nat} (h : t = 64) : PV.agg [uw (rnds (sched b) s t).a, uw (rnds (sched b) s t).b, uw (rnds (sched b) s t).c, uw (rnds (sched b) s t).d, uw (rnds (sched b) s t).e, uw (rnds (sched b) s t).f, uw (rnds (sched b) s t).g, uw (rnds (sched b) s t).h] = .agg (sl (rnds (sched b) s 64)) := by subst h; rfl
theorem pad_rem {n : Nat} (h : n < 18446744073709551616) : bn .rem (ul (55 + (2 ^ 64 - n % 2 ^ 64))) (ul 64) = ul (padz n) := by
  rw [rem_u (by decide)]; unfold padz; congr 1; omega
theorem dig_zero (s : S8) : hl 0 = bl 32 (fill 32 0 (dbyte s) 0) := by rfl
theorem dig_fin {s : S8} {i : Nat} (h : i = 32) : PV.agg (bl 32 (fill 32 0 (dbyte s) i)) = h32 (nb (dig s)) := by subst h; rw [dig_end]; rfl
theorem absorb_step {s : S8} {b : List UInt8} {q : Nat} : sl (compress (absorb q s b) (((b.drop (64 * q)).take 64).take 64)) = sl (absorb (q + 1) s b) := by rw [absorb_succ, List.take_take, Nat.min_self]
theorem drop_step {b : List UInt8} {q : Nat} : roK b1 ((b.drop (64 * q)).drop 64) = roK b1 (b.drop (64 * (q + 1))) := by rw [List.drop_drop]; rfl
theorem absorb_end {s : S8} {b : List UInt8} {q : Nat} (h : q = b.length / 64) : PV.agg (sl (absorb q s b)) = .agg (sl (absorb (b.length / 64) s b)) := by rw [h]
theorem sum_fin {b : List UInt8} : h32 (nb (dig (absorb ((b.drop (b.length - b.length % 64) ++ pad b.length).length / 64) (absorb ((b.take (b.length - b.length % 64)).length / 64) init8 (b.take (b.length - b.length % 64))) (b.drop (b.length - b.length % 64) ++ pad b.length)))) = h32 (sN b) := by
  have h := sum_split b
  have e : (b.take (b.length - b.length % 64)).length / 64 = b.length / 64 := by rw [List.length_take]; omega
  rw [e, h]; rfl
theorem padI_end {n i : Nat} (h : i = 8) : padI n i = pad n := by subst h; exact padI_all n
theorem rep_rk1 {m l : Nat} (h : m % 18446744073709551616 = l) : rep ((m % 18446744073709551616 : Nat) : Int).toNat (.int .u8 0) = rk b1 (List.replicate l 0) := by rw [h]; exact rep_rk rfl
theorem okW_closed {c : Nat → Bool} {p : PV} (h : closed p = true) : okW c p = true := (mpV_closed (f := id) p h).2
section
variable (c : Nat → Bool) (g : Nat → Nat)
end
end Go.Ab
namespace Go.Ab
open Go Go.RowKit
set_option linter.unusedVariables false
set_option linter.unusedSimpArgs false
set_option linter.unusedVariables false
variable {P : Program} {t e : TypeId}
def w1 (n : Nat) : List PV := [ul n]
instance : Kd w1 1 := ⟨fun _ => rfl, fun _ => rfl⟩
end Go.Ab
namespace Go.Ab
def pwm (n : Nat) : Nat → Nat → Nat → Nat
  | 0, _, _ => 1 % n
  | f + 1, a, e => bif e % 2 == 1 then a * pwm n f (a * a % n) (e / 2) % n else pwm n f (a * a % n) (e / 2)
theorem pwm_eq (n : Nat) : ∀ f a e, e < 2 ^ f → pwm n f a e = a ^ e % n
  | 0, a, e, h => by
    obtain rfl : e = 0 := by omega
    rfl
  | f + 1, a, e, h => by
    have ih := pwm_eq n f (a * a % n) (e / 2) (by rw [Nat.pow_succ] at h; omega)
    have e1 : (a * a % n) ^ (e / 2) % n = a ^ (2 * (e / 2)) % n := by
      rw [← Nat.pow_mod, Nat.pow_mul, show a ^ 2 = a * a by rw [Nat.pow_two]]
    unfold pwm
    by_cases h2 : e % 2 = 1
    · rw [ih, e1, h2]
      show a * (a ^ (2 * (e / 2)) % n) % n = _
      rw [Nat.mul_mod_mod]
      conv => rhs; rw [show e = 2 * (e / 2) + 1 by omega, Nat.pow_succ, Nat.mul_comm]
    · have h3 : e % 2 = 0 := by omega
      rw [ih, e1, h3]
      show a ^ (2 * (e / 2)) % n = _
      rw [show 2 * (e / 2) = e by omega]
def pP : Nat := 115792089237316195423570985008687907853269984665640564039457584007913129603823
def qP : Nat := 57896044618658097711785492504343953926634992332820282019728792003956564801911
theorem p2 : 2 ≤ pP := by decide +kernel
def mem (a : Nat) : Prop := 0 < a ∧ a < pP ∧ a ^ qP % pP = 1
instance (a : Nat) : Decidable (mem a) := by unfold mem; exact inferInstance
theorem four_q : 4 ^ qP % pP = 1 := by
  rw [← pwm_eq pP 255 4 qP (by decide +kernel)]
  decide +kernel
theorem pow_q {g : Nat} (h : g ^ qP % pP = 1) (e : Nat) : g ^ (e % qP) % pP = g ^ e % pP := by
  have e1 : g ^ e = (g ^ qP) ^ (e / qP) * g ^ (e % qP) := by rw [← Nat.pow_mul, ← Nat.pow_add, Nat.div_add_mod]
  have h1 : 1 % pP = 1 := Nat.mod_eq_of_lt p2
  conv => rhs; rw [e1, Nat.mul_mod, Nat.pow_mod, h, Nat.one_pow, h1, Nat.one_mul, Nat.mod_mod]
theorem pow_add_q {g : Nat} (h : g ^ qP % pP = 1) (a b : Nat) : g ^ ((a + b) % qP) % pP = (g ^ a % pP) * (g ^ b % pP) % pP := by
  rw [pow_q h, Nat.pow_add, Nat.mul_mod]
attribute [irreducible] pP qP
end Go.Ab
namespace Go.Ab
set_option maxRecDepth 8000
def gx (a e : Nat) : Nat := a ^ e % pP
theorem gx_eq (a e : Nat) : gx a e = a ^ e % pP := rfl
attribute [irreducible] gx
def mb (a : Nat) : Bool := decide (a ≠ 0) && decide (a < pP) && decide (gx a qP = 1)
attribute [irreducible] mb
theorem pow_add4 (a b : Nat) : gx 4 ((a + b) % qP) = gx 4 a * gx 4 b % pP := by
  rw [gx_eq, gx_eq, gx_eq]
  exact pow_add_q four_q a b
end Go.Ab
namespace Go.Ab
open Go Go.RowKit
theorem callR_to {P : Program} {g : FuncId} {xs : List PV} {r r' : PV} (h : r = r') (c : CallR P g xs r) : CallR P g xs r' := h ▸ c
end Go.Ab
