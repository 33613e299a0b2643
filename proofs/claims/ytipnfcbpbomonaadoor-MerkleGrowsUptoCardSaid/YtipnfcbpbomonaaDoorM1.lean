import Derived.Test.YtipnfcbpbomonaaDoorM0
import Derived.ChangeKeysEq
import Derived.Laws.MakeOwn
import Derived.Laws.StructEq
import Derived.Laws.BytesString
import Derived.Laws.IdiomStrings
namespace Go.Ab
open Go Go.RowKit
set_option linter.unusedVariables false
set_option linter.unusedSimpArgs false
variable {P : Program} {X : Nat → Prop} {β : List Base} {w : World} {L : LH}
theorem tyOf_spec {t : TypeId} {T : TI} (h : tyOf P t = some T) : P.underlying t = some T.und ∧ ∃ i, P.info? t = some i ∧ i.size = T.size ∧ i.bytes = T.bytes ∧ i.zero = some T.zero := by
  unfold tyOf at h
  split at h
  · rename_i d i hd hi
    cases hz : i.zero with
    | none => simp [hz] at h
    | some z =>
      simp [hz] at h
      subst h
      exact ⟨hd, i, hi, rfl, rfl, hz⟩
  · cases h
def Still (P : Program) (X : Nat → Prop) (β : List Base) (w : World) (L : LH) (m : Sem Value) (r : OR) : Prop :=
  ∃ v, m.run P w = .ok v w ∧ RepV X β w r.val v ∧ r.L = L
theorem still_lit {m : Sem Value} {v : Value} (h : m.run P w = .ok v w) {p : Prop} : Still P X β w L m ⟨p, .lit v, L⟩ :=
  ⟨v, h, by simp [RepV], rfl⟩
theorem binInt_run (op : BinOp) (t : TypeId) (k : IntKind) (a b : Int) (h : (binInt op k a b).1) (h1 : op ≠ .shl) (h2 : op ≠ .shr) :
    (binOp op t (.int k a) (.int k b)).run P w = .ok (binInt op k a b).2 w := by
  cases op <;> simp [binInt] at h ⊢ <;> first | contradiction | (simp [binOp, Op.intArith, Op.intBits, Op.intCmp]; done) | (simp [binOp, Op.intDiv, h]; done)
theorem binStr_run (op : BinOp) (t : TypeId) (a b : ByteArray) (h : (binStr op a b).1) :
    (binOp op t (.string a) (.string b)).run P w = .ok (binStr op a b).2 w := by
  cases op <;> simp [binStr] at h ⊢ <;> first | contradiction | (simp [binOp, Op.stringOp]; done) | skip
  simp [binOp, Op.stringOp]
  exact h
theorem repL_ints {k : IntKind} : ∀ {ps : List PV} {vs : List Value}, isInts k ps → RepL X β w ps vs → vs = (intsOf ps).map (Value.int k)
  | [], vs, _, h => by simp [RepL] at h; simp [h, intsOf]
  | .lit (.int k' n) :: r, vs, hi, h => by
    simp only [RepL, RepV] at h
    obtain ⟨v, r', rfl, rfl, h2⟩ := h
    simp only [isInts] at hi
    simp [intsOf, hi.1, repL_ints hi.2 h2]
theorem guard_int (op : BinOp) (t : TypeId) (x y : Operand) (k k' : IntKind) (a b : Int) : (eqGuard op t x y (.int k a) (.int k' b)).run P w = .ok () w := by
  cases op <;> simp [eqGuard]
theorem guard_str (op : BinOp) (t : TypeId) (x y : Operand) (a b : ByteArray) : (eqGuard op t x y (.string a) (.string b)).run P w = .ok () w := by
  cases op <;> simp [eqGuard]
theorem guard_bool (op : BinOp) (t : TypeId) (x y : Operand) (a b : Bool) : (eqGuard op t x y (.bool a) (.bool b)).run P w = .ok () w := by
  cases op <;> simp [eqGuard]
theorem guard_agg (op : BinOp) (t : TypeId) (x y : Operand) (xs ys : Array Value) (hg : P.eqGuardType P.depth t = false) :
    (eqGuard op t x y (.agg xs) (.agg ys)).run P w = .ok () w := by
  cases op <;> simp [eqGuard, program, Sem.run, hg]
theorem isIntsB_pre {k : IntKind} : ∀ {l : List PV}, isIntsB k l = true → isInts k l
  | [], _ => trivial
  | .lit v :: r, h => by
    cases v with
    | int k' n =>
      simp only [isIntsB, Bool.and_eq_true, decide_eq_true_eq] at h
      exact ⟨h.1, isIntsB_pre h.2⟩
    | _ => simp [isIntsB] at h
  | .any :: _, h => by simp [isIntsB] at h
  | .ro _ _ :: _, h => by simp [isIntsB] at h
  | .own _ _ _ _ :: _, h => by simp [isIntsB] at h
  | .ptr _ _ :: _, h => by simp [isIntsB] at h
  | .rptr _ :: _, h => by simp [isIntsB] at h
  | .agg _ :: _, h => by simp [isIntsB] at h
  | .tup _ :: _, h => by simp [isIntsB] at h
  | .fn _ _ _ :: _, h => by simp [isIntsB] at h
  | .new _ _ _ :: _, h => by simp [isIntsB] at h
theorem equalIn_ints (d : Nat) (t e : TypeId) (n : Nat) (k : IntKind) (i : TypeInfo) (as bs : List Int) (ht : P.underlying t = some (.array n e)) (he : P.underlying e = some (.int k)) (hi : P.info? e = some i) (h1 : i.size = 1)
    (ha : as.length = n) (hb : bs.length = n) :
    (Op.equalIn (d + 1 + 1) t (.agg (as.map (Value.int k)).toArray) (.agg (bs.map (Value.int k)).toArray)).run P w = .ok (as == bs) w := by
  rw [run_equalIn_array w (d + 1) _ _ ht hi]
  have hc : P.cellsOf e = 1 := by simp [Program.cellsOf, hi, h1]
  rw [hc]
  have key : ∀ (m : Nat) (is : List Nat), (∀ j ∈ is, j < n) → (Op.eqItems (d + 1) e 1 (as.map (Value.int k)).toArray (bs.map (Value.int k)).toArray is).run P w = .ok (is.all fun j => as.getD j 0 == bs.getD j 0) w := by
    intro m is
    induction is with
    | nil => intro _; simp [Op.eqItems]
    | cons j is ih =>
      intro hj
      have hjn := hj j (by simp)
      have pa : (part e (as.map (Value.int k)).toArray (j * 1)).run P w = .ok (.int k (as.getD j 0)) w := by
        simp [part, isAgg, run_underlying he, List.getElem?_eq_getElem (show j < as.length by omega)]
      have pb : (part e (bs.map (Value.int k)).toArray (j * 1)).run P w = .ok (.int k (bs.getD j 0)) w := by
        simp [part, isAgg, run_underlying he, List.getElem?_eq_getElem (show j < bs.length by omega)]
      have pe : (Op.equalIn (d + 1) e (.int k (as.getD j 0)) (.int k (bs.getD j 0))).run P w = .ok (as.getD j 0 == bs.getD j 0) w := by
        simp [Op.equalIn, run_underlying he]
      simp only [Op.eqItems, Sem.run_bind, pa, pb, pe, Result.andThen_ok, List.all_cons]
      cases hq : (as.getD j 0 == bs.getD j 0)
      · simp
      · simp; exact ih (fun q hq => hj q (by simp [hq]))
  rw [key 0 (List.range n) (fun j hj => by simpa using hj)]
  congr 1
  rw [Bool.eq_iff_iff]
  simp only [List.all_eq_true, List.mem_range, beq_iff_eq]
  constructor
  · intro h
    apply List.ext_getElem (by omega)
    intro j h1 h2
    have := h j (by omega)
    simpa [List.getD, List.getElem?_eq_getElem h1, List.getElem?_eq_getElem h2] using this
  · rintro rfl j _
    rfl
theorem repL_nth {ps : List PV} {vs : List Value} (h : RepL X β w ps vs) {i : Nat} {p : PV} (hp : ps[i]? = some p) : ∃ v, vs[i]? = some v ∧ RepV X β w p v := by
  rw [RepL.iff] at h
  have hi : i < vs.length := by rw [h.1]; exact (List.getElem?_eq_some_iff.1 hp).1
  exact ⟨vs[i], by simp [hi], h.2 i p _ hp (by simp [hi])⟩
theorem partF_run {t : TypeId} {T : TI} (hT : tyOf P t = some T) {cs : List PV} {vs : List Value} {off : Nat} (hpre : (partF T cs off).1) (h : RepL X β w cs vs) :
    ∃ v, (part t vs.toArray off).run P w = .ok v w ∧ RepV X β w (partF T cs off).2 v := by
  obtain ⟨u, i, hi, hs, _, _⟩ := tyOf_spec hT
  unfold partF at hpre ⊢
  split at hpre
  · rename_i ha
    simp only [ha, if_true]
    have hagg : (isAgg t).run P w = .ok true w := by
      unfold isAggD at ha
      split at ha
      · rename_i f hf; simp [isAgg, run_underlying u, hf]
      · rename_i n e hf; simp [isAgg, run_underlying u, hf]
      · cases ha
    have hL := RepL.length h
    refine ⟨.agg (vs.toArray.extract off (off + T.size)), ?_, ?_⟩
    · simp [part, hagg, sizeOf, typeInfo, hi, hs]
    · simp only [RepV]
      refine ⟨(vs.drop off).take T.size, ?_, ?_⟩
      · congr 1
        apply Array.ext'
        simp [List.extract]
      · rw [RepL.iff] at h ⊢
        refine ⟨by simp [h.1], fun j p v hp hv => ?_⟩
        rw [List.getElem?_take] at hp hv
        split at hp
        · rename_i hj
          rw [if_pos hj, List.getElem?_drop] at hv
          rw [List.getElem?_drop] at hp
          exact h.2 _ p v hp hv
        · cases hp
  · rename_i ha
    simp only [ha, if_false]
    have hagg : (isAgg t).run P w = .ok false w := by
      simp [isAgg, run_underlying u]
      cases hd : T.und <;> simp [hd, isAggD] at ha ⊢
    obtain ⟨v, hv, hr⟩ := repL_nth h (i := off) (p := cs[off]) (by simp [hpre])
    refine ⟨v, ?_, by simpa [List.getElem?_eq_getElem hpre] using hr⟩
    simp [part, hagg, hv]
theorem partO_run {t : TypeId} {T : TI} (hT : tyOf P t = some T) {cs : List PV} {vs : List Value} {off : Nat} {p : PV} (h0 : partO T cs off = some p) (h : RepL X β w cs vs) :
    ∃ v, (part t vs.toArray off).run P w = .ok v w ∧ RepV X β w p v := by
  have e : (partF T cs off).1 ∧ (partF T cs off).2 = p := by
    unfold partO at h0
    unfold partF
    cases ha : isAggD T.und with
    | true =>
      rw [ha] at h0
      simp only [cond_true] at h0
      cases hb : Nat.ble (off + T.size) cs.length with
      | true => rw [hb] at h0; exact ⟨Nat.le_of_ble_eq_true hb, by simpa using h0⟩
      | false => rw [hb] at h0; cases h0
    | false =>
      rw [ha] at h0
      simp only [cond_false] at h0
      cases hb : Nat.blt off cs.length with
      | true => rw [hb] at h0; exact ⟨Nat.le_of_ble_eq_true hb, by simpa using h0⟩
      | false => rw [hb] at h0; cases h0
  rw [← e.2]
  exact partF_run hT e.1 h
theorem andO_some {a b : Option Bool} {c : Bool} (h : andO a b = some c) : ∃ x y, a = some x ∧ b = some y ∧ c = (x && y) := by
  cases a with
  | none => cases h
  | some x => cases b with
    | none => cases h
    | some y => exact ⟨x, y, rfl, rfl, by cases h; rfl⟩
theorem eqAll_cons {α : Type} {f : α → Option Bool} {a : α} {l : List α} {c : Bool} (h : eqAll f (a :: l) = some c) : ∃ x y, f a = some x ∧ eqAll f l = some y ∧ c = (x && y) := by
  cases l with
  | nil => exact ⟨c, true, h, rfl, by simp⟩
  | cons b l => exact andO_some h
theorem eqV_run : ∀ {d k : Nat} {t : TypeId} {x y : PV} {b : Bool} {vx vy : Value}, eqV P d t x y = some b → RepV X β w x vx → RepV X β w y vy → (Op.equalIn (k + d) t vx vy).run P w = .ok b w
  | 0, _, _, _, _, _, _, _, h, _, _ => by cases h
  | d + 1, k, t, x, y, b, vx, vy, h, hx, hy => by
    have hk : k + (d + 1) = k + d + 1 := rfl
    rw [hk]
    unfold eqV at h
    split at h
    · rename_i hu
      split at h
      · simp only [RepV] at hx hy; subst hx hy
        cases h
        simp [Op.equalIn, run_underlying hu]
      · cases h
    · rename_i hu
      split at h
      · rename_i k1 a k2 c
        simp only [RepV] at hx hy; subst hx hy
        cases hd : decide (k1 = k2) with
        | false => rw [hd] at h; cases h
        | true =>
          rw [hd] at h
          have := of_decide_eq_true hd
          subst this
          cases h
          simp [Op.equalIn, run_underlying hu]
      · cases h
    · rename_i hu
      split at h
      · simp only [RepV] at hx hy; subst hx hy
        cases h
        simp [Op.equalIn, run_underlying hu, beq_toListBytes]
      · cases h
    · rename_i n e hu
      split at h
      · rename_i E xs ys hE
        simp only [RepV] at hx hy
        obtain ⟨vs, rfl, hx⟩ := hx
        obtain ⟨us, rfl, hy⟩ := hy
        obtain ⟨he, i, hi, hs, _, _⟩ := tyOf_spec hE
        have hc : P.cellsOf e = E.size := by simp [Program.cellsOf, hi, hs]
        split at h
        · rename_i kk hkk
          cases hb : (Nat.blt 0 d && Nat.beq E.size 1 && Nat.beq xs.length n && Nat.beq ys.length n && isIntsB kk xs && isIntsB kk ys) with
          | false => rw [hb] at h; cases h
          | true =>
            rw [hb] at h
            cases h
            simp only [Bool.and_eq_true] at hb
            obtain ⟨⟨⟨⟨⟨h0, h1⟩, h2⟩, h3⟩, h4⟩, h5⟩ := hb
            have h0 : 0 < d := Nat.le_of_ble_eq_true h0
            have h1 := Nat.eq_of_beq_eq_true h1
            have h2 := Nat.eq_of_beq_eq_true h2
            have h3 := Nat.eq_of_beq_eq_true h3
            have lx := repL_ints (isIntsB_pre h4) hx
            have ly := repL_ints (isIntsB_pre h5) hy
            have lx' := RepL.length hx
            have ly' := RepL.length hy
            subst lx ly
            simp at lx' ly'
            rw [hkk] at he
            obtain ⟨d', rfl⟩ : ∃ d', d = d' + 1 := ⟨d - 1, by omega⟩
            exact equalIn_ints (k + d') t e n kk i _ _ hu he hi (by omega) (by omega) (by omega)
        · rw [run_equalIn_array w (k + d) _ _ hu hi, hc]
          generalize List.range n = is at h
          clear hu
          induction is generalizing b with
          | nil => cases h; simp [Op.eqItems]
          | cons j is ih =>
            obtain ⟨x1, y1, h1, h2, rfl⟩ := eqAll_cons h
            split at h1
            · rename_i pa pb ha hb
              obtain ⟨va, ra, ha⟩ := partO_run hE ha hx
              obtain ⟨vb, rb, hb⟩ := partO_run hE hb hy
              have he := eqV_run (k := k) h1 ha hb
              simp only [Op.eqItems, Sem.run_bind, ra, rb, he, Result.andThen_ok]
              cases x1
              · simp
              · simp; exact ih _ h2
            · cases h1
      · cases h
    · rename_i fs hu
      cases hst : P.stoodInHeld t with
      | true => rw [hst] at h; cases h
      | false =>
        rw [hst] at h
        simp only [cond_false] at h
        split at h
        · rename_i xs ys
          simp only [RepV] at hx hy
          obtain ⟨vs, rfl, hx⟩ := hx
          obtain ⟨us, rfl, hy⟩ := hy
          have hf : P.fieldsOf t = fs := by simp [Program.fieldsOf, hu]
          rw [run_equalIn_struct w (k + d) t _ _ (by rw [hf]; exact hu) hst, hf]
          generalize fs.toList = is at h
          clear hu hf
          induction is generalizing b with
          | nil => cases h; simp [Op.eqFields]
          | cons f is ih =>
            obtain ⟨x1, y1, h1, h2, rfl⟩ := eqAll_cons h
            simp only [Op.eqFields]
            by_cases hn : f.name = "_"
            · have : (f.name == "_") = true := by simp [hn]
              rw [this] at h1
              cases h1
              simp [hn]; exact ih _ h2
            · have : (f.name == "_") = false := by simp [hn]
              rw [this] at h1
              simp only [cond_false] at h1
              split at h1
              · rename_i T hT
                split at h1
                · rename_i pa pb ha hb
                  obtain ⟨va, ra, ha⟩ := partO_run hT ha hx
                  obtain ⟨vb, rb, hb⟩ := partO_run hT hb hy
                  have he := eqV_run (k := k) h1 ha hb
                  simp only [if_pos (show f.name ≠ "_" from hn), Sem.run_bind, ra, rb, he, Result.andThen_ok]
                  cases x1
                  · simp
                  · simp; exact ih _ h2
                · cases h1
              · cases h1
        · cases h
    · cases h
theorem eqG_run {t : TypeId} {x y : PV} {b : Bool} {vx vy : Value} (h : eqG P t x y = some b) (hx : RepV X β w x vx) (hy : RepV X β w y vy) :
    P.eqGuardType P.depth t = false ∧ (Op.equal t vx vy).run P w = .ok b w := by
  unfold eqG at h
  cases hg : P.eqGuardType P.depth t with
  | true => rw [hg] at h; cases h
  | false =>
    rw [hg] at h
    refine ⟨rfl, ?_⟩
    have e : Op.maxDepth = 9992 + 8 := rfl
    unfold Op.equal
    rw [e]
    exact eqV_run h hx hy
theorem binF_still (op : BinOp) (t : TypeId) (ox oy : Operand) (x y : PV) (vx vy : Value) (hpre : (binF P op t x y L).pre) (hx : RepV X β w x vx) (hy : RepV X β w y vy) :
    Still P X β w L (do eqGuard op t ox oy vx vy; binOp op t vx vy) (binF P op t x y L) := by
  unfold binF at hpre ⊢
  split at hpre
  · simp only [RepV] at hx hy; subst hx hy
    refine still_lit ?_
    simp only [Sem.run_bind, guard_int, Result.andThen_ok]
    have : ¬ _ < _ := Int.not_lt.2 hpre
    simp [binOp, Op.shift, this]
  · simp only [RepV] at hx hy; subst hx hy
    refine still_lit ?_
    simp only [Sem.run_bind, guard_int, Result.andThen_ok]
    have : ¬ _ < _ := Int.not_lt.2 hpre
    simp [binOp, Op.shift, this]
  · rename_i k a k' b h1 h2
    simp only [RepV] at hx hy; subst hx hy
    obtain ⟨rfl, hpre⟩ := hpre
    have h1' : op ≠ BinOp.shl := fun e => by subst e; simp [binInt] at hpre
    have h2' : op ≠ BinOp.shr := fun e => by subst e; simp [binInt] at hpre
    refine still_lit ?_
    simp only [Sem.run_bind, guard_int, Result.andThen_ok, binInt_run op t k a b hpre h1' h2']
  · rename_i a b
    simp only [RepV] at hx hy; subst hx hy
    refine still_lit ?_
    simp only [Sem.run_bind, guard_str, Result.andThen_ok, binStr_run op t a b hpre]
  · simp only [RepV] at hx hy; subst hx hy
    refine still_lit ?_
    simp only [Option.map_eq_some_iff] at hpre
    obtain ⟨T, hT, hu⟩ := hpre
    have := (tyOf_spec hT).1
    rw [hu] at this
    obtain ⟨d, hd⟩ : ∃ d, Op.maxDepth = d + 1 := ⟨9999, rfl⟩
    simp [guard_bool, binOp, Op.equal, hd, Op.equalIn, run_underlying this]
  · simp only [RepV] at hx hy; subst hx hy
    refine still_lit ?_
    simp only [Option.map_eq_some_iff] at hpre
    obtain ⟨T, hT, hu⟩ := hpre
    have := (tyOf_spec hT).1
    rw [hu] at this
    obtain ⟨d, hd⟩ : ∃ d, Op.maxDepth = d + 1 := ⟨9999, rfl⟩
    simp [guard_bool, binOp, Op.equal, hd, Op.equalIn, run_underlying this]
  · rename_i xs ys
    split at hpre
    · rename_i b hb
      obtain ⟨hg, he⟩ := eqG_run hb hx hy
      simp only [RepV] at hx hy
      obtain ⟨vs, rfl, hx⟩ := hx
      obtain ⟨us, rfl, hy⟩ := hy
      try simp only [hb]
      refine still_lit ?_
      simp only [Sem.run_bind, guard_agg _ t ox oy _ _ hg, Result.andThen_ok]
      simp [binOp, he]
    · exact absurd hpre (by simp [OR.bad])
  · rename_i xs ys
    split at hpre
    · rename_i b hb
      obtain ⟨hg, he⟩ := eqG_run hb hx hy
      simp only [RepV] at hx hy
      obtain ⟨vs, rfl, hx⟩ := hx
      obtain ⟨us, rfl, hy⟩ := hy
      try simp only [hb]
      refine still_lit ?_
      simp only [Sem.run_bind, guard_agg _ t ox oy _ _ hg, Result.andThen_ok]
      simp [binOp, he]
    · exact absurd hpre (by simp [OR.bad])
  · exact absurd hpre (by simp [OR.bad])
theorem unF_still (op : UnOp) (x : PV) (vx : Value) (hpre : (unF op x L).pre) (hx : RepV X β w x vx) : Still P X β w L (Op.unary op vx) (unF op x L) := by
  unfold unF at hpre ⊢
  split at hpre <;> first | (exfalso; simp [OR.bad] at hpre; done) | skip
  all_goals
    simp only [RepV] at hx; subst hx
    refine still_lit ?_
    simp [Op.unary, Op.intArith, Op.intBits]
theorem slc_rep {x : PV} {v : Value} (hpre : (slc L x).1) (hH : RepH X β w L) (hx : RepV X β w x v) :
    ∃ a cap, v = .slice a (slc L x).2.1 cap ∧ (slc L x).2.1 ≤ cap ∧ ((slc L x).2.2 = [] ∨ ∃ b off, a = some ⟨b, off, none⟩ ∧ RepRow X β w b off (slc L x).2.2) := by
  unfold slc at hpre ⊢
  split
  · simp only [RepV] at hx; subst hx
    exact ⟨none, 0, rfl, Nat.le_refl _, .inl rfl⟩
  · simp only [RepV] at hx
    obtain ⟨a, cap, hv, hn, hc⟩ := hx
    refine ⟨a, cap, hv, hn, ?_⟩
    rcases hc with hc | ⟨b, off, ha, _, _, hr⟩
    · exact .inl hc
    · exact .inr ⟨b, off, ha, hr⟩
  · rename_i id off n sz
    simp only at hpre
    cases hL : L[id]? with
    | none => simp [hL] at hpre
    | some le =>
      cases le with
      | dead => simp [hL] at hpre
      | cells cs =>
        simp only [hL] at hpre ⊢
        simp only [RepV] at hx
        obtain ⟨hid, hb, hnil⟩ := hx
        rcases hH.ent id cs hL with ⟨h1, rfl⟩ | ⟨b, base, c, el, h1, h2, h3, h4⟩
        · obtain ⟨rfl, rfl, rfl⟩ := hnil.1 h1
          exact ⟨none, 0, rfl, Nat.le_refl _, .inl (by simp)⟩
        · obtain ⟨cap, hv, hn, _⟩ := hb b base h1
          refine ⟨_, cap, hv, hn, .inr ⟨b, base + off, rfl, ?_⟩⟩
          rw [RepRow.iff] at h4 ⊢
          intro i p hp
          rw [List.getElem?_take] at hp
          split at hp
          · rw [List.getElem?_drop] at hp
            have := h4 (off + i) p hp
            rw [show base + off + i = base + (off + i) by omega]
            exact this
          · cases hp
  · rename_i hne1 hne2 hne3; exfalso; revert hpre; split
    · exact fun _ => hne1 rfl
    · exact fun _ => hne2 _ _ rfl
    · exact fun _ => hne3 _ _ _ _ rfl
    · exact id
theorem row_list {b off : Nat} {ps : List PV} (h : RepRow X β w b off ps) : ∃ vs : List Value, RepL X β w ps vs ∧ vs.length = ps.length ∧ (∀ (j : Nat) v, vs[j]? = some v → w.cell? ((⟨b, off, none⟩ : Addr).add j) = some v) ∧ (∀ v ∈ vs, v.oneCell' = true) := by
  induction ps generalizing off with
  | nil => exact ⟨[], by simp [RepL], rfl, by simp, by simp⟩
  | cons p ps ih =>
    simp only [RepRow] at h
    obtain ⟨⟨v, hv, ho, hr⟩, h2⟩ := h
    obtain ⟨vs, h3, h4, h5, h6⟩ := ih h2
    refine ⟨v :: vs, by simp only [RepL]; exact ⟨v, vs, rfl, hr, h3⟩, by simp [h4], fun j u hu => ?_, by simpa using ⟨ho, h6⟩⟩
    rw [Addr.add_lit]
    cases j with
    | zero => simp at hu; subst hu; simpa using hv
    | succ j =>
      simp at hu
      have := h5 j u hu
      rw [Addr.add_lit] at this
      rw [show off + (j + 1) = off + 1 + j by omega]; exact this
theorem slc_list {x : PV} {v : Value} (hpre : (slc L x).1) (hH : RepH X β w L) (hx : RepV X β w x v) :
    ∃ a cap, v = .slice a (slc L x).2.1 cap ∧ (slc L x).2.1 ≤ cap ∧ ∃ vs : List Value, RepL X β w (slc L x).2.2 vs ∧ vs.length = (slc L x).2.2.length ∧ (∀ v ∈ vs, v.oneCell' = true) ∧
      (vs = [] ∨ ∃ b, a = some b ∧ (∀ (j : Nat) u, vs[j]? = some u → w.cell? (b.add j) = some u)) := by
  obtain ⟨a, cap, hv, hn, hc⟩ := slc_rep hpre hH hx
  refine ⟨a, cap, hv, hn, ?_⟩
  rcases hc with hc | ⟨b, off, ha, hr⟩
  · rw [hc]
    exact ⟨[], by simp [RepL], rfl, by simp, .inl rfl⟩
  · obtain ⟨vs, h1, h2, h3, h4⟩ := row_list hr
    exact ⟨vs, h1, h2, h4, .inr ⟨_, ha, h3⟩⟩
theorem firstCells_run {size n : Nat} {a : Option Addr} {len cap : Nat} {vs : List Value} (hl : vs.length = n * size)
    (h : vs = [] ∨ ∃ b, a = some b ∧ (∀ (j : Nat) u, vs[j]? = some u → w.cell? (b.add j) = some u)) :
    (Builtin.firstCells size n (.slice a len cap)).run P w = .ok vs.toArray w := by
  rcases h with rfl | ⟨b, rfl, h⟩
  · cases a with
    | none => exact run_firstCells_none w size n len cap
    | some b => exact run_firstCells_some w size n b len cap [] hl (by simp)
  · exact run_firstCells_some w size n b len cap vs hl h
theorem repL_bytes : ∀ {ps : List PV} {vs : List Value}, (∀ p ∈ ps, isByte p) → RepL X β w ps vs → ∃ ns : List Int, vs = ns.map (Value.int .u8) ∧ ps.map byteOf = ns.map fun n => UInt8.ofNat n.toNat
  | [], vs, _, h => by simp [RepL] at h; exact ⟨[], by simp [h], by simp⟩
  | p :: r, vs, hi, h => by
    simp only [RepL] at h
    obtain ⟨v, r', rfl, hv, h2⟩ := h
    have hp := hi p (by simp)
    unfold isByte at hp
    split at hp
    · rename_i n
      simp only [RepV] at hv; subst hv
      obtain ⟨ns, h3, h4⟩ := repL_bytes (fun p hp => hi p (by simp [hp])) h2
      exact ⟨n :: ns, by simp [h3], by simp [h4, byteOf]⟩
    · exact hp.elim
theorem bytesToString_run {a : Option Addr} {n cap : Nat} {ns : List Int} (hl : ns.length = n) (h : ns.map (Value.int .u8) = [] ∨ ∃ b, a = some b ∧ (∀ (j : Nat) u, (ns.map (Value.int .u8))[j]? = some u → w.cell? (b.add j) = some u)) :
    (Conv.bytesToString (.slice a n cap)).run P w = .ok (.string ⟨(ns.map fun n => UInt8.ofNat n.toNat).toArray⟩) w := by
  have key : ∀ (ns : List Int) (s : ByteArray), ns.foldl (fun r n => r.push (UInt8.ofNat n.toNat)) s = ⟨s.data ++ (ns.map fun n => UInt8.ofNat n.toNat).toArray⟩ := by
    intro ns
    induction ns with
    | nil => intro s; simp
    | cons n ns ih => intro s; simp only [List.foldl_cons]; rw [ih]; simp [ByteArray.push]
  have he0 : ByteArray.empty.data = #[] := rfl
  rcases h with h | ⟨b, rfl, h⟩
  · have : ns = [] := by simpa using h
    subst this
    simp at hl; subst hl
    cases a with
    | none => simp [Conv.bytesToString]; rfl
    | some a =>
      rw [run_bytesToString w a 0 cap [] (by simp [loadCells, loadCellsFrom])]
      rfl
  · have hc := run_loadCells_list (P := P) w b (ns.map (Value.int .u8)) h
    simp only [List.length_map, hl] at hc
    rw [run_bytesToString w b n cap ns hc, key, he0]
    simp
def Goes (P : Program) (X : Nat → Prop) (β : List Base) (w : World) (L : LH) (draw : Bool) (m : Sem Value) (r : OR) : Prop :=
  ∃ v w' β', m.run P w = .ok v w' ∧ RepV X β' w' r.val v ∧ RepH X β' w' r.L ∧ Grow β β' w w' ∧ (draw = true → β' = β ∧ r.L = L)
theorem Still.goes {m : Sem Value} {r : OR} {draw : Bool} (h : Still P X β w L m r) (hH : RepH X β w L) : Goes P X β w L draw m r := by
  obtain ⟨v, h1, h2, h3⟩ := h
  exact ⟨v, w, β, h1, h2, by rw [h3]; exact hH, Grow.refl β w, fun _ => ⟨rfl, h3⟩⟩
theorem RepH.same {w' : World} (hH : RepH X β w L) (g : Grow β β w w') (hb : ∀ (k : Nat), k < w.heap.size → w'.heap[k]? = w.heap[k]?) : RepH X β w' L where
  len := hH.len
  inj := hH.inj
  lt := fun b hl => Nat.lt_of_lt_of_le (hH.lt b hl) g.size
  out := fun b hx => ⟨Nat.lt_of_lt_of_le (hH.out b hx).1 g.size, (hH.out b hx).2⟩
  ent := fun id cs hL => by
    rcases hH.ent id cs hL with h | ⟨b, base, c, el, h1, h2, h3, h4⟩
    · exact .inl h
    · refine .inr ⟨b, base, c, el, h1, ?_, h3, ?_⟩
      · rw [hb b (hH.lt b ⟨id, base, h1⟩)]; exact h2
      · rw [RepRow.iff] at h4 ⊢
        intro i p hp
        obtain ⟨v, hv, ho, hr⟩ := h4 i p hp
        refine ⟨v, ?_, ho, hr.grow g⟩
        rw [← hv]
        exact World.cell?_of_block (hb b (hH.lt b ⟨id, base, h1⟩))
theorem grow_drew : Grow β β w w.drew := ⟨rfl, rfl, rfl, Nat.le_refl _, fun _ _ _ => rfl, fun k c el fr h => ⟨c, fr, h, rfl⟩, fun _ h => .inl h, Nat.le_refl _, fun _ _ _ h _ => h⟩
theorem heap_old (o : Obj) {k : Nat} (h : k < w.heap.size) : (w.alloc o).heap[k]? = w.heap[k]? := heap_alloc_old w o k h
theorem grow_alloc (o : Obj) : Grow β β w (w.alloc o) :=
  ⟨rfl, rfl, rfl, by simp, fun k hk _ => heap_old o hk, fun k c el fr h => ⟨c, fr, by rw [heap_old o (Array.getElem?_eq_some_iff.1 h).1]; exact h, rfl⟩, fun _ h => .inl h, Nat.le_refl _, fun _ _ _ h _ => h⟩
theorem live_snoc {y : Base} {b : Nat} (h : Live (β ++ [y]) b) : Live β b ∨ ∃ base, y = .blk b base := by
  obtain ⟨id, base, h⟩ := h
  rw [List.getElem?_append] at h
  split at h
  · exact .inl ⟨id, base, h⟩
  · rw [List.getElem?_singleton] at h
    split at h
    · simp at h; exact .inr ⟨base, h⟩
    · cases h
theorem grow_alloc_id (o : Obj) (y : Base) (hy : ∀ b base, y = .blk b base → b = w.heap.size) : Grow β (β ++ [y]) w (w.alloc o) :=
  ⟨rfl, rfl, rfl, by simp, fun k hk _ => heap_old o hk, fun k c el fr h => ⟨c, fr, by rw [heap_old o (Array.getElem?_eq_some_iff.1 h).1]; exact h, rfl⟩,
    fun b hb => by
      rcases live_snoc hb with h | ⟨base, h⟩
      · exact .inl h
      · exact .inr (by rw [hy b base h]; exact Nat.le_refl _),
    by simp, fun id x hid hx _ => by rw [List.getElem?_append_left hid] at hx; exact hx⟩
def Holds (X : Nat → Prop) (β : List Base) (w : World) (c : Array Value) (cs : List PV) : Prop :=
  cs.length ≤ c.size ∧ ∀ (i : Nat) p, cs[i]? = some p → ∃ v, c[i]? = some v ∧ v.oneCell' = true ∧ RepV X β w p v
theorem Holds.grow {β' : List Base} {w' : World} {c : Array Value} {cs : List PV} (h : Holds X β w c cs) (g : Grow β β' w w') : Holds X β' w' c cs :=
  ⟨h.1, fun i p hp => by obtain ⟨v, h1, h2, h3⟩ := h.2 i p hp; exact ⟨v, h1, h2, h3.grow g⟩⟩
theorem Holds.row {c : Array Value} {cs : List PV} {el : TypeId} {fr : Nat × Nat} (h : Holds X β w c cs) {w' : World} {b : Nat} (hw : w'.heap[b]? = some (.cells c el fr)) {β' : List Base} (g : Grow β β' w w') : RepRow X β' w' b 0 cs := by
  rw [RepRow.iff]
  intro i p hp
  obtain ⟨v, h1, h2, h3⟩ := h.2 i p hp
  exact ⟨v, by rw [Nat.zero_add, cell_of_row w' b i c el fr hw]; exact h1, h2, h3.grow g⟩
theorem repH_alloc {c : Array Value} {cs : List PV} {el : TypeId} (hH : RepH X β w L) (h : Holds X β w c cs) :
    RepH X (β ++ [.blk w.heap.size 0]) (w.alloc (.cells c el)) (L ++ [.cells cs]) := by
  have g : Grow β (β ++ [.blk w.heap.size 0]) w (w.alloc (.cells c el)) := grow_alloc_id _ _ (fun b base e => by cases e; rfl)
  refine ⟨by simp [hH.len], ?_, ?_, ?_, ?_⟩
  · intro i j b x y hi hj
    rw [List.getElem?_append] at hi hj
    split at hi <;> split at hj
    · exact hH.inj i j b x y hi hj
    · rw [List.getElem?_singleton] at hj
      split at hj
      · simp at hj
        have := hH.lt b ⟨i, x, hi⟩
        omega
      · cases hj
    · rw [List.getElem?_singleton] at hi
      split at hi
      · simp at hi
        have := hH.lt b ⟨j, y, hj⟩
        omega
      · cases hi
    · rw [List.getElem?_singleton] at hi hj
      split at hi <;> split at hj <;> first | (cases hi; done) | (cases hj; done) | omega
  · intro b hb
    rcases live_snoc hb with h' | ⟨base, h'⟩
    · have := hH.lt b h'; simp; omega
    · cases h'; simp
  · intro b hx
    have := hH.out b hx
    refine ⟨by simp; omega, fun hl => ?_⟩
    rcases live_snoc hl with h' | ⟨base, h'⟩
    · exact this.2 h'
    · cases h'; omega
  · intro id ds hid
    rw [List.getElem?_append] at hid
    split at hid
    · rename_i hlt
      rcases hH.ent id ds hid with ⟨h1, h2⟩ | ⟨b, base, c', el', h1, h2, h3, h4⟩
      · exact .inl ⟨by rw [List.getElem?_append_left (by rw [hH.len]; exact hlt)]; exact h1, h2⟩
      · have hb := hH.lt b ⟨id, base, h1⟩
        refine .inr ⟨b, base, c', el', by rw [List.getElem?_append_left (by rw [hH.len]; exact hlt)]; exact h1, by rw [heap_old _ hb]; exact h2, h3, ?_⟩
        rw [RepRow.iff] at h4 ⊢
        intro i p hp
        obtain ⟨v, hv, ho, hr⟩ := h4 i p hp
        exact ⟨v, by rw [← hv]; exact World.cell?_of_block (heap_old _ hb), ho, hr.grow g⟩
    · rename_i hge
      rw [List.getElem?_singleton] at hid
      split at hid
      · simp at hid
        subst hid
        rename_i h0
        refine .inr ⟨w.heap.size, 0, c, el, ?_, heap_alloc_new w _, by have := h.1; omega, h.row (heap_alloc_new w _) g⟩
        rw [List.getElem?_append_right (by rw [hH.len]; omega)]
        rw [show id - β.length = 0 by rw [hH.len]; omega]
        rfl
      · cases hid
theorem repH_nil {sz : Nat} (hH : RepH X β w L) : RepH X (β ++ [.nil]) w (L ++ [.cells []]) := by
  have hg : ∀ (id b base : Nat), (β ++ [Base.nil])[id]? = some (.blk b base) → β[id]? = some (.blk b base) := by
    intro id b base h
    rw [List.getElem?_append] at h
    split at h
    · exact h
    · rw [List.getElem?_singleton] at h
      split at h <;> cases h
  have hl : ∀ b, Live (β ++ [Base.nil]) b → Live β b := fun b ⟨id, base, h⟩ => ⟨id, base, hg _ _ _ h⟩
  have g : Grow β (β ++ [.nil]) w w := ⟨rfl, rfl, rfl, Nat.le_refl _, fun _ _ _ => rfl, fun k c el fr h => ⟨c, fr, h, rfl⟩, fun b h => .inl (hl b h), by simp, fun id x hid hx _ => by rw [List.getElem?_append_left hid] at hx; exact hx⟩
  refine ⟨by simp [hH.len], fun i j b x y hi hj => hH.inj i j b x y (hg _ _ _ hi) (hg _ _ _ hj), fun b h => hH.lt b (hl b h), fun b hx => ⟨(hH.out b hx).1, fun h => (hH.out b hx).2 (hl b h)⟩, ?_⟩
  intro id ds hid
  rw [List.getElem?_append] at hid
  split at hid
  · rename_i hlt
    rcases hH.ent id ds hid with ⟨h1, h2⟩ | ⟨b, base, c', el', h1, h2, h3, h4⟩
    · exact .inl ⟨by rw [List.getElem?_append_left (by rw [hH.len]; exact hlt)]; exact h1, h2⟩
    · refine .inr ⟨b, base, c', el', by rw [List.getElem?_append_left (by rw [hH.len]; exact hlt)]; exact h1, h2, h3, ?_⟩
      rw [RepRow.iff] at h4 ⊢
      intro i p hp
      obtain ⟨v, hv, ho, hr⟩ := h4 i p hp
      exact ⟨v, hv, ho, hr.grow g⟩
  · rename_i hge
    rw [List.getElem?_singleton] at hid
    split at hid
    · simp at hid
      subst hid
      refine .inl ⟨?_, rfl⟩
      rw [List.getElem?_append_right (by rw [hH.len]; omega)]
      rw [show id - β.length = 0 by rw [hH.len]; omega]
      rfl
    · cases hid
theorem grow_nil : Grow β (β ++ [.nil]) w w :=
  ⟨rfl, rfl, rfl, Nat.le_refl _, fun _ _ _ => rfl, fun k c el fr h => ⟨c, fr, h, rfl⟩, fun b h => (live_snoc h).elim .inl (fun ⟨base, h⟩ => nomatch h), by simp, fun id x hid hx _ => by rw [List.getElem?_append_left hid] at hx; exact hx⟩
theorem fresh_goes {draw : Bool} {m : Sem Value} {c : Array Value} {cs : List PV} {el : TypeId} {n cap sz : Nat} {p : Prop} {w1 : World} (hH : RepH X β w L) (hw : w1 = w ∨ w1 = w.drew)
    (hrun : m.run P w = .ok (.slice (some ⟨w.heap.size, 0, none⟩) n cap) (w1.alloc (.cells c el))) (hn : n ≤ cap) (hc : cap * sz ≤ c.size) (h : Holds X β w c cs) :
    Goes P X β w L draw m ⟨p, (fresh draw n sz cs L).1, (fresh draw n sz cs L).2⟩ := by
  have g1 : Grow β β w w1 := by rcases hw with rfl | rfl; exact Grow.refl _ _; exact grow_drew
  have hb1 : ∀ (k : Nat), k < w.heap.size → w1.heap[k]? = w.heap[k]? := by rcases hw with rfl | rfl <;> exact fun _ _ => rfl
  have hs1 : w1.heap.size = w.heap.size := by rcases hw with rfl | rfl <;> rfl
  have hH1 := hH.same g1 hb1
  have h1 := h.grow g1
  cases draw with
  | false =>
    refine ⟨_, _, β ++ [.blk w1.heap.size 0], hrun, ?_, ?_, g1.trans (grow_alloc_id _ _ (fun b base e => by cases e; rfl)), fun e => by cases e⟩
    · simp only [fresh, RepV]
      refine ⟨by simp [hH.len], fun b base hb => ?_, fun hb => ?_, rfl⟩
      · rw [List.getElem?_append_right (by rw [hH.len]; exact Nat.le_refl _)] at hb
        simp [hH.len] at hb
        obtain ⟨rfl, rfl⟩ := hb
        exact ⟨cap, by rw [hs1], hn, c, el, _, heap_alloc_new w1 _, by omega⟩
      · rw [List.getElem?_append_right (by rw [hH.len]; exact Nat.le_refl _)] at hb
        simp [hH.len] at hb
    · exact repH_alloc hH1 h1
  | true =>
    refine ⟨_, _, β, hrun, ?_, ?_, g1.trans (grow_alloc _), fun _ => ⟨rfl, rfl⟩⟩
    · simp only [fresh, RepV]
      refine ⟨_, cap, rfl, hn, .inr ⟨w.heap.size, 0, rfl, fun hx => ?_, fun hl => ?_, ?_⟩⟩
      · have := (hH.out _ hx).1; omega
      · have := hH.lt _ hl; omega
      · rw [← hs1]; exact h1.row (heap_alloc_new w1 _) (grow_alloc _)
    · exact hH1.same (grow_alloc _) (fun k hk => heap_old _ hk)
end Go.Ab
namespace Go.Ab
open Go Go.RowKit
set_option linter.unusedVariables false
set_option linter.unusedSimpArgs false
variable {P : Program} {X : Nat → Prop} {β : List Base} {w : World} {L : LH}
theorem convF_goes {draw : Bool} (src dst : TypeId) (x : PV) (vx : Value) (hpre : (convF P src dst x L).pre) (hH : RepH X β w L) (hx : RepV X β w x vx) :
    Goes P X β w L draw (convert src dst vx) (convF P src dst x L) := by
  unfold convF at hpre ⊢
  split at hpre
  case h_2 => exact absurd hpre (by simp [OR.bad])
  rename_i S D hS hD
  obtain ⟨uS, _⟩ := tyOf_spec hS
  obtain ⟨uD, _⟩ := tyOf_spec hD
  split at hpre
  · rename_i k kk n hk
    simp only [RepV] at hx; subst hx
    rw [hk] at uD
    exact (still_lit (by simp [convert, run_underlying uS, run_underlying uD, Conv.intToInt])).goes hH
  · rename_i s h1 h2
    simp only [RepV] at hx; subst hx
    rw [h1] at uS; rw [h2] at uD
    exact (still_lit (by simp [convert, run_underlying uS, run_underlying uD])).goes hH
  · rename_i e h1 h2
    rw [h1] at uS; rw [h2] at uD
    split at hpre
    · rename_i hE
      try simp only [hE]
      obtain ⟨ue, _⟩ := tyOf_spec hE
      obtain ⟨p1, p2, p3⟩ := hpre
      obtain ⟨a, cap, rfl, hcap, vs, hr, hl, ho, hc⟩ := slc_list p1 hH hx
      obtain ⟨ns, rfl, hb⟩ := repL_bytes p3 hr
      refine (still_lit ?_).goes hH
      rw [run_convert_bytes_string w src dst e _ _ _ uS ue uD, bytesToString_run (by simp at hl; omega) hc, hb]
    · exact absurd hpre (by simp [OR.bad])
  · rename_i e s h1 h2
    rw [h1] at uS; rw [h2] at uD
    simp only [RepV] at hx; subst hx
    split at hpre
    · rename_i hE
      try simp only [hE]
      obtain ⟨ue, _⟩ := tyOf_spec hE
      have hr := run_bytes_of_string w src dst e s uS uD ue
      refine ⟨_, _, β, hr, ?_, ?_, grow_drew.trans (grow_alloc _), fun _ => ⟨rfl, rfl⟩⟩
      · simp only [RepV]
        refine ⟨_, _, rfl, grownCap_ge w s.size 0 e, .inr ⟨w.heap.size, 0, rfl, fun h => ?_, fun h => ?_, ?_⟩⟩
        · have := (hH.out _ h).1; omega
        · have := hH.lt _ h; omega
        · rw [RepRow.iff]
          intro i p hp
          have hi : i < s.data.toList.length := by
            have := (List.getElem?_eq_some_iff.1 hp).1
            simpa using this
          simp at hi
          refine ⟨.int .u8 (s.data[i]).toNat, ?_, rfl, ?_⟩
          · rw [show w.heap.size = w.drew.heap.size from rfl, World.cell?_alloc_mark]
            simp [bytesRow, Array.getElem?_append, hi]
          · simp [List.getElem?_eq_getElem, hi] at hp
            subst hp
            simp [bv, RepV]
      · exact (hH.same grow_drew (fun _ _ => rfl)).same (grow_alloc _) (fun k hk => heap_old _ hk)
    · exact absurd hpre (by simp [OR.bad])
  · exact absurd hpre (by simp [OR.bad])
theorem lenF_still (t ty : TypeId) (ts : Array TypeId) (x : PV) (vx : Value) (hpre : (lenF P t x L).pre) (hH : RepH X β w L) (hx : RepV X β w x vx) (ht : ts[0]? = some t) :
    Still P X β w L (Builtin.len_ ts ty #[vx]) (lenF P t x L) := by
  unfold lenF at hpre ⊢
  split at hpre
  case h_2 => exact absurd hpre (by simp [OR.bad])
  rename_i T hT
  obtain ⟨u, _⟩ := tyOf_spec hT
  split at hpre
  · rename_i s h1
    simp only [RepV] at hx; subst hx
    rw [h1] at u
    exact still_lit (by simp [Builtin.len_, ht, run_underlying u, goInt])
  · rename_i e a n c h1
    simp only [RepV] at hx; subst hx
    rw [h1] at u
    exact still_lit (by simp [Builtin.len_, ht, run_underlying u, goInt])
  · rename_i e n cs h1
    simp only [RepV] at hx
    obtain ⟨a, cap, rfl, _⟩ := hx
    rw [h1] at u
    exact still_lit (by simp [Builtin.len_, ht, run_underlying u, goInt])
  · rename_i e id off n sz h1
    rw [h1] at u
    split at hpre
    · rename_i cs hL
      try simp only [hL]
      have hsl : ∃ a cap, vx = .slice a n cap := by
        simp only [RepV] at hx
        rcases hH.ent id cs hL with ⟨h1, _⟩ | ⟨b, base, c, el, h1, _⟩
        · obtain ⟨rfl, rfl, _⟩ := hx.2.2.1 h1; exact ⟨_, _, rfl⟩
        · obtain ⟨cap, rfl, _⟩ := hx.2.1 b base h1; exact ⟨_, _, rfl⟩
      obtain ⟨a, cap, rfl⟩ := hsl
      exact still_lit (by simp [Builtin.len_, ht, run_underlying u, goInt])
    · exact absurd hpre (by simp [OR.bad])
  · rename_i n e h1
    rw [h1] at u
    exact still_lit (by simp [Builtin.len_, ht, run_underlying u, goInt])
  · exact absurd hpre (by simp [OR.bad])
theorem capF_still (t ty : TypeId) (ts : Array TypeId) (x : PV) (vx : Value) (hpre : (capF P t x L).pre) (hx : RepV X β w x vx) (ht : ts[0]? = some t) :
    Still P X β w L (Builtin.cap_ ts ty #[vx]) (capF P t x L) := by
  unfold capF at hpre ⊢
  split at hpre
  case h_2 => exact absurd hpre (by simp [OR.bad])
  rename_i T hT
  obtain ⟨u, _⟩ := tyOf_spec hT
  split at hpre
  · rename_i e a n c h1
    simp only [RepV] at hx; subst hx
    rw [h1] at u
    exact still_lit (by simp [Builtin.cap_, ht, run_underlying u, goInt])
  · rename_i n e h1
    rw [h1] at u
    exact still_lit (by simp [Builtin.cap_, ht, run_underlying u, goInt])
  · exact absurd hpre (by simp [OR.bad])
theorem rep_length (n : Nat) (z : Value) : (rep n z).length = n * z.cells.size := by
  induction n with
  | zero => simp [rep]
  | succ n ih => simp only [rep, List.replicate_succ, List.flatten_cons, List.length_append] at ih ⊢; rw [ih]; simp [Nat.add_mul]; omega
theorem rep_get (n : Nat) (z : Value) (i : Nat) (hi : i < n * z.cells.size) : (rep n z)[i]? = some (.lit (z.cells[i % z.cells.size]!)) := by
  induction n generalizing i with
  | zero => simp at hi
  | succ n ih =>
    have hp : 0 < z.cells.size := by
      rcases Nat.eq_zero_or_pos z.cells.size with h | h
      · rw [h] at hi; simp at hi
      · exact h
    simp only [rep, List.replicate_succ, List.flatten_cons] at ih ⊢
    rw [List.getElem?_append]
    split
    · rename_i h
      simp at h
      rw [Nat.mod_eq_of_lt h]
      simp [h]
    · rename_i h
      simp at h
      simp only [List.length_map, Array.length_toList]
      rw [ih (i - z.cells.size) (by rw [Nat.add_mul] at hi; omega)]
      have : i % z.cells.size = (i - z.cells.size) % z.cells.size := by
        rw [Nat.mod_eq_sub_mod h]
      rw [this]
theorem rep_holds (n m : Nat) (z : Value) (c : Array Value) (hc : n * z.cells.size ≤ c.size) (h1 : ∀ v ∈ z.cells.toList, v.oneCell' = true)
    (h : ∀ i, i < n * z.cells.size → c[i]? = some (z.cells[i % z.cells.size]!)) : Holds X β w c (rep n z) := by
  refine ⟨by rw [rep_length]; exact hc, fun i p hp => ?_⟩
  have hi : i < n * z.cells.size := by
    have := (List.getElem?_eq_some_iff.1 hp).1
    rwa [rep_length] at this
  have hpos : 0 < z.cells.size := by
    rcases Nat.eq_zero_or_pos z.cells.size with h | h
    · rw [h] at hi; simp at hi
    · exact h
  rw [rep_get n z i hi] at hp
  cases hp
  refine ⟨_, h i hi, ?_, by simp [RepV]⟩
  have hlt := Nat.mod_lt i hpos
  rw [getElem!_pos z.cells (i % z.cells.size) hlt]
  exact h1 _ (by simp)
theorem makeF_goes {draw : Bool} (t : TypeId) (l c : PV) (vl vc : Value) (hpre : (makeF P draw t l c L).pre) (hH : RepH X β w L) (hl : RepV X β w l vl) (hc : RepV X β w c vc) :
    Goes P X β w L draw (Instr.makeSlice t vl vc) (makeF P draw t l c L) := by
  unfold makeF at hpre ⊢
  split at hpre
  case h_2 => exact absurd hpre (by simp [OR.bad])
  rename_i e _ _ _ hT
  obtain ⟨u, _⟩ := tyOf_spec hT
  split at hpre
  case h_2 => exact absurd hpre (by simp [OR.bad])
  rename_i E kl l kc c hE
  try simp only [hE]
  obtain ⟨ue, i, hi, hs, hb, hz⟩ := tyOf_spec hE
  simp only [RepV] at hl hc; subst hl hc
  obtain ⟨p1, p2, p3, p4, p5, p6⟩ := hpre
  have hr := run_make (P := P) w t e i E.zero u hi hz kl kc l c p1 p2 (by rw [hb]; exact p3) p4
  have hlc : l.toNat ≤ c.toNat := Int.toNat_le_toNat p2
  refine fresh_goes hH (.inl rfl) hr hlc (by rw [size_madeCells, hs]; exact Nat.le_refl _) ?_
  refine rep_holds l.toNat l.toNat E.zero _ ?_ p6 ?_
  · rw [size_madeCells, p5, hs]; exact Nat.mul_le_mul_right _ hlc
  · intro j hj
    have hj' : j < c.toNat * i.size := by
      rw [p5] at hj; rw [hs]
      exact Nat.lt_of_lt_of_le hj (Nat.mul_le_mul_right _ hlc)
    simp [madeCells, hj']
end Go.Ab
