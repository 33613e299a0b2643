import Derived.Test.YtipnfcbpbomonaaDoorM1
namespace Go.Ab
open Go Go.RowKit
set_option linter.unusedVariables false
set_option linter.unusedSimpArgs false
variable {P : Program} {X : Nat → Prop} {β : List Base} {w : World} {L : LH}
def NewsOk (P : Program) (w : World) (i : TypeInfo) (z : Value) (t2 : TypeId) (vx : Value) (n : Nat) (new : List Value) : Prop :=
  (∃ k k' m, P.underlying t2 = some (.int k) ∧ vx = .int k' m ∧ 0 ≤ m ∧ m ≤ 9223372036854775807 ∧ m * i.bytes ≤ 281474976710656 ∧ n = m.toNat ∧ new.toArray = Builtin.zeroCells z.cells n ∧ (z.cells.size = i.size)) ∨
  (∃ d, P.underlying t2 = some d ∧ (∀ k, d ≠ .int k) ∧ Builtin.lenOf vx = pure n ∧ ∀ w', w' = w ∨ w' = w.drew → (Builtin.firstCells i.size n vx).run P w' = .ok new.toArray w')
theorem append_grow_run (t t2 ty e : TypeId) (i : TypeInfo) (z : Value) (ht : P.underlying t = some (.slice e)) (hi : P.info? e = some i) (hz : i.zero = some z) (hsz : 0 < i.size)
    (a : Option Addr) (sLen sCap : Nat) (olds : List Value) (holds : ∀ w', w' = w ∨ w' = w.drew → (Builtin.firstCells i.size sLen (.slice a sLen sCap)).run P w' = .ok olds.toArray w')
    (vx : Value) (n : Nat) (new : List Value) (hn : NewsOk P w i z t2 vx n new)
    (hcap : sLen ≤ sCap) (hg : sCap < sLen + n) (h63 : ((sLen + n : Nat) : Int) ≤ 9223372036854775807) (hfit : Builtin.nextslicecap (sLen + n) sCap * i.bytes ≤ 281474976710656) :
    (Builtin.append_ #[t, t2] ty #[.slice a sLen sCap, vx]).run P w =
      .ok (.slice (some ⟨w.heap.size, 0, none⟩) (sLen + n) (grownCap w (sLen + n) sCap e))
        (w.drew.alloc (.cells (olds.toArray ++ new.toArray ++ Builtin.zeroCells z.cells (grownCap w (sLen + n) sCap e - (sLen + n))) e)) := by
  have hg' : ¬ (sLen + n ≤ sCap) := by omega
  have h63' : ¬ (9223372036854775807 < ((sLen : Int) + (n : Int))) := by omega
  have h48' : ¬ (281474976710656 < Builtin.nextslicecap (sLen + n) sCap * i.bytes) := by omega
  have hfo := holds w.drew (.inr rfl)
  rcases hn with ⟨k, k', m, hu, rfl, m0, m63, m48, rfl, hnew, hzs⟩ | ⟨d, hu, hd, hlen, hf⟩
  · have hw : IntKind.i64.wrap m = m := by rw [IntKind.wrap_i64]; omega
    have m0' : ¬ m < 0 := by omega
    have m48' : ¬ (281474976710656 < m * (i.bytes : Int)) := by omega
    by_cases hz0 : m.toNat * i.size = 0
    · exfalso
      rcases Nat.mul_eq_zero.1 hz0 with h | h <;> omega
    · have h63'' : ¬ (9223372036854775807 < (sLen : Int) + max m 0) := by omega
      simp [Builtin.append_, run_underlying ht, run_underlying hu, sizeOf, typeInfo, zeroValue, hi, hz, asInt, asIntOf, hw, m0', m48', hg', h63', h63'', h48', Question.forced, hfo, hz0, newRow, grownCap, hnew]
  · have hf' := hf w.drew (.inr rfl)
    have hdm : (match d with | .int _ => true | _ => false) = false := by cases d <;> first | rfl | exact absurd rfl (hd _)
    simp [Builtin.append_, run_underlying ht, run_underlying hu, sizeOf, typeInfo, zeroValue, hi, hz, hdm, hlen, hg', h63', h48', Question.forced, hf', hfo, newRow, grownCap]
    congr 2
    apply Array.ext'
    simp [List.append_assoc]
theorem append_room_run (t t2 ty e : TypeId) (i : TypeInfo) (z : Value) (ht : P.underlying t = some (.slice e)) (hi : P.info? e = some i) (hz : i.zero = some z) (hsz : 0 < i.size)
    (g o sLen sCap : Nat) (cur : Array Value) (el : TypeId) (hgc : w.heap[g]? = some (.cells cur el (0, 0)))
    (vx : Value) (n : Nat) (new : List Value) (hl : new.length = n * i.size) (hn : NewsOk P w i z t2 vx n new) (h1 : ∀ u ∈ new, u.oneCell' = true)
    (hroom : sLen + n ≤ sCap) (hfit : o + sLen * i.size + new.length ≤ cur.size) :
    (Builtin.append_ #[t, t2] ty #[.slice (some ⟨g, o, none⟩) sLen sCap, vx]).run P w =
      .ok (.slice (some ⟨g, o, none⟩) (sLen + n) sCap) (w.setRow g (cur.toList.take (o + sLen * i.size) ++ new ++ cur.toList.drop (o + sLen * i.size + new.length)).toArray) := by
  have hst := run_storeCells_at P g (o + sLen * i.size) el new 0 cur w hgc (by simpa using hfit) h1
  simp only [Nat.add_zero] at hst
  rcases hn with ⟨k, k', m, hu, rfl, m0, m63, m48, rfl, hnew, hzs⟩ | ⟨d, hu, hd, hlen, hf⟩
  · have hw : IntKind.i64.wrap m = m := by rw [IntKind.wrap_i64]; omega
    have m0' : ¬ m < 0 := by omega
    have m48' : ¬ (281474976710656 < m * (i.bytes : Int)) := by omega
    by_cases hz0 : m.toNat * i.size = 0
    · have hm0 : m.toNat = 0 := by
        rcases Nat.mul_eq_zero.1 hz0 with h | h
        · exact h
        · omega
      have hne : new = [] := List.eq_nil_of_length_eq_zero (by rw [hl, hz0])
      subst hne
      rw [hm0] at hroom ⊢
      have hst' : (storeCells ⟨g, o + sLen * i.size, none⟩ [] 0).run P w = .ok () w := by simp [storeCells]
      rw [hst'] at hst
      have hst2 := (Result.ok.inj hst).2
      rw [← hst2]
      simp only [List.length_nil, Nat.add_zero] at hroom ⊢
      simp [Builtin.append_, run_underlying ht, run_underlying hu, sizeOf, typeInfo, hi, asInt, asIntOf, hw, m0', m48', hm0, hroom, Addr.add_lit, storeCells]
    · have hl' : (Builtin.zeroCells z.cells m.toNat).toList = new := by rw [← hnew]
      simp [Builtin.append_, run_underlying ht, run_underlying hu, sizeOf, typeInfo, zeroValue, hi, hz, asInt, asIntOf, hw, m0', m48', hroom, hz0, Addr.add_lit, hl', hst]
  · have hf' := hf w (.inl rfl)
    have hdm : (match d with | .int _ => true | _ => false) = false := by cases d <;> first | rfl | exact absurd rfl (hd _)
    simp [Builtin.append_, run_underlying ht, run_underlying hu, sizeOf, typeInfo, hi, hdm, hlen, hroom, hf', Addr.add_lit, hst]
theorem append_nil0_run (t t2 ty e : TypeId) (i : TypeInfo) (z : Value) (ht : P.underlying t = some (.slice e)) (hi : P.info? e = some i) (hz : i.zero = some z)
    (vx : Value) (hn : NewsOk P w i z t2 vx 0 []) :
    (Builtin.append_ #[t, t2] ty #[.slice none 0 0, vx]).run P w = .ok (.slice none 0 0) w := by
  rcases hn with ⟨k, k', m, hu, rfl, m0, m63, m48, hm0, hnew, hzs⟩ | ⟨d, hu, hd, hlen, hf⟩
  · have hw : IntKind.i64.wrap m = m := by rw [IntKind.wrap_i64]; omega
    have m0' : ¬ m < 0 := by omega
    have m48' : ¬ (281474976710656 < m * (i.bytes : Int)) := by omega
    obtain rfl : m = 0 := by omega
    simp [Builtin.append_, run_underlying ht, run_underlying hu, sizeOf, typeInfo, hi, asInt, asIntOf, hw]
  · have hf' := hf w (.inl rfl)
    have hdm : (match d with | .int _ => true | _ => false) = false := by cases d <;> first | rfl | exact absurd rfl (hd _)
    simp [Builtin.append_, run_underlying ht, run_underlying hu, sizeOf, typeInfo, hi, hdm, hlen, hf']
theorem bytes_repL (s : ByteArray) : RepL X β w (s.data.toList.map bv) (s.data.toList.map fun b => Value.int .u8 b.toNat) := by
  rw [RepL.iff]
  refine ⟨by simp, fun i p v hp hv => ?_⟩
  simp only [List.getElem?_map, Option.map_eq_some_iff] at hp hv
  obtain ⟨b, hb, rfl⟩ := hp
  obtain ⟨b', hb', rfl⟩ := hv
  rw [hb] at hb'; cases hb'
  simp [bv, RepV]
theorem news_ok {e : TypeId} {E : TI} {t2 : TypeId} {x : PV} {vx : Value} (hpre : (news P E t2 x L).1) (hE : tyOf P e = some E) (hH : RepH X β w L) (hx : RepV X β w x vx) :
    ∃ (i : TypeInfo) (new : List Value), P.info? e = some i ∧ i.size = E.size ∧ i.bytes = E.bytes ∧ i.zero = some E.zero ∧ NewsOk P w i E.zero t2 vx (news P E t2 x L).2.1 new ∧ new.length = (news P E t2 x L).2.1 * E.size ∧ (∀ u ∈ new, u.oneCell' = true) ∧ RepL X β w (news P E t2 x L).2.2 new := by
  obtain ⟨ue, i, hi, hs, hb, hz⟩ := tyOf_spec hE
  unfold news at hpre ⊢
  split at hpre
  · rename_i hT
    obtain ⟨u2, _⟩ := tyOf_spec hT
    split at hpre
    · rename_i k m
      try simp only [hT]
      simp only [RepV] at hx; subst hx
      obtain ⟨p1, p2, p3, p4, p5⟩ := hpre
      refine ⟨i, (Builtin.zeroCells E.zero.cells m.toNat).toList, hi, hs, hb, hz, .inl ⟨_, _, m, u2, rfl, p1, p2, by rw [hb]; exact p3, rfl, by simp, by rw [p4, hs]⟩, ?_, ?_, ?_⟩
      · simp [Builtin.zeroCells, p4]
      · intro u hu
        simp only [Builtin.zeroCells, Array.toList_map, List.mem_map, Array.toList_range, List.mem_range] at hu
        obtain ⟨j, hj, rfl⟩ := hu
        have hpos : 0 < E.zero.cells.size := by
          rcases Nat.eq_zero_or_pos E.zero.cells.size with h | h
          · rw [h] at hj; simp at hj
          · exact h
        have hlt := Nat.mod_lt j hpos
        rw [getElem!_pos E.zero.cells (j % E.zero.cells.size) hlt]
        exact p5 _ (by simp)
      · rw [RepL.iff]
        refine ⟨by rw [rep_length]; simp [Builtin.zeroCells], fun j p v hp hv => ?_⟩
        have hj : j < m.toNat * E.zero.cells.size := by
          have := (List.getElem?_eq_some_iff.1 hp).1
          rwa [rep_length] at this
        rw [rep_get _ _ _ hj] at hp
        cases hp
        simp [Builtin.zeroCells, hj] at hv
        simp [RepV, hv]
    · exact absurd hpre (by simp)
  · rename_i e2 _ _ _ hT
    obtain ⟨u2, _⟩ := tyOf_spec hT
    obtain ⟨p1, p2⟩ := hpre
    obtain ⟨a, cap, rfl, hcap, vs, hr, hl, ho, hc⟩ := slc_list p1 hH hx
    refine ⟨i, vs, hi, hs, hb, hz, .inr ⟨_, u2, by simp, rfl, fun w' hw' => ?_⟩, by rw [hl, p2], ho, hr⟩
    refine firstCells_run (by rw [hl, p2, hs]) ?_
    rcases hc with hc | ⟨b, ha, hc⟩
    · exact .inl hc
    · refine .inr ⟨b, ha, fun j u hu => ?_⟩
      rcases hw' with rfl | rfl
      · exact hc j u hu
      · simpa using hc j u hu
  · rename_i hT
    obtain ⟨u2, _⟩ := tyOf_spec hT
    split at hpre
    · rename_i s
      simp only [RepV] at hx; subst hx
      refine ⟨i, s.data.toList.map (fun b => Value.int .u8 b.toNat), hi, hs, hb, hz, .inr ⟨_, u2, by simp, rfl, fun w' _ => ?_⟩, ?_, ?_, bytes_repL s⟩
      · have : s.extract 0 s.size = s := by simp
        simp [Builtin.firstCells, this]
        rw [← Array.toList_map]
      · have : E.size = 1 := hpre
        rw [this]; simp
      · simp [Value.oneCell']
    · exact absurd hpre (by simp)
  · exact absurd hpre (by simp)
theorem holds_append {c : List Value} {rest : Array Value} {ps : List PV} (h : RepL X β w ps c) (h1 : ∀ u ∈ c, u.oneCell' = true) : Holds X β w (c.toArray ++ rest) ps := by
  rw [RepL.iff] at h
  refine ⟨by simp [h.1], fun i p hp => ?_⟩
  have hi : i < c.length := by rw [h.1]; exact (List.getElem?_eq_some_iff.1 hp).1
  refine ⟨c[i], ?_, h1 _ (by simp), h.2 i p _ hp (by simp [hi])⟩
  simp [Array.getElem?_append, hi]
theorem repH_kill (hH : RepH X β w L) (id : Nat) : RepH X (β.set id .dead) w (L.set id .dead) ∧ Grow β (β.set id .dead) w w := by
  have hg : ∀ (j b base : Nat), (β.set id .dead)[j]? = some (.blk b base) → β[j]? = some (.blk b base) := by
    intro j b base h
    rw [List.getElem?_set] at h
    split at h
    · split at h <;> cases h
    · exact h
  have hg' : ∀ (j : Nat) x, (β.set id .dead)[j]? = some x → x ≠ .dead → β[j]? = some x := by
    intro j x h hx
    rw [List.getElem?_set] at h
    split at h
    · split at h
      · cases h; exact absurd rfl hx
      · cases h
    · exact h
  have hl : ∀ b, Live (β.set id .dead) b → Live β b := fun b ⟨j, base, h⟩ => ⟨j, base, hg _ _ _ h⟩
  have g : Grow β (β.set id .dead) w w := ⟨rfl, rfl, rfl, Nat.le_refl _, fun _ _ _ => rfl, fun k c el fr h => ⟨c, fr, h, rfl⟩, fun b h => .inl (hl b h), by simp, fun j x _ hx hd => hg' j x hx hd⟩
  refine ⟨⟨by simp [hH.len], fun i j b x y hi hj => hH.inj i j b x y (hg _ _ _ hi) (hg _ _ _ hj), fun b h => hH.lt b (hl b h), fun b hx => ⟨(hH.out b hx).1, fun h => (hH.out b hx).2 (hl b h)⟩, ?_⟩, g⟩
  intro j ds hj
  rw [List.getElem?_set] at hj
  split at hj
  · split at hj <;> cases hj
  · rename_i hne
    have hb : ∀ x, β[j]? = some x → (β.set id .dead)[j]? = some x := fun x hx => by rw [List.getElem?_set_ne hne]; exact hx
    rcases hH.ent j ds hj with ⟨h1, h2⟩ | ⟨b, base, c', el', h1, h2, h3, h4⟩
    · exact .inl ⟨hb _ h1, h2⟩
    · refine .inr ⟨b, base, c', el', hb _ h1, h2, h3, ?_⟩
      rw [RepRow.iff] at h4 ⊢
      intro i p hp
      obtain ⟨v, hv, ho, hr⟩ := h4 i p hp
      exact ⟨v, hv, ho, hr.grow g⟩
theorem repH_set {id b base : Nat} {c c' : Array Value} {el : TypeId} {cs cs' : List PV} (hH : RepH X β w L) (hL : L[id]? = some (.cells cs)) (hb : β[id]? = some (.blk b base)) (hw : w.heap[b]? = some (.cells c el (0, 0)))
    (hs : c'.size = c.size) (h1 : base + cs'.length ≤ c.size) (h2 : ∀ (i : Nat) p, cs'[i]? = some p → ∃ v, c'[base + i]? = some v ∧ v.oneCell' = true ∧ RepV X β w p v) :
    RepH X β (w.setRow b c') (L.set id (.cells cs')) ∧ Grow β β w (w.setRow b c') := by
  have hlb : Live β b := ⟨id, base, hb⟩
  have g : Grow β β w (w.setRow b c') := by
    refine ⟨rfl, rfl, rfl, by simp, fun k hk hl => setRow_other w b k c' (fun e => hl (e ▸ hlb)), fun k d e fr h => ?_, fun _ h => .inl h, Nat.le_refl _, fun _ _ _ h _ => h⟩
    by_cases hk : k = b
    · subst hk
      rw [hw] at h; cases h
      exact ⟨c', _, setRow_heap w k c c' _ _ hw, hs⟩
    · exact ⟨d, fr, by rw [setRow_other w b k c' hk]; exact h, rfl⟩
  refine ⟨⟨by simp [hH.len], hH.inj, fun d hd => by simpa using hH.lt d hd, fun d hd => by simpa using hH.out d hd, ?_⟩, g⟩
  intro j ds hj
  by_cases hji : j = id
  · subst hji
    rw [List.getElem?_set_self (by exact (List.getElem?_eq_some_iff.1 hL).1)] at hj
    cases hj
    refine .inr ⟨b, base, c', el, hb, setRow_heap w b c c' _ _ hw, by omega, ?_⟩
    rw [RepRow.iff]
    intro i p hp
    obtain ⟨v, hv, ho, hr⟩ := h2 i p hp
    exact ⟨v, by rw [cell_of_row _ b _ c' el (0, 0) (setRow_heap w b c c' _ _ hw)]; exact hv, ho, hr.grow g⟩
  · rw [List.getElem?_set_ne (Ne.symm hji)] at hj
    rcases hH.ent j ds hj with h | ⟨b', base', c2, el', e1, e2, e3, e4⟩
    · exact .inl h
    · have hbb : b' ≠ b := fun e => hji (hH.inj j id b' base' base e1 (e ▸ hb))
      refine .inr ⟨b', base', c2, el', e1, by rw [setRow_other w b b' c' hbb]; exact e2, e3, ?_⟩
      rw [RepRow.iff] at e4 ⊢
      intro i p hp
      obtain ⟨v, hv, ho, hr⟩ := e4 i p hp
      exact ⟨v, by rw [← hv]; exact World.cell?_of_block (setRow_other w b b' c' hbb), ho, hr.grow g⟩
theorem appF_goes {draw : Bool} (t t2 ty : TypeId) (s x : PV) (vs vx : Value) (hpre : (appF P draw t t2 s x L).pre) (hH : RepH X β w L) (hs : RepV X β w s vs) (hx : RepV X β w x vx) :
    Goes P X β w L draw (Builtin.append_ #[t, t2] ty #[vs, vx]) (appF P draw t t2 s x L) := by
  unfold appF at hpre ⊢
  split at hpre
  case h_2 => exact absurd hpre (by simp [OR.bad])
  rename_i e _ _ _ hT
  obtain ⟨u, _⟩ := tyOf_spec hT
  split at hpre
  case h_2 => exact absurd hpre (by simp [OR.bad])
  rename_i E hE
  try simp only [hE]
  simp only at hpre ⊢
  split at hpre
  · -- nil
    simp only [RepV] at hs; subst hs
    obtain ⟨p0, pz, p1, p2, p3⟩ := hpre
    obtain ⟨i, new, hi, his, hib, hiz, hok, hl, h1, hr⟩ := news_ok p1 hE hH hx
    have hlr := RepL.length hr
    by_cases hn : (news P E t2 x L).2.1 = 0
    · have hnew : new = [] := List.eq_nil_of_length_eq_zero (by rw [hl, hn]; simp)
      subst hnew
      have hcs : (news P E t2 x L).2.2 = [] := List.eq_nil_of_length_eq_zero (by simpa using hlr.symm)
      rw [hn] at hok ⊢
      rw [hcs]
      have hrun := append_nil0_run (P := P) (w := w) t t2 ty e i E.zero u hi hiz vx hok
      cases draw with
      | false =>
        refine ⟨_, w, β ++ [.nil], hrun, ?_, repH_nil (sz := 0) hH, grow_nil, fun e => by cases e⟩
        simp only [fresh, RepV]
        refine ⟨by simp [hH.len], fun b base hb => ?_, fun _ => by simp, rfl⟩
        rw [List.getElem?_append_right (by rw [hH.len]; exact Nat.le_refl _)] at hb
        simp [hH.len] at hb
      | true =>
        refine ⟨_, w, β, hrun, ?_, hH, Grow.refl β w, fun _ => ⟨rfl, rfl⟩⟩
        simp only [fresh, RepV]
        exact ⟨none, 0, rfl, Nat.le_refl _, .inl rfl⟩
    · have hfit := growslice_fits (need := (news P E t2 x L).2.1) (old := 0) (bytes := E.bytes) (by omega) p2
      have hrun := append_grow_run (P := P) (w := w) t t2 ty e i E.zero u hi hiz (by rw [his]; exact p0) none 0 0 [] (fun w' _ => run_firstCells_none w' i.size 0 0 0) vx _ new hok (Nat.le_refl _) (by omega) (by omega) (by rw [hib]; simpa using hfit)
      simp only [Nat.zero_add] at hrun
      refine fresh_goes hH (.inr rfl) hrun (grownCap_ge w _ 0 e) ?_ ?_ (sz := E.size)
      · simp only [Array.size_append, List.size_toArray, List.length_nil, Nat.zero_add, size_zeroCells, hl]
        rw [pz, ← Nat.add_mul]
        have := grownCap_ge w (news P E t2 x L).2.1 0 e
        rw [show (news P E t2 x L).2.1 + (grownCap w (news P E t2 x L).2.1 0 e - (news P E t2 x L).2.1) = grownCap w (news P E t2 x L).2.1 0 e by omega]
        exact Nat.le_refl _
      · have : ([] : List Value).toArray ++ new.toArray = new.toArray := by simp
        rw [this]
        exact holds_append hr h1
  · rename_i id off n sz
    split at hpre
    · exact absurd hpre (by simp [OR.bad])
    · simp only at hpre ⊢
      obtain ⟨p0, pz, rfl, p4, p1, p2, p3⟩ := hpre
      obtain ⟨i, new, hi, his, hib, hiz, hok, hl, h1, hr⟩ := news_ok p1 hE hH hx
      have hlr := RepL.length hr
      obtain ⟨cs, hL, hle⟩ : ∃ cs, L[id]? = some (.cells cs) ∧ off + n * E.size ≤ cs.length := by
        unfold slc at p4
        simp only at p4
        split at p4
        · rename_i cs h; exact ⟨cs, h, p4⟩
        · exact absurd p4 (by simp)
      have hsl : (slc L (.own id off n E.size)).2.2 = (cs.drop off).take (n * E.size) := by simp [slc, hL]
      have hsl1 : (slc L (.own id off n E.size)).2.1 = n := by simp [slc, hL]
      obtain ⟨a, cap, hvs, hcap, olds, hro, hlo, h1o, hco⟩ := slc_list p4 hH hs
      rw [hsl1] at hvs hcap
      rw [hsl] at hro hlo
      have hlo' : olds.length = n * E.size := by rw [hlo]; simp; omega
      have hkill := repH_kill hH id
      have hkillL : kill L (.own id off n E.size) = L.set id .dead := rfl
      rw [hsl, hkillL]
      have hr' : RepL X (β.set id .dead) w ((cs.drop off).take (n * E.size) ++ (news P E t2 x L).2.2) (olds ++ new) :=
        repL_append (RepL.grow hkill.2 _ _ hro) (RepL.grow hkill.2 _ _ hr)
      have h1' : ∀ u ∈ olds ++ new, u.oneCell' = true := by
        intro u hu
        rcases List.mem_append.1 hu with h | h
        · exact h1o u h
        · exact h1 u h
      simp only [RepV] at hs
      obtain ⟨hid, hblk, hnil⟩ := hs
      have grows : ∀ (a : Option Addr) (cap : Nat), vs = .slice a n cap → n ≤ cap → cap < n + (news P E t2 x L).2.1 →
          (olds = [] ∨ ∃ b, a = some b ∧ ∀ (j : Nat) u, olds[j]? = some u → w.cell? (b.add j) = some u) →
          Goes P X β w L false (Builtin.append_ #[t, t2] ty #[vs, vx]) ⟨True, .own L.length 0 (n + (news P E t2 x L).2.1) E.size, L.set id .dead ++ [.cells ((cs.drop off).take (n * E.size) ++ (news P E t2 x L).2.2)]⟩ := by
        intro a cap hvs hcap hg hco
        subst hvs
        have hfit := growslice_fits (need := n + (news P E t2 x L).2.1) (old := cap) (bytes := E.bytes) hg p2
        have hrun := append_grow_run (P := P) (w := w) t t2 ty e i E.zero u hi hiz (by rw [his]; exact p0) a n cap olds (fun w' hw' => firstCells_run (by rw [hlo', his]) (by
          rcases hco with h | ⟨b, ha, h⟩
          · exact .inl h
          · refine .inr ⟨b, ha, fun j u hu => ?_⟩
            rcases hw' with rfl | rfl
            · exact h j u hu
            · simpa using h j u hu)) vx _ new hok hcap hg (by omega) (by rw [hib]; exact hfit)
        have hge := grownCap_ge w (n + (news P E t2 x L).2.1) cap e
        have hgo := fresh_goes (P := P) (X := X) (draw := false) (sz := E.size) (p := True) hkill.1 (.inr rfl) hrun hge (by
          simp only [Array.size_append, List.size_toArray, size_zeroCells, hl, hlo', pz, ← Nat.add_mul]
          rw [show n + (news P E t2 x L).2.1 + (grownCap w (n + (news P E t2 x L).2.1) cap e - (n + (news P E t2 x L).2.1)) = grownCap w (n + (news P E t2 x L).2.1) cap e by omega]
          exact Nat.le_refl _) (cs := (cs.drop off).take (n * E.size) ++ (news P E t2 x L).2.2) (by
          have : olds.toArray ++ new.toArray = (olds ++ new).toArray := by simp
          rw [this]
          exact holds_append hr' h1')
        obtain ⟨v, w', β', e1, e2, e3, e4, e5⟩ := hgo
        refine ⟨v, w', β', e1, ?_, ?_, hkill.2.trans e4, fun e => by cases e⟩
        · simpa [fresh] using e2
        · simpa [fresh] using e3
      rcases hH.ent id cs hL with ⟨hb, rfl⟩ | ⟨b, base, c, el, hb, hw, hfits, hrow⟩
      · obtain ⟨rfl, rfl, rfl⟩ := hnil.1 hb
        have holds0 : olds = [] := by simpa using hlo'
        subst holds0
        by_cases hn : (news P E t2 x L).2.1 = 0
        · have hnew : new = [] := List.eq_nil_of_length_eq_zero (by rw [hl, hn]; simp)
          subst hnew
          have hcs : (news P E t2 x L).2.2 = [] := List.eq_nil_of_length_eq_zero (by simpa using hlr.symm)
          rw [hn] at hok ⊢
          rw [hcs]
          have hrun := append_nil0_run (P := P) (w := w) t t2 ty e i E.zero u hi hiz vx hok
          refine ⟨_, w, β.set id .dead ++ [.nil], hrun, ?_, by simpa using repH_nil (sz := 0) hkill.1, hkill.2.trans grow_nil, fun e => by cases e⟩
          simp only [RepV]
          refine ⟨by simp [hH.len], fun b base hb => ?_, fun _ => by simp, rfl⟩
          rw [List.getElem?_append_right (by simp [hH.len])] at hb
          simp [hH.len] at hb
        · obtain ⟨v, w', β', e1, e2, e3, e4, e5⟩ := grows none 0 rfl (Nat.le_refl _) (by omega) (.inl rfl)
          exact ⟨v, w', β', e1, e2, e3, e4, e5⟩
      · obtain ⟨cap', hvs', hcap', c2, el2, fr2, hw2, hsize⟩ := hblk b base hb
        rw [hw] at hw2; cases hw2
        subst hvs'
        cases hvs
        by_cases hroom : n + (news P E t2 x L).2.1 ≤ cap
        · -- in place
          have hm : (n + (news P E t2 x L).2.1) * E.size ≤ cap * E.size := Nat.mul_le_mul_right _ hroom
          rw [Nat.add_mul] at hm
          have hrun := append_room_run (P := P) (w := w) t t2 ty e i E.zero u hi hiz (by rw [his]; exact p0) b (base + off) n cap c el hw vx _ new (by rw [hl, his]) hok h1 hroom (by rw [his, hl]; omega)
          rw [his] at hrun
          let c' : Array Value := (c.toList.take (base + off + n * E.size) ++ new ++ c.toList.drop (base + off + n * E.size + new.length)).toArray
          have hc' : c'.size = c.size := by simp [c', hl]; omega
          have hcell : ∀ (j : Nat) p, ((cs.drop off).take (n * E.size) ++ (news P E t2 x L).2.2)[j]? = some p → ∃ v, c'[base + off + j]? = some v ∧ v.oneCell' = true ∧ RepV X β w p v := by
            intro j p hp
            rw [List.getElem?_append] at hp
            split at hp
            · rename_i hj
              have hj' : j < n * E.size := by simp at hj; omega
              rw [List.getElem?_take, if_pos hj', List.getElem?_drop] at hp
              obtain ⟨v, hv, ho, hr2⟩ := RepRow.iff.1 hrow (off + j) p hp
              refine ⟨v, ?_, ho, hr2⟩
              rw [show base + (off + j) = base + off + j by omega, cell_of_row w b _ c el (0, 0) hw] at hv
              have hlt : base + off + j < c.size := (Array.getElem?_eq_some_iff.1 hv).1
              simp only [c', List.getElem?_toArray]
              rw [List.append_assoc, List.getElem?_append_left (by simp; omega), List.getElem?_take, if_pos (by omega)]
              simpa using hv
            · rename_i hj
              have hlen : ((cs.drop off).take (n * E.size)).length = n * E.size := by simp; omega
              rw [hlen] at hp hj
              have hr3 := RepL.iff.1 hr
              have hjn : j - n * E.size < new.length := by rw [hr3.1]; exact (List.getElem?_eq_some_iff.1 hp).1
              refine ⟨new[j - n * E.size], ?_, h1 _ (by simp), hr3.2 _ p _ hp (by simp [hjn])⟩
              simp only [c', List.getElem?_toArray]
              rw [List.append_assoc, List.getElem?_append_right (by simp; omega)]
              rw [show base + off + j - (c.toList.take (base + off + n * E.size)).length = j - n * E.size by simp; omega]
              rw [List.getElem?_append_left hjn]
              simp [hjn]
          have hbl : Live β b := ⟨id, base, hb⟩
          have g : Grow β (β.set id .dead ++ [.blk b (base + off)]) w (w.setRow b c') := by
            refine ⟨rfl, rfl, rfl, by simp, fun k hk hl => setRow_other w b k c' (fun e => hl (e ▸ hbl)), fun k d e' fr h => ?_, fun d hd => ?_, by simp, fun j y hj hy hd => ?_⟩
            · by_cases hk : k = b
              · subst hk
                rw [hw] at h; cases h
                exact ⟨c', _, setRow_heap w k c c' _ _ hw, hc'⟩
              · exact ⟨d, fr, by rw [setRow_other w b k c' hk]; exact h, rfl⟩
            · rcases live_snoc hd with h | ⟨bs, h⟩
              · rcases hkill.2.live d h with h | h
                · exact .inl h
                · exact .inr h
              · cases h; exact .inl hbl
            · rw [List.getElem?_append_left (by simpa using hj)] at hy
              exact hkill.2.keep j y hj hy hd
          have hnl : ¬ Live (β.set id .dead) b := by
            rintro ⟨j, bs, hj⟩
            rw [List.getElem?_set] at hj
            split at hj
            · first | (split at hj <;> cases hj; done) | (cases hj; done)
            · rename_i hne
              exact hne (hH.inj j id b bs base hj hb).symm
          refine ⟨_, _, β.set id .dead ++ [.blk b (base + off)], hrun, ?_, ?_, g, fun e => by cases e⟩
          · simp only [RepV]
            refine ⟨by simp [hH.len], fun b' base' hb' => ?_, fun hb' => ?_, rfl⟩
            · rw [List.getElem?_append_right (by simp [hH.len])] at hb'
              simp [hH.len] at hb'
              obtain ⟨rfl, rfl⟩ := hb'
              refine ⟨cap, by simp, hroom, c', el, _, setRow_heap w b c c' _ _ hw, ?_⟩
              rw [hc']; omega
            · rw [List.getElem?_append_right (by simp [hH.len])] at hb'
              simp [hH.len] at hb'
          · refine ⟨by simp [hH.len], ?_, ?_, ?_, ?_⟩
            · intro j k d y z hj hk
              rw [List.getElem?_append] at hj hk
              split at hj <;> split at hk
              · exact hkill.1.inj j k d y z hj hk
              · rw [List.getElem?_singleton] at hk
                split at hk
                · simp at hk
                  exact absurd ⟨j, y, hk.1 ▸ hj⟩ hnl
                · cases hk
              · rw [List.getElem?_singleton] at hj
                split at hj
                · simp at hj
                  exact absurd ⟨k, z, hj.1 ▸ hk⟩ hnl
                · cases hj
              · rw [List.getElem?_singleton] at hj hk
                split at hj <;> split at hk <;> first | (cases hj; done) | (cases hk; done) | omega
            · intro d hd
              rcases live_snoc hd with h | ⟨bs, h⟩
              · simpa using hkill.1.lt d h
              · cases h; simpa using hH.lt b hbl
            · intro d hd
              refine ⟨by simpa using (hH.out d hd).1, fun hl => ?_⟩
              rcases live_snoc hl with h | ⟨bs, h⟩
              · exact (hkill.1.out d hd).2 h
              · cases h; exact (hH.out b hd).2 hbl
            · intro j ds hj
              rw [List.getElem?_append] at hj
              split at hj
              · rename_i hjl
                rcases hkill.1.ent j ds hj with ⟨e1, e2⟩ | ⟨b', base', c3, el', e1, e2, e3, e4⟩
                · exact .inl ⟨by rw [List.getElem?_append_left (by simp [hH.len]; simpa using hjl)]; exact e1, e2⟩
                · have hbb : b' ≠ b := fun e => hnl ⟨j, base', e ▸ e1⟩
                  refine .inr ⟨b', base', c3, el', by rw [List.getElem?_append_left (by simp [hH.len]; simpa using hjl)]; exact e1, by rw [setRow_other w b b' c' hbb]; exact e2, e3, ?_⟩
                  have hj2 : β[j]? = some (.blk b' base') := hkill.2.keep j _ (by rw [hH.len]; simpa using hjl) e1 (by simp)
                  have hj3 : L[j]? = some (.cells ds) := by
                    rw [List.getElem?_set] at hj
                    split at hj
                    · first | (split at hj <;> cases hj; done) | (cases hj; done)
                    · exact hj
                  rcases hH.ent j ds hj3 with ⟨e5, _⟩ | ⟨b5, base5, c5, el5, f1, f2, f3, f4⟩
                  · rw [hj2] at e5; cases e5
                  · rw [hj2] at f1; cases f1
                    rw [RepRow.iff] at f4 ⊢
                    intro k p hp
                    obtain ⟨v, hv, ho, hr2⟩ := f4 k p hp
                    exact ⟨v, by rw [← hv]; exact World.cell?_of_block (setRow_other w b b' c' hbb), ho, hr2.grow g⟩
              · rename_i hge
                rw [List.getElem?_singleton] at hj
                split at hj
                · rename_i h0
                  have hjL : j = L.length := by simp only [List.length_set] at hge h0; omega
                  subst hjL
                  simp at hj
                  subst hj
                  refine .inr ⟨b, base + off, c', el, ?_, setRow_heap w b c c' _ _ hw, ?_, ?_⟩
                  · rw [List.getElem?_append_right (by simp [hH.len])]
                    simp [hH.len]
                  · rw [hc']; simp only [List.length_append]
                    have h5 : ((cs.drop off).take (n * E.size)).length = n * E.size := by simp; omega
                    rw [h5, ← hlr, hl]; omega
                  · rw [RepRow.iff]
                    intro k p hp
                    obtain ⟨v, hv, ho, hr2⟩ := hcell k p hp
                    exact ⟨v, by rw [cell_of_row _ b _ c' el (0, 0) (setRow_heap w b c c' _ _ hw)]; exact hv, ho, hr2.grow g⟩
                · cases hj
        · obtain ⟨v, w', β', e1, e2, e3, e4, e5⟩ := grows _ cap rfl hcap (by omega) (by
            rcases hco with h | ⟨b2, ha, h⟩
            · exact .inl h
            · exact .inr ⟨b2, ha, h⟩)
          exact ⟨v, w', β', e1, e2, e3, e4, e5⟩
  · exact absurd hpre (by simp [OR.bad])
end Go.Ab
namespace Go.Ab
open Go Go.RowKit
set_option linter.unusedVariables false
set_option linter.unusedSimpArgs false
variable {P : Program} {X : Nat → Prop} {β : List Base} {w : World} {L : LH}
theorem extractF_still (x : PV) (i : Nat) (vx : Value) (hpre : (extractF x i L).pre) (hx : RepV X β w x vx) : Still P X β w L (Instr.extract vx i) (extractF x i L) := by
  unfold extractF at hpre ⊢
  split at hpre
  · rename_i vs
    simp only [RepV] at hx
    obtain ⟨us, rfl, hr⟩ := hx
    split at hpre
    · rename_i p hp
      obtain ⟨v, hv, hr'⟩ := repL_nth hr hp
      try simp only [hp]
      exact ⟨v, by simp [Instr.extract, hv], hr', rfl⟩
    · exact absurd hpre (by simp [OR.bad])
  · exact absurd hpre (by simp [OR.bad])
theorem fieldF_still (t : TypeId) (x : PV) (f : Nat) (vx : Value) (hpre : (fieldF P t x f L).pre) (hx : RepV X β w x vx) : Still P X β w L (Instr.field t vx f) (fieldF P t x f L) := by
  unfold fieldF at hpre ⊢
  split at hpre
  case h_2 => exact absurd hpre (by simp [OR.bad])
  rename_i fs _ _ _ hT
  obtain ⟨u, _⟩ := tyOf_spec hT
  split at hpre
  case h_2 => exact absurd hpre (by simp [OR.bad])
  rename_i fd hf
  try simp only [hf]
  split at hpre
  case h_2 => exact absurd hpre (by simp [OR.bad])
  rename_i T hF
  try simp only [hF]
  split at hpre
  · rename_i cs
    simp only [RepV] at hx
    obtain ⟨vs, rfl, hr⟩ := hx
    obtain ⟨v, h1, h2⟩ := partF_run hF hpre hr
    exact ⟨v, by simp [Instr.field, run_underlying u, hf, asAgg, h1], h2, rfl⟩
  · exact absurd hpre (by simp [OR.bad])
theorem indexF_still (t : TypeId) (x i : PV) (vx vi : Value) (hpre : (indexF P t x i L).pre) (hx : RepV X β w x vx) (hi : RepV X β w i vi) : Still P X β w L (Instr.index t vx vi) (indexF P t x i L) := by
  unfold indexF at hpre ⊢
  split at hpre
  case h_2 => exact absurd hpre (by simp [OR.bad])
  rename_i k i
  simp only [RepV] at hi; subst hi
  split at hpre
  · rename_i hT
    obtain ⟨u, _⟩ := tyOf_spec hT
    split at hpre
    · rename_i s
      simp only [RepV] at hx; subst hx
      obtain ⟨p1, p2⟩ := hpre
      have hlt : i.toNat < s.data.size := by
        have : s.size = s.data.size := rfl
        omega
      have hg : s[i.toNat]? = some (s.data[i.toNat]) := by
        rw [getElem?_pos s i.toNat (show i.toNat < s.size from hlt)]; rfl
      refine ⟨.int .u8 (s.data[i.toNat]).toNat, ?_, ?_, rfl⟩
      · simp [Instr.index, asIntOf, run_underlying u, p1, hg]
      · simp [bv, RepV, Array.getElem?_eq_getElem hlt]
    · exact absurd hpre (by simp [OR.bad])
  · rename_i n e _ _ _ hT
    obtain ⟨u, _⟩ := tyOf_spec hT
    split at hpre
    · rename_i E cs hE
      try simp only [hE]
      obtain ⟨_, ii, hii, hs, _, _⟩ := tyOf_spec hE
      simp only [RepV] at hx
      obtain ⟨vs, rfl, hr⟩ := hx
      obtain ⟨p1, p2, p3⟩ := hpre
      obtain ⟨v, h1, h2⟩ := partF_run hE p3 hr
      refine ⟨v, ?_, h2, rfl⟩
      simp [Instr.index, asIntOf, run_underlying u, p1, p2, sizeOf, typeInfo, hii, hs, h1]
    · exact absurd hpre (by simp [OR.bad])
  · exact absurd hpre (by simp [OR.bad])
theorem loadPart {t : TypeId} {T : TI} (hT : tyOf P t = some T) {cs : List PV} {off b base : Nat} (hpre : (partF T cs off).1) (h : RepRow X β w b base cs) :
    ∃ v, (loadVar t ⟨b, base + off, none⟩).run P w = .ok v w ∧ RepV X β w (partF T cs off).2 v := by
  obtain ⟨u, i, hi, hs, _, _⟩ := tyOf_spec hT
  obtain ⟨vs, hr, hl, hc, ho⟩ := row_list h
  unfold partF at hpre ⊢
  split at hpre
  · rename_i ha
    simp only [ha, if_true]
    have hagg : (isAgg t).run P w = .ok true w := by
      unfold isAggD at ha
      split at ha
      · rename_i f hf; simp [isAgg, run_underlying u, hf]
      · rename_i n e hf; simp [isAgg, run_underlying u, hf]
      · cases ha
    have hld := run_loadCells_list (P := P) w ⟨b, base + off, none⟩ ((vs.drop off).take T.size) (fun j v hj => by
      rw [List.getElem?_take] at hj
      split at hj
      · rw [List.getElem?_drop] at hj
        have := hc (off + j) v hj
        rw [Addr.add_lit] at this ⊢
        rw [← this, show base + off + j = base + (off + j) by omega]
      · cases hj)
    have hlen : ((vs.drop off).take T.size).length = T.size := by simp; omega
    rw [hlen] at hld
    refine ⟨.agg ((vs.drop off).take T.size).toArray, ?_, ?_⟩
    · simp [loadVar, hagg, sizeOf, typeInfo, hi, hs, hld]
    · simp only [RepV]
      refine ⟨_, rfl, ?_⟩
      rw [RepL.iff] at hr ⊢
      refine ⟨by simp [hr.1], fun j p v hp hv => ?_⟩
      rw [List.getElem?_take] at hp hv
      split at hp
      · rename_i hj
        rw [if_pos hj, List.getElem?_drop] at hv
        rw [List.getElem?_drop] at hp
        exact hr.2 _ p v hp hv
      · cases hp
  · rename_i ha
    simp only [ha, if_false]
    have hagg : (isAgg t).run P w = .ok false w := by
      simp [isAgg, run_underlying u]
      cases hd : T.und <;> simp [hd, isAggD] at ha ⊢
    obtain ⟨v, hv, hr'⟩ := repL_nth hr (i := off) (p := cs[off]) (by simp [hpre])
    refine ⟨v, ?_, by simpa [List.getElem?_eq_getElem hpre] using hr'⟩
    have := hc off v hv
    rw [Addr.add_lit] at this
    simp [loadVar, hagg, load, Sem.run, this]
theorem loadF_still (t : TypeId) (a : PV) (va : Value) (hpre : (loadF P t a L).pre) (hH : RepH X β w L) (ha : RepV X β w a va) : Still P X β w L (Instr.loadAt t va) (loadF P t a L) := by
  unfold loadF at hpre ⊢
  split at hpre
  case h_2 => exact absurd hpre (by simp [OR.bad])
  rename_i T hT
  split at hpre
  · rename_i id off
    split at hpre
    · rename_i cs hL
      try simp only [hL]
      simp only [RepV] at ha
      rcases hH.ent id cs hL with ⟨h1, _⟩ | ⟨b, base, c, el, h1, h2, h3, h4⟩
      · exact absurd h1 ha.2.2.1
      · have := ha.2.1 b base h1
        subst this
        obtain ⟨v, e1, e2⟩ := loadPart hT hpre h4
        exact ⟨v, by simp [Instr.loadAt, Instr.sureAddr, e1], e2, rfl⟩
    · exact absurd hpre (by simp [OR.bad])
  · rename_i cs
    simp only [RepV] at ha
    obtain ⟨b, off, rfl, hc⟩ := ha
    have hr : RepRow X β w b off cs := by
      rcases hc with rfl | ⟨_, _, h⟩
      · simp [RepRow]
      · exact h
    obtain ⟨v, e1, e2⟩ := loadPart (off := 0) hT hpre hr
    exact ⟨v, by simpa [Instr.loadAt, Instr.sureAddr] using e1, e2, rfl⟩
  · exact absurd hpre (by simp [OR.bad])
theorem own_slice {id off n sz : Nat} {cs : List PV} {v : Value} (hH : RepH X β w L) (hL : L[id]? = some (.cells cs)) (h : RepV X β w (.own id off n sz) v) :
    (β[id]? = some .nil ∧ v = .slice none 0 0 ∧ n = 0 ∧ off = 0 ∧ cs = []) ∨ ∃ b base c el cap, β[id]? = some (.blk b base) ∧ v = .slice (some ⟨b, base + off, none⟩) n cap ∧ n ≤ cap ∧ w.heap[b]? = some (.cells c el (0, 0)) ∧ base + off + cap * sz ≤ c.size ∧ base + cs.length ≤ c.size ∧ RepRow X β w b base cs := by
  simp only [RepV] at h
  rcases hH.ent id cs hL with ⟨h1, h2⟩ | ⟨b, base, c, el, h1, h2, h3, h4⟩
  · obtain ⟨e1, e2, e3⟩ := h.2.2.1 h1
    exact .inl ⟨h1, e1, e2, e3, h2⟩
  · obtain ⟨cap, e1, e2, c', el', fr', e3, e4⟩ := h.2.1 b base h1
    rw [h2] at e3; cases e3
    exact .inr ⟨b, base, c, el, cap, h1, e1, e2, h2, e4, h3, h4⟩
theorem row_sub {b base : Nat} {cs : List PV} (h : RepRow X β w b base cs) (i n : Nat) : RepRow X β w b (base + i) ((cs.drop i).take n) := by
  rw [RepRow.iff] at h ⊢
  intro j p hp
  rw [List.getElem?_take] at hp
  split at hp
  · rw [List.getElem?_drop] at hp
    rw [show base + i + j = base + (i + j) by omega]
    exact h _ p hp
  · cases hp
theorem arrF_still (t : TypeId) (x : PV) (vx : Value) (hpre : (arrF P t x L).pre) (hx : RepV X β w x vx) : Still P X β w L (Instr.arrayAt t vx) (arrF P t x L) := by
  unfold arrF at hpre ⊢
  split at hpre
  case h_2 => exact absurd hpre (by simp [OR.bad])
  rename_i n e _ _ _ hT
  split at hpre
  case h_2 => exact absurd hpre (by simp [OR.bad])
  rename_i E m cs hE
  simp only [hT, hE] at hpre ⊢
  obtain ⟨h1, h2, h3, h4⟩ := hpre
  simp only [RepV] at hx
  obtain ⟨a, cap, rfl, _, hc⟩ := hx
  have hne : cs ≠ [] := by
    intro e; subst e
    have : 0 < m * E.size := Nat.mul_pos (by omega) h4
    simp at h3; omega
  rcases hc with hc | ⟨b, off, rfl, hX, hl, hr⟩
  · exact absurd hc hne
  · refine ⟨.pointer (some ⟨b, off, none⟩), ?_, ?_, rfl⟩
    · have hu := (tyOf_spec hT).1
      have hn : ¬ m < n := by omega
      simp [Instr.arrayAt, run_underlying hu, hn]
    · simp only [RepV]
      refine ⟨b, off, rfl, .inr ⟨hX, hl, ?_⟩⟩
      have := row_sub hr 0 (n * E.size)
      simpa using this
theorem elemAt_row {E : TI} {b base : Nat} {cs : List PV} (h : RepRow X β w b base cs) {i : Nat} (hi : i * E.size + E.size ≤ cs.length) : RepRow X β w b (base + i * E.size) (elemAt E cs i) := by
  unfold elemAt
  split
  · rename_i h1
    rw [h1] at hi ⊢
    have hlt : i < cs.length := by omega
    simp only [RepRow, and_true]
    obtain ⟨v, h2, h3, h4⟩ := RepRow.iff.1 h i cs[i] (by simp [hlt])
    refine ⟨v, by simpa using h2, h3, ?_⟩
    simpa [List.getElem?_eq_getElem hlt] using h4
  · exact row_sub h _ _
theorem indexAddrF_still (t : TypeId) (x i : PV) (vx vi : Value) (hpre : (indexAddrF P t x i L).pre) (hH : RepH X β w L) (hx : RepV X β w x vx) (hi : RepV X β w i vi) : Still P X β w L (Instr.indexAt t vx vi) (indexAddrF P t x i L) := by
  unfold indexAddrF at hpre ⊢
  split at hpre
  case h_2 => exact absurd hpre (by simp [OR.bad])
  rename_i k i
  simp only [RepV] at hi; subst hi
  split at hpre
  · rename_i e _ _ _ hT
    obtain ⟨u, _⟩ := tyOf_spec hT
    split at hpre
    · rename_i E n cs hE
      try simp only [hE]
      obtain ⟨_, ii, hii, hs, _, _⟩ := tyOf_spec hE
      obtain ⟨p1, p2, p3, p4⟩ := hpre
      simp only [RepV] at hx
      obtain ⟨a, cap, rfl, hcap, hc⟩ := hx
      have hin : i.toNat < n := by omega
      have hle : i.toNat * E.size + E.size ≤ cs.length := by
        rw [p3]
        have := Nat.mul_le_mul_right E.size hin
        rwa [Nat.succ_mul] at this
      by_cases h0 : cs = []
      · subst h0
        simp at hle; omega
      · rcases hc with hc | ⟨b, off, rfl, hX, hl, hr⟩
        · exact absurd hc h0
        · refine ⟨.pointer (some ⟨b, off + i.toNat * E.size, none⟩), ?_, ?_, rfl⟩
          · simp [Instr.indexAt, asIntOf, run_underlying u, p1, p2, sizeOf, typeInfo, hii, hs, Addr.add_lit]
          · simp only [RepV]
            exact ⟨b, _, rfl, .inr ⟨hX, hl, elemAt_row hr hle⟩⟩
    · rename_i E id off n sz hE
      try simp only [hE]
      obtain ⟨_, ii, hii, hs, _, _⟩ := tyOf_spec hE
      split at hpre
      · rename_i cs hL
        try simp only [hL]
        obtain ⟨p1, p2, p3⟩ := hpre
        have hid : id < β.length := by simp only [RepV] at hx; exact hx.1
        rcases own_slice hH hL hx with ⟨_, _, rfl, _⟩ | ⟨b, base, c, el, cap, h1, rfl, _⟩
        · simp at p2; omega
        · refine ⟨.pointer (some ⟨b, base + off + i.toNat * E.size, none⟩), ?_, ?_, rfl⟩
          · simp [Instr.indexAt, asIntOf, run_underlying u, p1, p2, sizeOf, typeInfo, hii, hs, Addr.add_lit]
          · simp only [RepV]
            refine ⟨hid, fun b' base' hb' => ?_, by rw [h1]; simp, rfl⟩
            rw [h1] at hb'; cases hb'
            rw [Nat.add_assoc]
      · exact absurd hpre (by simp [OR.bad])
    · exact absurd hpre (by simp [OR.bad])
  · rename_i n e _ _ _ hT
    obtain ⟨u, _⟩ := tyOf_spec hT
    split at hpre
    · rename_i E id off hE
      try simp only [hE]
      obtain ⟨_, ii, hii, hs, _, _⟩ := tyOf_spec hE
      split at hpre
      · rename_i cs hL
        try simp only [hL]
        obtain ⟨p1, p2⟩ := hpre
        simp only [RepV] at hx
        rcases hH.ent id cs hL with ⟨h1, _⟩ | ⟨b, base, c, el, h1, h2, h3, h4⟩
        · exact absurd h1 hx.2.2.1
        · have := hx.2.1 b base h1
          subst this
          refine ⟨.pointer (some ⟨b, base + off + i.toNat * E.size, none⟩), ?_, ?_, rfl⟩
          · simp [Instr.indexAt, Instr.sureAddr, asIntOf, run_underlying u, p1, p2, sizeOf, typeInfo, hii, hs, Addr.add_lit]
          · simp only [RepV]
            refine ⟨hx.1, fun b' base' hb' => ?_, hx.2.2.1, rfl⟩
            rw [h1] at hb'; cases hb'
            rw [Nat.add_assoc]
      · exact absurd hpre (by simp [OR.bad])
    · rename_i E cs hE
      try simp only [hE]
      obtain ⟨_, ii, hii, hs, _, _⟩ := tyOf_spec hE
      obtain ⟨p1, p2, p3, p4⟩ := hpre
      simp only [RepV] at hx
      obtain ⟨b, off, rfl, hc⟩ := hx
      have hin : i.toNat < n := by omega
      have hle : i.toNat * E.size + E.size ≤ cs.length := by
        rw [p3]
        have := Nat.mul_le_mul_right E.size hin
        rwa [Nat.succ_mul] at this
      rcases hc with rfl | ⟨hX, hl, hr⟩
      · simp at hle; omega
      · refine ⟨.pointer (some ⟨b, off + i.toNat * E.size, none⟩), ?_, ?_, rfl⟩
        · simp [Instr.indexAt, Instr.sureAddr, asIntOf, run_underlying u, p1, p2, sizeOf, typeInfo, hii, hs, Addr.add_lit]
        · simp only [RepV]
          exact ⟨b, _, rfl, .inr ⟨hX, hl, elemAt_row hr hle⟩⟩
    · exact absurd hpre (by simp [OR.bad])
  · exact absurd hpre (by simp [OR.bad])
end Go.Ab
