import Derived.Test.YtakffanafcidbaaAbE
namespace Go.Ab
open Go Go.RowKit
set_option linter.unusedVariables false
set_option linter.unusedSimpArgs false

variable {P : Program} {X : Nat → Prop} {β : List Base} {w : World} {L : LH}

theorem repL_nth {ps : List PV} {vs : List Value} (h : RepL X β w ps vs) {i : Nat} {p : PV} (hp : ps[i]? = some p) : ∃ v, vs[i]? = some v ∧ RepV X β w p v := by
  rw [RepL.iff] at h
  have hi : i < vs.length := by rw [h.1]; exact (List.getElem?_eq_some_iff.1 hp).1
  exact ⟨vs[i], by simp [hi], h.2 i p _ hp (by simp [hi])⟩

theorem extractF_still (x : PV) (i : Nat) (vx : Value) (hpre : (extractF x i L).pre) (hx : RepV X β w x vx) : Still P X β w L (Instr.extract vx i) (extractF x i L) := by
  unfold extractF at hpre ⊢
  split at hpre
  · rename_i vs
    simp only [RepV] at hx
    obtain ⟨us, rfl, hr⟩ := hx
    split at hpre
    · rename_i p hp
      obtain ⟨v, hv, hr'⟩ := repL_nth hr hp
      try simp only [hp]
      exact ⟨v, by simp [Instr.extract, hv], hr', rfl⟩
    · exact absurd hpre (by simp [OR.bad])
  · exact absurd hpre (by simp [OR.bad])

theorem partF_run {t : TypeId} {T : TI} (hT : tyOf P t = some T) {cs : List PV} {vs : List Value} {off : Nat} (hpre : (partF T cs off).1) (h : RepL X β w cs vs) :
    ∃ v, (part t vs.toArray off).run P w = .ok v w ∧ RepV X β w (partF T cs off).2 v := by
  obtain ⟨u, i, hi, hs, _, _⟩ := tyOf_spec hT
  unfold partF at hpre ⊢
  split at hpre
  · rename_i ha
    simp only [ha, if_true]
    have hagg : (isAgg t).run P w = .ok true w := by
      unfold isAggD at ha
      split at ha
      · rename_i f hf; simp [isAgg, run_underlying u, hf]
      · rename_i n e hf; simp [isAgg, run_underlying u, hf]
      · cases ha
    have hL := RepL.length h
    refine ⟨.agg (vs.toArray.extract off (off + T.size)), ?_, ?_⟩
    · simp [part, hagg, sizeOf, typeInfo, hi, hs]
    · simp only [RepV]
      refine ⟨(vs.drop off).take T.size, ?_, ?_⟩
      · congr 1
        apply Array.ext'
        simp [List.extract]
      · rw [RepL.iff] at h ⊢
        refine ⟨by simp [h.1], fun j p v hp hv => ?_⟩
        rw [List.getElem?_take] at hp hv
        split at hp
        · rename_i hj
          rw [if_pos hj, List.getElem?_drop] at hv
          rw [List.getElem?_drop] at hp
          exact h.2 _ p v hp hv
        · cases hp
  · rename_i ha
    simp only [ha, if_false]
    have hagg : (isAgg t).run P w = .ok false w := by
      simp [isAgg, run_underlying u]
      cases hd : T.und <;> simp [hd, isAggD] at ha ⊢
    obtain ⟨v, hv, hr⟩ := repL_nth h (i := off) (p := cs[off]) (by simp [hpre])
    refine ⟨v, ?_, by simpa [List.getElem?_eq_getElem hpre] using hr⟩
    simp [part, hagg, hv]

theorem fieldF_still (t : TypeId) (x : PV) (f : Nat) (vx : Value) (hpre : (fieldF P t x f L).pre) (hx : RepV X β w x vx) : Still P X β w L (Instr.field t vx f) (fieldF P t x f L) := by
  unfold fieldF at hpre ⊢
  split at hpre
  case h_2 => exact absurd hpre (by simp [OR.bad])
  rename_i fs _ _ _ hT
  obtain ⟨u, _⟩ := tyOf_spec hT
  split at hpre
  case h_2 => exact absurd hpre (by simp [OR.bad])
  rename_i fd hf
  try simp only [hf]
  split at hpre
  case h_2 => exact absurd hpre (by simp [OR.bad])
  rename_i T hF
  try simp only [hF]
  split at hpre
  · rename_i cs
    simp only [RepV] at hx
    obtain ⟨vs, rfl, hr⟩ := hx
    obtain ⟨v, h1, h2⟩ := partF_run hF hpre hr
    exact ⟨v, by simp [Instr.field, run_underlying u, hf, asAgg, h1], h2, rfl⟩
  · exact absurd hpre (by simp [OR.bad])

theorem indexF_still (t : TypeId) (x i : PV) (vx vi : Value) (hpre : (indexF P t x i L).pre) (hx : RepV X β w x vx) (hi : RepV X β w i vi) : Still P X β w L (Instr.index t vx vi) (indexF P t x i L) := by
  unfold indexF at hpre ⊢
  split at hpre
  case h_2 => exact absurd hpre (by simp [OR.bad])
  rename_i k i
  simp only [RepV] at hi; subst hi
  split at hpre
  · rename_i hT
    obtain ⟨u, _⟩ := tyOf_spec hT
    split at hpre
    · rename_i s
      simp only [RepV] at hx; subst hx
      obtain ⟨p1, p2⟩ := hpre
      have hlt : i.toNat < s.data.size := by
        have : s.size = s.data.size := rfl
        omega
      have hg : s[i.toNat]? = some (s.data[i.toNat]) := by
        rw [getElem?_pos s i.toNat (show i.toNat < s.size from hlt)]; rfl
      refine ⟨.int .u8 (s.data[i.toNat]).toNat, ?_, ?_, rfl⟩
      · simp [Instr.index, asIntOf, run_underlying u, p1, hg]
      · simp [bv, RepV, Array.getElem?_eq_getElem hlt]
    · exact absurd hpre (by simp [OR.bad])
  · rename_i n e _ _ _ hT
    obtain ⟨u, _⟩ := tyOf_spec hT
    split at hpre
    · rename_i E cs hE
      try simp only [hE]
      obtain ⟨_, ii, hii, hs, _, _⟩ := tyOf_spec hE
      simp only [RepV] at hx
      obtain ⟨vs, rfl, hr⟩ := hx
      obtain ⟨p1, p2, p3⟩ := hpre
      obtain ⟨v, h1, h2⟩ := partF_run hE p3 hr
      refine ⟨v, ?_, h2, rfl⟩
      simp [Instr.index, asIntOf, run_underlying u, p1, p2, sizeOf, typeInfo, hii, hs, h1]
    · exact absurd hpre (by simp [OR.bad])
  · exact absurd hpre (by simp [OR.bad])

/-- Cells in memory, read as a part. -/
theorem loadPart {t : TypeId} {T : TI} (hT : tyOf P t = some T) {cs : List PV} {off b base : Nat} (hpre : (partF T cs off).1) (h : RepRow X β w b base cs) :
    ∃ v, (loadVar t ⟨b, base + off, none⟩).run P w = .ok v w ∧ RepV X β w (partF T cs off).2 v := by
  obtain ⟨u, i, hi, hs, _, _⟩ := tyOf_spec hT
  obtain ⟨vs, hr, hl, hc, ho⟩ := row_list h
  unfold partF at hpre ⊢
  split at hpre
  · rename_i ha
    simp only [ha, if_true]
    have hagg : (isAgg t).run P w = .ok true w := by
      unfold isAggD at ha
      split at ha
      · rename_i f hf; simp [isAgg, run_underlying u, hf]
      · rename_i n e hf; simp [isAgg, run_underlying u, hf]
      · cases ha
    have hld := run_loadCells_list (P := P) w ⟨b, base + off, none⟩ ((vs.drop off).take T.size) (fun j v hj => by
      rw [List.getElem?_take] at hj
      split at hj
      · rw [List.getElem?_drop] at hj
        have := hc (off + j) v hj
        rw [Addr.add_lit] at this ⊢
        rw [← this, show base + off + j = base + (off + j) by omega]
      · cases hj)
    have hlen : ((vs.drop off).take T.size).length = T.size := by simp; omega
    rw [hlen] at hld
    refine ⟨.agg ((vs.drop off).take T.size).toArray, ?_, ?_⟩
    · simp [loadVar, hagg, sizeOf, typeInfo, hi, hs, hld]
    · simp only [RepV]
      refine ⟨_, rfl, ?_⟩
      rw [RepL.iff] at hr ⊢
      refine ⟨by simp [hr.1], fun j p v hp hv => ?_⟩
      rw [List.getElem?_take] at hp hv
      split at hp
      · rename_i hj
        rw [if_pos hj, List.getElem?_drop] at hv
        rw [List.getElem?_drop] at hp
        exact hr.2 _ p v hp hv
      · cases hp
  · rename_i ha
    simp only [ha, if_false]
    have hagg : (isAgg t).run P w = .ok false w := by
      simp [isAgg, run_underlying u]
      cases hd : T.und <;> simp [hd, isAggD] at ha ⊢
    obtain ⟨v, hv, hr'⟩ := repL_nth hr (i := off) (p := cs[off]) (by simp [hpre])
    refine ⟨v, ?_, by simpa [List.getElem?_eq_getElem hpre] using hr'⟩
    have := hc off v hv
    rw [Addr.add_lit] at this
    simp [loadVar, hagg, load, Sem.run, this]

theorem loadF_still (t : TypeId) (a : PV) (va : Value) (hpre : (loadF P t a L).pre) (hH : RepH X β w L) (ha : RepV X β w a va) : Still P X β w L (Instr.loadAt t va) (loadF P t a L) := by
  unfold loadF at hpre ⊢
  split at hpre
  case h_2 => exact absurd hpre (by simp [OR.bad])
  rename_i T hT
  split at hpre
  · rename_i id off
    split at hpre
    · rename_i cs hL
      try simp only [hL]
      simp only [RepV] at ha
      rcases hH.ent id cs hL with ⟨h1, _⟩ | ⟨b, base, c, el, h1, h2, h3, h4⟩
      · exact absurd h1 ha.2.2
      · have := ha.2.1 b base h1
        subst this
        obtain ⟨v, e1, e2⟩ := loadPart hT hpre h4
        exact ⟨v, by simp [Instr.loadAt, Instr.sureAddr, e1], e2, rfl⟩
    · exact absurd hpre (by simp [OR.bad])
  · rename_i cs
    simp only [RepV] at ha
    obtain ⟨b, off, rfl, hc⟩ := ha
    have hr : RepRow X β w b off cs := by
      rcases hc with rfl | ⟨_, _, h⟩
      · simp [RepRow]
      · exact h
    obtain ⟨v, e1, e2⟩ := loadPart (off := 0) hT hpre hr
    exact ⟨v, by simpa [Instr.loadAt, Instr.sureAddr] using e1, e2, rfl⟩
  · exact absurd hpre (by simp [OR.bad])

theorem own_slice {id off n sz : Nat} {cs : List PV} {v : Value} (hH : RepH X β w L) (hL : L[id]? = some (.cells cs)) (h : RepV X β w (.own id off n sz) v) :
    (β[id]? = some .nil ∧ v = .slice none 0 0 ∧ n = 0 ∧ off = 0 ∧ cs = []) ∨ ∃ b base c el cap, β[id]? = some (.blk b base) ∧ v = .slice (some ⟨b, base + off, none⟩) n cap ∧ n ≤ cap ∧ w.heap[b]? = some (.cells c el (0, 0)) ∧ base + off + cap * sz ≤ c.size ∧ base + cs.length ≤ c.size ∧ RepRow X β w b base cs := by
  simp only [RepV] at h
  rcases hH.ent id cs hL with ⟨h1, h2⟩ | ⟨b, base, c, el, h1, h2, h3, h4⟩
  · obtain ⟨e1, e2, e3⟩ := h.2.2 h1
    exact .inl ⟨h1, e1, e2, e3, h2⟩
  · obtain ⟨cap, e1, e2, c', el', fr', e3, e4⟩ := h.2.1 b base h1
    rw [h2] at e3; cases e3
    exact .inr ⟨b, base, c, el, cap, h1, e1, e2, h2, e4, h3, h4⟩

theorem row_sub {b base : Nat} {cs : List PV} (h : RepRow X β w b base cs) (i n : Nat) : RepRow X β w b (base + i) ((cs.drop i).take n) := by
  rw [RepRow.iff] at h ⊢
  intro j p hp
  rw [List.getElem?_take] at hp
  split at hp
  · rw [List.getElem?_drop] at hp
    rw [show base + i + j = base + (i + j) by omega]
    exact h _ p hp
  · cases hp

theorem elemAt_row {E : TI} {b base : Nat} {cs : List PV} (h : RepRow X β w b base cs) {i : Nat} (hi : i * E.size + E.size ≤ cs.length) : RepRow X β w b (base + i * E.size) (elemAt E cs i) := by
  unfold elemAt
  split
  · rename_i h1
    rw [h1] at hi ⊢
    have hlt : i < cs.length := by omega
    simp only [RepRow, and_true]
    obtain ⟨v, h2, h3, h4⟩ := RepRow.iff.1 h i cs[i] (by simp [hlt])
    refine ⟨v, by simpa using h2, h3, ?_⟩
    simpa [List.getElem?_eq_getElem hlt] using h4
  · exact row_sub h _ _

theorem indexAddrF_still (t : TypeId) (x i : PV) (vx vi : Value) (hpre : (indexAddrF P t x i L).pre) (hH : RepH X β w L) (hx : RepV X β w x vx) (hi : RepV X β w i vi) : Still P X β w L (Instr.indexAt t vx vi) (indexAddrF P t x i L) := by
  unfold indexAddrF at hpre ⊢
  split at hpre
  case h_2 => exact absurd hpre (by simp [OR.bad])
  rename_i k i
  simp only [RepV] at hi; subst hi
  split at hpre
  · rename_i e _ _ _ hT
    obtain ⟨u, _⟩ := tyOf_spec hT
    split at hpre
    · rename_i E n cs hE
      try simp only [hE]
      obtain ⟨_, ii, hii, hs, _, _⟩ := tyOf_spec hE
      obtain ⟨p1, p2, p3, p4⟩ := hpre
      simp only [RepV] at hx
      obtain ⟨a, cap, rfl, hcap, hc⟩ := hx
      have hin : i.toNat < n := by omega
      have hle : i.toNat * E.size + E.size ≤ cs.length := by
        rw [p3]
        have := Nat.mul_le_mul_right E.size hin
        rwa [Nat.succ_mul] at this
      by_cases h0 : cs = []
      · subst h0
        simp at hle; omega
      · rcases hc with hc | ⟨b, off, rfl, hX, hl, hr⟩
        · exact absurd hc h0
        · refine ⟨.pointer (some ⟨b, off + i.toNat * E.size, none⟩), ?_, ?_, rfl⟩
          · simp [Instr.indexAt, asIntOf, run_underlying u, p1, p2, sizeOf, typeInfo, hii, hs, Addr.add_lit]
          · simp only [RepV]
            exact ⟨b, _, rfl, .inr ⟨hX, hl, elemAt_row hr hle⟩⟩
    · rename_i E id off n sz hE
      try simp only [hE]
      obtain ⟨_, ii, hii, hs, _, _⟩ := tyOf_spec hE
      split at hpre
      · rename_i cs hL
        try simp only [hL]
        obtain ⟨p1, p2, p3⟩ := hpre
        have hid : id < β.length := by simp only [RepV] at hx; exact hx.1
        rcases own_slice hH hL hx with ⟨_, _, rfl, _⟩ | ⟨b, base, c, el, cap, h1, rfl, _⟩
        · simp at p2; omega
        · refine ⟨.pointer (some ⟨b, base + off + i.toNat * E.size, none⟩), ?_, ?_, rfl⟩
          · simp [Instr.indexAt, asIntOf, run_underlying u, p1, p2, sizeOf, typeInfo, hii, hs, Addr.add_lit]
          · simp only [RepV]
            refine ⟨hid, fun b' base' hb' => ?_, by rw [h1]; simp⟩
            rw [h1] at hb'; cases hb'
            rw [Nat.add_assoc]
      · exact absurd hpre (by simp [OR.bad])
    · exact absurd hpre (by simp [OR.bad])
  · rename_i n e _ _ _ hT
    obtain ⟨u, _⟩ := tyOf_spec hT
    split at hpre
    · rename_i E id off hE
      try simp only [hE]
      obtain ⟨_, ii, hii, hs, _, _⟩ := tyOf_spec hE
      split at hpre
      · rename_i cs hL
        try simp only [hL]
        obtain ⟨p1, p2⟩ := hpre
        simp only [RepV] at hx
        rcases hH.ent id cs hL with ⟨h1, _⟩ | ⟨b, base, c, el, h1, h2, h3, h4⟩
        · exact absurd h1 hx.2.2
        · have := hx.2.1 b base h1
          subst this
          refine ⟨.pointer (some ⟨b, base + off + i.toNat * E.size, none⟩), ?_, ?_, rfl⟩
          · simp [Instr.indexAt, Instr.sureAddr, asIntOf, run_underlying u, p1, p2, sizeOf, typeInfo, hii, hs, Addr.add_lit]
          · simp only [RepV]
            refine ⟨hx.1, fun b' base' hb' => ?_, hx.2.2⟩
            rw [h1] at hb'; cases hb'
            rw [Nat.add_assoc]
      · exact absurd hpre (by simp [OR.bad])
    · rename_i E cs hE
      try simp only [hE]
      obtain ⟨_, ii, hii, hs, _, _⟩ := tyOf_spec hE
      obtain ⟨p1, p2, p3, p4⟩ := hpre
      simp only [RepV] at hx
      obtain ⟨b, off, rfl, hc⟩ := hx
      have hin : i.toNat < n := by omega
      have hle : i.toNat * E.size + E.size ≤ cs.length := by
        rw [p3]
        have := Nat.mul_le_mul_right E.size hin
        rwa [Nat.succ_mul] at this
      rcases hc with rfl | ⟨hX, hl, hr⟩
      · simp at hle; omega
      · refine ⟨.pointer (some ⟨b, off + i.toNat * E.size, none⟩), ?_, ?_, rfl⟩
        · simp [Instr.indexAt, Instr.sureAddr, asIntOf, run_underlying u, p1, p2, sizeOf, typeInfo, hii, hs, Addr.add_lit]
        · simp only [RepV]
          exact ⟨b, _, rfl, .inr ⟨hX, hl, elemAt_row hr hle⟩⟩
    · exact absurd hpre (by simp [OR.bad])
  · exact absurd hpre (by simp [OR.bad])

end Go.Ab
