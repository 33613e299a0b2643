import Derived.Test.YtipnfcbpbomonaaDoorM2
namespace Go.Ab
open Go Go.RowKit
set_option linter.unusedVariables false
set_option linter.unusedSimpArgs false
variable {P : Program} {X : Nat → Prop} {β : List Base} {w : World} {L : LH}
def optInt (o : Option Value) (d : Int) : Option Int :=
  match o with
  | none => some d
  | some (.int _ n) => some n
  | _ => none
def RepO (X : Nat → Prop) (β : List Base) (w : World) : Option PV → Option Value → Prop
  | none, none => True
  | some p, some v => RepV X β w p v
  | _, _ => False
theorem ints_opt {o : Option PV} {ov : Option Value} {d n : Int} (h : RepO X β w o ov) (hn : ints? o d = some n) : optInt ov d = some n := by
  cases o with
  | none => cases ov with
    | none => simpa [ints?, optInt] using hn
    | some v => exact h.elim
  | some p => cases ov with
    | none => exact h.elim
    | some v =>
      simp only [RepO] at h
      unfold ints? at hn
      split at hn
      · rename_i h'; cases h'
      · rename_i h'
        cases h'
        simp only [RepV] at h; subst h
        simpa [optInt] using hn
      · cases hn
theorem sliceBounds_run (isSlice : Bool) (len cap : Nat) (lo hi : Option Value) {l h : Int} (hl : optInt lo 0 = some l) (hh : optInt hi len = some h) (h0 : 0 ≤ l) (h1 : l ≤ h) (h2 : h ≤ cap) :
    (Instr.sliceBounds isSlice len cap lo hi none).run P w = .ok (l.toNat, h.toNat, cap) w := by
  have hH : (match hi with | some v => Instr.sliceBound v cap (if isSlice then .sliceAcap else .sliceAlen) | none => pure len : Sem Nat).run P w = .ok h.toNat w := by
    cases hi with
    | none => simp [optInt] at hh; subst hh; simp
    | some v =>
      unfold optInt at hh
      split at hh
      · rename_i e; cases e
      · rename_i k n e; cases e; cases hh
        have : 0 ≤ h := by omega
        simp [Instr.sliceBound, asIntOf, this, h2]
      · cases hh
  have hLo : (match lo with | some v => Instr.sliceBound v h.toNat (if (none : Option Value).isSome then .slice3C else .sliceB) | none => pure 0 : Sem Nat).run P w = .ok l.toNat w := by
    cases lo with
    | none => simp [optInt] at hl; subst hl; simp
    | some v =>
      unfold optInt at hl
      split at hl
      · rename_i e; cases e
      · rename_i k n e; cases e; cases hl
        have h3 : l ≤ (h.toNat : Int) := by omega
        simp only [Instr.sliceBound, asIntOf]
        simp [h0]
        intro hlt
        exfalso
        omega
      · cases hl
  cases hi with
  | none =>
    cases lo with
    | none => simp [Instr.sliceBounds] at hH hLo ⊢; exact ⟨hLo, hH⟩
    | some v => simp [Instr.sliceBounds] at hH hLo ⊢; rw [hH]; simp [hLo]
  | some v' =>
    cases lo with
    | none => simp [Instr.sliceBounds] at hH hLo ⊢; simp [hH, hLo]
    | some v => simp [Instr.sliceBounds] at hH hLo ⊢; simp [hH, hLo]
theorem sliceBounds_run3 (len cap : Nat) {k1 k2 k3 : IntKind} {l h m : Int} (h0 : 0 ≤ l) (h1 : l ≤ h) (h2 : h ≤ m) (h3 : m ≤ cap) :
    (Instr.sliceBounds true len cap (some (.int k1 l)) (some (.int k2 h)) (some (.int k3 m))).run P w = .ok (l.toNat, h.toNat, m.toNat) w := by
  have a0 : 0 ≤ h := by omega
  have a1 : 0 ≤ m := by omega
  have a2 : l ≤ (h.toNat : Int) := by omega
  have a3 : h ≤ (m.toNat : Int) := by omega
  simp [Instr.sliceBounds, Instr.sliceBound, asIntOf, h0, a0, a1, a2, a3, h3]
  rw [if_pos (by omega), if_pos (by omega)]
theorem sliceF_still (t : TypeId) (x : PV) (lo hi mx : Option PV) (vx : Value) (vlo vhi vmx : Option Value) (hpre : (sliceF P t x lo hi mx L).pre) (hH : RepH X β w L) (hx : RepV X β w x vx)
    (hlo : RepO X β w lo vlo) (hhi : RepO X β w hi vhi) (hmx : RepO X β w mx vmx) : Still P X β w L (Instr.sliceAt t vx vlo vhi vmx) (sliceF P t x lo hi mx L) := by
  unfold sliceF at hpre ⊢
  split at hpre
  · rename_i e _ _ _ hT
    obtain ⟨u, _⟩ := tyOf_spec hT
    have hm : vmx = none := by cases vmx with | none => rfl | some v => exact hmx.elim
    subst hm
    have hsl : (Instr.sliceAt t vx vlo vhi none).run P w = (Instr.slice t vx vlo vhi none).run P w := by simp [Instr.sliceAt, run_underlying u]
    split at hpre
    · rename_i E hE
      try simp only [hE]
      simp only [RepV] at hx; subst hx
      split at hpre
      · rename_i l h hl hh
        try simp only [hl, hh]
        obtain ⟨rfl, rfl⟩ := hpre
        obtain ⟨_, ii, hii, hs, _, _⟩ := tyOf_spec hE
        refine still_lit ?_
        rw [hsl]
        simp [Instr.slice, run_underlying u, sliceBounds_run true 0 0 vlo vhi (ints_opt hlo hl) (ints_opt hhi hh) (Int.le_refl _) (Int.le_refl _) (Int.le_refl _), sizeOf, typeInfo, hii]
      · exact absurd hpre (by simp [OR.bad])
    · rename_i E n cs hE
      try simp only [hE]
      split at hpre
      · rename_i l h hl hh
        try simp only [hl, hh]
        obtain ⟨p1, p2, p3, p4⟩ := hpre
        obtain ⟨_, ii, hii, hs, _, _⟩ := tyOf_spec hE
        simp only [RepV] at hx
        obtain ⟨a, cap, rfl, hcap, hc⟩ := hx
        refine ⟨.slice (if cap = l.toNat then a else a.map (·.add (l.toNat * E.size))) (h.toNat - l.toNat) (cap - l.toNat), ?_, ?_, rfl⟩
        · rw [hsl]
          simp [Instr.slice, run_underlying u, sliceBounds_run true n cap vlo vhi (ints_opt hlo hl) (ints_opt hhi hh) p1 p2 (by omega), sizeOf, typeInfo, hii, hs]
        · simp only [RepV]
          refine ⟨_, _, by rw [show (h - l).toNat = h.toNat - l.toNat by omega], by omega, ?_⟩
          by_cases hlh : h.toNat - l.toNat = 0
          · left
            rw [show (h - l).toNat = 0 by omega]
            simp
          · rcases hc with rfl | ⟨b, off, rfl, hX, hl', hr⟩
            · left; simp
            · right
              rw [if_neg (by omega)]
              exact ⟨b, off + l.toNat * E.size, by simp [Addr.add_lit], hX, hl', row_sub hr _ _⟩
      · exact absurd hpre (by simp [OR.bad])
    · rename_i E id off n sz hE
      try simp only [hE]
      split at hpre
      · rename_i l h cs hl hh hL
        try simp only [hl, hh, hL]
        obtain ⟨p1, p2, p3, rfl, p5⟩ := hpre
        obtain ⟨_, ii, hii, hs, _, _⟩ := tyOf_spec hE
        have hid : id < β.length := by simp only [RepV] at hx; exact hx.1
        rcases own_slice hH hL hx with ⟨h1, rfl, rfl, rfl, rfl⟩ | ⟨b, base, c, el, cap, h1, rfl, hcap, h2, h3, h4, h5⟩
        · obtain rfl : l = 0 := by simp at p3; omega
          obtain rfl : h = 0 := by simp at p3; omega
          refine ⟨.slice none 0 0, ?_, ?_, rfl⟩
          · rw [hsl]
            simp [Instr.slice, run_underlying u, sliceBounds_run true 0 0 vlo vhi (ints_opt hlo hl) (ints_opt hhi hh) (Int.le_refl _) (Int.le_refl _) (Int.le_refl _), sizeOf, typeInfo, hii]
          · simp only [RepV]
            refine ⟨hid, fun b base hb => ?_, fun _ => by simp, rfl⟩
            rw [h1] at hb; cases hb
        · refine ⟨.slice (if cap = l.toNat then some ⟨b, base + off, none⟩ else (some (⟨b, base + off, none⟩ : Addr)).map (·.add (l.toNat * E.size))) (h.toNat - l.toNat) (cap - l.toNat), ?_, ?_, rfl⟩
          · rw [hsl]
            simp [Instr.slice, run_underlying u, sliceBounds_run true n cap vlo vhi (ints_opt hlo hl) (ints_opt hhi hh) p1 p2 (by omega), sizeOf, typeInfo, hii, hs]
          · simp only [RepV]
            refine ⟨hid, fun b' base' hb => ?_, fun hb => ?_, by split <;> rfl⟩
            · rw [h1] at hb; cases hb
              refine ⟨cap - l.toNat, ?_, by omega, c, el, _, h2, ?_⟩
              · rw [show (h - l).toNat = h.toNat - l.toNat by omega]
                rcases p5 with rfl | p5
                · simp [Addr.add_lit]
                · rw [if_neg (by omega)]
                  simp [Addr.add_lit, Nat.add_assoc]
              · have : l.toNat * E.size + (cap - l.toNat) * E.size = cap * E.size := by rw [← Nat.add_mul]; congr 1; omega
                omega
            · rw [h1] at hb; cases hb
      · exact absurd hpre (by simp [OR.bad])
    · exact absurd hpre (by simp [OR.bad])
  · rename_i n e _ _ _ hT
    obtain ⟨u, _⟩ := tyOf_spec hT
    have hm : vmx = none := by cases vmx with | none => rfl | some v => exact hmx.elim
    subst hm
    split at hpre
    · rename_i E id off l h hE hl hh
      try simp only [hE, hl, hh]
      split at hpre
      · rename_i cs hL
        try simp only [hL]
        obtain ⟨p1, p2, p3, p5, p6⟩ := hpre
        obtain ⟨_, ii, hii, hs, _, _⟩ := tyOf_spec hE
        simp only [RepV] at hx
        rcases hH.ent id cs hL with ⟨h1, _⟩ | ⟨b, base, c, el, h1, h2, h3, h4⟩
        · exact absurd h1 hx.2.2.1
        · have := hx.2.1 b base h1
          subst this
          refine ⟨.slice (some (if n = l.toNat then ⟨b, base + off, none⟩ else (⟨b, base + off, none⟩ : Addr).add (l.toNat * E.size))) (h.toNat - l.toNat) (n - l.toNat), ?_, ?_, rfl⟩
          · simp [Instr.sliceAt, Instr.sureAddr, run_underlying u, sliceBounds_run false n n vlo vhi (ints_opt hlo hl) (ints_opt hhi hh) p1 p2 p3, sizeOf, typeInfo, hii, hs]
          · simp only [RepV]
            refine ⟨hx.1, fun b' base' hb => ?_, fun hb => ?_, by split <;> rfl⟩
            · rw [h1] at hb; cases hb
              refine ⟨n - l.toNat, ?_, by omega, c, el, _, h2, ?_⟩
              · rw [show (h - l).toNat = h.toNat - l.toNat by omega]
                rcases p5 with rfl | p5
                · simp [Addr.add_lit]
                · rw [if_neg (by omega)]
                  simp [Addr.add_lit, Nat.add_assoc]
              · have : l.toNat * E.size + (n - l.toNat) * E.size = n * E.size := by rw [← Nat.add_mul]; congr 1; omega
                omega
            · rw [h1] at hb; cases hb
      · exact absurd hpre (by simp [OR.bad])
    · rename_i E cs l h hE hl hh
      try simp only [hE, hl, hh]
      obtain ⟨rfl, rfl, p3, p4, p5⟩ := hpre
      obtain ⟨_, ii, hii, hs, _, _⟩ := tyOf_spec hE
      simp only [RepV] at hx
      obtain ⟨b, off, rfl, hc⟩ := hx
      have hne : cs ≠ [] := by
        intro e0; subst e0
        have : 0 < n * E.size := Nat.mul_pos p3 p5
        simp at p4; omega
      have hn0 : ¬ n = 0 := by omega
      refine ⟨.slice (some ⟨b, off, none⟩) n n, ?_, ?_, rfl⟩
      · simp [Instr.sliceAt, Instr.sureAddr, run_underlying u, sliceBounds_run false n n vlo vhi (ints_opt hlo hl) (ints_opt hhi hh) (Int.le_refl _) (by omega) (Int.le_refl _), sizeOf, typeInfo, hii, hs, hn0, Addr.add_lit]
      · simp only [RepV]
        rcases hc with hc | ⟨h1, h2, h3⟩
        · exact absurd hc hne
        · exact ⟨_, n, rfl, Nat.le_refl _, .inr ⟨b, off, rfl, h1, h2, h3⟩⟩
    · exact absurd hpre (by simp [OR.bad])
  · rename_i hT
    obtain ⟨u, _⟩ := tyOf_spec hT
    have hm : vmx = none := by cases vmx with | none => rfl | some v => exact hmx.elim
    subst hm
    split at hpre
    · rename_i s
      simp only [RepV] at hx; subst hx
      split at hpre
      · rename_i l h hl hh
        try simp only [hl, hh]
        obtain ⟨p1, p2, p3⟩ := hpre
        refine still_lit ?_
        simp [Instr.sliceAt, Instr.slice, run_underlying u, sliceBounds_run false s.size s.size vlo vhi (ints_opt hlo hl) (ints_opt hhi hh) p1 p2 p3]
      · exact absurd hpre (by simp [OR.bad])
    · exact absurd hpre (by simp [OR.bad])
  · rename_i e _ _ _ km m hT
    obtain ⟨u, _⟩ := tyOf_spec hT
    obtain ⟨vm, rfl, hvm⟩ : ∃ vm, vmx = some vm ∧ RepV X β w (.lit (.int km m)) vm := by cases vmx with | none => exact hmx.elim | some v => exact ⟨v, rfl, hmx⟩
    simp only [RepV] at hvm
    subst hvm
    split at hpre
    · rename_i E n cs kl l kh h hE
      try simp only [hE]
      obtain ⟨vl, rfl, hvl⟩ : ∃ vl, vlo = some vl ∧ RepV X β w (.lit (.int kl l)) vl := by cases vlo with | none => exact hlo.elim | some v => exact ⟨v, rfl, hlo⟩
      obtain ⟨vh, rfl, hvh⟩ : ∃ vh, vhi = some vh ∧ RepV X β w (.lit (.int kh h)) vh := by cases vhi with | none => exact hhi.elim | some v => exact ⟨v, rfl, hhi⟩
      simp only [RepV] at hvl hvh
      subst hvl hvh
      obtain ⟨p1, p2, p3, p3b, p4⟩ := hpre
      obtain ⟨_, ii, hii, hs, _, _⟩ := tyOf_spec hE
      simp only [RepV] at hx
      obtain ⟨a, cap, rfl, hcap, hc⟩ := hx
      refine ⟨.slice (if m.toNat = l.toNat then a else a.map (·.add (l.toNat * E.size))) (h.toNat - l.toNat) (m.toNat - l.toNat), ?_, ?_, rfl⟩
      · simp [Instr.sliceAt, Instr.slice, run_underlying u, sliceBounds_run3 n cap p1 p2 p3 (by omega), sizeOf, typeInfo, hii, hs]
      · simp only [RepV]
        refine ⟨_, _, by rw [show (h - l).toNat = h.toNat - l.toNat by omega], by omega, ?_⟩
        by_cases hlh : h.toNat - l.toNat = 0
        · left
          rw [show (h - l).toNat = 0 by omega]
          simp
        · rcases hc with rfl | ⟨b, off, rfl, hX, hl', hr⟩
          · left; simp
          · right
            rw [if_neg (by omega)]
            exact ⟨b, off + l.toNat * E.size, by simp [Addr.add_lit], hX, hl', row_sub hr _ _⟩
    · exact absurd hpre (by simp [OR.bad])
  · exact absurd hpre (by simp [OR.bad])
theorem splice_get {cs vs : List PV} {off : Nat} (h : off + vs.length ≤ cs.length) (j : Nat) : (splice cs off vs)[j]? = if off ≤ j ∧ j < off + vs.length then vs[j - off]? else cs[j]? := by
  have key : (cs.take off ++ vs ++ cs.drop (off + vs.length))[j]? = if off ≤ j ∧ j < off + vs.length then vs[j - off]? else cs[j]? := by
    rw [List.append_assoc, List.getElem?_append]
    simp only [List.length_take, Nat.min_eq_left (show off ≤ cs.length by omega)]
    split
    · rename_i h1
      rw [if_neg (by omega), List.getElem?_take, if_pos h1]
    · rename_i h1
      rw [List.getElem?_append]
      split
      · rename_i h2
        rw [if_pos (by omega)]
      · rename_i h2
        rw [if_neg (by omega), List.getElem?_drop]
        congr 1
        omega
  unfold splice
  split
  · rename_i v
    simp only [List.length_singleton] at h ⊢
    rw [List.getElem?_set]
    split
    · rename_i h1
      subst h1
      rw [if_pos (by omega), if_pos (by omega)]
      simp
    · rename_i h1
      rw [if_neg (by omega)]
  · exact key
theorem splice_length {cs vs : List PV} {off : Nat} (h : off + vs.length ≤ cs.length) : (splice cs off vs).length = cs.length := by
  unfold splice
  split
  · simp
  · simp; omega
theorem one_rep {p : PV} {v : Value} (h : RepV X β w p v) (h1 : PV.one p = true) : v.oneCell' = true := by
  cases p <;> simp [PV.one] at h1 <;> simp only [RepV] at h
  · subst h; exact h1
  · obtain ⟨a, cap, rfl, _⟩ := h; rfl
  · exact h.2.2.2
  · exact h.2.2.2
  · obtain ⟨b, off, rfl, _⟩ := h; rfl
  · obtain ⟨xs, ys, rfl, _⟩ := h; rfl
theorem ones_rep : ∀ {qs : List PV} {us : List Value}, (∀ q ∈ qs, PV.one q = true) → RepL X β w qs us → ∀ u ∈ us, u.oneCell' = true
  | [], us, _, h => by simp [RepL] at h; simp [h]
  | q :: qs, us, hq, h => by
    simp only [RepL] at h
    obtain ⟨u, r, rfl, e1, e2⟩ := h
    intro x hx
    rcases List.mem_cons.1 hx with rfl | hx
    · exact one_rep e1 (hq q (by simp))
    · exact ones_rep (fun q hq' => hq q (by simp [hq'])) e2 x hx
theorem lits_rep : ∀ (us : List Value), RepL X β w (us.map .lit) us
  | [] => by simp [RepL]
  | u :: us => by simp only [List.map_cons, RepL]; exact ⟨u, us, rfl, by simp [RepV], lits_rep us⟩
theorem cells_one {v : Value} (h : v.oneCell' = true) : v.cells = #[v] := by
  cases v <;> first | rfl | (simp [Value.oneCell'] at h)
theorem cells_rep {p : PV} {v : Value} (h : RepV X β w p v) (h1 : ∀ q ∈ p.cells, PV.one q = true) : RepL X β w p.cells v.cells.toList ∧ ∀ u ∈ v.cells.toList, u.oneCell' = true := by
  have key : RepL X β w p.cells v.cells.toList := by
    cases p with
    | agg cs =>
      simp only [RepV] at h
      obtain ⟨vs, rfl, hr⟩ := h
      simpa [PV.cells, Value.cells] using hr
    | lit u =>
      simp only [RepV] at h; subst h
      exact lits_rep _
    | ro n cs =>
      have := cells_one (one_rep h rfl)
      rw [this]
      simp only [PV.cells, RepL]
      exact ⟨v, [], rfl, h, rfl⟩
    | rptr cs =>
      have := cells_one (one_rep h rfl)
      rw [this]
      simp only [PV.cells, RepL]
      exact ⟨v, [], rfl, h, rfl⟩
    | fn f a b =>
      have := cells_one (one_rep h rfl)
      rw [this]
      simp only [PV.cells, RepL]
      exact ⟨v, [], rfl, h, rfl⟩
    | any => exact absurd (h1 .any (by simp [PV.cells])) (by simp [PV.one])
    | own a b c d =>
      have := cells_one (one_rep h rfl)
      rw [this]
      simp only [PV.cells, RepL]
      exact ⟨v, [], rfl, h, rfl⟩
    | ptr a b =>
      have := cells_one (one_rep h rfl)
      rw [this]
      simp only [PV.cells, RepL]
      exact ⟨v, [], rfl, h, rfl⟩
    | tup a => exact absurd (h1 (.tup a) (by simp [PV.cells])) (by simp [PV.one])
    | new a b c => exact absurd (h1 (.new a b c) (by simp [PV.cells])) (by simp [PV.one])
  exact ⟨key, ones_rep h1 key⟩
theorem holds_exact {c : List Value} {ps : List PV} (h : RepL X β w ps c) (h1 : ∀ u ∈ c, u.oneCell' = true) : Holds X β w c.toArray ps := by
  have := holds_append (rest := #[]) h h1
  simpa using this
theorem var_goes {m : Sem Value} {c : List Value} {cs : List PV} {el : TypeId} {p : Prop} (hH : RepH X β w L)
    (hrun : m.run P w = .ok (.pointer (some ⟨w.heap.size, 0, none⟩)) (w.alloc (.cells c.toArray el))) (h : RepL X β w cs c) (h1 : ∀ u ∈ c, u.oneCell' = true) :
    Goes P X β w L false m ⟨p, .ptr L.length 0, L ++ [.cells cs]⟩ := by
  refine ⟨_, _, β ++ [.blk w.heap.size 0], hrun, ?_, repH_alloc hH (holds_exact h h1), grow_alloc_id _ _ (fun b base e => by cases e; rfl), fun e => by cases e⟩
  simp only [RepV]
  refine ⟨by simp [hH.len], fun b base hb => ?_, fun hb => ?_, rfl⟩
  · rw [List.getElem?_append_right (by rw [hH.len]; exact Nat.le_refl _)] at hb
    simp [hH.len] at hb
    obtain ⟨rfl, rfl⟩ := hb
    rfl
  · rw [List.getElem?_append_right (by rw [hH.len]; exact Nat.le_refl _)] at hb
    simp [hH.len] at hb
theorem boxF_goes {draw : Bool} (el : TypeId) (x : PV) (vx : Value) (hpre : (boxF draw x L).pre) (hH : RepH X β w L) (hx : RepV X β w x vx) :
    Goes P X β w L draw (Instr.box el vx) (boxF draw x L) := by
  unfold boxF at hpre ⊢
  split at hpre
  · have h1 : ∀ q ∈ x.cells, PV.one q = true := by simpa using hpre
    obtain ⟨h2, h3⟩ := cells_rep hx h1
    exact var_goes (c := vx.cells.toList) (el := el) hH (by simp [Instr.box, newVar, newRow]) h2 h3
  · exact absurd hpre (by simp [OR.bad])
theorem allocF_goes {draw : Bool} (t : TypeId) (hpre : (allocF P draw t L).pre) (hH : RepH X β w L) :
    Goes P X β w L draw (Instr.alloc t true (.tuple #[])) (allocF P draw t L) := by
  unfold allocF at hpre ⊢
  split at hpre
  · rename_i T hT
    obtain ⟨_, i, hi, _, _, hz⟩ := tyOf_spec hT
    exact var_goes (c := T.zero.cells.toList) (el := t) hH (by simp [Instr.alloc, zeroValue, typeInfo, hi, hz, newVar, newRow]) (lits_rep _) hpre
  · exact absurd hpre (by simp [OR.bad])
theorem storeF_runs {draw : Bool} (t : TypeId) (a x : PV) (va vx : Value) (hpre : (storeF P draw t a x L).pre) (hH : RepH X β w L) (ha : RepV X β w a va) (hx : RepV X β w x vx) :
    ∃ w', (Instr.storeAt t va vx).run P w = .ok () w' ∧ RepH X β w' (storeF P draw t a x L).L ∧ Grow β β w w' ∧ (storeF P draw t a x L).val = .lit undef ∧ draw = false := by
  unfold storeF at hpre ⊢
  split at hpre
  case h_2 => exact absurd hpre (by simp [OR.bad])
  rename_i T hT
  obtain ⟨_, i, hi, hs, _, _⟩ := tyOf_spec hT
  split at hpre
  · rename_i id off
    split at hpre
    · rename_i cs hL
      try simp only [hL]
      obtain ⟨p1, p2, p3⟩ := hpre
      have h1 : ∀ q ∈ x.cells, PV.one q = true := by simpa using p3
      obtain ⟨h2, h3⟩ := cells_rep hx h1
      have h4 := RepL.length h2
      simp only [RepV] at ha
      rcases hH.ent id cs hL with ⟨e1, _⟩ | ⟨b, base, c, el, e1, e2, e3, e4⟩
      · exact absurd e1 ha.2.2.1
      · have := ha.2.1 b base e1
        subst this
        have hl : vx.cells.toList.length = T.size := by rw [h4, p1]
        have hst := run_storeCells_at P b (base + off) el vx.cells.toList 0 c w e2 (by rw [hl]; omega) h3
        simp only [Nat.add_zero] at hst
        refine ⟨w.setRow b (c.toList.take (base + off) ++ vx.cells.toList ++ c.toList.drop (base + off + vx.cells.toList.length)).toArray, ?_, ?_⟩
        rotate_left
        · have := repH_set (c' := (c.toList.take (base + off) ++ vx.cells.toList ++ c.toList.drop (base + off + vx.cells.toList.length)).toArray) (cs' := splice cs off x.cells) hH hL e1 e2
            (by simp at hl ⊢; omega) (by rw [splice_length (by omega)]; exact e3) (fun j p hp => by
              rw [splice_get (by omega)] at hp
              simp only [List.getElem?_toArray]
              rw [List.append_assoc]
              split at hp
              · rename_i hj
                obtain ⟨v, hv, hr⟩ := repL_nth h2 hp
                refine ⟨v, ?_, h3 v (List.mem_of_getElem? hv), hr⟩
                rw [List.getElem?_append_right (by simp; omega)]
                rw [show base + j - (c.toList.take (base + off)).length = j - off by simp; omega]
                rw [List.getElem?_append_left (by rw [h4]; omega)]
                exact hv
              · rename_i hj
                obtain ⟨v, hv, ho, hr⟩ := RepRow.iff.1 e4 j p hp
                rw [cell_of_row w b _ c el (0, 0) e2] at hv
                have hlt : base + j < c.size := (Array.getElem?_eq_some_iff.1 hv).1
                refine ⟨v, ?_, ho, hr⟩
                rw [List.getElem?_append]
                simp only [List.length_take, Array.length_toList, Nat.min_eq_left (show base + off ≤ c.size by omega)]
                split
                · rename_i hj2
                  rw [List.getElem?_take, if_pos hj2]
                  simpa using hv
                · rename_i hj2
                  rw [List.getElem?_append_right (by rw [h4]; omega), List.getElem?_drop]
                  have h4' : vx.cells.size = x.cells.length := by rw [← h4]; simp
                  have hq : ∀ q, q = base + j → c.toList[q]? = some v := fun q e => by subst e; simpa using hv
                  refine hq _ ?_
                  simp only [Array.length_toList]
                  omega)
          exact ⟨this.1, this.2, by simp, by simp⟩
        · have hsz : vx.cells.size = i.size := by rw [hs, ← hl]; simp
          simp [Instr.storeAt, Instr.sureAddr, storeVar, sizeOf, typeInfo, hi, hsz, hst]
    · exact absurd hpre (by simp [OR.bad])
  · exact absurd hpre (by simp [OR.bad])
theorem fillA_rep {size : Nat} {place : Nat → Option Nat} {place' : Nat → Option (Nat × Nat)} (hpl : ∀ i, place' i = (place i).map fun o => (o, size)) :
    ∀ (parts : List (Nat × PV)) (vals : List (Nat × Value)) (cs : List PV) (c : List Value) (r : List PV), fillA size place cs parts = some r →
      vals.length = parts.length → (∀ (j : Nat) i p, parts[j]? = some (i, p) → ∃ v, vals[j]? = some (i, v) ∧ RepV X β w p v) → (∀ (j : Nat) i p, parts[j]? = some (i, p) → ∀ q ∈ p.cells, PV.one q = true) → RepL X β w cs c →
      ∃ c', Instr.fill place' c.toArray vals = some c'.toArray ∧ RepL X β w r c'
  | [], vals, cs, c, r, h, hlen, hv, ho, hc => by
    simp [fillA] at h
    subst h
    have : vals = [] := List.eq_nil_of_length_eq_zero (by simpa using hlen)
    subst this
    exact ⟨c, by simp [Instr.fill], hc⟩
  | (i, p) :: rest, vals, cs, c, r, h, hlen, hv, ho, hc => by
    obtain ⟨v, hv0, hr0⟩ := hv 0 i p (by simp)
    cases vals with
    | nil => simp at hlen
    | cons x vals =>
      simp at hv0
      subst hv0
      unfold fillA at h
      split at h
      · rename_i off hoff
        split at h
        · rename_i hsz
          obtain ⟨e1, e2⟩ := hsz
          have hone := ho 0 i p (by simp)
          obtain ⟨e3, e4⟩ := cells_rep hr0 hone
          have e5 := RepL.length e3
          have e6 := RepL.length hc
          have e7 : v.cells.size = size := by rw [← e1, ← e5]; simp
          let c2 : List Value := c.take off ++ v.cells.toList ++ c.drop (off + v.cells.toList.length)
          have hz : (v.cells.zipIdx.foldl (fun cs (x : Value × Nat) => cs.setIfInBounds (off + x.2) x.1) c.toArray) = c2.toArray := by
            have gen : ∀ (us : List Value) (k : Nat) (d : List Value), off + k + us.length ≤ d.length →
                ((us.zipIdx k).foldl (fun (cs : Array Value) (x : Value × Nat) => cs.setIfInBounds (off + x.2) x.1) d.toArray) = (d.take (off + k) ++ us ++ d.drop (off + k + us.length)).toArray := by
              intro us
              induction us with
              | nil => intro k d _; simp
              | cons u us ih =>
                intro k d hd
                simp only [List.zipIdx_cons, List.foldl_cons]
                have : d.toArray.setIfInBounds (off + k) u = (d.set (off + k) u).toArray := by simp
                rw [this, ih (k + 1) _ (by simp at hd ⊢; omega)]
                congr 1
                have hk : off + k < d.length := by simp at hd; omega
                apply List.ext_getElem?
                intro j
                simp only [List.append_assoc]
                simp only [List.getElem?_append, List.length_take, List.length_set, List.getElem?_take, List.getElem?_set, List.getElem?_drop, List.length_cons, List.getElem?_cons]
                simp at hd
                rw [Nat.min_eq_left (by omega), Nat.min_eq_left (by omega)]
                by_cases h1 : j < off + k
                · rw [if_pos (by omega), if_pos (by omega), if_neg (by omega), if_pos h1, if_pos h1]
                · by_cases h2 : j = off + k
                  · subst h2
                    simp [hk]
                  · by_cases h3 : j - (off + (k + 1)) < us.length
                    · rw [if_neg (by omega), if_pos h3, if_neg h1, if_pos (by omega), if_neg (by omega)]
                      rw [show j - (off + (k + 1)) = j - (off + k) - 1 by omega]
                    · rw [if_neg (by omega), if_neg h3, if_neg h1, if_neg (by omega), if_neg (by omega)]
                      congr 1
                      omega
            have := gen v.cells.toList 0 c (by rw [e5, e1]; omega)
            simp only [Nat.add_zero] at this
            rw [← this, ← Array.foldl_toList, Array.toList_zipIdx]
          have hr2 : RepL X β w (splice cs off p.cells) c2 := by
            rw [RepL.iff]
            have hcl : c2.length = c.length := by simp [c2]; simp at e5; omega
            refine ⟨by rw [hcl, splice_length (by omega), e6], fun j q u hq hu => ?_⟩
            rw [splice_get (by omega)] at hq
            simp only [c2, List.append_assoc] at hu
            rw [List.getElem?_append] at hu
            simp only [List.length_take, Nat.min_eq_left (show off ≤ c.length by omega)] at hu
            split at hq
            · rename_i hj
              rw [if_neg (by omega), List.getElem?_append_left (by rw [e5]; omega)] at hu
              exact (RepL.iff.1 e3).2 _ q u hq hu
            · rename_i hj
              split at hu
              · rename_i hj2
                rw [List.getElem?_take, if_pos hj2] at hu
                exact (RepL.iff.1 hc).2 _ q u hq hu
              · rename_i hj2
                rw [List.getElem?_append_right (by rw [e5]; omega), List.getElem?_drop] at hu
                rw [show off + v.cells.toList.length + (j - off - v.cells.toList.length) = j by rw [e5]; omega] at hu
                exact (RepL.iff.1 hc).2 _ q u hq hu
          obtain ⟨c', h1, h2⟩ := fillA_rep hpl rest vals _ c2 r h (by simpa using hlen) (fun j i q hq => by simpa using hv (j + 1) i q (by simpa using hq)) (fun j i q hq => ho (j + 1) i q (by simpa using hq)) hr2
          refine ⟨c', ?_, h2⟩
          simp only [Instr.fill, hpl, hoff, Option.map_some, e7]
          rw [if_neg (by simp; omega)]
          rw [← h1]
          congr 1
        · cases h
      · cases h
theorem buildSliceF_goes {draw : Bool} (t : TypeId) (len : Nat) (parts : List (Nat × PV)) (vals : Array (Nat × Value)) (hpre : (buildSliceF P draw t len parts L).pre) (hH : RepH X β w L)
    (hlen : vals.size = parts.length) (hv : ∀ (j : Nat) i p, parts[j]? = some (i, p) → ∃ v, vals[j]? = some (i, v) ∧ RepV X β w p v) :
    Goes P X β w L draw (Instr.buildSlice t len vals) (buildSliceF P draw t len parts L) := by
  unfold buildSliceF at hpre ⊢
  split at hpre
  case h_2 => exact absurd hpre (by simp [OR.bad])
  rename_i e _ _ _ hT
  obtain ⟨u, _⟩ := tyOf_spec hT
  split at hpre
  case h_2 => exact absurd hpre (by simp [OR.bad])
  rename_i E hE
  try simp only [hE]
  split at hpre
  case h_2 => exact absurd hpre (by simp [OR.bad])
  rename_i cs hcs
  try simp only [hcs]
  obtain ⟨_, i, hi, hs, _, hz⟩ := tyOf_spec hE
  obtain ⟨p1, p2, p3, p4, p5, p6⟩ := hpre
  let c0 : List Value := ((Array.range (len * E.size)).map (E.zero.cells[· % E.zero.cells.size]!)).toList
  have hc0 : RepL X β w (rep len E.zero) c0 := by
    rw [RepL.iff]
    refine ⟨by rw [rep_length]; simp [c0, p3], fun j p v hp hv => ?_⟩
    have hj : j < len * E.zero.cells.size := by
      have := (List.getElem?_eq_some_iff.1 hp).1
      rwa [rep_length] at this
    rw [rep_get _ _ _ hj] at hp
    cases hp
    rw [p3] at hj
    simp [c0, hj, p3] at hv
    simp [RepV, hv, p3]
  obtain ⟨c', h1, h2⟩ := fillA_rep (X := X) (β := β) (w := w) (place' := fun i => some (i * E.size, E.size)) (fun i => rfl) parts vals.toList (rep len E.zero) c0 cs hcs (by simpa using hlen)
    (fun j i p hp => by obtain ⟨v, h3, h4⟩ := hv j i p hp; exact ⟨v, by simpa using h3, h4⟩)
    (fun j i p hp q hq => by
      have := List.all_eq_true.1 p5 (i, p) (List.mem_of_getElem? hp)
      exact List.all_eq_true.1 this q hq) hc0
  have hones : ∀ u ∈ c', u.oneCell' = true := ones_rep (fun q hq => List.all_eq_true.1 p6 q hq) h2
  have hlc : c'.length = len * E.size := by
    have e1 := RepL.length h2
    have gen : ∀ (parts : List (Nat × PV)) (a r : List PV), fillA E.size (fun i => some (i * E.size)) a parts = some r → r.length = a.length := by
      intro parts
      induction parts with
      | nil => intro a r h; simp [fillA] at h; simp [h]
      | cons x parts ih =>
        intro a r h
        obtain ⟨i, p⟩ := x
        simp only [fillA] at h
        split at h
        · rename_i h3
          rw [ih _ _ h, splice_length (by omega)]
        · cases h
    rw [e1, gen _ _ _ hcs, rep_length, p3]
  have hrun : (Instr.buildSlice t len vals).run P w = .ok (.slice (some ⟨w.heap.size, 0, none⟩) len len) (w.alloc (.cells c'.toArray e)) := by
    have hsm : ¬ (16777216 < len * E.size) := by omega
    have hne : ¬ (len * E.size = 0) := by omega
    have h0 : c0.toArray = (Array.range (len * E.size)).map (E.zero.cells[· % E.zero.cells.size]!) := by simp only [c0, Array.toArray_toList]
    rw [h0] at h1
    have hne' : ¬ (len = 0 ∨ E.size = 0) := by
      rintro (h | h) <;> (rw [h] at hne; simp at hne)
    simp [Instr.buildSlice, run_underlying u, sizeOf, typeInfo, hi, hs, hsm, hne', zeroValue, hz, h1, newRow]
    intro h
    exact absurd h hne
  refine fresh_goes hH (.inl rfl) hrun (Nat.le_refl _) (by simp [hlc]) (holds_exact h2 hones)
theorem copyF_goes {draw : Bool} (t t2 ty : TypeId) (d s : PV) (vd vs : Value) (hpre : (copyF P draw t d s L).pre) (hH : RepH X β w L) (hd : RepV X β w d vd) (hs : RepV X β w s vs) :
    Goes P X β w L draw (Builtin.copy_ #[t, t2] ty #[vd, vs]) (copyF P draw t d s L) := by
  unfold copyF at hpre ⊢
  split at hpre
  case h_2 => exact absurd hpre (by simp [OR.bad])
  rename_i e _ _ _ hT
  obtain ⟨u, _⟩ := tyOf_spec hT
  split at hpre
  case h_2 => exact absurd hpre (by simp [OR.bad])
  rename_i E id off n sz hE
  try simp only [hE]
  split at hpre
  case h_2 => exact absurd hpre (by simp [OR.bad])
  rename_i cs hL
  try simp only [hL]
  obtain ⟨_, i, hi, hsz, _, hz⟩ := tyOf_spec hE
  simp only at hpre ⊢
  obtain ⟨p1, rfl, p3, p4⟩ := hpre
  obtain ⟨a, cap, rfl, hcap, us, hr, hl, ho, hc⟩ := slc_list p1 hH hs
  let m := min (slc L s).2.1 n
  have hm1 : m * E.size ≤ (slc L s).2.1 * E.size := Nat.mul_le_mul_right _ (Nat.min_le_left _ _)
  have hm2 : m * E.size ≤ n * E.size := Nat.mul_le_mul_right _ (Nat.min_le_right _ _)
  have hfc : (Builtin.firstCells E.size m (.slice a (slc L s).2.1 cap)).run P w = .ok (us.take (m * E.size)).toArray w := by
    refine firstCells_run (by simp; omega) ?_
    rcases hc with rfl | ⟨b, ha, h⟩
    · left; simp
    · right
      refine ⟨b, ha, fun j u hu => ?_⟩
      rw [List.getElem?_take] at hu
      split at hu
      · exact h j u hu
      · cases hu
  rcases own_slice hH hL hd with ⟨h1, rfl, rfl, rfl, rfl⟩ | ⟨b, base, c, el, cap', h1, rfl, hcap', h2, h3, h4, h5⟩
  · have hm0 : m = 0 := by simp [m]
    refine ⟨.int .i64 0, w, β, ?_, by simp [RepV], ?_, Grow.refl β w, fun e => by cases e⟩
    · have hfc' := hfc
      rw [hm0] at hfc'
      simp [Builtin.copy_, run_underlying u, Builtin.lenOf, sizeOf, typeInfo, hi, hsz, hfc', goInt]
    · have hmin : min (slc L s).2.1 0 = 0 := by simp
      have hset : L.set id (.cells (([] : List PV).take 0 ++ (slc L s).2.2.take (min (slc L s).2.1 0 * E.size) ++ ([] : List PV).drop (0 + min (slc L s).2.1 0 * E.size))) = L := by
        simp only [hmin, Nat.zero_mul, List.take_zero, List.nil_append, List.drop_nil, List.append_nil]
        apply List.ext_getElem?
        intro j
        rw [List.getElem?_set]
        split
        · rename_i h; subst h
          rw [if_pos (List.getElem?_eq_some_iff.1 hL).1, hL]
        · rfl
      rw [hset]; exact hH
  · have hul : (us.take (m * E.size)).length = m * E.size := by simp; omega
    have hst := run_storeCells_at P b (base + off) el (us.take (m * E.size)) 0 c w h2 (by rw [hul]; omega) (fun v hv => ho v (List.mem_of_mem_take hv))
    simp only [Nat.add_zero] at hst
    refine ⟨.int .i64 m, w.setRow b (c.toList.take (base + off) ++ us.take (m * E.size) ++ c.toList.drop (base + off + (us.take (m * E.size)).length)).toArray, β, ?_, by simp [RepV, m], ?_⟩
    · have hfc' := hfc
      simp [Builtin.copy_, run_underlying u, Builtin.lenOf, sizeOf, typeInfo, hi, hsz, goInt]
      have hmm : Nat.min (slc L s).2.1 n = m := rfl
      rw [hmm, hfc]
      simp only [Result.andThen_ok, hst]
      simp
    · have hlen : (cs.take off ++ (slc L s).2.2.take (m * E.size) ++ cs.drop (off + m * E.size)).length = cs.length := by simp; omega
      have := repH_set (c' := (c.toList.take (base + off) ++ us.take (m * E.size) ++ c.toList.drop (base + off + (us.take (m * E.size)).length)).toArray)
        (cs' := cs.take off ++ (slc L s).2.2.take (m * E.size) ++ cs.drop (off + m * E.size)) hH hL h1 h2 (by simp at hul ⊢; omega) (by rw [hlen]; exact h4) (fun j p hp => by
          rw [hul]
          simp only [List.getElem?_toArray]
          rw [List.append_assoc] at hp ⊢
          rw [List.getElem?_append] at hp ⊢
          simp only [List.length_take, Array.length_toList, Nat.min_eq_left (show base + off ≤ c.size by omega), Nat.min_eq_left (show off ≤ cs.length by omega)] at hp ⊢
          by_cases hj : j < off
          · rw [if_pos hj, List.getElem?_take, if_pos hj] at hp
            rw [if_pos (by omega), List.getElem?_take, if_pos (by omega)]
            obtain ⟨v, hv, ho', hr'⟩ := RepRow.iff.1 h5 j p hp
            rw [cell_of_row w b _ c el (0, 0) h2] at hv
            exact ⟨v, by simpa using hv, ho', hr'⟩
          · rw [if_neg hj, List.getElem?_append] at hp
            rw [if_neg (by omega), List.getElem?_append]
            have hsl : ((slc L s).2.2.take (m * E.size)).length = m * E.size := by simp; omega
            rw [hsl] at hp
            rw [hul]
            by_cases hj2 : j - off < m * E.size
            · rw [if_pos hj2, List.getElem?_take, if_pos hj2] at hp
              rw [if_pos (by omega), List.getElem?_take, if_pos (by omega)]
              rw [show base + j - (base + off) = j - off by omega]
              obtain ⟨v, hv, hr'⟩ := repL_nth hr hp
              exact ⟨v, hv, ho v (List.mem_of_getElem? hv), hr'⟩
            · rw [if_neg hj2, List.getElem?_drop] at hp
              rw [if_neg (by omega), List.getElem?_drop]
              rw [show off + m * E.size + (j - off - m * E.size) = j by omega] at hp
              rw [show base + off + m * E.size + (base + j - (base + off) - m * E.size) = base + j by omega]
              obtain ⟨v, hv, ho', hr'⟩ := RepRow.iff.1 h5 j p hp
              rw [cell_of_row w b _ c el (0, 0) h2] at hv
              exact ⟨v, by simpa using hv, ho', hr'⟩)
      exact ⟨this.1, this.2, fun e => by cases e⟩
end Go.Ab
namespace Go.Ab
open Go Go.RowKit
set_option linter.unusedVariables false
set_option linter.unusedSimpArgs false
variable {P : Program} {X : Nat → Prop} {β : List Base} {w : World} {L : LH}
def fillB (place : Nat → Option (Nat × Nat)) (cs : List PV) : List (Nat × PV) → Option (List PV)
  | [] => some cs
  | (i, p) :: r => match place i with
    | some (off, size) => if p.cells.length = size ∧ off + size ≤ cs.length then fillB place (splice cs off p.cells) r else none
    | none => none
def placesF (P : Program) : List Field → List (Option (Nat × Nat))
  | [] => []
  | f :: r => ((tyOf P f.type).map fun T => (f.offset, T.size)) :: placesF P r
def zeroCells (z : Value) : List PV := z.cells.toList.map PV.lit
def buildF (P : Program) (t : TypeId) (parts : List (Nat × PV)) (L : LH) : OR :=
  match tyOf P t with
  | some ⟨.array n e, _, _, z⟩ => match tyOf P e with
    | some E => match fillB (fun i => some (i * E.size, E.size)) (zeroCells z) parts with
      | some cs => ⟨parts.all (fun x => x.2.cells.all PV.one) = true, .agg cs, L⟩
      | none => .bad
    | none => .bad
  | some ⟨.struct fs, _, _, z⟩ => bif (placesF P fs.toList).all Option.isSome then match fillB (fun i => ((placesF P fs.toList)[i]?).join) (zeroCells z) parts with
      | some cs => ⟨parts.all (fun x => x.2.cells.all PV.one) = true, .agg cs, L⟩
      | none => .bad
    else .bad
  | _ => .bad
def fieldAddrF (P : Program) (t : TypeId) (a : PV) (f : Nat) (L : LH) : OR :=
  match tyOf P t with
  | some ⟨.struct fs, _, _, _⟩ => match fs[f]? with
    | some fd => match tyOf P fd.type, a with
      | some T, .ptr id off => match L[id]? with
        | some (.cells _) => ⟨0 < T.size, .ptr id (off + fd.offset), L⟩
        | _ => .bad
      | some T, .rptr cs => ⟨fd.offset + T.size ≤ cs.length ∧ 0 < T.size, .rptr ((cs.drop fd.offset).take T.size), L⟩
      | _, _ => .bad
    | none => .bad
  | _ => .bad
theorem fillB_rep {place : Nat → Option (Nat × Nat)} :
    ∀ (parts : List (Nat × PV)) (vals : List (Nat × Value)) (cs : List PV) (c : List Value) (r : List PV), fillB place cs parts = some r →
      vals.length = parts.length → (∀ (j : Nat) i p, parts[j]? = some (i, p) → ∃ v, vals[j]? = some (i, v) ∧ RepV X β w p v) → (∀ (j : Nat) i p, parts[j]? = some (i, p) → ∀ q ∈ p.cells, PV.one q = true) → RepL X β w cs c →
      ∃ c', Instr.fill place c.toArray vals = some c'.toArray ∧ RepL X β w r c'
  | [], vals, cs, c, r, h, hlen, hv, ho, hc => by
    simp [fillB] at h
    subst h
    have : vals = [] := List.eq_nil_of_length_eq_zero (by simpa using hlen)
    subst this
    exact ⟨c, by simp [Instr.fill], hc⟩
  | (i, p) :: rest, vals, cs, c, r, h, hlen, hv, ho, hc => by
    obtain ⟨v, hv0, hr0⟩ := hv 0 i p (by simp)
    cases vals with
    | nil => simp at hlen
    | cons x vals =>
      simp at hv0
      subst hv0
      unfold fillB at h
      split at h
      · rename_i off size hoff
        split at h
        · rename_i hsz
          obtain ⟨e1, e2⟩ := hsz
          have hone := ho 0 i p (by simp)
          obtain ⟨e3, e4⟩ := cells_rep hr0 hone
          have e5 := RepL.length e3
          have e6 := RepL.length hc
          have e7 : v.cells.size = size := by rw [← e1, ← e5]; simp
          let c2 : List Value := c.take off ++ v.cells.toList ++ c.drop (off + v.cells.toList.length)
          have hz : (v.cells.zipIdx.foldl (fun cs (x : Value × Nat) => cs.setIfInBounds (off + x.2) x.1) c.toArray) = c2.toArray := by
            have gen : ∀ (us : List Value) (k : Nat) (d : List Value), off + k + us.length ≤ d.length →
                ((us.zipIdx k).foldl (fun (cs : Array Value) (x : Value × Nat) => cs.setIfInBounds (off + x.2) x.1) d.toArray) = (d.take (off + k) ++ us ++ d.drop (off + k + us.length)).toArray := by
              intro us
              induction us with
              | nil => intro k d _; simp
              | cons u us ih =>
                intro k d hd
                simp only [List.zipIdx_cons, List.foldl_cons]
                have : d.toArray.setIfInBounds (off + k) u = (d.set (off + k) u).toArray := by simp
                rw [this, ih (k + 1) _ (by simp at hd ⊢; omega)]
                congr 1
                have hk : off + k < d.length := by simp at hd; omega
                apply List.ext_getElem?
                intro j
                simp only [List.append_assoc]
                simp only [List.getElem?_append, List.length_take, List.length_set, List.getElem?_take, List.getElem?_set, List.getElem?_drop, List.length_cons, List.getElem?_cons]
                simp at hd
                rw [Nat.min_eq_left (by omega), Nat.min_eq_left (by omega)]
                by_cases h1 : j < off + k
                · rw [if_pos (by omega), if_pos (by omega), if_neg (by omega), if_pos h1, if_pos h1]
                · by_cases h2 : j = off + k
                  · subst h2
                    simp [hk]
                  · by_cases h3 : j - (off + (k + 1)) < us.length
                    · rw [if_neg (by omega), if_pos h3, if_neg h1, if_pos (by omega), if_neg (by omega)]
                      rw [show j - (off + (k + 1)) = j - (off + k) - 1 by omega]
                    · rw [if_neg (by omega), if_neg h3, if_neg h1, if_neg (by omega), if_neg (by omega)]
                      congr 1
                      omega
            have := gen v.cells.toList 0 c (by rw [e5, e1]; omega)
            simp only [Nat.add_zero] at this
            rw [← this, ← Array.foldl_toList, Array.toList_zipIdx]
          have hr2 : RepL X β w (splice cs off p.cells) c2 := by
            rw [RepL.iff]
            have hcl : c2.length = c.length := by simp [c2]; simp at e5; omega
            refine ⟨by rw [hcl, splice_length (by omega), e6], fun j q u hq hu => ?_⟩
            rw [splice_get (by omega)] at hq
            simp only [c2, List.append_assoc] at hu
            rw [List.getElem?_append] at hu
            simp only [List.length_take, Nat.min_eq_left (show off ≤ c.length by omega)] at hu
            split at hq
            · rename_i hj
              rw [if_neg (by omega), List.getElem?_append_left (by rw [e5]; omega)] at hu
              exact (RepL.iff.1 e3).2 _ q u hq hu
            · rename_i hj
              split at hu
              · rename_i hj2
                rw [List.getElem?_take, if_pos hj2] at hu
                exact (RepL.iff.1 hc).2 _ q u hq hu
              · rename_i hj2
                rw [List.getElem?_append_right (by rw [e5]; omega), List.getElem?_drop] at hu
                rw [show off + v.cells.toList.length + (j - off - v.cells.toList.length) = j by rw [e5]; omega] at hu
                exact (RepL.iff.1 hc).2 _ q u hq hu
          obtain ⟨c', h1, h2⟩ := fillB_rep rest vals _ c2 r h (by simpa using hlen) (fun j i q hq => by simpa using hv (j + 1) i q (by simpa using hq)) (fun j i q hq => ho (j + 1) i q (by simpa using hq)) hr2
          refine ⟨c', ?_, h2⟩
          simp only [Instr.fill, hoff, e7]
          rw [if_neg (by simp; omega)]
          rw [← h1]
          congr 1
        · cases h
      · cases h
theorem zeroCells_rep (z : Value) : RepL X β w (zeroCells z) z.cells.toList := by
  rw [RepL.iff]
  refine ⟨by simp [zeroCells], fun i p v hp hv => ?_⟩
  simp only [zeroCells, List.getElem?_map, Option.map_eq_some_iff] at hp
  obtain ⟨u, hu, rfl⟩ := hp
  rw [hv] at hu; cases hu
  simp [RepV]
theorem placesF_run {fs : List Field} (h : (placesF P fs).all Option.isSome = true) : (fs.mapM fun f => do pure (f.offset, ← sizeOf f.type) : Sem (List (Nat × Nat))).run P w = .ok ((placesF P fs).filterMap id) w := by
  induction fs with
  | nil => simp [placesF]
  | cons f r ih =>
    simp only [placesF, List.all_cons, Bool.and_eq_true] at h
    cases hT : tyOf P f.type with
    | none => simp [hT] at h
    | some T =>
      obtain ⟨_, i, hi, hs, _, _⟩ := tyOf_spec hT
      have hsz : (sizeOf f.type).run P w = .ok T.size w := by simp [sizeOf, typeInfo, hi, hs]
      rw [List.mapM_cons]
      simp only [Sem.run_bind, hsz, Result.andThen_ok, Sem.run_pure, ih h.2]
      simp [placesF, hT]
theorem filterMap_id_get {α : Type} : ∀ (l : List (Option α)) (h : l.all Option.isSome = true) (i : Nat), (l.filterMap id)[i]? = (l[i]?).join
  | [], _, i => by simp
  | none :: l, h, i => by simp at h
  | some a :: l, h, i => by
    simp only [List.all_cons, Option.isSome_some, Bool.true_and] at h
    cases i with
    | zero => simp
    | succ i => simpa using filterMap_id_get l h i
theorem buildF_still (t : TypeId) (parts : List (Nat × PV)) (vals : Array (Nat × Value)) (hpre : (buildF P t parts L).pre)
    (hlen : vals.size = parts.length) (hv : ∀ (j : Nat) i p, parts[j]? = some (i, p) → ∃ v, vals[j]? = some (i, v) ∧ RepV X β w p v) :
    Still P X β w L (Instr.build t vals) (buildF P t parts L) := by
  unfold buildF at hpre ⊢
  split at hpre
  · rename_i n e _ _ z hT
    obtain ⟨u, it, hit, _, _, hzt⟩ := tyOf_spec hT
    split at hpre
    case h_2 => exact absurd hpre (by simp [OR.bad])
    rename_i E hE
    try simp only [hE]
    obtain ⟨_, i, hi, hs, _, hz⟩ := tyOf_spec hE
    split at hpre
    case h_2 => exact absurd hpre (by simp [OR.bad])
    rename_i cs hcs
    try simp only [hcs]
    obtain ⟨c', h1, h2⟩ := fillB_rep (X := X) (β := β) (w := w) parts vals.toList (zeroCells z) z.cells.toList cs hcs (by simpa using hlen)
      (fun j i p hp => by obtain ⟨v, h3, h4⟩ := hv j i p hp; exact ⟨v, by simpa using h3, h4⟩)
      (fun j i p hp q hq => by
        have := List.all_eq_true.1 hpre (i, p) (List.mem_of_getElem? hp)
        exact List.all_eq_true.1 this q hq) (zeroCells_rep z)
    refine ⟨.agg c'.toArray, ?_, ?_, rfl⟩
    · simp only [Array.toArray_toList] at h1
      simp [Instr.build, run_underlying u, sizeOf, typeInfo, hi, hs, zeroValue, hit, hzt, h1]
    · simp only [RepV]
      exact ⟨c', rfl, h2⟩
  · rename_i fs _ _ z hT
    obtain ⟨u, it, hit, _, _, hzt⟩ := tyOf_spec hT
    cases hall : (placesF P fs.toList).all Option.isSome with
    | false => rw [hall] at hpre; simp only [cond_false] at hpre; exact absurd hpre (by simp [OR.bad])
    | true =>
      rw [hall] at hpre
      simp only [cond_true] at hpre ⊢
      split at hpre
      case h_2 => exact absurd hpre (by simp [OR.bad])
      rename_i cs hcs
      try simp only [hcs]
      obtain ⟨c', h1, h2⟩ := fillB_rep (X := X) (β := β) (w := w) parts vals.toList (zeroCells z) z.cells.toList cs hcs (by simpa using hlen)
        (fun j i p hp => by obtain ⟨v, h3, h4⟩ := hv j i p hp; exact ⟨v, by simpa using h3, h4⟩)
        (fun j i p hp q hq => by
          have := List.all_eq_true.1 hpre (i, p) (List.mem_of_getElem? hp)
          exact List.all_eq_true.1 this q hq) (zeroCells_rep z)
      refine ⟨.agg c'.toArray, ?_, ?_, rfl⟩
      · simp only [Array.toArray_toList] at h1
        have hm : (fs.mapM fun f => do pure (f.offset, ← sizeOf f.type) : Sem (Array (Nat × Nat))).run P w = .ok ((placesF P fs.toList).filterMap id).toArray w := by
          rw [Array.mapM_eq_mapM_toList, Sem.run_map, placesF_run hall]
          rfl
        have hg : (fun (x : Nat) => (((placesF P fs.toList).filterMap id).toArray[x]? : Option (Nat × Nat))) = fun (i : Nat) => ((placesF P fs.toList)[i]?).join := by
          funext i
          rw [List.getElem?_toArray, filterMap_id_get _ hall]
        have hz : (zeroValue t).run P w = .ok z w := by simp [zeroValue, typeInfo, hit, hzt]
        unfold Instr.build
        simp only [Sem.run_bind, hz, Result.andThen_ok, run_underlying u, hm, hg, h1, Sem.run_pure]
      · simp only [RepV]
        exact ⟨c', rfl, h2⟩
  · exact absurd hpre (by simp [OR.bad])
theorem fieldAddrF_still (t : TypeId) (a : PV) (f : Nat) (va : Value) (hpre : (fieldAddrF P t a f L).pre) (hH : RepH X β w L) (ha : RepV X β w a va) : Still P X β w L (Instr.fieldAt t va f) (fieldAddrF P t a f L) := by
  unfold fieldAddrF at hpre ⊢
  split at hpre
  case h_2 => exact absurd hpre (by simp [OR.bad])
  rename_i fs _ _ _ hT
  obtain ⟨u, _⟩ := tyOf_spec hT
  split at hpre
  case h_2 => exact absurd hpre (by simp [OR.bad])
  rename_i fd hf
  try simp only [hf]
  split at hpre
  · rename_i T id off hF
    try simp only [hF]
    split at hpre
    case h_2 => exact absurd hpre (by simp [OR.bad])
    rename_i cs hL
    try simp only [hL]
    obtain ⟨_, i, hi, hs, _, _⟩ := tyOf_spec hF
    simp only [RepV] at ha
    rcases hH.ent id cs hL with ⟨e1, _⟩ | ⟨b, base, c, el, e1, e2, e3, e4⟩
    · exact absurd e1 ha.2.2.1
    · have := ha.2.1 b base e1
      subst this
      have h0 : ¬ T.size = 0 := by simp only at hpre; omega
      refine ⟨.pointer (some ⟨b, base + off + fd.offset, none⟩), ?_, ?_, rfl⟩
      · simp [Instr.fieldAt, run_underlying u, hf, Instr.sureAddr, fieldPlace, sizeOf, typeInfo, hi, hs, h0, Addr.add_lit]
      · simp only [RepV]
        refine ⟨ha.1, fun b' base' hb' => ?_, ha.2.2.1, rfl⟩
        rw [e1] at hb'; cases hb'
        rw [Nat.add_assoc]
  · rename_i T cs hF
    try simp only [hF]
    obtain ⟨_, i, hi, hs, _, _⟩ := tyOf_spec hF
    obtain ⟨p1, p2⟩ := hpre
    have h0 : ¬ T.size = 0 := by omega
    simp only [RepV] at ha
    obtain ⟨b, off, rfl, hc⟩ := ha
    rcases hc with rfl | ⟨hX, hl, hr⟩
    · simp at p1; omega
    · refine ⟨.pointer (some ⟨b, off + fd.offset, none⟩), ?_, ?_, rfl⟩
      · simp [Instr.fieldAt, run_underlying u, hf, Instr.sureAddr, fieldPlace, sizeOf, typeInfo, hi, hs, h0, Addr.add_lit]
      · simp only [RepV]
        exact ⟨b, _, rfl, .inr ⟨hX, hl, row_sub hr _ _⟩⟩
  · exact absurd hpre (by simp [OR.bad])
end Go.Ab
