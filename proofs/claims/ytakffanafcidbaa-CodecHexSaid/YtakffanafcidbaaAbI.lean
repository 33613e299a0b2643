import Derived.Test.YtakffanafcidbaaAbH
namespace Go.Ab
open Go Go.RowKit
set_option linter.unusedVariables false
set_option linter.unusedSimpArgs false

variable {P : Program} {Γ : Con} {X : Nat → Prop} {β : List Base} {w : World} {L : LH} {N : Nat}

theorem grow_of_nil {w' : World} (g : Grow [] [] w w') : Grow β β w w' :=
  ⟨g.os, g.tape, g.output, g.size, fun k hk _ => g.block k hk (fun ⟨i, x, h⟩ => by simp at h), g.shape, fun _ h => .inl h, Nat.le_refl _, fun _ _ _ h _ => h⟩

theorem same_of_nil {w' : World} (g : Grow [] [] w w') : ∀ k, k < w.heap.size → w'.heap[k]? = w.heap[k]? := fun k hk => g.block k hk (fun ⟨i, x, h⟩ => by simp at h)

theorem repL_borrow {ps : List PV} {vs : List Value} (hH : RepH X β w L) (h : RepL X β w ps vs) (hok : ∀ p ∈ ps, borrowOk L p) : RepL X [] w (ps.map (borrow L)) vs ∧ closedL (ps.map (borrow L)) = true := by
  rw [RepL.iff] at h
  constructor
  · rw [RepL.iff]
    refine ⟨by simp [h.1], fun i p v hp hv => ?_⟩
    rw [List.getElem?_map, Option.map_eq_some_iff] at hp
    obtain ⟨q, hq, rfl⟩ := hp
    exact (borrow_rep hH (h.2 i q v hq hv) (hok q (List.mem_of_getElem? hq))).1
  · rw [closedL_iff]
    intro p hp
    rw [List.mem_map] at hp
    obtain ⟨q, hq, rfl⟩ := hp
    obtain ⟨i, hi⟩ := List.getElem?_of_mem hq
    have hlt : i < vs.length := by rw [h.1]; exact (List.getElem?_eq_some_iff.1 hi).1
    exact (borrow_rep hH (h.2 i q vs[i] hi (by simp [hlt])) (hok q hq)).2

theorem repL_plain {Y : Nat → Prop} {ps : List PV} {vs : List Value} (hc : closedL ps = true) (h : RepL X β w ps vs) (hY : ∀ b, Y b → X b ∨ Live β b) : RepL Y [] w (ps.map (borrow L)) vs := by
  rw [closedL_iff] at hc
  rw [RepL.iff] at h ⊢
  refine ⟨by simp [h.1], fun i p v hp hv => ?_⟩
  rw [List.getElem?_map, Option.map_eq_some_iff] at hp
  obtain ⟨q, hq, rfl⟩ := hp
  exact (borrow_plain (hc q (List.mem_of_getElem? hq)) (h.2 i q v hq hv) hY).1

theorem live_nil {b : Nat} : ¬ Live [] b := fun ⟨i, x, h⟩ => by simp at h

/-- Taking over a new row. 'Y' is what its cells keep clear of. -/
theorem newRow_adopt {draw : Bool} {Y : Nat → Prop} {w' : World} {n sz : Nat} {cs : List PV} {v : Value} (hH : RepH X β w L) (g : Grow [] [] w w') (h : NewRow Y w w' n sz cs v) (hY : (∀ b, X b ∨ Live β b → Y b) ∨ flatL cs = true) :
    ∃ β', RepV X β' w' (fresh draw n sz cs L).1 v ∧ RepH X β' w' (fresh draw n sz cs L).2 ∧ Grow β β' w w' ∧ (draw = true → β' = β ∧ (fresh draw n sz cs L).2 = L) ∧ (∀ b, Live β' b → Live β b ∨ blockOf v b) := by
  have hH' := hH.same (grow_of_nil g) (same_of_nil g)
  rcases h with ⟨rfl, rfl, rfl⟩ | ⟨b, off, cap, c, el, rfl, hn, hb, hw, hcap, hoff, hcl, hr⟩
  · cases draw with
    | false =>
      refine ⟨β ++ [.nil], ?_, repH_nil (sz := 0) hH', (grow_of_nil g).trans grow_nil, (fun e => by cases e), fun b hb => ?_⟩
      · simp only [fresh, RepV]
        refine ⟨by simp [hH.len], fun b base hb => ?_, fun _ => by simp⟩
        rw [List.getElem?_append_right (by rw [hH.len]; exact Nat.le_refl _)] at hb
        simp [hH.len] at hb
      · rcases live_snoc hb with h | ⟨_, h⟩
        · exact .inl h
        · cases h
    | true =>
      refine ⟨β, ?_, hH', grow_of_nil g, fun _ => ⟨rfl, rfl⟩, fun b hb => .inl hb⟩
      simp only [fresh, RepV]
      exact ⟨none, 0, rfl, Nat.le_refl _, .inl rfl⟩
  · have hnX : ¬ X b := fun hx => by have := (hH.out b hx).1; omega
    have hnl : ¬ Live β b := fun hl => by have := hH.lt b hl; omega
    cases draw with
    | true =>
      refine ⟨β, ?_, hH', grow_of_nil g, fun _ => ⟨rfl, rfl⟩, fun b hb => .inl hb⟩
      simp only [fresh, RepV]
      refine ⟨_, cap, rfl, hn, .inr ⟨b, off, rfl, hnX, hnl, ?_⟩⟩
      rcases hY with hY | hY
      · exact RepRow.anti (fun x hx => .inl (.inl (hY x hx))) b cs off hcl hr
      · exact RepRow.flat hY hr
    | false =>
      have g2 : Grow β (β ++ [.blk b off]) w w' := by
        have g1 := grow_of_nil (β := β) g
        refine ⟨g1.os, g1.tape, g1.output, g1.size, g1.block, g1.shape, fun d hd => ?_, by simp, fun id x hid hx _ => by rw [List.getElem?_append_left hid] at hx; exact hx⟩
        rcases live_snoc hd with h | ⟨base, h⟩
        · exact .inl h
        · cases h; exact .inr hb
      have hrow : RepRow X (β ++ [.blk b off]) w' b off cs := by
        rcases hY with hY | hY
        · refine RepRow.anti (fun x hx => ?_) b cs off hcl hr
          rcases hx with hx | hx
          · exact .inl (.inl (hY x (.inl hx)))
          · rcases live_snoc hx with h | ⟨base, h⟩
            · exact .inl (.inl (hY x (.inr h)))
            · cases h; exact .inl (.inr rfl)
        · exact RepRow.flat hY hr
      refine ⟨β ++ [.blk b off], ?_, ?_, g2, (fun e => by cases e), fun d hd => ?_⟩
      · simp only [fresh, RepV]
        refine ⟨by simp [hH.len], fun b' base' hb' => ?_, fun hb' => ?_⟩
        · rw [List.getElem?_append_right (by rw [hH.len]; exact Nat.le_refl _)] at hb'
          simp [hH.len] at hb'
          obtain ⟨rfl, rfl⟩ := hb'
          exact ⟨cap, rfl, hn, c, el, _, hw, by omega⟩
        · rw [List.getElem?_append_right (by rw [hH.len]; exact Nat.le_refl _)] at hb'
          simp [hH.len] at hb'
      · refine ⟨by simp [fresh, hH.len], ?_, ?_, ?_, ?_⟩
        · intro i j d x y hi hj
          rw [List.getElem?_append] at hi hj
          split at hi <;> split at hj
          · exact hH.inj i j d x y hi hj
          · rw [List.getElem?_singleton] at hj
            split at hj
            · simp at hj
              exact absurd ⟨i, x, hj.1 ▸ hi⟩ hnl
            · cases hj
          · rw [List.getElem?_singleton] at hi
            split at hi
            · simp at hi
              exact absurd ⟨j, y, hi.1 ▸ hj⟩ hnl
            · cases hi
          · rw [List.getElem?_singleton] at hi hj
            split at hi <;> split at hj <;> first | (cases hi; done) | (cases hj; done) | omega
        · intro d hd
          rcases live_snoc hd with h | ⟨base, h⟩
          · exact hH'.lt d h
          · cases h; exact (Array.getElem?_eq_some_iff.1 hw).1
        · intro d hd
          refine ⟨(hH'.out d hd).1, fun hl => ?_⟩
          rcases live_snoc hl with h | ⟨base, h⟩
          · exact (hH.out d hd).2 h
          · cases h; exact hnX hd
        · intro id ds hid
          simp only [fresh] at hid
          rw [if_neg (by simp)] at hid
          rw [List.getElem?_append] at hid
          split at hid
          · rename_i hlt
            rcases hH'.ent id ds hid with ⟨e1, e2⟩ | ⟨b', base', c', el', e1, e2, e3, e4⟩
            · exact .inl ⟨by rw [List.getElem?_append_left (by rw [hH.len]; exact hlt)]; exact e1, e2⟩
            · refine .inr ⟨b', base', c', el', by rw [List.getElem?_append_left (by rw [hH.len]; exact hlt)]; exact e1, e2, e3, ?_⟩
              rcases hH.ent id ds hid with ⟨f1, _⟩ | ⟨b5, base5, c5, el5, f1, f2, f3, f4⟩
              · rw [e1] at f1; cases f1
              · rw [e1] at f1; cases f1
                rw [RepRow.iff] at f4 ⊢
                intro k p hp
                obtain ⟨u, hu, ho, hr2⟩ := f4 k p hp
                exact ⟨u, by rw [← hu]; exact World.cell?_of_block (same_of_nil g b' (hH.lt b' ⟨id, base', e1⟩)), ho, hr2.grow g2⟩
          · rename_i hge
            rw [List.getElem?_singleton] at hid
            split at hid
            · simp at hid
              subst hid
              refine .inr ⟨b, off, c, el, ?_, hw, hoff, hrow⟩
              rw [List.getElem?_append_right (by rw [hH.len]; omega)]
              rw [show id - β.length = 0 by rw [hH.len]; omega]
              rfl
            · cases hid
      · rcases live_snoc hd with h | ⟨base, h⟩
        · exact .inl h
        · cases h; exact .inr rfl

/-- The result of a call, in the caller's own terms. -/
theorem adopt_rep {draw : Bool} {Y : Nat → Prop} {w' : World} {r : PV} {v : Value} (hH : RepH X β w L) (g : Grow [] [] w w') (h : RepR Y w w' r v) (hY : (∀ b, X b ∨ Live β b → Y b) ∨ flat r = true) :
    ∃ β', RepV X β' w' (adopt draw r L).1 v ∧ RepH X β' w' (adopt draw r L).2 ∧ Grow β β' w w' ∧ (draw = true → β' = β ∧ (adopt draw r L).2 = L) := by
  have plain : closed r = true → RepV Y [] w' r v → ∃ β', RepV X β' w' r v ∧ RepH X β' w' L ∧ Grow β β' w w' ∧ (draw = true → β' = β ∧ L = L) := by
    intro hc hr
    refine ⟨β, ?_, hH.same (grow_of_nil g) (same_of_nil g), grow_of_nil g, fun _ => ⟨rfl, rfl⟩⟩
    rcases hY with hY | hY
    · exact RepV.anti (fun b hb => .inl (hY b hb)) r v hc hr
    · exact RepV.flat r v hY hr
  unfold adopt
  split
  · rename_i n sz cs
    simp only [RepR] at h
    obtain ⟨β', h1, h2, h3, h4, _⟩ := newRow_adopt (draw := draw) hH g h (hY.imp id (fun hf => by simpa [flat] using hf))
    exact ⟨β', h1, h2, h3, h4⟩
  · rename_i n sz cs rs
    simp only [RepR] at h
    obtain ⟨v0, vs, rfl, h0, hcl, hrs⟩ := h
    obtain ⟨β', h1, h2, h3, h4, h5⟩ := newRow_adopt (draw := draw) hH g h0 (hY.imp id (fun hf => by simp [flat, flatL] at hf; exact hf.1))
    refine ⟨β', ?_, h2, h3, h4⟩
    simp only [RepV, RepL]
    refine ⟨v0 :: vs, rfl, v0, vs, rfl, h1, ?_⟩
    rcases hY with hY | hY
    · refine RepL.anti (fun b hb => ?_) rs vs hcl hrs
      left
      rcases hb with hb | hb
      · exact .inl (hY b (.inl hb))
      · rcases h5 b hb with h | h
        · exact .inl (hY b (.inr h))
        · exact .inr h
    · simp [flat, flatL] at hY
      exact RepL.flat rs vs hY.2 hrs
  · rename_i hne1 hne2
    have : closed r = true ∧ RepV Y [] w' r v := by
      unfold RepR at h
      split at h
      · exact absurd rfl (hne1 _ _ _)
      · exact absurd rfl (hne2 _ _ _ _)
      · exact h
    exact plain this.1 this.2

def GammaOk (P : Program) (Γ : Con) : Prop := ∀ f, PureOk P f (Γ f)

/-- One operation, as the walk of a region asks. -/
def OpGoes (P : Program) (X : Nat → Prop) (β : List Base) (w : World) (L : LH) (draw : Bool) (o : Oper) (a : Act) (r : OR) : Prop :=
  ∀ (next : Act → World → Prop) (Q : Exit → Act → World → Prop),
    (∀ v w' β', RepV X β' w' r.val v → RepH X β' w' r.L → Grow β β' w w' → (draw = true → β' = β ∧ r.L = L) → next (a.put o.dst v) w') → o.wp P a w next Q

theorem Goes.op {draw : Bool} {o : Oper} {a : Act} {m : Sem Value} {r : OR} (h : Goes P X β w L draw m r) (hx : (execOp a.eval o).run P w = (do pure (.value (← m)) : Sem Next).run P w) : OpGoes P X β w L draw o a r := by
  intro next Q hn
  obtain ⟨v, w', β', h1, h2, h3, h4, h5⟩ := h
  unfold Oper.wp
  rw [hx]
  simp only [Sem.run_bind, h1, Result.andThen_ok, Sem.run_pure, Oper.upon]
  exact hn v w' β' h2 h3 h4 h5

theorem repL_args {env : List (Nat × PV)} {a : Act} (hA : RepA N X β w env a) (xs : List Operand) : RepL X β w (xs.map (evalIn env)) (xs.map a.eval) := by
  induction xs with
  | nil => simp [RepL]
  | cons x xs ih => simp only [List.map_cons, RepL]; exact ⟨_, _, rfl, hA.eval x, ih⟩

theorem repO_map {env : List (Nat × PV)} {a : Act} (hA : RepA N X β w env a) (x : Option Operand) : RepO X β w (x.map (evalIn env)) (x.map a.eval) := by
  cases x with
  | none => trivial
  | some x => exact hA.eval x

theorem still_same {p : PV} {v : Value} (h : RepV X β w p v) : Still P X β w L (pure v) ⟨True, p, L⟩ := ⟨v, rfl, h, rfl⟩

theorem op_sound (hΓ : GammaOk P Γ) {draw : Bool} {o : Oper} {env : List (Nat × PV)} {a : Act} (hA : RepA N X β w env a) (hH : RepH X β w L) (hpre : (opF P Γ draw (evalIn env) L o.op).pre) :
    OpGoes P X β w L draw o a (opF P Γ draw (evalIn env) L o.op) := by
  obtain ⟨dst, op, type, pos, after, guard⟩ := o
  cases op <;> simp only [opF] at hpre ⊢ <;> first | (exfalso; simp [OR.bad] at hpre; done) | skip
  case move x => exact Goes.op (Still.goes (still_same (hA.eval x)) hH) (by simp [execOp])
  case assign x => exact Goes.op (Still.goes (still_same (hA.eval x)) hH) (by simp [execOp])
  case alloc t => exact Goes.op (allocF_goes t hpre hH) rfl
  case box el x => exact Goes.op (boxF_goes el _ _ hpre hH (hA.eval x)) rfl
  case buildSlice t len parts =>
    have hgo := buildSliceF_goes (P := P) (X := X) (β := β) (w := w) (draw := draw) t len _ (parts.map fun (i, x) => (i, a.eval x)) hpre hH (by simp) (fun j i p hp => ?_)
    · exact Goes.op hgo (by unfold execOp; rfl)
    rw [List.getElem?_map, Option.map_eq_some_iff] at hp
    obtain ⟨⟨i', x⟩, hq, he⟩ := hp
    cases he
    exact ⟨a.eval x, by simp only [Array.getElem?_map]; rw [Array.getElem?_toList] at hq; rw [hq]; rfl, hA.eval x⟩
  case load t x => exact Goes.op ((loadF_still t _ _ hpre hH (hA.eval x)).goes hH) rfl
  case store t p x =>
    obtain ⟨w', h1, h2, h3, h4, h5⟩ := storeF_runs t _ _ _ _ hpre hH (hA.eval p) (hA.eval x)
    intro next Q hn
    unfold Oper.wp
    have hx : (execOp a.eval { dst, op := .store t p x, type, pos, after, guard }).run P w = .ok .skip w' := by
      simp [execOp, h1]
    rw [hx]
    simp only [Oper.upon]
    exact hn _ w' β (by rw [h4]; simp [RepV]) h2 h3 (fun e => by rw [h5] at e; cases e)
  case nilCheck x =>
    have hx := hA.eval x
    split at hpre
    · rename_i cs hcs
      try simp only [hcs]
      rw [hcs] at hx
      have hx' := hx
      simp only [RepV] at hx
      obtain ⟨b, off, hv, _⟩ := hx
      refine Goes.op (Still.goes (still_same hx') hH) ?_
      simp [execOp, hv]
    · rename_i id off hcs
      try simp only [hcs]
      rw [hcs] at hx
      split at hpre
      · rename_i cs hL
        try simp only [hL]
        have hx' := hx
        simp only [RepV] at hx
        rcases hH.ent id cs hL with ⟨h1, _⟩ | ⟨b, base, c, el, h1, _⟩
        · exact absurd h1 hx.2.2
        · have hv := hx.2.1 b base h1
          refine Goes.op (Still.goes (still_same hx') hH) ?_
          simp [execOp, hv]
      · exact absurd hpre (by simp [OR.bad])
    · exact absurd hpre (by simp [OR.bad])
  case binOp op t x y yt => exact Goes.op ((binF_still op t x y _ _ _ _ hpre (hA.eval x) (hA.eval y)).goes hH) rfl
  case unOp op t x => exact Goes.op ((unF_still op _ _ hpre (hA.eval x)).goes hH) rfl
  case convert src dst' x => exact Goes.op (convF_goes src dst' _ _ hpre hH (hA.eval x)) rfl
  case makeSlice t l c => exact Goes.op (makeF_goes t _ _ _ _ hpre hH (hA.eval l) (hA.eval c)) rfl
  case slice t x lo hi mx => exact Goes.op ((sliceF_still t _ _ _ _ _ _ _ _ hpre hH (hA.eval x) (repO_map hA lo) (repO_map hA hi) (repO_map hA mx)).goes hH) rfl
  case indexAddr t x i => exact Goes.op ((indexAddrF_still t _ _ _ _ hpre hH (hA.eval x) (hA.eval i)).goes hH) rfl
  case index t x i => exact Goes.op ((indexF_still t _ _ _ _ hpre (hA.eval x) (hA.eval i)).goes hH) rfl
  case field t x f => exact Goes.op ((fieldF_still t _ f _ hpre (hA.eval x)).goes hH) rfl
  case extract x i => exact Goes.op ((extractF_still _ i _ hpre (hA.eval x)).goes hH) rfl
  case call c =>
    obtain ⟨callee, ⟨args⟩, ⟨argTypes⟩⟩ := c
    simp only at hpre ⊢
    split at hpre
    · rename_i x t
      exact Goes.op ((lenF_still t type #[t] _ _ hpre hH (hA.eval x) rfl).goes hH) (by simp [execOp, resolve, invoke, builtin])
    · rename_i x t
      exact Goes.op ((capF_still t type #[t] _ _ hpre (hA.eval x) rfl).goes hH) (by simp [execOp, resolve, invoke, builtin])
    · rename_i s x t t2
      exact Goes.op (appF_goes t t2 type _ _ _ _ hpre hH (hA.eval s) (hA.eval x)) (by simp [execOp, resolve, invoke, builtin])
    · rename_i d s t t2
      exact Goes.op (copyF_goes t t2 type _ _ _ _ hpre hH (hA.eval d) (hA.eval s)) (by simp [execOp, resolve, invoke, builtin])
    · rename_i g
      intro next Q hn
      simp only [callF] at hpre hn
      obtain ⟨p1, p2, p3⟩ := hpre
      have hargs := repL_args hA args
      obtain ⟨hb1, hb2⟩ := repL_borrow hH hargs p2
      have hcall := (hΓ g).call ⟨_, p1⟩ (args.map a.eval).toArray w
      have hx : (execOp a.eval { dst, op := .call ⟨.value (.func g), ⟨args⟩, ⟨argTypes⟩⟩, type, pos, after, guard }).run P w = .ok (.enter g (args.map a.eval).toArray) w := by
        simp [execOp, resolve, Deferred.ofValue, Act.eval, invoke, hcall]
      unfold Oper.wp
      rw [hx]
      simp only [Oper.upon]
      rcases p3 with p3 | p3
      · let Y : Nat → Prop := fun b => X b ∨ Live β b
        have hY : RepL Y [] w ((args.map (evalIn env)).map (borrow L)) (args.map a.eval) := repL_plain p3 hargs (fun b hb => hb)
        have hrun := (hΓ g).run _ p1 hb2 Y w _ (fun b hb => by rcases hb with hb | hb; exact (hH.out b hb).1; exact hH.lt b hb) hY
        refine hrun.mono fun e w' ⟨v, he, hg, hr⟩ => ?_
        subst he
        obtain ⟨β', h1, h2, h3, h4⟩ := adopt_rep (draw := draw) (Y := Y) hH hg hr (.inl fun b hb => hb)
        exact hn v w' β' h1 h2 h3 h4
      · have hrun := (hΓ g).run _ p1 hb2 X w _ (fun b hb => (hH.out b hb).1) hb1
        refine hrun.mono fun e w' ⟨v, he, hg, hr⟩ => ?_
        subst he
        obtain ⟨β', h1, h2, h3, h4⟩ := adopt_rep (draw := draw) (Y := X) hH hg hr (.inr p3)
        exact hn v w' β' h1 h2 h3 h4
    · exact absurd hpre (by simp [OR.bad])

end Go.Ab
