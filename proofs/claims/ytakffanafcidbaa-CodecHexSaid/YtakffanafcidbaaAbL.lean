import Derived.Test.YtakffanafcidbaaAbK2
import Derived.LoopN
namespace Go.Ab
open Go Go.RowKit
set_option linter.unusedVariables false
set_option linter.unusedSimpArgs false

variable {P : Program} {Γ : Con} {X : Nat → Prop} {β : List Base} {L : LH} {N : Nat}

/-- What memory outside has seen of it. -/
structure WGrow (β β' : List Base) (w w' : World) : Prop where
  os : w'.os = w.os
  tape : w'.tape = w.tape
  output : w'.output = w.output
  size : w.heap.size ≤ w'.heap.size
  block : ∀ k, k < w.heap.size → ¬ Live β k → w'.heap[k]? = w.heap[k]?
  shape : ∀ (k : Nat) c el fr, w.heap[k]? = some (.cells c el fr) → ∃ c' fr', w'.heap[k]? = some (.cells c' el fr') ∧ c'.size = c.size
  live : ∀ b, Live β' b → Live β b ∨ w.heap.size ≤ b

theorem Grow.wg {β' : List Base} {w w' : World} (g : Grow β β' w w') : WGrow β β' w w' := ⟨g.os, g.tape, g.output, g.size, g.block, g.shape, g.live⟩
theorem WGrow.refl (β : List Base) (w : World) : WGrow β β w w := (Grow.refl β w).wg
theorem WGrow.trans {β β' β'' : List Base} {w w' w'' : World} (h : WGrow β β' w w') (k : WGrow β' β'' w' w'') : WGrow β β'' w w'' where
  os := k.os.trans h.os
  tape := k.tape.trans h.tape
  output := k.output.trans h.output
  size := Nat.le_trans h.size k.size
  block := fun i hi hl => (k.block i (Nat.lt_of_lt_of_le hi h.size) (fun hb => by rcases h.live i hb with x | x; exact hl x; omega)).trans (h.block i hi hl)
  shape := fun i c el fr hi => by
    obtain ⟨c', fr', h1, h2⟩ := h.shape i c el fr hi
    obtain ⟨c'', fr'', h3, h4⟩ := k.shape i c' el fr' h1
    exact ⟨c'', fr'', h3, h4.trans h2⟩
  live := fun b hb => by
    rcases k.live b hb with x | x
    · exact h.live b x
    · exact .inr (Nat.le_trans h.size x)

/-- A value under other names of the rows. -/
def RenOk (m : List Nat) (p q : PV) : Prop :=
  q = .any ∨ (closed p = true ∧ q = p) ∨ (∃ id k off n sz, p = .own id off n sz ∧ m[k]? = some id ∧ q = .own k off n sz) ∨ (∃ id k off, p = .ptr id off ∧ m[k]? = some id ∧ q = .ptr k off)

/-- To know less, and to name the rows anew: 'm' lists the old names of the rows that are kept. -/
structure Weak (m : List Nat) (env : Env) (L : LH) (env2 : Env) (L2 : LH) : Prop where
  nodup : m.Nodup
  bound : ∀ i ∈ m, i < L.length
  len : L2.length = m.length
  rows : ∀ (k i : Nat) cs, m[k]? = some i → L2[k]? = some (.cells cs) → L[i]? = some (.cells cs) ∧ closedL cs = true
  env : ∀ x ∈ env2, RenOk m (lookup env x.1) x.2

theorem lookup_cases (env : Env) (t : Nat) : lookup env t = .any ∨ (t, lookup env t) ∈ env := by
  induction env with
  | nil => exact .inl rfl
  | cons x r ih =>
    obtain ⟨i, p⟩ := x
    simp only [lookup]
    cases hb : Nat.beq i t with
    | true =>
      have := Nat.eq_of_beq_eq_true hb
      subst this
      right; simp
    | false =>
      simp only [cond_false]
      rcases ih with h | h
      · exact .inl h
      · exact .inr (List.mem_cons_of_mem _ h)

theorem weak_sound {w : World} {m : List Nat} {env env2 : Env} {L2 : LH} {a : Act} (h : Weak m env L env2 L2) (hA : RepA N X β w env a) (hH : RepH X β w L) :
    ∃ β2, RepA N X β2 w env2 a ∧ RepH X β2 w L2 ∧ WGrow β β2 w w := by
  let β2 : List Base := m.map fun i => β.getD i .dead
  have hget : ∀ (k i : Nat), m[k]? = some i → β2[k]? = β[i]? := by
    intro k i hk
    have hi : i < β.length := by rw [hH.len]; exact h.bound i (List.mem_of_getElem? hk)
    simp only [β2, List.getElem?_map, hk, Option.map_some]
    simp [hi]
  have hget' : ∀ (k : Nat) x, β2[k]? = some x → ∃ i, m[k]? = some i ∧ β[i]? = some x := by
    intro k x hk
    have hlt : k < m.length := by
      have := (List.getElem?_eq_some_iff.1 hk).1
      simpa [β2] using this
    refine ⟨m[k], by simp [hlt], ?_⟩
    rw [← hget k m[k] (by simp [hlt])]; exact hk
  have hlive : ∀ b, Live β2 b → Live β b := by
    rintro b ⟨k, base, hk⟩
    obtain ⟨i, h1, h2⟩ := hget' k _ hk
    exact ⟨i, base, h2⟩
  have hanti : ∀ b, X b ∨ Live β2 b → X b ∨ Live β b := fun b hb => hb.imp id (hlive b)
  have hval : ∀ p q v, RenOk m p q → RepV X β w p v → RepV X β2 w q v := by
    intro p q v hr hp
    rcases hr with rfl | ⟨hc, rfl⟩ | ⟨id, k, off, n, sz, rfl, hk, rfl⟩ | ⟨id, k, off, rfl, hk, rfl⟩
    · simp [RepV]
    · exact RepV.anti hanti _ v hc hp
    · simp only [RepV] at hp ⊢
      have hkl : k < β2.length := by simp only [β2, List.length_map]; exact (List.getElem?_eq_some_iff.1 hk).1
      refine ⟨hkl, fun b base hb => ?_, fun hb => ?_⟩
      · rw [hget k id hk] at hb; exact hp.2.1 b base hb
      · rw [hget k id hk] at hb; exact hp.2.2 hb
    · simp only [RepV] at hp ⊢
      have hkl : k < β2.length := by simp only [β2, List.length_map]; exact (List.getElem?_eq_some_iff.1 hk).1
      refine ⟨hkl, fun b base hb => ?_, fun hb => ?_⟩
      · rw [hget k id hk] at hb; exact hp.2.1 b base hb
      · rw [hget k id hk] at hb; exact hp.2.2 hb
  refine ⟨β2, ⟨hA.size, hA.defers, fun t => ?_⟩, ?_, ⟨rfl, rfl, rfl, Nat.le_refl _, fun _ _ _ => rfl, fun k c el fr h => ⟨c, fr, h, rfl⟩, fun b hb => .inl (hlive b hb)⟩⟩
  · rcases lookup_cases env2 t with ht | ht
    · rw [ht]; simp [RepV]
    · exact hval _ _ _ (h.env _ ht) (hA.slot t)
  · refine ⟨by simp [β2, h.len], ?_, fun b hb => hH.lt b (hlive b hb), fun b hb => ⟨(hH.out b hb).1, fun hl => (hH.out b hb).2 (hlive b hl)⟩, ?_⟩
    · intro i j b x y hi hj
      obtain ⟨i', h1, h2⟩ := hget' i _ hi
      obtain ⟨j', h3, h4⟩ := hget' j _ hj
      have := hH.inj i' j' b x y h2 h4
      subst this
      have hil := (List.getElem?_eq_some_iff.1 h1).1
      exact (List.getElem_inj h.nodup (h₀ := hil) (h₁ := (List.getElem?_eq_some_iff.1 h3).1)).1 (by
        rw [(List.getElem?_eq_some_iff.1 h1).2, (List.getElem?_eq_some_iff.1 h3).2])
    · intro k cs hk
      have hkl : k < m.length := by rw [← h.len]; exact (List.getElem?_eq_some_iff.1 hk).1
      have hmk : m[k]? = some m[k] := by simp [hkl]
      obtain ⟨h1, h2⟩ := h.rows k m[k] cs hmk hk
      rcases hH.ent m[k] cs h1 with ⟨e1, e2⟩ | ⟨b, base, c, el, e1, e2, e3, e4⟩
      · exact .inl ⟨by rw [hget k _ hmk]; exact e1, e2⟩
      · exact .inr ⟨b, base, c, el, by rw [hget k _ hmk]; exact e1, e2, e3, RepRow.anti hanti b cs base h2 e4⟩

/-- The run of a piece of code over values. -/
inductive Run (P : Program) (Γ : Con) : Code → Env → LH → Exit → Env → LH → Prop
  | skip {env L} : Run P Γ .skip env L .normal env L
  | region {id ops env L env' L'} (h : LRun P Γ ops.toList ops.toList env L env' L') : Run P Γ (.region id ops false) env L .normal env' L'
  | regionDraw {id ops env L env' L'} (h : TRun P Γ true ops.toList ops.toList env L env' L') (hd : drawOk ops.toList = true) : Run P Γ (.region id ops true) env L .normal env' L'
  | regionTail {id ops m env L env1 L1 env' L'} (h : TRun P Γ true ops.toList (ops.toList.take m) env L env1 L1) (h2 : LRun P Γ ops.toList (ops.toList.drop m) env1 L1 env' L') (hd : drawOk ops.toList = true) (ht : tailOk ops.toList m = true) : Run P Γ (.region id ops true) env L .normal env' L'
  | seq {x y env L env1 L1 e env' L'} (h : Run P Γ x env L .normal env1 L1) (k : Run P Γ y env1 L1 e env' L') : Run P Γ (.seq x y) env L e env' L'
  | seqOut {x y env L e env' L'} (h : Run P Γ x env L e env' L') (he : e ≠ .normal) : Run P Γ (.seq x y) env L e env' L'
  | cond {c x y env L t e env' L'} (hc : evalIn env c = .lit (.bool t)) (h : Run P Γ (if t then x else y) env L e env' L') : Run P Γ (.cond c x y) env L e env' L'
  | block {id c env L e env' L'} (h : Run P Γ c env L e env' L') (he : e ≠ .exit id) : Run P Γ (.block id c) env L e env' L'
  | blockOut {id c env L env' L'} (h : Run P Γ c env L (.exit id) env' L') : Run P Γ (.block id c) env L .normal env' L'
  | loop {c env L env1 L1 e env' L'} (h : Run P Γ c env L .normal env1 L1) (k : Run P Γ (.loop c) env1 L1 e env' L') : Run P Γ (.loop c) env L e env' L'
  | loopOut {c env L e env' L'} (h : Run P Γ c env L e env' L') (he : e ≠ .normal) : Run P Γ (.loop c) env L e env' L'
  | exit {id env L} : Run P Γ (.exit id) env L (.exit id) env L
  | ret {env L} : Run P Γ .ret env L .ret env L
  | weak {c env L m env2 L2 e env' L'} (hw : Weak m env L env2 L2) (h : Run P Γ c env2 L2 e env' L') : Run P Γ c env L e env' L'
  | after {c env L m env2 L2 e env' L'} (h : Run P Γ c env L e env' L') (hw : Weak m env' L' env2 L2) : Run P Γ c env L e env2 L2

/-- Every slot that is written is one of the frame's. -/
def fits (N : Nat) : Code → Bool
  | .region _ ops _ => ops.toList.all fun o => match o.dst with | some d => decide (d < N) | none => true
  | .seq a b => fits N a && fits N b
  | .cond _ a b => fits N a && fits N b
  | .block _ c => fits N c
  | .loop c => fits N c
  | .rangeFunc _ _ a b => fits N a && fits N b
  | .scope c => fits N c
  | _ => true

def Post (N : Nat) (X : Nat → Prop) (β : List Base) (w : World) (e : Exit) (env' : Env) (L' : LH) : Exit → Act → World → Prop :=
  fun e' a' w' => e' = e ∧ ∃ β', RepA N X β' w' env' a' ∧ RepH X β' w' L' ∧ WGrow β β' w w'

theorem rounds_mono {c : Code} {Q Q' : Exit → Act → World → Prop} (hq : ∀ e a w, Q e a w → Q' e a w) : ∀ (n : Nat) (a : Act) (w : World), Code.rounds P c Q n a w → Code.rounds P c Q' n a w
  | 0, _, _, h => h.elim
  | n + 1, a, w, h => by
    rw [rounds_succ] at h ⊢
    refine wp_mono h fun e a' w' he => ?_
    cases e with
    | normal => exact rounds_mono hq n a' w' he
    | _ => exact hq _ _ _ he

theorem Post.mono {β1 : List Base} {w w1 : World} {e e' : Exit} {env' : Env} {L' : LH} {a' : Act} {w' : World} (g : WGrow β β1 w w1) (h : Post N X β1 w1 e env' L' e' a' w') : Post N X β w e env' L' e' a' w' := by
  obtain ⟨h1, β', h2, h3, h4⟩ := h
  exact ⟨h1, β', h2, h3, g.trans h4⟩

theorem Run.sound (hΓ : GammaOk P Γ) (hm : P.follows .mixedOrders = true) {c : Code} {env env' : Env} {L L' : LH} {e : Exit} (h : Run P Γ c env L e env' L') :
    (∀ (N : Nat) (X : Nat → Prop) (β : List Base) (w : World) (a : Act), fits N c = true → RepA N X β w env a → RepH X β w L → c.wp P (Post N X β w e env' L') a w) ∧
    (∀ d, c = .loop d → ∃ n, ∀ (N : Nat) (X : Nat → Prop) (β : List Base) (w : World) (a : Act), fits N c = true → RepA N X β w env a → RepH X β w L → Code.rounds P d (Post N X β w e env' L') n a w) := by
  induction h with
  | skip => exact ⟨fun N X β w a _ hA hH => wp_skip ⟨rfl, β, hA, hH, WGrow.refl β w⟩, fun d hd => by cases hd⟩
  | @region id ops env L env' L' h =>
    refine ⟨fun N X β w a hf hA hH => ?_, fun d hd => by cases hd⟩
    have hfit : ∀ o ∈ ops.toList, ∀ d, o.dst = some d → d < N := by
      intro o ho d hod
      have := List.all_eq_true.1 hf o ho
      simpa [hod] using this
    exact wp_region_list (lrun_sound hΓ h hA hH hfit (fun a' w' β' h1 h2 h3 => ⟨rfl, β', h1, h2, h3.wg⟩))
  | @regionDraw id ops env L env' L' h hd =>
    refine ⟨fun N X β w a hf hA hH => ?_, fun d hd => by cases hd⟩
    have hfit : ∀ o ∈ ops.toList, ∀ d, o.dst = some d → d < N := by
      intro o ho d hod
      have := List.all_eq_true.1 hf o ho
      simpa [hod] using this
    exact region_draw (all := ops.toList) hΓ hm hd hfit h hA hH (fun a' w' h1 h2 h3 => ⟨rfl, β, h1, h2, h3.wg⟩)
  | @regionTail id ops m env L env1 L1 env' L' h h2 hd ht =>
    refine ⟨fun N X β w a hf hA hH => ?_, fun d hd => by cases hd⟩
    have hfit : ∀ o ∈ ops.toList, ∀ d, o.dst = some d → d < N := by
      intro o ho d hod
      have := List.all_eq_true.1 hf o ho
      simpa [hod] using this
    exact region_tail (all := ops.toList) hΓ hm hd ht hfit h h2 hA hH (fun a' w' β' h1 h2 h3 => ⟨rfl, β', h1, h2, h3.wg⟩)
  | @seq x y env L env1 L1 e env' L' h k ih1 ih2 =>
    refine ⟨fun N X β w a hf hA hH => ?_, fun d hd => by cases hd⟩
    simp only [fits, Bool.and_eq_true] at hf
    refine wp_seq (wp_mono (ih1.1 N X β w a hf.1 hA hH) fun e1 a1 w1 he => ?_)
    obtain ⟨rfl, β1, h1, h2, h3⟩ := he
    exact wp_mono (ih2.1 N X β1 w1 a1 hf.2 h1 h2) fun e2 a2 w2 he => he.mono h3
  | @seqOut x y env L e env' L' h he ih =>
    refine ⟨fun N X β w a hf hA hH => ?_, fun d hd => by cases hd⟩
    simp only [fits, Bool.and_eq_true] at hf
    refine wp_seq (wp_mono (ih.1 N X β w a hf.1 hA hH) fun e1 a1 w1 he1 => ?_)
    obtain ⟨rfl, hp⟩ := he1
    cases e1 <;> first | (exact absurd rfl he) | (exact ⟨rfl, hp⟩)
  | @cond c x y env L t e env' L' hc h ih =>
    refine ⟨fun N X β w a hf hA hH => ?_, fun d hd => by cases hd⟩
    simp only [fits, Bool.and_eq_true] at hf
    have hcv := hA.eval c
    rw [hc] at hcv
    simp only [RepV] at hcv
    refine wp_cond hcv (ih.1 N X β w a ?_ hA hH)
    cases t
    · exact hf.2
    · exact hf.1
  | @block id c env L e env' L' h he ih =>
    refine ⟨fun N X β w a hf hA hH => ?_, fun d hd => by cases hd⟩
    refine wp_block (wp_mono (ih.1 N X β w a hf hA hH) fun e1 a1 w1 he1 => ?_)
    obtain ⟨rfl, hp⟩ := he1
    cases e1 with
    | exit id' =>
      have hne : id' ≠ id := fun h => he (by rw [h])
      simp only [Exit.inBlock, hne, if_false]
      exact ⟨rfl, hp⟩
    | _ => exact ⟨rfl, hp⟩
  | @blockOut id c env L env' L' h ih =>
    refine ⟨fun N X β w a hf hA hH => ?_, fun d hd => by cases hd⟩
    refine wp_block (wp_mono (ih.1 N X β w a hf hA hH) fun e1 a1 w1 he1 => ?_)
    obtain ⟨rfl, hp⟩ := he1
    simp only [Exit.inBlock, if_true]
    exact ⟨rfl, hp⟩
  | @loop c env L env1 L1 e env' L' h k ih1 ih2 =>
    have key : ∃ n, ∀ (N : Nat) (X : Nat → Prop) (β : List Base) (w : World) (a : Act), fits N (.loop c) = true → RepA N X β w env a → RepH X β w L → Code.rounds P c (Post N X β w e env' L') n a w := by
      obtain ⟨n, hn⟩ := ih2.2 c rfl
      refine ⟨n + 1, fun N X β w a hf hA hH => ?_⟩
      rw [rounds_succ]
      refine wp_mono (ih1.1 N X β w a hf hA hH) fun e1 a1 w1 he => ?_
      obtain ⟨rfl, β1, h1, h2, h3⟩ := he
      exact rounds_mono (fun e2 a2 w2 he => he.mono h3) n a1 w1 (hn N X β1 w1 a1 hf h1 h2)
    refine ⟨fun N X β w a hf hA hH => ?_, fun d hd => by cases hd; exact key⟩
    obtain ⟨n, hn⟩ := key
    exact wp_loop_rounds n (hn N X β w a hf hA hH)
  | @loopOut c env L e env' L' h he ih =>
    have key : ∀ (N : Nat) (X : Nat → Prop) (β : List Base) (w : World) (a : Act), fits N (.loop c) = true → RepA N X β w env a → RepH X β w L → Code.rounds P c (Post N X β w e env' L') 1 a w := by
      intro N X β w a hf hA hH
      rw [rounds_succ]
      refine wp_mono (ih.1 N X β w a hf hA hH) fun e1 a1 w1 he1 => ?_
      obtain ⟨rfl, hp⟩ := he1
      cases e1 <;> first | (exact absurd rfl he) | (exact ⟨rfl, hp⟩)
    exact ⟨fun N X β w a hf hA hH => wp_loop_rounds 1 (key N X β w a hf hA hH), fun d hd => by cases hd; exact ⟨1, key⟩⟩
  | exit => exact ⟨fun N X β w a _ hA hH => wp_exit ⟨rfl, β, hA, hH, WGrow.refl β w⟩, fun d hd => by cases hd⟩
  | ret => exact ⟨fun N X β w a _ hA hH => wp_ret ⟨rfl, β, hA, hH, WGrow.refl β w⟩, fun d hd => by cases hd⟩
  | @weak c env L m env2 L2 e env' L' hw h ih =>
    refine ⟨fun N X β w a hf hA hH => ?_, fun d hd => ?_⟩
    · obtain ⟨β2, h1, h2, h3⟩ := weak_sound hw hA hH
      exact wp_mono (ih.1 N X β2 w a hf h1 h2) fun e2 a2 w2 he => he.mono h3
    · obtain ⟨n, hn⟩ := ih.2 d hd
      refine ⟨n, fun N X β w a hf hA hH => ?_⟩
      obtain ⟨β2, h1, h2, h3⟩ := weak_sound hw hA hH
      exact rounds_mono (fun e2 a2 w2 he => he.mono h3) n a w (hn N X β2 w a hf h1 h2)
  | @after c env L m env2 L2 e env' L' h hw ih =>
    have hp : ∀ (N : Nat) (X : Nat → Prop) (β : List Base) (w : World) (e1 : Exit) (a1 : Act) (w1 : World), Post N X β w e env' L' e1 a1 w1 → Post N X β w e env2 L2 e1 a1 w1 := by
      rintro N X β w e1 a1 w1 ⟨rfl, β1, h1, h2, h3⟩
      obtain ⟨β2, h4, h5, h6⟩ := weak_sound hw h1 h2
      exact ⟨rfl, β2, h4, h5, h3.trans h6⟩
    refine ⟨fun N X β w a hf hA hH => wp_mono (ih.1 N X β w a hf hA hH) (hp N X β w), fun d hd => ?_⟩
    obtain ⟨n, hn⟩ := ih.2 d hd
    exact ⟨n, fun N X β w a hf hA hH => rounds_mono (hp N X β w) n a w (hn N X β w a hf hA hH)⟩

def Ex (P : Program) (Γ : Con) (c : Code) (env : Env) (L : LH) (Q : Exit → Env → LH → Prop) : Prop := ∃ e env' L', Run P Γ c env L e env' L' ∧ Q e env' L'

theorem Ex.mono {c : Code} {env : Env} {Q Q' : Exit → Env → LH → Prop} (h : Ex P Γ c env L Q) (hq : ∀ e env L, Q e env L → Q' e env L) : Ex P Γ c env L Q' :=
  let ⟨e, env', L', h1, h2⟩ := h; ⟨e, env', L', h1, hq _ _ _ h2⟩

theorem Ex.weak {c : Code} {env env2 : Env} {L2 : LH} {Q : Exit → Env → LH → Prop} (m : List Nat) (hw : Weak m env L env2 L2) (h : Ex P Γ c env2 L2 Q) : Ex P Γ c env L Q :=
  let ⟨e, env', L', h1, h2⟩ := h; ⟨e, env', L', .weak hw h1, h2⟩

/-- A loop by a relation and a measure. -/
theorem Ex.loop {ι : Type} {c : Code} {Q : Exit → Env → LH → Prop} (I : ι → Env × LH) (μ : ι → Nat)
    (step : ∀ x, Ex P Γ c (I x).1 (I x).2 (fun e env' L' => match e with
      | .normal => ∃ y m, μ y < μ x ∧ Weak m env' L' (I y).1 (I y).2
      | e => Q e env' L')) (x : ι) : Ex P Γ (.loop c) (I x).1 (I x).2 Q := by
  have key : ∀ n x, μ x = n → Ex P Γ (.loop c) (I x).1 (I x).2 Q := by
    intro n
    induction n using Nat.strongRecOn with
    | _ n ih =>
      intro x hx
      obtain ⟨e, env', L', h1, h2⟩ := step x
      cases e with
      | normal =>
        obtain ⟨y, m, hy, hw⟩ := h2
        obtain ⟨e, env2, L2, h3, h4⟩ := ih (μ y) (hx ▸ hy) y rfl
        exact ⟨e, env2, L2, .loop h1 (.weak hw h3), h4⟩
      | exit id => exact ⟨_, env', L', .loopOut h1 (by simp), h2⟩
      | goto l => exact ⟨_, env', L', .loopOut h1 (by simp), h2⟩
      | ret => exact ⟨_, env', L', .loopOut h1 (by simp), h2⟩
      | panic ch => exact ⟨_, env', L', .loopOut h1 (by simp), h2⟩
      | outgrown => exact ⟨_, env', L', .loopOut h1 (by simp), h2⟩
  exact key _ x rfl

/-- Ways through a region in the order of its text. -/
def lOps (P : Program) (Γ : Con) (all ops : List Oper) (env : Env) (L : LH) (k : Env → LH → Prop) : Prop := ∃ env' L', LRun P Γ all ops env L env' L' ∧ k env' L'
def dOps (P : Program) (Γ : Con) (all ops : List Oper) (env : Env) (L : LH) (k : Env → LH → Prop) : Prop := ∃ env' L', TRun P Γ true all ops env L env' L' ∧ k env' L'

def vC (P : Program) (Γ : Con) : Code → Env → LH → (Exit → Env → LH → Prop) → Prop
  | .skip, env, L, k => k .normal env L
  | .region _ ops false, env, L, k => lOps P Γ ops.toList ops.toList env L (k .normal)
  | .region _ ops true, env, L, k => ∃ m, drawOk ops.toList = true ∧ tailOk ops.toList m = true ∧ dOps P Γ ops.toList (ops.toList.take m) env L (fun env1 L1 => lOps P Γ ops.toList (ops.toList.drop m) env1 L1 (k .normal))
  | .seq x y, env, L, k => vC P Γ x env L fun e env L => match e with
    | .normal => vC P Γ y env L k
    | e => k e env L
  | .cond c x y, env, L, k => match evalIn env c with
    | .lit (.bool t) => (t = true → vC P Γ x env L k) ∧ (t = false → vC P Γ y env L k)
    | _ => False
  | .block id c, env, L, k => vC P Γ c env L fun e env L => match e with
    | .exit id' => if id' = id then k .normal env L else k (.exit id') env L
    | e => k e env L
  | .loop c, env, L, k => Ex P Γ (.loop c) env L k
  | .exit id, env, L, k => k (.exit id) env L
  | .ret, env, L, k => k .ret env L
  | _, _, _, _ => False

theorem vC_sound : ∀ {c : Code} {env : Env} {L : LH} {k : Exit → Env → LH → Prop}, vC P Γ c env L k → Ex P Γ c env L k
  | .skip, env, L, k, h => ⟨_, _, _, .skip, h⟩
  | .region id ops false, env, L, k, h => by
    obtain ⟨env', L', h3, h4⟩ := h
    exact ⟨_, _, _, .region h3, h4⟩
  | .region id ops true, env, L, k, h => by
    obtain ⟨m, hd, ht, env1, L1, h3, env', L', h4, h5⟩ := h
    exact ⟨_, _, _, .regionTail h3 h4 hd ht, h5⟩
  | .seq x y, env, L, k, h => by
    obtain ⟨e, env1, L1, h1, h2⟩ := vC_sound (c := x) h
    cases e with
    | normal =>
      obtain ⟨e, env2, L2, h3, h4⟩ := vC_sound (c := y) h2
      exact ⟨_, _, _, .seq h1 h3, h4⟩
    | exit id => exact ⟨_, _, _, .seqOut h1 (by simp), h2⟩
    | goto l => exact ⟨_, _, _, .seqOut h1 (by simp), h2⟩
    | ret => exact ⟨_, _, _, .seqOut h1 (by simp), h2⟩
    | panic ch => exact ⟨_, _, _, .seqOut h1 (by simp), h2⟩
    | outgrown => exact ⟨_, _, _, .seqOut h1 (by simp), h2⟩
  | .cond c x y, env, L, k, h => by
    unfold vC at h
    split at h
    · rename_i t ht
      cases t with
      | true =>
        obtain ⟨e, env1, L1, h1, h2⟩ := vC_sound (c := x) (h.1 rfl)
        exact ⟨_, _, _, .cond ht h1, h2⟩
      | false =>
        obtain ⟨e, env1, L1, h1, h2⟩ := vC_sound (c := y) (h.2 rfl)
        exact ⟨_, _, _, .cond ht h1, h2⟩
    · exact h.elim
  | .block id c, env, L, k, h => by
    obtain ⟨e, env1, L1, h1, h2⟩ := vC_sound (c := c) h
    cases e with
    | exit id' =>
      by_cases hid : id' = id
      · subst hid
        simp only [if_true] at h2
        exact ⟨_, _, _, .blockOut h1, h2⟩
      · simp only [hid, if_false] at h2
        exact ⟨_, _, _, .block h1 (by simpa using hid), h2⟩
    | normal => exact ⟨_, _, _, .block h1 (by simp), h2⟩
    | goto l => exact ⟨_, _, _, .block h1 (by simp), h2⟩
    | ret => exact ⟨_, _, _, .block h1 (by simp), h2⟩
    | panic ch => exact ⟨_, _, _, .block h1 (by simp), h2⟩
    | outgrown => exact ⟨_, _, _, .block h1 (by simp), h2⟩
  | .loop c, env, L, k, h => h
  | .exit id, env, L, k, h => ⟨_, _, _, .exit, h⟩
  | .ret, env, L, k, h => ⟨_, _, _, .ret, h⟩
  | .rangeFunc .., _, _, _, h => h.elim
  | .scope _, _, _, _, h => h.elim
  | .label _, _, _, _, h => h.elim
  | .goto _, _, _, _, h => h.elim
  | .refuse _, _, _, _, h => h.elim

end Go.Ab
