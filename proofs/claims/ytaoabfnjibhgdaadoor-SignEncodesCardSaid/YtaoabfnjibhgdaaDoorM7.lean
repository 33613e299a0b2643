import Derived.Test.YtaoabfnjibhgdaaDoorM6
import Derived.LoopN
import Derived.Scope
namespace Go.Ab
open Go Go.RowKit
set_option linter.unusedVariables false
set_option linter.unusedSimpArgs false
section
variable {P : Program} {Q : Exit → Act → World → Prop} {all : List Oper} {σ : Nat → Nat} {x y : Nat}
inductive LExt (ops : Array Oper) : Nat → Array Bool → List Nat → Prop
  | zero {listed} : LExt ops 0 listed []
  | stop {fuel listed} (h : Region.ready .any ops listed = []) : LExt ops (fuel + 1) listed []
  | cons {fuel listed i π} (h : i ∈ Region.ready .any ops listed) (k : LExt ops fuel (listed.setIfInBounds i true) π) : LExt ops (fuel + 1) listed (i :: π)
theorem any_lext {ops : Array Oper} {fuel : Nat} {listed : Array Bool} {π : List Nat} (h : LExt ops fuel listed π) : ∀ {a : Act} {w : World}, wpAny P .any ops Q fuel listed a w → wpOps P ops Q π a w := by
  induction h with
  | zero => intro a w h; exact h.2
  | stop hr => intro a w h; exact h.1 hr
  | cons hi k ih =>
    intro a w h
    rw [wpOps_cons]
    exact wpOp_mono (fun a w h => ih h) (h.2 _ hi)
theorem lin_lext {ops : Array Oper} : ∀ (fuel t : Nat) (listed : Array Bool), LExt ops fuel listed (Region.linearise.go .any ops fuel t listed [])
  | 0, t, listed => by simp only [Region.linearise.go]; exact .zero
  | fuel + 1, t, listed => by
    simp only [Region.linearise.go]
    change LExt ops (fuel + 1) listed (match (Region.ready .any ops listed)[t % (Region.ready .any ops listed).length]? with
      | some i => Region.linearise.go .any ops fuel (t / (Region.ready .any ops listed).length) (listed.setIfInBounds i true) [i]
      | none => [].reverse)
    cases hi : (Region.ready .any ops listed)[t % (Region.ready .any ops listed).length]? with
    | none =>
      have hnil : Region.ready .any ops listed = [] := by
        cases hr : Region.ready .any ops listed with
        | nil => rfl
        | cons x xs =>
          rw [hr] at hi
          have hlt : t % (x :: xs).length < (x :: xs).length := Nat.mod_lt _ (by simp)
          simp at hi
          simp at hlt
          omega
      exact .stop hnil
    | some i =>
      simp only []
      rw [linearise_go_acc, List.reverse_singleton, List.singleton_append]
      exact .cons (List.mem_of_getElem? hi) (lin_lext fuel _ _)
def verOp (σ : Nat → Nat) (x y : Nat) (o : Oper) (i : Nat) : Oper :=
  { o with after := (o.after.toList.map (fun e => Edge.mk (σ e.on) e.ground) ++ (if i = y then [Edge.mk (σ x) .data] else [])).toArray, guard := o.guard.map fun g => (σ g.1, g.2) }
def ver (σ : Nat → Nat) (x y : Nat) (all : List Oper) : List Oper := (List.range all.length).map fun i => verOp σ x y (all.getD (σ i) default) (σ i)
theorem len_ver : (ver σ x y all).length = all.length := by simp [ver]
theorem ver_get (hinv : ∀ i, σ (σ i) = i) (hlt : ∀ i, i < all.length → σ i < all.length) {i : Nat} {o : Oper} (h : all[i]? = some o) : (ver σ x y all)[σ i]? = some (verOp σ x y o i) := by
  have hi := (List.getElem?_eq_some_iff.1 h).1
  simp only [ver, List.getElem?_map, List.getElem?_range (hlt i hi), Option.map_some, hinv, List.getD_eq_getElem?_getD, h, Option.getD_some]
theorem ver_none (hinv : ∀ i, σ (σ i) = i) (hlt : ∀ i, i < all.length → σ i < all.length) {i : Nat} (h : all[i]? = none) : (ver σ x y all)[σ i]? = none := by
  rw [List.getElem?_eq_none_iff] at h ⊢
  rw [len_ver]
  refine Decidable.byContradiction fun hc => ?_
  have := hlt (σ i) (by omega)
  rw [hinv] at this
  omega
def Rel (σ : Nat → Nat) (l l' : Array Bool) : Prop := ∀ i, l'[σ i]? = l[i]?
theorem Rel.set (hinv : ∀ i, σ (σ i) = i) {l l' : Array Bool} (h : Rel σ l l') (i : Nat) : Rel σ (l.setIfInBounds i true) (l'.setIfInBounds (σ i) true) := by
  intro j
  rw [Array.getElem?_setIfInBounds, Array.getElem?_setIfInBounds]
  have hinj : σ i = σ j ↔ i = j := ⟨fun e => by rw [← hinv i, e, hinv], fun e => by rw [e]⟩
  have hsz : σ i < l'.size ↔ i < l.size := by
    have := h i
    constructor
    · intro hl
      rw [Array.getElem?_eq_getElem hl] at this
      refine Decidable.byContradiction fun hc => ?_
      rw [Array.getElem?_eq_none (by omega)] at this
      cases this
    · intro hl
      rw [Array.getElem?_eq_getElem hl] at this
      refine Decidable.byContradiction fun hc => ?_
      rw [Array.getElem?_eq_none (by omega)] at this
      cases this
  by_cases e : i = j
  · subst e
    simp only [if_true, hsz]
  · rw [if_neg e, if_neg (fun h => e (hinj.1 h)), h j]
theorem ready_iff {ops : List Oper} {listed : Array Bool} {i : Nat} : i ∈ Region.ready .any ops.toArray listed ↔
    ∃ o, ops[i]? = some o ∧ listed[i]? = some false ∧ ∀ e ∈ o.after.toList, Region.binds .any e = true → listed[e.on]? = some true := by
  have g1 : ∀ k : Nat, listed.getD k true = false ↔ listed[k]? = some false := by
    intro k
    rw [Array.getD_eq_getD_getElem?]
    cases listed[k]? with
    | none => simp
    | some b => simp
  have g2 : ∀ k : Nat, listed.getD k false = true ↔ listed[k]? = some true := by
    intro k
    rw [Array.getD_eq_getD_getElem?]
    cases listed[k]? with
    | none => simp
    | some b => simp
  simp only [Region.ready, List.mem_filter, List.mem_range, List.size_toArray, Bool.and_eq_true, Bool.not_eq_true', List.getElem?_toArray]
  constructor
  · rintro ⟨hlt, h1, h2⟩
    have hget := List.getElem?_eq_getElem hlt
    rw [hget] at h2
    simp only [Option.map_some, Option.getD_some] at h2
    refine ⟨ops[i], hget, (g1 i).1 h1, fun e he hb => ?_⟩
    have := (Array.all_eq_true_iff_forall_mem.1 h2) e (by simpa using he)
    rw [hb] at this
    simp only [Bool.not_true, Bool.false_or] at this
    exact (g2 _).1 this
  · rintro ⟨o, ho, h1, h2⟩
    refine ⟨(List.getElem?_eq_some_iff.1 ho).1, (g1 i).2 h1, ?_⟩
    rw [ho]
    simp only [Option.map_some, Option.getD_some]
    refine Array.all_eq_true_iff_forall_mem.2 fun e he => ?_
    cases hb : Region.binds .any e
    · rfl
    · simp only [Bool.not_true, Bool.false_or]
      exact (g2 _).2 (h2 e (by simpa using he) hb)
theorem ready_ver (hinv : ∀ i, σ (σ i) = i) (hlt : ∀ i, i < all.length → σ i < all.length) {l l' : Array Bool} (hr : Rel σ l l') {i : Nat} (h : i ∈ Region.ready .any all.toArray l) (hx : i ≠ y ∨ l[x]? = some true) :
    σ i ∈ Region.ready .any (ver σ x y all).toArray l' := by
  obtain ⟨o, ho, h1, h2⟩ := ready_iff.1 h
  refine ready_iff.2 ⟨_, ver_get hinv hlt ho, by rw [hr i]; exact h1, fun e he hb => ?_⟩
  simp only [verOp, List.mem_append, List.mem_map] at he
  rcases he with ⟨e0, he0, rfl⟩ | he
  · simp only
    rw [hr e0.on]
    exact h2 e0 he0 (by simpa [Region.binds] using hb)
  · split at he
    · rename_i hiy
      rcases hx with hx | hx
      · exact absurd hiy hx
      · simp only [List.mem_singleton] at he
        subst he
        simp only
        rw [hr x]; exact hx
    · simp at he
theorem ready_back (hinv : ∀ i, σ (σ i) = i) (hlt : ∀ i, i < all.length → σ i < all.length) {l l' : Array Bool} (hr : Rel σ l l') {i : Nat} (h : σ i ∈ Region.ready .any (ver σ x y all).toArray l') :
    i ∈ Region.ready .any all.toArray l := by
  obtain ⟨o', ho', h1, h2⟩ := ready_iff.1 h
  cases ho : all[i]? with
  | none => rw [ver_none hinv hlt ho] at ho'; cases ho'
  | some o =>
    rw [ver_get hinv hlt ho] at ho'
    cases ho'
    refine ready_iff.2 ⟨o, ho, by rw [← hr i]; exact h1, fun e he hb => ?_⟩
    have := h2 (Edge.mk (σ e.on) e.ground) (by simp only [verOp, List.mem_append, List.mem_map]; exact .inl ⟨e, he, rfl⟩) (by simpa [Region.binds] using hb)
    simp only at this
    rw [← hr e.on]; exact this
theorem ready_nil_ver (hinv : ∀ i, σ (σ i) = i) (hlt : ∀ i, i < all.length → σ i < all.length) {l l' : Array Bool} (hr : Rel σ l l') (h : Region.ready .any all.toArray l = []) : Region.ready .any (ver σ x y all).toArray l' = [] := by
  rw [List.eq_nil_iff_forall_not_mem]
  intro j hj
  have : σ j ∈ Region.ready .any all.toArray l := ready_back (x := x) (y := y) hinv hlt hr (by rw [hinv]; exact hj)
  rw [h] at this
  cases this
theorem lext_ver (hinv : ∀ i, σ (σ i) = i) (hlt : ∀ i, i < all.length → σ i < all.length) {fuel : Nat} {l : Array Bool} {π : List Nat} (h : LExt all.toArray fuel l π) : ∀ {l' : Array Bool}, Rel σ l l' → l[x]? = some true → LExt (ver σ x y all).toArray fuel l' (π.map σ) := by
  induction h with
  | zero => intro l' _ _; exact .zero
  | stop hr0 => intro l' hr _; exact .stop (ready_nil_ver hinv hlt hr hr0)
  | @cons fuel listed i π hi k ih =>
    intro l' hr hx
    refine .cons (ready_ver hinv hlt hr hi (.inr hx)) (ih (hr.set hinv i) ?_)
    rw [Array.getElem?_setIfInBounds]
    have := Array.getElem?_eq_some_iff.1 hx
    split
    · rename_i e; subst e; simp [this.1]
    · exact hx
theorem lext_split {σ2 : Nat → Nat} {p q : Nat} (h1 : ∀ i, σ (σ i) = i) (h2 : ∀ i, i < all.length → σ i < all.length) (g1 : ∀ i, σ2 (σ2 i) = i) (g2 : ∀ i, i < all.length → σ2 i < all.length) (hne : p ≠ q)
    {fuel : Nat} {l : Array Bool} {π : List Nat} (h : LExt all.toArray fuel l π) : ∀ {l1 l2 : Array Bool}, Rel σ l l1 → Rel σ2 l l2 →
    LExt (ver σ p q all).toArray fuel l1 (π.map σ) ∨ LExt (ver σ2 q p all).toArray fuel l2 (π.map σ2) := by
  induction h with
  | zero => intro l1 l2 _ _; exact .inl .zero
  | stop hr0 => intro l1 l2 r1 _; exact .inl (.stop (ready_nil_ver h1 h2 r1 hr0))
  | @cons fuel listed i π hi k ih =>
    intro l1 l2 r1 r2
    have hin : listed[i]? = some false := by
      obtain ⟨o, _, h, _⟩ := ready_iff.1 hi
      exact h
    have hlt := (Array.getElem?_eq_some_iff.1 hin).1
    have hset : (listed.setIfInBounds i true)[i]? = some true := by
      rw [Array.getElem?_setIfInBounds, if_pos rfl, if_pos hlt]
    by_cases e1 : i = p
    · subst e1
      exact .inl (.cons (ready_ver h1 h2 r1 hi (.inl hne)) (lext_ver h1 h2 k (r1.set h1 i) hset))
    · by_cases e2 : i = q
      · subst e2
        exact .inr (.cons (ready_ver g1 g2 r2 hi (.inl (Ne.symm hne))) (lext_ver g1 g2 k (r2.set g1 i) hset))
      · rcases ih (r1.set h1 i) (r2.set g1 i) with h | h
        · exact .inl (.cons (ready_ver h1 h2 r1 hi (.inl e2)) h)
        · exact .inr (.cons (ready_ver g1 g2 r2 hi (.inl e1)) h)
theorem yielded_ver (hinv : ∀ i, σ (σ i) = i) (hlt : ∀ i, i < all.length → σ i < all.length) (tmps : Array Value) (j : Nat) : yielded (ver σ x y all).toArray tmps (σ j) = yielded all.toArray tmps j := by
  unfold yielded
  simp only [List.getElem?_toArray]
  cases h : all[j]? with
  | none => rw [ver_none hinv hlt h]
  | some o => rw [ver_get hinv hlt h]; rfl
theorem wpOp_ver (hinv : ∀ i, σ (σ i) = i) (hlt : ∀ i, i < all.length → σ i < all.length) {i : Nat} {K : Act → World → Prop} {a : Act} {w : World} (h : wpOp P (ver σ x y all).toArray Q (σ i) K a w) : wpOp P all.toArray Q i K a w := by
  unfold wpOp at *
  simp only [List.getElem?_toArray] at *
  cases ho : all[i]? with
  | none => rw [ver_none hinv hlt ho] at h; exact h
  | some o =>
    rw [ver_get hinv hlt ho] at h
    simp only at h ⊢
    have hw : Region.wanted (verOp σ x y o i) (yielded (ver σ x y all).toArray a.tmps) = Region.wanted o (yielded all.toArray a.tmps) := by
      unfold Region.wanted
      simp only [verOp]
      cases o.guard with
      | none => rfl
      | some g => simp only [Option.map_some, yielded_ver hinv hlt]
    rw [hw] at h
    exact h
theorem wpOps_ver (hinv : ∀ i, σ (σ i) = i) (hlt : ∀ i, i < all.length → σ i < all.length) : ∀ {π : List Nat} {a : Act} {w : World}, wpOps P (ver σ x y all).toArray Q (π.map σ) a w → wpOps P all.toArray Q π a w
  | [], a, w, h => h
  | i :: π, a, w, h => by
    rw [List.map_cons, wpOps_cons] at h
    rw [wpOps_cons]
    exact wpOp_ver hinv hlt (wpOp_mono (fun a w h => wpOps_ver hinv hlt h) h)
def swp (p q i : Nat) : Nat := if i = p then q else if i = q then p else i
theorem swp_inv (p q i : Nat) : swp p q (swp p q i) = i := by
  unfold swp
  repeat' split
  all_goals omega
theorem swp_lt {p q n : Nat} (hp : p < n) (hq : q < n) (i : Nat) (h : i < n) : swp p q i < n := by
  unfold swp
  repeat' split
  all_goals omega
def ver1 (p q : Nat) (all : List Oper) : List Oper := ver (fun i => i) p q all
def ver2 (p q : Nat) (all : List Oper) : List Oper := ver (swp p q) q p all
theorem region_two {id : Nat} {a : Act} {w : World} {p q : Nat} (hm : P.follows .mixedOrders = true) (hne : p ≠ q) (hp : p < all.length) (hq : q < all.length)
    (h1 : wpAny P .any (ver1 p q all).toArray Q all.length (Array.replicate all.length false) a { w with drawn := w.drawn + 1 })
    (h2 : wpAny P .any (ver2 p q all).toArray Q all.length (Array.replicate all.length false) a { w with drawn := w.drawn + 1 }) : (Code.region id all.toArray true).wp P Q a w := by
  refine wp_region_draw fun t => ?_
  simp only [Region.schedule, hm, Bool.true_or, if_true]
  have hl : LExt all.toArray all.length (Array.replicate all.length false) (Region.linearise .any all.toArray t) := by
    have := lin_lext (ops := all.toArray) all.length t (Array.replicate all.length false)
    simpa [Region.linearise] using this
  have r1 : Rel (fun i => i) (Array.replicate all.length false) (Array.replicate all.length false) := fun i => rfl
  have r2 : Rel (swp p q) (Array.replicate all.length false) (Array.replicate all.length false) := by
    intro i
    simp only [Array.getElem?_replicate]
    have hiff : swp p q i < all.length ↔ i < all.length := ⟨fun h => by have := swp_lt hp hq _ h; rwa [swp_inv] at this, swp_lt hp hq i⟩
    simp only [hiff]
  rcases lext_split (p := p) (q := q) (fun _ => rfl) (fun _ h => h) (swp_inv p q) (swp_lt hp hq) hne hl r1 r2 with h | h
  · exact wpOps_ver (x := p) (y := q) (fun _ => rfl) (fun _ h => h) (any_lext h h1)
  · exact wpOps_ver (x := q) (y := p) (swp_inv p q) (swp_lt hp hq) (any_lext h h2)
end
section
variable {P : Program} {Γ : Con} {X : Nat → Prop} {N : Nat} {Q : Exit → Act → World → Prop} {all : List Oper} {β : List Base} {w : World} {L : LH}
theorem mem_ver {σ : Nat → Nat} {x y : Nat} (hlt : ∀ i, i < all.length → σ i < all.length) (hd : ∀ o ∈ all, ∀ d, o.dst = some d → d < N) : ∀ o ∈ ver σ x y all, ∀ d, o.dst = some d → d < N := by
  intro o ho d hod
  simp only [ver, List.mem_map, List.mem_range] at ho
  obtain ⟨i, hi, rfl⟩ := ho
  have hs := hlt i hi
  refine hd (all.getD (σ i) default) ?_ d hod
  rw [List.getD_eq_getElem?_getD, List.getElem?_eq_getElem hs]
  simp
theorem any_start (hΓ : GammaOk P Γ) {env env' : Env} {L' : LH} {a : Act} (hok : anyOk all = true) (hd : ∀ o ∈ all, ∀ d, o.dst = some d → d < N)
    (h : ARun P Γ all all env L env' L') (hls : lsOk all env' = true) (hA : RepA N X β w env a) (hH : RepH X β w L)
    (hQ : ∀ a' w' β', RepA N X β' w' env' a' → RepH X β' w' L' → Grow β β' w w' → Q .normal a' w') : wpAny P .any all.toArray Q all.length (Array.replicate all.length false) a { w with drawn := w.drawn + 1 } := by
  obtain ⟨vs, Ls, h2, rfl, h3, rfl, h4⟩ := arun_vals h
  subst h3
  have hH' : RepH X β { w with drawn := w.drawn + 1 } (Ls 0) := hH.same grow_drew_id (fun _ _ => rfl)
  exact any_sound (Q := Q) (N := N) (X := X) hΓ hok hls h2 hd h4 β w hQ all.length [] 0 (Array.replicate all.length false) β a { w with drawn := w.drawn + 1 }
    (Nat.le_trans List.countP_le_length (by simp)) (by simp) (fun i hi => by simp [hi]) (by simp) (by simp) (Nat.zero_le _) (by simp) (hA.grow grow_drew_id) hH' grow_drew_id
theorem region_two_any (hΓ : GammaOk P Γ) (hm : P.follows .mixedOrders = true) {id : Nat} {env env1 env2 : Env} {L1 L2 : LH} {a : Act} {p q : Nat} (hne : p ≠ q) (hp : p < all.length) (hq : q < all.length) (hd : ∀ o ∈ all, ∀ d, o.dst = some d → d < N)
    (o1 : anyOk (ver1 p q all) = true) (h1 : ARun P Γ (ver1 p q all) (ver1 p q all) env L env1 L1) (s1 : lsOk (ver1 p q all) env1 = true)
    (o2 : anyOk (ver2 p q all) = true) (h2 : ARun P Γ (ver2 p q all) (ver2 p q all) env L env2 L2) (s2 : lsOk (ver2 p q all) env2 = true)
    (hA : RepA N X β w env a) (hH : RepH X β w L)
    (hQ1 : ∀ a' w' β', RepA N X β' w' env1 a' → RepH X β' w' L1 → Grow β β' w w' → Q .normal a' w')
    (hQ2 : ∀ a' w' β', RepA N X β' w' env2 a' → RepH X β' w' L2 → Grow β β' w w' → Q .normal a' w') : (Code.region id all.toArray true).wp P Q a w := by
  have k1 := any_start hΓ o1 (mem_ver (fun _ h => h) hd) h1 s1 hA hH hQ1
  have k2 := any_start hΓ o2 (mem_ver (swp_lt hp hq) hd) h2 s2 hA hH hQ2
  have e1 : (ver1 p q all).length = all.length := len_ver
  have e2 : (ver2 p q all).length = all.length := len_ver
  rw [e1] at k1
  rw [e2] at k2
  exact region_two hm hne hp hq k1 k2
end
end Go.Ab
namespace Go.Ab
open Go Go.RowKit
set_option linter.unusedVariables false
set_option linter.unusedSimpArgs false
variable {P : Program} {Γ : Con} {X : Nat → Prop} {β : List Base} {L : LH} {N : Nat}
structure WGrow (n : Nat) (β β' : List Base) (w w' : World) : Prop where
  os : w'.os = w.os
  tape : w'.tape = w.tape
  output : w'.output = w.output
  size : w.heap.size ≤ w'.heap.size
  block : ∀ k, k < w.heap.size → ¬ Live β k → w'.heap[k]? = w.heap[k]?
  shape : ∀ (k : Nat) c el fr, w.heap[k]? = some (.cells c el fr) → ∃ c' fr', w'.heap[k]? = some (.cells c' el fr') ∧ c'.size = c.size
  live : ∀ b, Live β' b → Live β b ∨ w.heap.size ≤ b
  len : n ≤ β.length → n ≤ β'.length
  keep : n ≤ β.length → ∀ (i : Nat) x, i < n → β'[i]? = some x → x ≠ .dead → β[i]? = some x
theorem Grow.wg {n : Nat} {β' : List Base} {w w' : World} (g : Grow β β' w w') : WGrow n β β' w w' := ⟨g.os, g.tape, g.output, g.size, g.block, g.shape, g.live, fun h => Nat.le_trans h g.len, fun h i x hi hx hd => g.keep i x (Nat.lt_of_lt_of_le hi h) hx hd⟩
theorem WGrow.refl {n : Nat} (β : List Base) (w : World) : WGrow n β β w w := (Grow.refl β w).wg
theorem WGrow.trans {n : Nat} {β β' β'' : List Base} {w w' w'' : World} (h : WGrow n β β' w w') (k : WGrow n β' β'' w' w'') : WGrow n β β'' w w'' where
  len := fun e => k.len (h.len e)
  keep := fun e i x hi hx hd => h.keep e i x hi (k.keep (h.len e) i x hi hx hd) hd
  os := k.os.trans h.os
  tape := k.tape.trans h.tape
  output := k.output.trans h.output
  size := Nat.le_trans h.size k.size
  block := fun i hi hl => (k.block i (Nat.lt_of_lt_of_le hi h.size) (fun hb => by rcases h.live i hb with x | x; exact hl x; omega)).trans (h.block i hi hl)
  shape := fun i c el fr hi => by
    obtain ⟨c', fr', h1, h2⟩ := h.shape i c el fr hi
    obtain ⟨c'', fr'', h3, h4⟩ := k.shape i c' el fr' h1
    exact ⟨c'', fr'', h3, h4.trans h2⟩
  live := fun b hb => by
    rcases k.live b hb with x | x
    · exact h.live b x
    · exact .inr (Nat.le_trans h.size x)
def RenOk (m : List Nat) (p q : PV) : Prop :=
  q = .any ∨ (closed p = true ∧ q = p) ∨ (∃ id k off n sz, p = .own id off n sz ∧ m[k]? = some id ∧ q = .own k off n sz) ∨ (∃ id k off, p = .ptr id off ∧ m[k]? = some id ∧ q = .ptr k off)
structure Weak (n : Nat) (m : List Nat) (env : Env) (L : LH) (env2 : Env) (L2 : LH) : Prop where
  pins : ∀ i, i < n → m[i]? = some i
  nodup : m.Nodup
  bound : ∀ i ∈ m, i < L.length
  len : L2.length = m.length
  rows : ∀ (k i : Nat) cs, m[k]? = some i → L2[k]? = some (.cells cs) → L[i]? = some (.cells cs) ∧ closedL cs = true
  env : ∀ x ∈ env2, lookup env2 x.1 = x.2 → RenOk m (lookup env x.1) x.2
theorem lookup_cases (env : Env) (t : Nat) : lookup env t = .any ∨ (t, lookup env t) ∈ env := by
  induction env with
  | nil => exact .inl rfl
  | cons x r ih =>
    obtain ⟨i, p⟩ := x
    simp only [lookup]
    cases hb : (i == t) with
    | true =>
      have := eq_of_beq hb
      subst this
      right; simp
    | false =>
      simp only [cond_false]
      rcases ih with h | h
      · exact .inl h
      · exact .inr (List.mem_cons_of_mem _ h)
theorem weak_sound {n : Nat} {w : World} {m : List Nat} {env env2 : Env} {L2 : LH} {a : Act} (h : Weak n m env L env2 L2) (hA : RepA N X β w env a) (hH : RepH X β w L) :
    ∃ β2, RepA N X β2 w env2 a ∧ RepH X β2 w L2 ∧ WGrow n β β2 w w := by
  let β2 : List Base := m.map fun i => β.getD i .dead
  have hget : ∀ (k i : Nat), m[k]? = some i → β2[k]? = β[i]? := by
    intro k i hk
    have hi : i < β.length := by rw [hH.len]; exact h.bound i (List.mem_of_getElem? hk)
    simp only [β2, List.getElem?_map, hk, Option.map_some]
    simp [hi]
  have hget' : ∀ (k : Nat) x, β2[k]? = some x → ∃ i, m[k]? = some i ∧ β[i]? = some x := by
    intro k x hk
    have hlt : k < m.length := by
      have := (List.getElem?_eq_some_iff.1 hk).1
      simpa [β2] using this
    refine ⟨m[k], by simp [hlt], ?_⟩
    rw [← hget k m[k] (by simp [hlt])]; exact hk
  have hlive : ∀ b, Live β2 b → Live β b := by
    rintro b ⟨k, base, hk⟩
    obtain ⟨i, h1, h2⟩ := hget' k _ hk
    exact ⟨i, base, h2⟩
  have hanti : ∀ b, X b ∨ Live β2 b → X b ∨ Live β b := fun b hb => hb.imp id (hlive b)
  have hval : ∀ p q v, RenOk m p q → RepV X β w p v → RepV X β2 w q v := by
    intro p q v hr hp
    rcases hr with rfl | ⟨hc, rfl⟩ | ⟨id, k, off, n, sz, rfl, hk, rfl⟩ | ⟨id, k, off, rfl, hk, rfl⟩
    · simp [RepV]
    · exact RepV.anti hanti _ v hc hp
    · simp only [RepV] at hp ⊢
      have hkl : k < β2.length := by simp only [β2, List.length_map]; exact (List.getElem?_eq_some_iff.1 hk).1
      refine ⟨hkl, fun b base hb => ?_, fun hb => ?_⟩
      · rw [hget k id hk] at hb; exact hp.2.1 b base hb
      · rw [hget k id hk] at hb; exact hp.2.2 hb
    · simp only [RepV] at hp ⊢
      have hkl : k < β2.length := by simp only [β2, List.length_map]; exact (List.getElem?_eq_some_iff.1 hk).1
      refine ⟨hkl, fun b base hb => ?_, fun hb => ?_⟩
      · rw [hget k id hk] at hb; exact hp.2.1 b base hb
      · rw [hget k id hk] at hb; exact hp.2.2 hb
  refine ⟨β2, ⟨hA.size, hA.defers, fun t => ?_, hA.glob.anti hanti⟩, ?_, ⟨rfl, rfl, rfl, Nat.le_refl _, fun _ _ _ => rfl, fun k c el fr h => ⟨c, fr, h, rfl⟩, fun b hb => .inl (hlive b hb), fun _ => by
      have : n ≤ m.length := by
        by_cases h0 : n = 0
        · omega
        · have := (List.getElem?_eq_some_iff.1 (h.pins (n - 1) (by omega))).1; omega
      simpa [β2] using this, fun _ i x hi hx _ => by rw [hget i i (h.pins i hi)] at hx; exact hx⟩⟩
  · rcases lookup_cases env2 t with ht | ht
    · rw [ht]; simp [RepV]
    · exact hval _ _ _ (h.env _ ht rfl) (hA.slot t)
  · refine ⟨by simp [β2, h.len], ?_, fun b hb => hH.lt b (hlive b hb), fun b hb => ⟨(hH.out b hb).1, fun hl => (hH.out b hb).2 (hlive b hl)⟩, ?_⟩
    · intro i j b x y hi hj
      obtain ⟨i', h1, h2⟩ := hget' i _ hi
      obtain ⟨j', h3, h4⟩ := hget' j _ hj
      have := hH.inj i' j' b x y h2 h4
      subst this
      have hil := (List.getElem?_eq_some_iff.1 h1).1
      exact (List.getElem_inj h.nodup (h₀ := hil) (h₁ := (List.getElem?_eq_some_iff.1 h3).1)).1 (by
        rw [(List.getElem?_eq_some_iff.1 h1).2, (List.getElem?_eq_some_iff.1 h3).2])
    · intro k cs hk
      have hkl : k < m.length := by rw [← h.len]; exact (List.getElem?_eq_some_iff.1 hk).1
      have hmk : m[k]? = some m[k] := by simp [hkl]
      obtain ⟨h1, h2⟩ := h.rows k m[k] cs hmk hk
      rcases hH.ent m[k] cs h1 with ⟨e1, e2⟩ | ⟨b, base, c, el, e1, e2, e3, e4⟩
      · exact .inl ⟨by rw [hget k _ hmk]; exact e1, e2⟩
      · exact .inr ⟨b, base, c, el, by rw [hget k _ hmk]; exact e1, e2, e3, RepRow.anti hanti b cs base h2 e4⟩
inductive Run (P : Program) (Γ : Con) : Code → Env → LH → Exit → Env → LH → Prop
  | skip {env L} : Run P Γ .skip env L .normal env L
  | region {id ops env L env' L'} (h : LRun P Γ ops.toList ops.toList env L env' L') : Run P Γ (.region id ops false) env L .normal env' L'
  | regionDraw {id ops env L env' L'} (h : TRun P Γ true ops.toList ops.toList env L env' L') (hd : drawOk ops.toList = true) : Run P Γ (.region id ops true) env L .normal env' L'
  | regionTail {id ops m env L env1 L1 env' L'} (h : TRun P Γ true ops.toList (ops.toList.take m) env L env1 L1) (h2 : LRun P Γ ops.toList (ops.toList.drop m) env1 L1 env' L') (hd : drawOk ops.toList = true) (ht : tailOk ops.toList m = true) : Run P Γ (.region id ops true) env L .normal env' L'
  | regionAny {id ops env L env' L'} (h : ARun P Γ ops.toList ops.toList env L env' L') (hd : anyOk ops.toList = true) (hs : lsOk ops.toList env' = true) : Run P Γ (.region id ops true) env L .normal env' L'
  | regionTwo {id ops p q m env L env1 L1 env2 L2} (hne : p ≠ q) (hp : p < ops.toList.length) (hq : q < ops.toList.length)
      (h1 : ARun P Γ (ver1 p q ops.toList) (ver1 p q ops.toList) env L env1 L1) (o1 : anyOk (ver1 p q ops.toList) = true) (s1 : lsOk (ver1 p q ops.toList) env1 = true)
      (h2 : ARun P Γ (ver2 p q ops.toList) (ver2 p q ops.toList) env L env2 L2) (o2 : anyOk (ver2 p q ops.toList) = true) (s2 : lsOk (ver2 p q ops.toList) env2 = true)
      (hw : Weak Γ.pin m env2 L2 env1 L1) : Run P Γ (.region id ops true) env L .normal env1 L1
  | less {c env L env2 e env' L'} (hl : ∀ t, lookup env2 t = .any ∨ lookup env2 t = lookup env t) (h : Run P Γ c env2 L e env' L') : Run P Γ c env L e env' L'
  | scope {c env L e env' L'} (h : Run P Γ c env L e env' L') (he : ∀ l, e ≠ .goto l) : Run P Γ (.scope c) env L e env' L'
  | label {l env L} : Run P Γ (.label l) env L .normal env L
  | seq {x y env L env1 L1 e env' L'} (h : Run P Γ x env L .normal env1 L1) (k : Run P Γ y env1 L1 e env' L') : Run P Γ (.seq x y) env L e env' L'
  | seqOut {x y env L e env' L'} (h : Run P Γ x env L e env' L') (he : e ≠ .normal) : Run P Γ (.seq x y) env L e env' L'
  | cond {c x y env L t e env' L'} (hc : evalIn env c = .lit (.bool t)) (h : Run P Γ (if t then x else y) env L e env' L') : Run P Γ (.cond c x y) env L e env' L'
  | block {id c env L e env' L'} (h : Run P Γ c env L e env' L') (he : e ≠ .exit id) : Run P Γ (.block id c) env L e env' L'
  | blockOut {id c env L env' L'} (h : Run P Γ c env L (.exit id) env' L') : Run P Γ (.block id c) env L .normal env' L'
  | loop {c env L env1 L1 e env' L'} (h : Run P Γ c env L .normal env1 L1) (k : Run P Γ (.loop c) env1 L1 e env' L') : Run P Γ (.loop c) env L e env' L'
  | loopOut {c env L e env' L'} (h : Run P Γ c env L e env' L') (he : e ≠ .normal) : Run P Γ (.loop c) env L e env' L'
  | exit {id env L} : Run P Γ (.exit id) env L (.exit id) env L
  | ret {env L} : Run P Γ .ret env L .ret env L
  | weak {c env L m env2 L2 e env' L'} (hw : Weak Γ.pin m env L env2 L2) (h : Run P Γ c env2 L2 e env' L') : Run P Γ c env L e env' L'
  | after {c env L m env2 L2 e env' L'} (h : Run P Γ c env L e env' L') (hw : Weak Γ.pin m env' L' env2 L2) : Run P Γ c env L e env2 L2
def fits (N : Nat) : Code → Bool
  | .region _ ops _ => ops.toList.all fun o => match o.dst with | some d => decide (d < N) | none => true
  | .seq a b => fits N a && fits N b
  | .cond _ a b => fits N a && fits N b
  | .block _ c => fits N c
  | .loop c => fits N c
  | .rangeFunc _ _ a b => fits N a && fits N b
  | .scope c => fits N c
  | _ => true
def Post (n N : Nat) (X : Nat → Prop) (β : List Base) (w : World) (e : Exit) (env' : Env) (L' : LH) : Exit → Act → World → Prop :=
  fun e' a' w' => e' = e ∧ ∃ β', RepA N X β' w' env' a' ∧ RepH X β' w' L' ∧ WGrow n β β' w w'
theorem rounds_mono {c : Code} {Q Q' : Exit → Act → World → Prop} (hq : ∀ e a w, Q e a w → Q' e a w) : ∀ (n : Nat) (a : Act) (w : World), Code.rounds P c Q n a w → Code.rounds P c Q' n a w
  | 0, _, _, h => h.elim
  | n + 1, a, w, h => by
    rw [rounds_succ] at h ⊢
    refine wp_mono h fun e a' w' he => ?_
    cases e with
    | normal => exact rounds_mono hq n a' w' he
    | _ => exact hq _ _ _ he
theorem Post.mono {n : Nat} {β1 : List Base} {w w1 : World} {e e' : Exit} {env' : Env} {L' : LH} {a' : Act} {w' : World} (g : WGrow n β β1 w w1) (h : Post n N X β1 w1 e env' L' e' a' w') : Post n N X β w e env' L' e' a' w' := by
  obtain ⟨h1, β', h2, h3, h4⟩ := h
  exact ⟨h1, β', h2, h3, g.trans h4⟩
theorem Run.sound (hΓ : GammaOk P Γ) (hm : P.follows .mixedOrders = true) {c : Code} {env env' : Env} {L L' : LH} {e : Exit} (h : Run P Γ c env L e env' L') :
    (∀ (N : Nat) (X : Nat → Prop) (β : List Base) (w : World) (a : Act), fits N c = true → RepA N X β w env a → RepH X β w L → c.wp P (Post Γ.pin N X β w e env' L') a w) ∧
    (∀ d, c = .loop d → ∃ n, ∀ (N : Nat) (X : Nat → Prop) (β : List Base) (w : World) (a : Act), fits N c = true → RepA N X β w env a → RepH X β w L → Code.rounds P d (Post Γ.pin N X β w e env' L') n a w) := by
  induction h with
  | skip => exact ⟨fun N X β w a _ hA hH => wp_skip ⟨rfl, β, hA, hH, WGrow.refl β w⟩, fun d hd => by cases hd⟩
  | @region id ops env L env' L' h =>
    refine ⟨fun N X β w a hf hA hH => ?_, fun d hd => by cases hd⟩
    have hfit : ∀ o ∈ ops.toList, ∀ d, o.dst = some d → d < N := by
      intro o ho d hod
      have := List.all_eq_true.1 hf o ho
      simpa [hod] using this
    exact wp_region_list (lrun_sound hΓ h hA hH hfit (fun a' w' β' h1 h2 h3 => ⟨rfl, β', h1, h2, h3.wg⟩))
  | @regionDraw id ops env L env' L' h hd =>
    refine ⟨fun N X β w a hf hA hH => ?_, fun d hd => by cases hd⟩
    have hfit : ∀ o ∈ ops.toList, ∀ d, o.dst = some d → d < N := by
      intro o ho d hod
      have := List.all_eq_true.1 hf o ho
      simpa [hod] using this
    exact region_draw (all := ops.toList) hΓ hm hd hfit h hA hH (fun a' w' h1 h2 h3 => ⟨rfl, β, h1, h2, h3.wg⟩)
  | @regionTail id ops m env L env1 L1 env' L' h h2 hd ht =>
    refine ⟨fun N X β w a hf hA hH => ?_, fun d hd => by cases hd⟩
    have hfit : ∀ o ∈ ops.toList, ∀ d, o.dst = some d → d < N := by
      intro o ho d hod
      have := List.all_eq_true.1 hf o ho
      simpa [hod] using this
    exact region_tail (all := ops.toList) hΓ hm hd ht hfit h h2 hA hH (fun a' w' β' h1 h2 h3 => ⟨rfl, β', h1, h2, h3.wg⟩)
  | @regionAny id ops env L env' L' h hd hs =>
    refine ⟨fun N X β w a hf hA hH => ?_, fun d hd => by cases hd⟩
    have hfit : ∀ o ∈ ops.toList, ∀ d, o.dst = some d → d < N := by
      intro o ho d hod
      have := List.all_eq_true.1 hf o ho
      simpa [hod] using this
    exact region_any (all := ops.toList) hΓ hm hd hfit h hs hA hH (fun a' w' β' h1 h2 h3 => ⟨rfl, β', h1, h2, h3.wg⟩)
  | @regionTwo id ops p q m env L env1 L1 env2 L2 hne hp hq h1 o1 s1 h2 o2 s2 hw =>
    refine ⟨fun N X β w a hf hA hH => ?_, fun d hd => by cases hd⟩
    have hfit : ∀ o ∈ ops.toList, ∀ d, o.dst = some d → d < N := by
      intro o ho d hod
      have := List.all_eq_true.1 hf o ho
      simpa [hod] using this
    refine region_two_any (all := ops.toList) hΓ hm hne hp hq hfit o1 h1 s1 o2 h2 s2 hA hH (fun a' w' β' g1 g2 g3 => ⟨rfl, β', g1, g2, g3.wg⟩) (fun a' w' β' g1 g2 g3 => ?_)
    obtain ⟨β2, k1, k2, k3⟩ := weak_sound hw g1 g2
    exact ⟨rfl, β2, k1, k2, g3.wg.trans k3⟩
  | @less c env L env2 e env' L' hl h ih =>
    have hA' : ∀ {N : Nat} {X : Nat → Prop} {β : List Base} {w : World} {a : Act}, RepA N X β w env a → RepA N X β w env2 a := by
      intro N X β w a hA
      refine ⟨hA.size, hA.defers, fun t => ?_, hA.glob⟩
      rcases hl t with h | h
      · rw [h]; simp [RepV]
      · rw [h]; exact hA.slot t
    refine ⟨fun N X β w a hf hA hH => ih.1 N X β w a hf (hA' hA) hH, fun d hd => ?_⟩
    obtain ⟨n, hn⟩ := ih.2 d hd
    exact ⟨n, fun N X β w a hf hA hH => hn N X β w a hf (hA' hA) hH⟩
  | @scope c env L e env' L' h he ih =>
    refine ⟨fun N X β w a hf hA hH => ?_, fun d hd => by cases hd⟩
    refine wp_scope_straight (wp_mono (ih.1 N X β w a hf hA hH) fun e1 a1 w1 he1 => ?_)
    obtain ⟨rfl, hp⟩ := he1
    cases e1 <;> first | (exact absurd rfl (he _)) | (exact ⟨rfl, hp⟩)
  | label => exact ⟨fun N X β w a _ hA hH => wp_label ⟨rfl, β, hA, hH, WGrow.refl β w⟩, fun d hd => by cases hd⟩
  | @seq x y env L env1 L1 e env' L' h k ih1 ih2 =>
    refine ⟨fun N X β w a hf hA hH => ?_, fun d hd => by cases hd⟩
    simp only [fits, Bool.and_eq_true] at hf
    refine wp_seq (wp_mono (ih1.1 N X β w a hf.1 hA hH) fun e1 a1 w1 he => ?_)
    obtain ⟨rfl, β1, h1, h2, h3⟩ := he
    exact wp_mono (ih2.1 N X β1 w1 a1 hf.2 h1 h2) fun e2 a2 w2 he => he.mono h3
  | @seqOut x y env L e env' L' h he ih =>
    refine ⟨fun N X β w a hf hA hH => ?_, fun d hd => by cases hd⟩
    simp only [fits, Bool.and_eq_true] at hf
    refine wp_seq (wp_mono (ih.1 N X β w a hf.1 hA hH) fun e1 a1 w1 he1 => ?_)
    obtain ⟨rfl, hp⟩ := he1
    cases e1 <;> first | (exact absurd rfl he) | (exact ⟨rfl, hp⟩)
  | @cond c x y env L t e env' L' hc h ih =>
    refine ⟨fun N X β w a hf hA hH => ?_, fun d hd => by cases hd⟩
    simp only [fits, Bool.and_eq_true] at hf
    have hcv := hA.eval c
    rw [hc] at hcv
    simp only [RepV] at hcv
    refine wp_cond hcv (ih.1 N X β w a ?_ hA hH)
    cases t
    · exact hf.2
    · exact hf.1
  | @block id c env L e env' L' h he ih =>
    refine ⟨fun N X β w a hf hA hH => ?_, fun d hd => by cases hd⟩
    refine wp_block (wp_mono (ih.1 N X β w a hf hA hH) fun e1 a1 w1 he1 => ?_)
    obtain ⟨rfl, hp⟩ := he1
    cases e1 with
    | exit id' =>
      have hne : id' ≠ id := fun h => he (by rw [h])
      simp only [Exit.inBlock, hne, if_false]
      exact ⟨rfl, hp⟩
    | _ => exact ⟨rfl, hp⟩
  | @blockOut id c env L env' L' h ih =>
    refine ⟨fun N X β w a hf hA hH => ?_, fun d hd => by cases hd⟩
    refine wp_block (wp_mono (ih.1 N X β w a hf hA hH) fun e1 a1 w1 he1 => ?_)
    obtain ⟨rfl, hp⟩ := he1
    simp only [Exit.inBlock, if_true]
    exact ⟨rfl, hp⟩
  | @loop c env L env1 L1 e env' L' h k ih1 ih2 =>
    have key : ∃ n, ∀ (N : Nat) (X : Nat → Prop) (β : List Base) (w : World) (a : Act), fits N (.loop c) = true → RepA N X β w env a → RepH X β w L → Code.rounds P c (Post Γ.pin N X β w e env' L') n a w := by
      obtain ⟨n, hn⟩ := ih2.2 c rfl
      refine ⟨n + 1, fun N X β w a hf hA hH => ?_⟩
      rw [rounds_succ]
      refine wp_mono (ih1.1 N X β w a hf hA hH) fun e1 a1 w1 he => ?_
      obtain ⟨rfl, β1, h1, h2, h3⟩ := he
      exact rounds_mono (fun e2 a2 w2 he => he.mono h3) n a1 w1 (hn N X β1 w1 a1 hf h1 h2)
    refine ⟨fun N X β w a hf hA hH => ?_, fun d hd => by cases hd; exact key⟩
    obtain ⟨n, hn⟩ := key
    exact wp_loop_rounds n (hn N X β w a hf hA hH)
  | @loopOut c env L e env' L' h he ih =>
    have key : ∀ (N : Nat) (X : Nat → Prop) (β : List Base) (w : World) (a : Act), fits N (.loop c) = true → RepA N X β w env a → RepH X β w L → Code.rounds P c (Post Γ.pin N X β w e env' L') 1 a w := by
      intro N X β w a hf hA hH
      rw [rounds_succ]
      refine wp_mono (ih.1 N X β w a hf hA hH) fun e1 a1 w1 he1 => ?_
      obtain ⟨rfl, hp⟩ := he1
      cases e1 <;> first | (exact absurd rfl he) | (exact ⟨rfl, hp⟩)
    exact ⟨fun N X β w a hf hA hH => wp_loop_rounds 1 (key N X β w a hf hA hH), fun d hd => by cases hd; exact ⟨1, key⟩⟩
  | exit => exact ⟨fun N X β w a _ hA hH => wp_exit ⟨rfl, β, hA, hH, WGrow.refl β w⟩, fun d hd => by cases hd⟩
  | ret => exact ⟨fun N X β w a _ hA hH => wp_ret ⟨rfl, β, hA, hH, WGrow.refl β w⟩, fun d hd => by cases hd⟩
  | @weak c env L m env2 L2 e env' L' hw h ih =>
    refine ⟨fun N X β w a hf hA hH => ?_, fun d hd => ?_⟩
    · obtain ⟨β2, h1, h2, h3⟩ := weak_sound hw hA hH
      exact wp_mono (ih.1 N X β2 w a hf h1 h2) fun e2 a2 w2 he => he.mono h3
    · obtain ⟨n, hn⟩ := ih.2 d hd
      refine ⟨n, fun N X β w a hf hA hH => ?_⟩
      obtain ⟨β2, h1, h2, h3⟩ := weak_sound hw hA hH
      exact rounds_mono (fun e2 a2 w2 he => he.mono h3) n a w (hn N X β2 w a hf h1 h2)
  | @after c env L m env2 L2 e env' L' h hw ih =>
    have hp : ∀ (N : Nat) (X : Nat → Prop) (β : List Base) (w : World) (e1 : Exit) (a1 : Act) (w1 : World), Post Γ.pin N X β w e env' L' e1 a1 w1 → Post Γ.pin N X β w e env2 L2 e1 a1 w1 := by
      rintro N X β w e1 a1 w1 ⟨rfl, β1, h1, h2, h3⟩
      obtain ⟨β2, h4, h5, h6⟩ := weak_sound hw h1 h2
      exact ⟨rfl, β2, h4, h5, h3.trans h6⟩
    refine ⟨fun N X β w a hf hA hH => wp_mono (ih.1 N X β w a hf hA hH) (hp N X β w), fun d hd => ?_⟩
    obtain ⟨n, hn⟩ := ih.2 d hd
    exact ⟨n, fun N X β w a hf hA hH => rounds_mono (hp N X β w) n a w (hn N X β w a hf hA hH)⟩
def Ex (P : Program) (Γ : Con) (c : Code) (env : Env) (L : LH) (Q : Exit → Env → LH → Prop) : Prop := ∃ e env' L', Run P Γ c env L e env' L' ∧ Q e env' L'
theorem Ex.mono {c : Code} {env : Env} {Q Q' : Exit → Env → LH → Prop} (h : Ex P Γ c env L Q) (hq : ∀ e env L, Q e env L → Q' e env L) : Ex P Γ c env L Q' :=
  let ⟨e, env', L', h1, h2⟩ := h; ⟨e, env', L', h1, hq _ _ _ h2⟩
theorem Ex.weak {c : Code} {env env2 : Env} {L2 : LH} {Q : Exit → Env → LH → Prop} (m : List Nat) (hw : Weak Γ.pin m env L env2 L2) (h : Ex P Γ c env2 L2 Q) : Ex P Γ c env L Q :=
  let ⟨e, env', L', h1, h2⟩ := h; ⟨e, env', L', .weak hw h1, h2⟩
theorem Ex.loop {ι : Type} {c : Code} {Q : Exit → Env → LH → Prop} (I : ι → Env × LH) (μ : ι → Nat)
    (step : ∀ x, Ex P Γ c (I x).1 (I x).2 (fun e env' L' => match e with
      | .normal => ∃ y m, μ y < μ x ∧ Weak Γ.pin m env' L' (I y).1 (I y).2
      | e => Q e env' L')) (x : ι) : Ex P Γ (.loop c) (I x).1 (I x).2 Q := by
  have key : ∀ n x, μ x = n → Ex P Γ (.loop c) (I x).1 (I x).2 Q := by
    intro n
    induction n using Nat.strongRecOn with
    | _ n ih =>
      intro x hx
      obtain ⟨e, env', L', h1, h2⟩ := step x
      cases e with
      | normal =>
        obtain ⟨y, m, hy, hw⟩ := h2
        obtain ⟨e, env2, L2, h3, h4⟩ := ih (μ y) (hx ▸ hy) y rfl
        exact ⟨e, env2, L2, .loop h1 (.weak hw h3), h4⟩
      | exit id => exact ⟨_, env', L', .loopOut h1 (by simp), h2⟩
      | goto l => exact ⟨_, env', L', .loopOut h1 (by simp), h2⟩
      | ret => exact ⟨_, env', L', .loopOut h1 (by simp), h2⟩
      | panic ch => exact ⟨_, env', L', .loopOut h1 (by simp), h2⟩
      | outgrown => exact ⟨_, env', L', .loopOut h1 (by simp), h2⟩
  exact key _ x rfl
section
variable {env : Env} {L : LH} {k : Exit → Env → LH → Prop}
end
end Go.Ab
namespace Go.Ab
open Go Go.RowKit
set_option linter.unusedVariables false
set_option linter.unusedSimpArgs false
variable {P : Program} {Γ : Con} {X : Nat → Prop} {β : List Base} {L : LH} {N : Nat} {w : World}
def shut (L : LH) (p : PV) : Prop × PV :=
  match p with
  | .own id off n sz => ((slc L (.own id off n sz)).1 ∧ clrOk (L.set id .dead) 3 (slc L (.own id off n sz)).2.2, .new n sz (clr (L.set id .dead) 3 (slc L (.own id off n sz)).2.2))
  | .tup (.own id off n sz :: rs) => ((slc L (.own id off n sz)).1 ∧ clrOk (L.set id .dead) 3 (slc L (.own id off n sz)).2.2 ∧ clrOk (L.set id .dead) 4 rs, .tup (.new n sz (clr (L.set id .dead) 3 (slc L (.own id off n sz)).2.2) :: clr (L.set id .dead) 4 rs))
  | .tup rs => (clrOk L 4 rs, .tup (clr L 4 rs))
  | p => (borrowOk L p, borrow L p)
theorem shut_own {id off n sz : Nat} {v : Value} {w0 : World} (hH : RepH X β w L) (h : RepV X β w (.own id off n sz) v) (hfresh : ∀ b, Live β b → w0.heap.size ≤ b)
    (hok : (slc L (.own id off n sz)).1) (hc : clrOk (L.set id .dead) 3 (slc L (.own id off n sz)).2.2) :
    NewRow X w0 w n sz (clr (L.set id .dead) 3 (slc L (.own id off n sz)).2.2) v ∧
    ∃ β1, RepH (fun x => X x ∨ blockOf v x) β1 w (L.set id .dead) ∧ ∀ p u, RepV X β w p u → RepV (fun x => X x ∨ blockOf v x) β1 w p u := by
  obtain ⟨cs, hL, hle⟩ : ∃ cs, L[id]? = some (.cells cs) ∧ off + n * sz ≤ cs.length := by
    have := hok
    unfold slc at this
    simp only at this
    split at this
    · rename_i cs h; exact ⟨cs, h, this⟩
    · exact this.elim
  have hsl : (slc L (.own id off n sz)).2.2 = (cs.drop off).take (n * sz) := by simp [slc, hL]
  rw [hsl] at hc ⊢
  rcases own_slice hH hL h with ⟨h1, rfl, rfl, rfl, rfl⟩ | ⟨b, base, c, el, cap, h1, rfl, hn, h2, h3, h4, h5⟩
  · obtain ⟨hk, g⟩ := repH_kill hH id
    have e : (fun x => X x ∨ blockOf (.slice none 0 0) x) = X := by funext x; simp [blockOf]
    rw [e]
    refine ⟨.inl ⟨rfl, rfl, ?_⟩, β.set id .dead, hk, fun p u hp => hp.grow g⟩
    simp [clr, closedL]
  · obtain ⟨hk, _, hnl, hlb⟩ := kill_apart hH h1
    have hrow := apartR h1 hH.inj b _ _ (row_sub h5 off (n * sz))
    obtain ⟨e1, e2⟩ := clr_row hk hrow hc
    have hlen : (clr (L.set id .dead) 3 ((cs.drop off).take (n * sz))).length = n * sz := by
      unfold clr
      cases closedL ((cs.drop off).take (n * sz)) <;> simp <;> omega
    have e : (fun x => X x ∨ blockOf (.slice (some ⟨b, base + off, none⟩) n cap) x) = (fun x => X x ∨ x = b) := by funext x; simp [blockOf]
    rw [e]
    have hnc : n * sz ≤ cap * sz := Nat.mul_le_mul_right _ hn
    exact ⟨.inr ⟨b, base + off, cap, c, el, rfl, hn, hfresh b hlb, h2, by omega, by rw [hlen]; omega, e1, e2⟩, β.set id .dead, hk, fun p u hp => apartV h1 hH.inj p u hp⟩
theorem repR_plain {r : PV} {v : Value} {w0 : World} (hc : closed r = true) (h : RepV X [] w r v) : RepR X w0 w r v := by
  unfold RepR
  split
  · simp [closed] at hc
  · simp [closed, closedL] at hc
  · exact ⟨hc, h⟩
theorem shut_rep {p : PV} {v : Value} {w0 : World} (hH : RepH X β w L) (h : RepV X β w p v) (hfresh : ∀ b, Live β b → w0.heap.size ≤ b) (hok : (shut L p).1) : RepR X w0 w (shut L p).2 v := by
  unfold shut at hok ⊢
  split
  · rename_i id off n sz
    simp only at hok
    simp only [RepR]
    exact (shut_own hH h hfresh hok.1 hok.2).1
  · rename_i id off n sz rs
    simp only at hok
    simp only [RepV, RepL] at h
    obtain ⟨vs, rfl, v0, r, rfl, h0, hrs⟩ := h
    have h0' : RepV X β w (.own id off n sz) v0 := by simp only [RepV]; exact h0
    obtain ⟨e1, β1, hk, hall⟩ := shut_own hH h0' hfresh hok.1 hok.2.1
    simp only [RepR]
    have hrs' : RepL (fun x => X x ∨ blockOf v0 x) β1 w rs r := by
      rw [RepL.iff] at hrs ⊢
      exact ⟨hrs.1, fun i q u hq hu => hall q u (hrs.2 i q u hq hu)⟩
    obtain ⟨e2, e3⟩ := clr_list hk hrs' hok.2.2
    exact ⟨v0, r, rfl, e1, e2, e3⟩
  · rename_i rs hne
    simp only at hok
    simp only [RepV] at h
    obtain ⟨vs, rfl, hrs⟩ := h
    obtain ⟨e2, e3⟩ := clr_list hH hrs hok
    exact repR_plain (by simpa [closed] using e2) (by simp only [RepV]; exact ⟨vs, rfl, e3⟩)
  · simp only at hok
    obtain ⟨e1, e2⟩ := borrow_rep hH h hok
    exact repR_plain e2 e1
def entry : Nat → List PV → Env
  | _, [] => []
  | i, p :: r => (i, p) :: entry (i + 1) r
theorem entry_lookup {ps : List PV} {vs : List Value} (h : RepL X β w ps vs) (rest : List Value) : ∀ (k : Nat) (t : Nat), RepV X β w (lookup (entry k ps) t) (if k ≤ t then ((vs ++ rest).getD (t - k) undef) else undef) := by
  induction ps generalizing vs with
  | nil => intro k t; simp [entry, lookup, RepV]
  | cons p ps ih =>
    intro k t
    simp only [RepL] at h
    obtain ⟨v, r, rfl, h1, h2⟩ := h
    simp only [entry, lookup]
    cases hb : (k == t) with
    | true =>
      have := eq_of_beq hb
      subst this
      simpa using h1
    | false =>
      have hne : k ≠ t := fun e => by subst e; simp [beq_self_eq_true] at hb
      have := ih h2 (k + 1) t
      simp only [cond_false]
      by_cases hk : k + 1 ≤ t
      · rw [if_pos hk] at this
        rw [if_pos (by omega)]
        rw [show t - k = (t - (k + 1)) + 1 by omega]
        simpa using this
      · rw [if_neg hk] at this
        rw [if_neg (by omega)]
        exact this
def resOne (P : Program) (env : Env) (L : LH) : ResultVar → Prop × PV
  | .tmp t => (True, lookup env t)
  | .cell a t => ((loadF P t (lookup env a) L).pre, (loadF P t (lookup env a) L).val)
def resAll (P : Program) (env : Env) (L : LH) : List ResultVar → Prop
  | [] => True
  | r :: rs => (resOne P env L r).1 ∧ resAll P env L rs
def resPV (P : Program) (fn : Func) (env : Env) (L : LH) : PV :=
  match fn.results.toList with
  | [r] => (resOne P env L r).2
  | rs => .tup (rs.map fun r => (resOne P env L r).2)
theorem loadVar_of_still {t : TypeId} {v va u : Value} (hs : (Instr.loadAt t va).run P w = .ok u w) : ∃ a, va = .pointer (some a) ∧ (loadVar t a).run P w = .ok u w := by
  cases va with
  | pointer a => cases a with
    | some a => exact ⟨a, rfl, by simpa [Instr.loadAt, Instr.sureAddr] using hs⟩
    | none => simp [Instr.loadAt, Instr.sureAddr, stuck] at hs
  | _ => simp [Instr.loadAt, Instr.sureAddr, stuck] at hs
theorem results_run {fn : Func} {env : Env} {a : Act} (hp : resAll P env L fn.results.toList) (hA : RepA N X β w env a) (hH : RepH X β w L) : ∃ v, (results fn a.tmps).run P w = .ok v w ∧ RepV X β w (resPV P fn env L) v := by
  have one : ∀ r, (resOne P env L r).1 → ∃ v, (match r with | .tmp t => pure (a.tmps.getD t undef) | .cell x t => do loadVar t (← asAddr (a.tmps.getD x undef)) : Sem Value).run P w = .ok v w ∧ RepV X β w (resOne P env L r).2 v := by
    intro r hr
    cases r with
    | tmp t => exact ⟨_, rfl, hA.slot t⟩
    | cell x t =>
      obtain ⟨u, h1, h2, _⟩ := loadF_still (X := X) (β := β) (w := w) t _ _ hr hH (hA.slot x)
      obtain ⟨ad, h3, h4⟩ := loadVar_of_still (v := u) h1
      exact ⟨u, by simp only [h3]; simp [asAddr, h4], h2⟩
  have many : ∀ rs : List ResultVar, resAll P env L rs → ∃ vs : List Value, (rs.mapM (fun r => (match r with | .tmp t => pure (a.tmps.getD t undef) | .cell x t => do loadVar t (← asAddr (a.tmps.getD x undef)) : Sem Value))).run P w = .ok vs w ∧ RepL X β w (rs.map fun r => (resOne P env L r).2) vs := by
    intro rs
    induction rs with
    | nil => intro _; exact ⟨[], by simp, by simp [RepL]⟩
    | cons r rs ih =>
      intro h
      obtain ⟨v, h1, h2⟩ := one r h.1
      obtain ⟨vs, h3, h4⟩ := ih h.2
      refine ⟨v :: vs, ?_, by simp only [List.map_cons, RepL]; exact ⟨v, vs, rfl, h2, h4⟩⟩
      rw [List.mapM_cons]
      simp only [Sem.run_bind, h1, Result.andThen_ok, h3, Sem.run_pure]
  obtain ⟨vs, h1, h2⟩ := many _ hp
  have hm : (fn.results.mapM (fun r => (match r with | .tmp t => pure (a.tmps.getD t undef) | .cell x t => do loadVar t (← asAddr (a.tmps.getD x undef)) : Sem Value))).run P w = .ok vs.toArray w := by
    rw [Array.mapM_eq_mapM_toList, Sem.run_map, h1]
    rfl
  have hm' : ∀ g : ResultVar → Sem Value, (∀ r, g r = (match r with | .tmp t => pure (a.tmps.getD t undef) | .cell x t => do loadVar t (← asAddr (a.tmps.getD x undef)) : Sem Value)) → (fn.results.mapM g).run P w = .ok vs.toArray w := by
    intro g hg
    rw [show g = _ from funext hg]
    exact hm
  have hlen := RepL.length h2
  unfold resPV
  split
  · rename_i r hr
    rw [hr] at h2 hlen
    simp only [List.map_cons, List.map_nil, RepL] at h2
    obtain ⟨v, r', rfl, h3, rfl⟩ := h2
    refine ⟨v, ?_, h3⟩
    unfold results
    simp only [Sem.run_bind]
    rw [hm' _ (fun r => by cases r <;> rfl)]
    simp
  · rename_i hne
    refine ⟨.tuple vs.toArray, ?_, by simp only [RepV]; exact ⟨vs, rfl, h2⟩⟩
    have h1' : ¬ vs.length = 1 := by
      intro h
      rw [h] at hlen
      simp at hlen
      cases hr : fn.results.toList with
      | nil => rw [← Array.length_toList, hr] at hlen; simp at hlen
      | cons r rs =>
        cases rs with
        | nil => exact hne r hr
        | cons _ _ => rw [← Array.length_toList, hr] at hlen; simp at hlen
    unfold results
    simp only [Sem.run_bind]
    rw [hm' _ (fun r => by cases r <;> rfl)]
    simp [h1']
def ShutOk (L : LH) (p r : PV) : Prop :=
  ((shut L p).1 ∧ (shut L p).2 = r) ∨ (p = .lit (.slice none 0 0) ∧ ∃ sz, r = .new 0 sz []) ∨
  (∃ rs sz, p = .tup (.lit (.slice none 0 0) :: rs) ∧ closedL rs = true ∧ r = .tup (.new 0 sz [] :: rs))
theorem shutOk_rep {p r : PV} {v : Value} {w0 : World} (hH : RepH X β w L) (h : RepV X β w p v) (hfresh : ∀ b, Live β b → w0.heap.size ≤ b) (hok : ShutOk L p r) : RepR X w0 w r v := by
  rcases hok with ⟨h1, rfl⟩ | ⟨rfl, sz, rfl⟩ | ⟨rs, sz, rfl, hc, rfl⟩
  · exact shut_rep hH h hfresh h1
  · simp only [RepV] at h; subst h
    simp only [RepR]
    exact .inl ⟨rfl, rfl, rfl⟩
  · simp only [RepV, RepL] at h
    obtain ⟨vs, rfl, v0, r, rfl, rfl, hrs⟩ := h
    simp only [RepR]
    refine ⟨_, r, rfl, .inl ⟨rfl, rfl, rfl⟩, hc, RepL.anti (fun b hb => ?_) rs r hc hrs⟩
    rcases hb with (hb | hb) | hb
    · exact .inl hb
    · exact hb.elim
    · exact absurd hb live_nil
def Fin (P : Program) (fn : Func) (r : PV) (e : Exit) (env : Env) (L : LH) : Prop :=
  (e = .normal ∨ e = .ret) ∧ resAll P env L fn.results.toList ∧ ShutOk L (resPV P fn env L) r
theorem pureOk_of (hΓ : GammaOk P Γ) (hm : P.follows .mixedOrders = true) {f : FuncId} {fn : Func} {c : Code} {S : List PV → Prop × PV} (hf : P.funcs[f]? = some fn) (hb : fn.body = some c) (hfit : fits fn.ntmps c = true)
    (hcall : ∀ (vs : Array Value) (w : World), (callFunc f vs).run P w = .ok (.enter f vs) w)
    (h : ∀ args, (S args).1 → args.length ≤ fn.ntmps ∧ Ex P Γ c (entry 0 args) [] (Fin P fn (S args).2)) : PureOk P f S where
  call := fun _ => hcall
  run := by
    intro args hS hcl X w vs hX hr hG0
    obtain ⟨hlen, e, env', L', hrun, hfin⟩ := h args hS
    have hvl := RepL.length hr
    refine calls_of_wp hf hb ?_
    have hsz : (vs.toArray ++ Array.replicate (fn.ntmps - vs.toArray.size) undef).size = fn.ntmps := by simp; omega
    have hA : RepA fn.ntmps X [] w (entry 0 args) { tmps := vs.toArray ++ Array.replicate (fn.ntmps - vs.toArray.size) undef, defers := [] } := by
      refine ⟨hsz, rfl, fun t => ?_, hG0⟩
      have := entry_lookup hr (List.replicate (fn.ntmps - vs.length) undef) 0 t
      simp only [Nat.zero_le, if_true, Nat.sub_zero] at this
      have he : (vs.toArray ++ Array.replicate (fn.ntmps - vs.toArray.size) undef).getD t undef = (vs ++ List.replicate (fn.ntmps - vs.length) undef).getD t undef := by
        simp [List.getD, Array.getElem?_append, List.getElem?_append, Array.getElem?_replicate, List.getElem?_replicate]
      rw [he]; exact this
    have hH : RepH X [] w [] := ⟨rfl, by simp, fun b hb => absurd hb live_nil, fun b hb => ⟨hX b hb, live_nil⟩, by simp⟩
    refine wp_mono ((Run.sound hΓ hm hrun).1 fn.ntmps X [] w _ hfit hA hH) fun e1 a1 w1 he => ?_
    obtain ⟨rfl, β', h1, h2, h3⟩ := he
    obtain ⟨hex, hres, hs⟩ := hfin
    obtain ⟨v, hv, hrv⟩ := results_run (P := P) hres h1 h2
    have hfresh : ∀ b, Live β' b → w.heap.size ≤ b := fun b hb => by
      rcases h3.live b hb with h | h
      · exact absurd h live_nil
      · exact h
    have hR := shutOk_rep (w0 := w) h2 hrv hfresh hs
    have hg : Grow [] [] w w1 := ⟨h3.os, h3.tape, h3.output, h3.size, fun k hk _ => h3.block k hk live_nil, h3.shape, fun b hb => .inl hb, Nat.le_refl _, fun id x hid => by simp at hid⟩
    rcases hex with rfl | rfl <;> exact ⟨h1.defers, v, hv, v, rfl, hg, hR⟩
def FinS (P : Program) (fn : Func) (r : PV) (L' : LH) (e : Exit) (env : Env) (L : LH) : Prop :=
  (e = .normal ∨ e = .ret) ∧ resAll P env L fn.results.toList ∧ resPV P fn env L = r ∧ closed r = true ∧ L.take L'.length = L' ∧ ∀ cs, LE.cells cs ∈ L' → closedL cs = true
theorem repH_take {L' : LH} (hH : RepH X β w L) (h : L.take L'.length = L') (hc : ∀ cs, LE.cells cs ∈ L' → closedL cs = true) (hlen : L'.length ≤ L.length) : RepH X (β.take L'.length) w L' := by
  have hget : ∀ i, i < L'.length → (β.take L'.length)[i]? = β[i]? := fun i hi => by rw [List.getElem?_take, if_pos hi]
  have hsub : ∀ b, Live (β.take L'.length) b → Live β b := by
    rintro b ⟨i, base, hi⟩
    have hlt : i < L'.length := by
      have := (List.getElem?_eq_some_iff.1 hi).1
      simp at this; omega
    exact ⟨i, base, by rw [← hget i hlt]; exact hi⟩
  refine ⟨by simp [hH.len]; omega, ?_, fun b hb => hH.lt b (hsub b hb), fun b hb => ⟨(hH.out b hb).1, fun h => (hH.out b hb).2 (hsub b h)⟩, ?_⟩
  · intro i j b x y hi hj
    have h1 : i < L'.length := by have := (List.getElem?_eq_some_iff.1 hi).1; simp at this; omega
    have h2 : j < L'.length := by have := (List.getElem?_eq_some_iff.1 hj).1; simp at this; omega
    rw [hget i h1] at hi
    rw [hget j h2] at hj
    exact hH.inj i j b x y hi hj
  · intro i cs hi
    have hlt := (List.getElem?_eq_some_iff.1 hi).1
    have hi' : L[i]? = some (.cells cs) := by rw [← hi]; conv => rhs; rw [← h]; 
                                              rw [List.getElem?_take, if_pos hlt]
    rcases hH.ent i cs hi' with ⟨e1, e2⟩ | ⟨b, base, c, el, e1, e2, e3, e4⟩
    · exact .inl ⟨by rw [hget i hlt]; exact e1, e2⟩
    · refine .inr ⟨b, base, c, el, by rw [hget i hlt]; exact e1, e2, e3, RepRow.anti (fun b hb => hb.imp id (hsub b)) b cs base (hc cs (List.mem_of_getElem? hi)) e4⟩
theorem stOk_of {tab : FuncId → Entry} (hΓ : ∀ f, EntryOk P f (tab f)) (hm : P.follows .mixedOrders = true) {f : FuncId} {fn : Func} {c : Code} {T : List PV → LH → OR} (hf : P.funcs[f]? = some fn) (hb : fn.body = some c) (hfit : fits fn.ntmps c = true)
    (hcall : ∀ (vs : Array Value) (w : World), (callFunc f vs).run P w = .ok (.enter f vs) w)
    (h : ∀ args L, (T args L).pre → args.length ≤ fn.ntmps ∧ (T args L).L.length = L.length ∧ Ex P ⟨tab, L.length⟩ c (entry 0 args) L (FinS P fn (T args L).val (T args L).L)) : StOk P f T where
  call := fun _ => hcall
  run := by
    intro args L hT X β w vs hr hH hG0
    obtain ⟨hlen, hLL, e, env', L', hrun, hfin⟩ := h args L hT
    have hvl := RepL.length hr
    refine calls_of_wp hf hb ?_
    have hsz : (vs.toArray ++ Array.replicate (fn.ntmps - vs.toArray.size) undef).size = fn.ntmps := by simp; omega
    have hA : RepA fn.ntmps X β w (entry 0 args) { tmps := vs.toArray ++ Array.replicate (fn.ntmps - vs.toArray.size) undef, defers := [] } := by
      refine ⟨hsz, rfl, fun t => ?_, hG0⟩
      have := entry_lookup hr (List.replicate (fn.ntmps - vs.length) undef) 0 t
      simp only [Nat.zero_le, if_true, Nat.sub_zero] at this
      have he : (vs.toArray ++ Array.replicate (fn.ntmps - vs.toArray.size) undef).getD t undef = (vs ++ List.replicate (fn.ntmps - vs.length) undef).getD t undef := by
        simp [List.getD, Array.getElem?_append, List.getElem?_append, Array.getElem?_replicate, List.getElem?_replicate]
      rw [he]; exact this
    have hG : GammaOk P ⟨tab, L.length⟩ := hΓ
    refine wp_mono ((Run.sound hG hm hrun).1 fn.ntmps X β w _ hfit hA hH) fun e1 a1 w1 he => ?_
    obtain ⟨rfl, β', h1, h2, h3⟩ := he
    obtain ⟨hex, hres, hrv, hcr, htk, hcl⟩ := hfin
    obtain ⟨v, hv, hrv'⟩ := results_run (P := P) hres h1 h2
    rw [hrv] at hrv'
    have hpin : L.length ≤ β.length := by rw [hH.len]; exact Nat.le_refl _
    have hlen' : L.length ≤ β'.length := h3.len hpin
    have hle : (T args L).L.length ≤ L'.length := by rw [hLL, ← h2.len]; exact hlen'
    have hH' := repH_take h2 htk hcl hle
    have hsub : ∀ b, Live (β'.take (T args L).L.length) b → Live β' b := by
      rintro b ⟨i, base, hi⟩
      rw [List.getElem?_take] at hi
      split at hi
      · exact ⟨i, base, hi⟩
      · cases hi
    have hR : RepV X (β'.take (T args L).L.length) w1 (T args L).val v := RepV.anti (fun b hb => hb.imp id (hsub b)) _ _ hcr hrv'
    have hg : Grow β (β'.take (T args L).L.length) w w1 := by
      refine ⟨h3.os, h3.tape, h3.output, h3.size, h3.block, h3.shape, fun b hb => h3.live b (hsub b hb), ?_, fun i x hi hx hd => ?_⟩
      · rw [List.length_take, hLL, hH.len]; omega
      · rw [List.getElem?_take] at hx
        split at hx
        · exact h3.keep hpin i x (by show i < L.length; rw [← hH.len]; exact hi) hx hd
        · cases hx
    rcases hex with rfl | rfl <;> exact ⟨h1.defers, v, hv, v, _, rfl, hR, hH', hg⟩
end Go.Ab
