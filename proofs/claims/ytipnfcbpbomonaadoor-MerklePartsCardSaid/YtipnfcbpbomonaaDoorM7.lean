import Derived.Test.YtipnfcbpbomonaaDoorM6
namespace Go.Ab
open Go Go.RowKit
set_option linter.unusedVariables false
set_option linter.unusedSimpArgs false
section
variable {P : Program} {rr : Option Nat} {Q : Exit → Act → World → Prop} {all : List Oper} {σ : Nat → Nat} {x y : Nat}
inductive LExt (ops : Array Oper) : Nat → Array Bool → List Nat → Prop
  | zero {listed} : LExt ops 0 listed []
  | stop {fuel listed} (h : Region.ready .any ops listed = []) : LExt ops (fuel + 1) listed []
  | cons {fuel listed i π} (h : i ∈ Region.ready .any ops listed) (k : LExt ops fuel (listed.setIfInBounds i true) π) : LExt ops (fuel + 1) listed (i :: π)
theorem any_lext {ops : Array Oper} {fuel : Nat} {listed : Array Bool} {π : List Nat} (h : LExt ops fuel listed π) : ∀ {a : Act} {w : World}, wpAnyIn (FF rr) 0 P .any ops Q fuel listed a w → wpOpsIn (FF rr) 0 P ops Q π a w := by
  induction h with
  | zero => intro a w h; exact h.2
  | stop hr => intro a w h; exact h.1 hr
  | cons hi k ih =>
    intro a w h
    rw [wpOpsIn_cons]
    exact wpOpIn_mono (fun a w h => ih h) (h.2 _ hi)
theorem lin_lext {ops : Array Oper} : ∀ (fuel t : Nat) (listed : Array Bool), LExt ops fuel listed (Region.linearise.go .any ops fuel t listed [])
  | 0, t, listed => by simp only [Region.linearise.go]; exact .zero
  | fuel + 1, t, listed => by
    simp only [Region.linearise.go]
    change LExt ops (fuel + 1) listed (match (Region.ready .any ops listed)[t % (Region.ready .any ops listed).length]? with
      | some i => Region.linearise.go .any ops fuel (t / (Region.ready .any ops listed).length) (listed.setIfInBounds i true) [i]
      | none => [].reverse)
    cases hi : (Region.ready .any ops listed)[t % (Region.ready .any ops listed).length]? with
    | none =>
      have hnil : Region.ready .any ops listed = [] := by
        cases hr : Region.ready .any ops listed with
        | nil => rfl
        | cons x xs =>
          rw [hr] at hi
          have hlt : t % (x :: xs).length < (x :: xs).length := Nat.mod_lt _ (by simp)
          simp at hi
          simp at hlt
          omega
      exact .stop hnil
    | some i =>
      simp only []
      rw [linearise_go_acc, List.reverse_singleton, List.singleton_append]
      exact .cons (List.mem_of_getElem? hi) (lin_lext fuel _ _)
def verOp (σ : Nat → Nat) (x y : Nat) (o : Oper) (i : Nat) : Oper :=
  { o with after := (o.after.toList.map (fun e => Edge.mk (σ e.on) e.ground) ++ (if i = y then [Edge.mk (σ x) .data] else [])).toArray, guard := o.guard.map fun g => (σ g.1, g.2) }
def ver (σ : Nat → Nat) (x y : Nat) (all : List Oper) : List Oper := (List.range all.length).map fun i => verOp σ x y (all.getD (σ i) default) (σ i)
theorem len_ver : (ver σ x y all).length = all.length := by simp [ver]
theorem ver_get (hinv : ∀ i, σ (σ i) = i) (hlt : ∀ i, i < all.length → σ i < all.length) {i : Nat} {o : Oper} (h : all[i]? = some o) : (ver σ x y all)[σ i]? = some (verOp σ x y o i) := by
  have hi := (List.getElem?_eq_some_iff.1 h).1
  simp only [ver, List.getElem?_map, List.getElem?_range (hlt i hi), Option.map_some, hinv, List.getD_eq_getElem?_getD, h, Option.getD_some]
theorem ver_none (hinv : ∀ i, σ (σ i) = i) (hlt : ∀ i, i < all.length → σ i < all.length) {i : Nat} (h : all[i]? = none) : (ver σ x y all)[σ i]? = none := by
  rw [List.getElem?_eq_none_iff] at h ⊢
  rw [len_ver]
  refine Decidable.byContradiction fun hc => ?_
  have := hlt (σ i) (by omega)
  rw [hinv] at this
  omega
def Rel (σ : Nat → Nat) (l l' : Array Bool) : Prop := ∀ i, l'[σ i]? = l[i]?
theorem Rel.set (hinv : ∀ i, σ (σ i) = i) {l l' : Array Bool} (h : Rel σ l l') (i : Nat) : Rel σ (l.setIfInBounds i true) (l'.setIfInBounds (σ i) true) := by
  intro j
  rw [Array.getElem?_setIfInBounds, Array.getElem?_setIfInBounds]
  have hinj : σ i = σ j ↔ i = j := ⟨fun e => by rw [← hinv i, e, hinv], fun e => by rw [e]⟩
  have hsz : σ i < l'.size ↔ i < l.size := by
    have := h i
    constructor
    · intro hl
      rw [Array.getElem?_eq_getElem hl] at this
      refine Decidable.byContradiction fun hc => ?_
      rw [Array.getElem?_eq_none (by omega)] at this
      cases this
    · intro hl
      rw [Array.getElem?_eq_getElem hl] at this
      refine Decidable.byContradiction fun hc => ?_
      rw [Array.getElem?_eq_none (by omega)] at this
      cases this
  by_cases e : i = j
  · subst e
    simp only [if_true, hsz]
  · rw [if_neg e, if_neg (fun h => e (hinj.1 h)), h j]
theorem ready_iff {ops : List Oper} {listed : Array Bool} {i : Nat} : i ∈ Region.ready .any ops.toArray listed ↔
    ∃ o, ops[i]? = some o ∧ listed[i]? = some false ∧ ∀ e ∈ o.after.toList, Region.binds .any e = true → listed[e.on]? = some true := by
  have g1 : ∀ k : Nat, listed.getD k true = false ↔ listed[k]? = some false := by
    intro k
    rw [Array.getD_eq_getD_getElem?]
    cases listed[k]? with
    | none => simp
    | some b => simp
  have g2 : ∀ k : Nat, listed.getD k false = true ↔ listed[k]? = some true := by
    intro k
    rw [Array.getD_eq_getD_getElem?]
    cases listed[k]? with
    | none => simp
    | some b => simp
  simp only [Region.ready, List.mem_filter, List.mem_range, List.size_toArray, Bool.and_eq_true, Bool.not_eq_true', List.getElem?_toArray]
  constructor
  · rintro ⟨hlt, h1, h2⟩
    have hget := List.getElem?_eq_getElem hlt
    rw [hget] at h2
    simp only [Option.map_some, Option.getD_some] at h2
    refine ⟨ops[i], hget, (g1 i).1 h1, fun e he hb => ?_⟩
    have := (Array.all_eq_true_iff_forall_mem.1 h2) e (by simpa using he)
    rw [hb] at this
    simp only [Bool.not_true, Bool.false_or] at this
    exact (g2 _).1 this
  · rintro ⟨o, ho, h1, h2⟩
    refine ⟨(List.getElem?_eq_some_iff.1 ho).1, (g1 i).2 h1, ?_⟩
    rw [ho]
    simp only [Option.map_some, Option.getD_some]
    refine Array.all_eq_true_iff_forall_mem.2 fun e he => ?_
    cases hb : Region.binds .any e
    · rfl
    · simp only [Bool.not_true, Bool.false_or]
      exact (g2 _).2 (h2 e (by simpa using he) hb)
theorem ready_ver (hinv : ∀ i, σ (σ i) = i) (hlt : ∀ i, i < all.length → σ i < all.length) {l l' : Array Bool} (hr : Rel σ l l') {i : Nat} (h : i ∈ Region.ready .any all.toArray l) (hx : i ≠ y ∨ l[x]? = some true) :
    σ i ∈ Region.ready .any (ver σ x y all).toArray l' := by
  obtain ⟨o, ho, h1, h2⟩ := ready_iff.1 h
  refine ready_iff.2 ⟨_, ver_get hinv hlt ho, by rw [hr i]; exact h1, fun e he hb => ?_⟩
  simp only [verOp, List.mem_append, List.mem_map] at he
  rcases he with ⟨e0, he0, rfl⟩ | he
  · simp only
    rw [hr e0.on]
    exact h2 e0 he0 (by simpa [Region.binds] using hb)
  · split at he
    · rename_i hiy
      rcases hx with hx | hx
      · exact absurd hiy hx
      · simp only [List.mem_singleton] at he
        subst he
        simp only
        rw [hr x]; exact hx
    · simp at he
theorem ready_back (hinv : ∀ i, σ (σ i) = i) (hlt : ∀ i, i < all.length → σ i < all.length) {l l' : Array Bool} (hr : Rel σ l l') {i : Nat} (h : σ i ∈ Region.ready .any (ver σ x y all).toArray l') :
    i ∈ Region.ready .any all.toArray l := by
  obtain ⟨o', ho', h1, h2⟩ := ready_iff.1 h
  cases ho : all[i]? with
  | none => rw [ver_none hinv hlt ho] at ho'; cases ho'
  | some o =>
    rw [ver_get hinv hlt ho] at ho'
    cases ho'
    refine ready_iff.2 ⟨o, ho, by rw [← hr i]; exact h1, fun e he hb => ?_⟩
    have := h2 (Edge.mk (σ e.on) e.ground) (by simp only [verOp, List.mem_append, List.mem_map]; exact .inl ⟨e, he, rfl⟩) (by simpa [Region.binds] using hb)
    simp only at this
    rw [← hr e.on]; exact this
theorem ready_nil_ver (hinv : ∀ i, σ (σ i) = i) (hlt : ∀ i, i < all.length → σ i < all.length) {l l' : Array Bool} (hr : Rel σ l l') (h : Region.ready .any all.toArray l = []) : Region.ready .any (ver σ x y all).toArray l' = [] := by
  rw [List.eq_nil_iff_forall_not_mem]
  intro j hj
  have : σ j ∈ Region.ready .any all.toArray l := ready_back (x := x) (y := y) hinv hlt hr (by rw [hinv]; exact hj)
  rw [h] at this
  cases this
theorem lext_ver (hinv : ∀ i, σ (σ i) = i) (hlt : ∀ i, i < all.length → σ i < all.length) {fuel : Nat} {l : Array Bool} {π : List Nat} (h : LExt all.toArray fuel l π) : ∀ {l' : Array Bool}, Rel σ l l' → l[x]? = some true → LExt (ver σ x y all).toArray fuel l' (π.map σ) := by
  induction h with
  | zero => intro l' _ _; exact .zero
  | stop hr0 => intro l' hr _; exact .stop (ready_nil_ver hinv hlt hr hr0)
  | @cons fuel listed i π hi k ih =>
    intro l' hr hx
    refine .cons (ready_ver hinv hlt hr hi (.inr hx)) (ih (hr.set hinv i) ?_)
    rw [Array.getElem?_setIfInBounds]
    have := Array.getElem?_eq_some_iff.1 hx
    split
    · rename_i e; subst e; simp [this.1]
    · exact hx
theorem lext_split {σ2 : Nat → Nat} {p q : Nat} (h1 : ∀ i, σ (σ i) = i) (h2 : ∀ i, i < all.length → σ i < all.length) (g1 : ∀ i, σ2 (σ2 i) = i) (g2 : ∀ i, i < all.length → σ2 i < all.length) (hne : p ≠ q)
    {fuel : Nat} {l : Array Bool} {π : List Nat} (h : LExt all.toArray fuel l π) : ∀ {l1 l2 : Array Bool}, Rel σ l l1 → Rel σ2 l l2 →
    LExt (ver σ p q all).toArray fuel l1 (π.map σ) ∨ LExt (ver σ2 q p all).toArray fuel l2 (π.map σ2) := by
  induction h with
  | zero => intro l1 l2 _ _; exact .inl .zero
  | stop hr0 => intro l1 l2 r1 _; exact .inl (.stop (ready_nil_ver h1 h2 r1 hr0))
  | @cons fuel listed i π hi k ih =>
    intro l1 l2 r1 r2
    have hin : listed[i]? = some false := by
      obtain ⟨o, _, h, _⟩ := ready_iff.1 hi
      exact h
    have hlt := (Array.getElem?_eq_some_iff.1 hin).1
    have hset : (listed.setIfInBounds i true)[i]? = some true := by
      rw [Array.getElem?_setIfInBounds, if_pos rfl, if_pos hlt]
    by_cases e1 : i = p
    · subst e1
      exact .inl (.cons (ready_ver h1 h2 r1 hi (.inl hne)) (lext_ver h1 h2 k (r1.set h1 i) hset))
    · by_cases e2 : i = q
      · subst e2
        exact .inr (.cons (ready_ver g1 g2 r2 hi (.inl (Ne.symm hne))) (lext_ver g1 g2 k (r2.set g1 i) hset))
      · rcases ih (r1.set h1 i) (r2.set g1 i) with h | h
        · exact .inl (.cons (ready_ver h1 h2 r1 hi (.inl e2)) h)
        · exact .inr (.cons (ready_ver g1 g2 r2 hi (.inl e1)) h)
theorem yielded_ver (hinv : ∀ i, σ (σ i) = i) (hlt : ∀ i, i < all.length → σ i < all.length) (tmps : Array Value) (j : Nat) : yielded (ver σ x y all).toArray tmps (σ j) = yielded all.toArray tmps j := by
  unfold yielded
  simp only [List.getElem?_toArray]
  cases h : all[j]? with
  | none => rw [ver_none hinv hlt h]
  | some o => rw [ver_get hinv hlt h]; rfl
theorem wpOp_ver (hinv : ∀ i, σ (σ i) = i) (hlt : ∀ i, i < all.length → σ i < all.length) {i : Nat} {K : Act → World → Prop} {a : Act} {w : World} (h : wpOpIn (FF rr) 0 P (ver σ x y all).toArray Q (σ i) K a w) : wpOpIn (FF rr) 0 P all.toArray Q i K a w := by
  unfold wpOpIn at *
  simp only [List.getElem?_toArray] at *
  cases ho : all[i]? with
  | none => rw [ver_none hinv hlt ho] at h; exact h
  | some o =>
    rw [ver_get hinv hlt ho] at h
    simp only at h ⊢
    have hw : Region.wanted (verOp σ x y o i) (yielded (ver σ x y all).toArray a.tmps) = Region.wanted o (yielded all.toArray a.tmps) := by
      unfold Region.wanted
      simp only [verOp]
      cases o.guard with
      | none => rfl
      | some g => simp only [Option.map_some, yielded_ver hinv hlt]
    rw [hw] at h
    exact h
theorem wpOps_ver (hinv : ∀ i, σ (σ i) = i) (hlt : ∀ i, i < all.length → σ i < all.length) : ∀ {π : List Nat} {a : Act} {w : World}, wpOpsIn (FF rr) 0 P (ver σ x y all).toArray Q (π.map σ) a w → wpOpsIn (FF rr) 0 P all.toArray Q π a w
  | [], a, w, h => h
  | i :: π, a, w, h => by
    rw [List.map_cons, wpOpsIn_cons] at h
    rw [wpOpsIn_cons]
    exact wpOp_ver hinv hlt (wpOpIn_mono (fun a w h => wpOps_ver hinv hlt h) h)
def swp (p q i : Nat) : Nat := if i = p then q else if i = q then p else i
theorem swp_inv (p q i : Nat) : swp p q (swp p q i) = i := by
  unfold swp
  repeat' split
  all_goals omega
theorem swp_lt {p q n : Nat} (hp : p < n) (hq : q < n) (i : Nat) (h : i < n) : swp p q i < n := by
  unfold swp
  repeat' split
  all_goals omega
def ver1 (p q : Nat) (all : List Oper) : List Oper := ver (fun i => i) p q all
def ver2 (p q : Nat) (all : List Oper) : List Oper := ver (swp p q) q p all
theorem region_two {id : Nat} {a : Act} {w : World} {p q : Nat} (hm : P.follows .mixedOrders = true) (hne : p ≠ q) (hp : p < all.length) (hq : q < all.length)
    (h1 : wpAnyIn (FF rr) 0 P .any (ver1 p q all).toArray Q all.length (Array.replicate all.length false) a { w with drawn := w.drawn + 1 })
    (h2 : wpAnyIn (FF rr) 0 P .any (ver2 p q all).toArray Q all.length (Array.replicate all.length false) a { w with drawn := w.drawn + 1 }) : (Code.region id all.toArray true).wpIn (FF rr) 0 P Q a w := by
  refine wpIn_region_draw fun t => ?_
  simp only [Region.schedule, hm, Bool.true_or, if_true]
  have hl : LExt all.toArray all.length (Array.replicate all.length false) (Region.linearise .any all.toArray t) := by
    have := lin_lext (ops := all.toArray) all.length t (Array.replicate all.length false)
    simpa [Region.linearise] using this
  have r1 : Rel (fun i => i) (Array.replicate all.length false) (Array.replicate all.length false) := fun i => rfl
  have r2 : Rel (swp p q) (Array.replicate all.length false) (Array.replicate all.length false) := by
    intro i
    simp only [Array.getElem?_replicate]
    have hiff : swp p q i < all.length ↔ i < all.length := ⟨fun h => by have := swp_lt hp hq _ h; rwa [swp_inv] at this, swp_lt hp hq i⟩
    simp only [hiff]
  rcases lext_split (p := p) (q := q) (fun _ => rfl) (fun _ h => h) (swp_inv p q) (swp_lt hp hq) hne hl r1 r2 with h | h
  · exact wpOps_ver (x := p) (y := q) (fun _ => rfl) (fun _ h => h) (any_lext h h1)
  · exact wpOps_ver (x := q) (y := p) (swp_inv p q) (swp_lt hp hq) (any_lext h h2)
end
section
variable {P : Program} {Γ : Con} {X : Nat → Prop} {N B : Nat} {rr : Option Nat} {Q : Exit → Act → World → Prop} {all : List Oper} {β : List Base} {w : World} {L : LH}
theorem mem_ver {σ : Nat → Nat} {x y : Nat} (hlt : ∀ i, i < all.length → σ i < all.length) (hd : ∀ o ∈ all, ∀ d, o.dst = some d → d < N) : ∀ o ∈ ver σ x y all, ∀ d, o.dst = some d → d < N := by
  intro o ho d hod
  simp only [ver, List.mem_map, List.mem_range] at ho
  obtain ⟨i, hi, rfl⟩ := ho
  have hs := hlt i hi
  refine hd (all.getD (σ i) default) ?_ d hod
  rw [List.getD_eq_getElem?_getD, List.getElem?_eq_getElem hs]
  simp
theorem any_start (hΓ : GammaOk P Γ) {env env' : Env} {L' : LH} {a : Act} (hok : anyOk all = true) (hd : ∀ o ∈ all, ∀ d, o.dst = some d → d < N)
    (h : ARun P Γ all all env L env' L') (hls : lsOk all env' = true) (hA : RepA N B X β w env a) (hH : RepH X β w L)
    (hQ : ∀ a' w' β', RepA N B X β' w' env' a' → RepH X β' w' L' → Grow β β' w w' → Q .normal a' w') : wpAnyIn (FF rr) 0 P .any all.toArray Q all.length (Array.replicate all.length false) a { w with drawn := w.drawn + 1 } := by
  obtain ⟨vs, Ls, h2, rfl, h3, rfl, h4⟩ := arun_vals h
  subst h3
  have hH' : RepH X β { w with drawn := w.drawn + 1 } (Ls 0) := hH.same grow_drew_id (fun _ _ => rfl)
  exact any_sound (rr := rr) (Q := Q) (N := N) (X := X) hΓ hok hls h2 hd h4 β w hQ all.length [] 0 (Array.replicate all.length false) β a { w with drawn := w.drawn + 1 }
    (Nat.le_trans List.countP_le_length (by simp)) (by simp) (fun i hi => by simp [hi]) (by simp) (by simp) (Nat.zero_le _) (by simp) (hA.grow grow_drew_id) hH' grow_drew_id
theorem region_two_any (hΓ : GammaOk P Γ) (hm : P.follows .mixedOrders = true) {id : Nat} {env env1 env2 : Env} {L1 L2 : LH} {a : Act} {p q : Nat} (hne : p ≠ q) (hp : p < all.length) (hq : q < all.length) (hd : ∀ o ∈ all, ∀ d, o.dst = some d → d < N)
    (o1 : anyOk (ver1 p q all) = true) (h1 : ARun P Γ (ver1 p q all) (ver1 p q all) env L env1 L1) (s1 : lsOk (ver1 p q all) env1 = true)
    (o2 : anyOk (ver2 p q all) = true) (h2 : ARun P Γ (ver2 p q all) (ver2 p q all) env L env2 L2) (s2 : lsOk (ver2 p q all) env2 = true)
    (hA : RepA N B X β w env a) (hH : RepH X β w L)
    (hQ1 : ∀ a' w' β', RepA N B X β' w' env1 a' → RepH X β' w' L1 → Grow β β' w w' → Q .normal a' w')
    (hQ2 : ∀ a' w' β', RepA N B X β' w' env2 a' → RepH X β' w' L2 → Grow β β' w w' → Q .normal a' w') : (Code.region id all.toArray true).wpIn (FF rr) 0 P Q a w := by
  have k1 := any_start (rr := rr) hΓ o1 (mem_ver (fun _ h => h) hd) h1 s1 hA hH hQ1
  have k2 := any_start (rr := rr) hΓ o2 (mem_ver (swp_lt hp hq) hd) h2 s2 hA hH hQ2
  have e1 : (ver1 p q all).length = all.length := len_ver
  have e2 : (ver2 p q all).length = all.length := len_ver
  rw [e1] at k1
  rw [e2] at k2
  exact region_two hm hne hp hq k1 k2
end
end Go.Ab
